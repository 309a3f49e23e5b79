import PyProof.Rows.All
import Wide.All
import OpenK.AllK
import Wide.FinOn
import HandS.List
import HandS.Codes
import HandS.Comp
import HandS.Iter
import HandS.Ends
import HandS.Text
import HandS.Words
import HandS.WordsList
import HandS.Wide
import HandS.IsInst
import HandS.FStr
import PyProof.FString3
import PyProof.Rows.StrIntSpec
import HandS.Walk
import HandS.Exc
import HandS.ExcOwn
import HandS.ExcIs
import HandS.WordsExc
import HandS.StrMore
import HandS.Defaults
import HandS.MakeKwOnly
import HandS.Flow
import HandS.Star
import HandS.Conv
import HandS.Deep
import HandS.Dict
import HandS.ExcInit
import KE.KExcIs
import HandS.TryMany
import HandS.More
import PySem.Challenge.RW_sipstack_k53_rows_decoded_and_encoded
set_option Elab.async false
set_option linter.all false
set_option maxRecDepth 100000
namespace Sip
open PySem PySem.Spec PyProof.Rows L2

/-! a slice of step one in a list, laid over by another list; its end may lie behind the list's end -/
theorem clamp {a c n : Nat} (h1 : a ≤ c) (h2 : a ≤ n) :
    sliceBounds (some (a : Int)) (some (c : Int)) none n = ((a : Int), ((min c n : Nat) : Int), 1) := by
  have n1 : ¬ ((a : Int) < 0) := by omega
  have n2 : ¬ ((c : Int) < 0) := by omega
  simp only [sliceBounds, Option.getD_none, n1, n2, if_false, show (1 : Int) > 0 from by decide, if_true]
  refine Prod.ext ?_ (Prod.ext ?_ rfl)
  · show max 0 (min (a : Int) (n : Int)) = (a : Int)
    omega
  · show max 0 (min (c : Int) (n : Int)) = ((min c n : Nat) : Int)
    omega

section
variable {pr : Program} {wd : World} {ar : Around} {er : Value → Shared → Prop} {s : Shared}
set_option maxHeartbeats 4000000 in
theorem put_slice {l b z : Addr} {old new : Array Value} {m m2 a c : Nat} {vl vu : Value} {Q : Unit → Shared → Prop}
    (eo : s.heap.get? l = some { cls := .type "list", data := .seq old m })
    (en : s.heap.get? b = some { cls := .type "list", data := .seq new m2 }) (ne : l ≠ b)
    (hz : s.heap.IsSliceOf z vl vu .none) (pl : IsPart vl (some (a : Int))) (pu : IsPart vu (some (c : Int)))
    (ac : a ≤ c) (an : a ≤ old.size) (fit : old.size + new.size ≤ sizeLine)
    (k : Q () { s with heap := s.heap.update l (Obj.mapSeq fun t => t.extract 0 a ++ new ++ t.extract (min c old.size) t.size) }) :
    wpAny (model pr wd) ar (setItem (.ref l) (.ref z) (.ref b)) Q er s := by
  by_cases hc : c ≤ old.size
  · rw [Nat.min_eq_left hc] at k
    exact setItem_slice eo en ne hz pl pu ac hc fit k
  · have lo : s.heap.IsList l old := PySem.IsL.isList eo
    have ln : s.heap.IsList b new := PySem.IsL.isList en
    obtain ⟨oz, gz, cz, dz⟩ := id hz
    have tz : s.TypeIs (.ref z) "slice" := ⟨oz, gz, cz⟩
    have apart : Builtin.List.listSameRef (.ref l) (.ref b) = false := by
      unfold Builtin.List.listSameRef; exact beq_eq_false_iff_ne.mpr ne
    have zz : ((fun t : Array Value => t.extract 0 a ++ new ++ t.extract (min c old.size) t.size) old).size ≤ sizeLine + 1 := by
      simp only [Array.size_append, Array.size_extract]; omega
    have bd := clamp ac an
    have mx : (max (a : Int) ((min c old.size : Nat) : Int)).toNat = min c old.size := by omega
    unfold setItem
    try (with_reducible refine wpAny_holding ?_)
    try refine wpAny_bind (wpAny_pure ?_)
    refine wpAny_bind (wpAny_sequenceKey lo.typeIs (by decide) (wpAny_bind ?_))
    refine wpAny_callSpecial?_slot (name := Str.ofString "__setitem__") lo.typeIs slot_list_setitem ?_
    refine wpAny_call_entry slot_list_setitem lo.typeIs entry_list_setitem ?_ (args_list_setitem _ _ _)
    show wpAny _ _ (Builtin.List.listSubscript? (.ref z) >>= _) _ _ s
    refine wpAny_bind ?_
    unfold Builtin.List.listSubscript?
    refine wpAny_bind (wpAny_specialOf tz slice_no_index ?_)
    simp only [Option.isNone_none, if_true]
    refine wpAny_pure ?_
    show wpAny _ _ (typeOf (.ref z) >>= _) _ _ s
    refine wpAny_bind (wpAny_typeOf tz ?_)
    first
      | rw [if_neg (by decide)]
      | refine PySem.W.KFB.if_not (by decide) ?_
    rw [listSliceParts_eq]
    refine wpAny_bind (wpAny_bind (wpAny_field gz dz (x := .none) rfl (wpAny_bind (wpAny_listPart .none ?_))))
    rw [if_neg (show ¬ ((rawPart none == rawInt 0) = true) from Bool.false_ne_true)]
    refine wpAny_bind (wpAny_field gz dz (x := vl) rfl (wpAny_bind (wpAny_listPart pl ?_)))
    refine wpAny_bind (wpAny_field gz dz (x := vu) rfl (wpAny_bind (wpAny_listPart pu (wpAny_pure ?_))))
    first
      | simp only [apart, Bool.false_eq_true, if_false]
      | refine PySem.W.KFB.if_not apart ?_
    refine wpAny_bind ?_
    unfold Builtin.List.listAllItems
    refine wpAny_bind (wpAny_typeOf ln.typeIs ?_)
    first
      | refine PySem.W.KFB.if_so (by decide) ?_
      | rw [if_pos (by decide)]
    unfold Builtin.List.listItems
    refine wpAny_bind (wpAny_seqItems en rfl (wpAny_pure (wpAny_bind (wpAny_bind (wpAny_seqItems eo rfl (wpAny_pure ?_))))))
    have si := (sliceIndices_raw (some (a : Int)) (some (c : Int)) none old.size (by simp)).trans (congrArg (pure : Int × Int × Int → Sem (Int × Int × Int)) bd)
    refine wpAny_bind (wpAny_of_eq si ?_)
    show wpAny _ _ (if ((1 : Int) == 1) = true then _ else _) _ _ s
    rw [if_pos (by decide)]
    refine wpAny_bind (wpAny_rule ?_)
    first
      | simp only [notLongL fit, Bool.false_eq_true, if_false]
      | refine PySem.W.KFB.if_not (notLongL fit) ?_
    try refine wpAny_bind (wpAny_pure ?_)
    show wpAny _ _ (updateSeq l (fun t => t.extract 0 ((a : Int)).toNat ++ new ++ t.extract (max (a : Int) ((min c old.size : Nat) : Int)).toNat t.size) >>= _) _ _ s
    rw [mx, Int.toNat_natCast]
    refine wpAny_bind (wpAny_updateSeq (hz := Nat.le_trans (Nat.le_add_right _ _) fit) (_hz' := zz) eo rfl (wpAny_bind (wpAny_letGo ?_)))
    first
      | exact wpAny_bind (wpAny_pure (wpAny_pure ⟨.none, rfl, wpAny_pure k⟩))
      | exact wpAny_pure ⟨.none, rfl, wpAny_pure k⟩
end

section
variable {X : Cx}
theorem splice (xs ys : List Value) (a c : Nat) : xs.toArray.extract 0 a ++ ys.toArray ++ xs.toArray.extract (min c xs.toArray.size) xs.toArray.size = (xs.take a ++ ys ++ xs.drop c).toArray := by
  rw [splice_eq]
  congr 1
  by_cases h : c ≤ xs.length
  · rw [List.size_toArray, Nat.min_eq_left h]
  · rw [List.size_toArray, Nat.min_eq_right (by omega), List.drop_length, List.drop_of_length_le (by omega)]

/-- o[lo:hi] = v, both given, v another list -/
def gCut (to : TE) (tl th : TO) : TG := fun v σ H Q => to σ H fun o H1 => tl σ H1 fun lo H2 => th σ H2 fun hi H3 =>
  ∃ p q xs ys a c, o = .ref p ∧ v = .ref q ∧ lo = some a ∧ hi = some c ∧ H3 p = some (.lst xs) ∧ H3 q = some (.lst ys) ∧ p ≠ q ∧
    0 ≤ a ∧ a ≤ c ∧ a ≤ xs.length ∧ xs.length + ys.length ≤ sizeLine ∧ Q σ (upd H3 p (.lst (xs.take a.toNat ++ ys ++ xs.drop c.toNat)))

theorem pg_cut {o : Expr} {lo hi : Option Expr} {to : TE} {tl th : TO} {p2 pos : Pos} (ho : PE X o to) (hl : PO X lo tl) (hh : PO X hi th)
    (ha : ∀ v, assign (.Subscript o (.Slice lo hi none p2) pos) X.env v = (do
      let ov ← holding [v] (eval o X.env)
      let iv ← holding [v, ov] (eval (.Slice lo hi none p2) X.env)
      standAt pos
      holding [v, ov, iv] (setItem ov iv v)
      release [iv, v, ov] []) := by intro _; rfl) : PG X (.Subscript o (.Slice lo hi none p2) pos) (gCut to tl th) := by
  refine ⟨fun pins s σ H v u Q I r h => ?_⟩
  rw [ha]
  refine wpAny_bind (wpAny_holding (thn (ho.run pins s σ H _ I h) fun ov s1 ⟨x, H1, I1, r1, q1⟩ => wpAny_bind (wpAny_holding ?_)))
  refine wpAny_Slice (thn (hl.run pins s1 σ H1 _ I1 q1) fun wl s2 ⟨l, H2, I2, pl, q2⟩ => ?_)
  refine thn (hh.run pins s2 σ H2 _ I2 q2) fun wu s3 ⟨uu, H3, I3, pu, q3⟩ => ?_
  rw [evalPart_none]
  refine wpAny_pure ?_
  obtain ⟨p, q, xs, ys, a, c, rfl, rfl, rfl, rfl, hp, hq, pq, a0, ac, ax, fit, fin⟩ := q3
  cases r1
  cases r
  have I4 : Inv X pins σ H3 { s3 with heap := s3.heap.push { cls := .type "slice", data := .fields #[wl, wu, .none] } } := I3.kept (t' := s3.toks) fun b ob e => Heap.get?_push_of_some _ e
  refine wpAny_bind (wpAny_standAt (wpAny_bind (wpAny_holding ?_)))
  obtain ⟨z1, us1, n1, rv1, _, e1⟩ := I4.lstM hp
  obtain ⟨z2, us2, n2, rv2, _, e2⟩ := I4.lstM hq
  obtain ⟨a', rfl⟩ := Int.eq_ofNat_of_zero_le a0
  obtain ⟨c', rfl⟩ := Int.eq_ofNat_of_zero_le (Int.le_trans a0 ac)
  simp only [Int.toNat_natCast] at fin
  have L1 := rv1.length
  have L2' := rv2.length
  refine put_slice (a := a') (c := c') e1 e2 pq (Heap.IsSliceOf.new ..) pl pu (by omega) (by rw [List.size_toArray]; omega) (by rw [List.size_toArray, List.size_toArray]; omega) ?_
  refine wpAny_release ⟨σ, _, ?_, fin⟩
  refine I4.lset (its' := us1.take a' ++ us2 ++ us1.drop c') (t' := s3.toks) hp e1 (splice us1 us2 a' c') (Vals.append (Vals.append (rv1.take _) rv2) (rv1.drop _)) ?_
  rw [List.length_append, List.length_append, List.length_take, List.length_drop]
  omega
end
end Sip
namespace Sip
open PySem PySem.Spec PyProof.Rows L2

/-- a def of the text: where it stands, how it is called -/
structure Df (K : PySem.W.Frag) (mg : Str → Option Value) (x : Str) (st : Stmt) (ps : List Str) (f : Addr) (fd : FuncData) : Prop where
  F : Fun K x x st f fd
  b : Binds K fd ps []
  g : mg x = some (.ref f)

/-! heaps: all that was tracked stands, but at the places ps -/
def Kp (ps : List Addr) (H H' : Hp) : Prop := ∀ b o, b ∉ ps → H b = some o → H' b = some o
theorem Kp.refl (ps : List Addr) (H : Hp) : Kp ps H H := fun _ _ _ h => h
theorem Kp.trans {ps : List Addr} {H H1 H2 : Hp} (a : Kp ps H H1) (b : Kp ps H1 H2) : Kp ps H H2 := fun c o n h => b c o n (a c o n h)
theorem Kp.wide {ps qs : List Addr} {H H1 : Hp} (a : Kp ps H H1) (h : ∀ x ∈ ps, x ∈ qs) : Kp qs H H1 := fun c o n e => a c o (fun z => n (h c z)) e
theorem Kp.same {H H1 : Hp} (a : Kp [] H H1) : Same H H1 := fun c o e => a c o (fun h => nomatch h) e
theorem Kp.of {ps : List Addr} {H H1 : Hp} (a : Same H H1) : Kp ps H H1 := fun c o _ e => a c o e
theorem Kp.at {ps : List Addr} {H : Hp} {p : Addr} {o : HO} (h : p ∈ ps) : Kp ps H (upd H p o) := fun b x n e => by
  have hb : b ≠ p := fun z => n (by rw [z]; exact h)
  rw [upd_ne hb]; exact e
theorem Kp.new {ps : List Addr} {H : Hp} {p : Addr} {o : HO} (h : H p = none) : Kp ps H (upd H p o) := fun b x n e => by
  rw [upd_ne (ne_of_none e h)]; exact e
/-- a place that was new at H is written later -/
theorem Kp.put {ps : List Addr} {H H1 : Hp} {p : Addr} {o : HO} (k : Kp ps H H1) (h : H p = none) : Kp ps H (upd H1 p o) := fun b x n e => by
  rw [upd_ne (ne_of_none e h)]; exact k b x n e
theorem Kp.seq {ps : List Addr} {K : PySem.W.Frag} {H H1 : Hp} {a : Addr} {xs : List V} (k : Kp ps H H1) (n : a ∉ ps) (h : SqL K H a xs) : SqL K H1 a xs := by
  rcases h with (h | ⟨o, h⟩) | h
  · exact .inl (.inl (k _ _ n h))
  · exact .inl (.inr ⟨o, k _ _ n h⟩)
  · exact .inr h
theorem Kp.free {H H1 : Hp} {ps : List Addr} (k : Kp ps H H1) {q : Addr} (n : q ∉ ps) (h : H1 q = none) : H q = none := by
  cases e : H q with
  | none => rfl
  | some o => rw [k q o n e] at h; cases h
theorem sq_new {K : PySem.W.Frag} {H : Hp} {p : Addr} {xs : List V} : SqL K (upd H p (.lst xs)) p xs := .inl (.inl upd_same)
theorem sq_at {K : PySem.W.Frag} {H : Hp} {p : Addr} {xs : List V} (h : H p = some (.lst xs)) : SqL K H p xs := .inl (.inl h)
theorem upd_upd {H : Hp} {p : Addr} {a b : HO} : upd (upd H p a) p b = upd H p b := by
  funext x
  by_cases h : x = p
  · subst h; rw [upd_same, upd_same]
  · rw [upd_ne h, upd_ne h, upd_ne h]

/-! the law's own draws: a pool is a list of three ints -/
def PoolO (n : Int) (o : HO) : Prop := ∃ d c x : Int, o = .lst [.int d, .int c, .int x] ∧ 0 ≤ d ∧ 0 ≤ c ∧ c ≤ n
theorem PoolO.up {n m : Int} {o : HO} (h : PoolO n o) (l : n ≤ m) : PoolO m o := by
  obtain ⟨d, c, x, e, h1, h2, h3⟩ := h
  exact ⟨d, c, x, e, h1, h2, by omega⟩
def spTake : Sp := fun vs H Q _ => ∃ (p : Addr) (n wide : Int) (o : HO), vs = [.ref p, .int wide] ∧ H p = some o ∧ PoolO n o ∧ n ≤ 1000000000 ∧ 0 < wide ∧ wide < 1073741824 ∧
  ∀ (r : Int) (o' : HO), 0 ≤ r → r < wide → PoolO (n + 1) o' → Q (.int r) (upd H p o')
def spPool (K : PySem.W.Frag) : Sp := fun vs H Q _ => ∃ (a : Addr) (ns : List Int) (i : Int), vs = [.ref a, .int i] ∧ SqL K H a (ns.map V.int) ∧ ns.length ≤ 63 ∧ 0 ≤ i ∧ i ≤ 1000 ∧
  ∀ (p : Addr) (o : HO), H p = none → PoolO (1000 * i) o → Q (.ref p) (upd H p o)

/-! lists of ints -/
theorem atI_int {ms : List Int} {i : Int} (h0 : 0 ≤ i) (h1 : i < ms.length) : ∃ m, m ∈ ms ∧ atI (ms.map V.int) i = some (.int m) ∧ ms[i.toNat]? = some m := by
  obtain ⟨j, rfl⟩ := Int.eq_ofNat_of_zero_le h0
  have hj : j < ms.length := by omega
  refine ⟨ms[j], List.getElem_mem hj, atI_nat ?_, by rw [Int.toNat_natCast, List.getElem?_eq_getElem hj]⟩
  rw [List.getElem?_map, List.getElem?_eq_getElem hj]; rfl
theorem atI_intV {ms : List Int} {i : Int} (h0 : 0 ≤ i) (h1 : i < ms.length) : atI (ms.map V.int) i = some (.int (ms.getD i.toNat 0)) := by
  obtain ⟨m, _, e, g⟩ := atI_int h0 h1
  rw [e, List.getD_eq_getElem?_getD, g]; rfl
theorem dp_ints {K : PySem.W.Frag} {H : Hp} : ∀ ns : List Int, DpAll K H (ns.map V.int) (ns.map PyData.int)
  | [] => .nil
  | n :: r => .cons (.int n) (dp_ints r)
theorem dp_lst {K : PySem.W.Frag} {H : Hp} {a : Addr} {ns : List Int} (h : SqL K H a (ns.map V.int)) : Dp K H (.ref a) (.list (ns.map PyData.int)) := .lst h (dp_ints ns)
section
variable {X : Cx}
/-- == and != of two lists of ints -/
def rEqI (K : PySem.W.Frag) : R2 := fun x y H Q => ∃ (a b : Addr) (ns ms : List Int), x = .ref a ∧ y = .ref b ∧ SqL K H a (ns.map V.int) ∧ SqL K H b (ms.map V.int) ∧ Q (.bl (decide (ns = ms))) H
def rNeI (K : PySem.W.Frag) : R2 := fun x y H Q => ∃ (a b : Addr) (ns ms : List Int), x = .ref a ∧ y = .ref b ∧ SqL K H a (ns.map V.int) ∧ SqL K H b (ms.map V.int) ∧ Q (.bl (!decide (ns = ms))) H
theorem op_eqI (hu : X.A.units + 64 < cLine) : OpR X (compareOp .Eq) (rEqI X.K) := by
  intro pins s σ H x y v u Q I rx ry h
  obtain ⟨a, b, ns, ms, rfl, rfl, ha, hb, q⟩ := h
  cases rx; cases ry
  obtain ⟨us, rv, hl, _⟩ := I.list ha
  obtain ⟨ws, rw', hl', _⟩ := I.list hb
  exact PySem.W.eq_intsK hl.isList rv.ints hl'.isList rw'.ints hu ⟨.bl (decide (ns = ms)), H, I, rfl, q⟩
theorem op_neI (hu : X.A.units + 64 < cLine) : OpR X (compareOp .NotEq) (rNeI X.K) := by
  intro pins s σ H x y v u Q I rx ry h
  obtain ⟨a, b, ns, ms, rfl, rfl, ha, hb, q⟩ := h
  cases rx; cases ry
  obtain ⟨us, rv, hl, _⟩ := I.list ha
  obtain ⟨ws, rw', hl', _⟩ := I.list hb
  exact PySem.W.ne_intsK hl.isList rv.ints hl'.isList rw'.ints hu ⟨.bl (!decide (ns = ms)), H, I, rfl, q⟩
end
/-! a row laid over another one -/
def laidF (r : List Int) (n : Nat) (d : List Int) : List Int :=
  if d = [] then r else (r ++ List.replicate (n - r.length) 0).take n ++ d ++ (r ++ List.replicate (n - r.length) 0).drop (n + d.length)
theorem laidF_nil (r : List Int) (n : Nat) : laidF r n [] = r := if_pos rfl
theorem laidF_cons {r : List Int} {n : Nat} {d : List Int} (h : d ≠ []) : laidF r n d = (r ++ List.replicate (n - r.length) 0).take n ++ d ++ (r ++ List.replicate (n - r.length) 0).drop (n + d.length) := if_neg h
theorem laidF_length {r : List Int} {n : Nat} {d : List Int} (h : d ≠ []) : (laidF r n d).length = max r.length (n + d.length) := by
  rw [laidF_cons h, List.length_append, List.length_append, List.length_take, List.length_drop, List.length_append, List.length_replicate]
  omega
theorem pad_get (r : List Int) (m i : Nat) : (r ++ List.replicate m 0)[i]?.getD 0 = r.getD i 0 := by
  rw [List.getD_eq_getElem?_getD]
  by_cases h : i < r.length
  · rw [List.getElem?_append_left h]
  · rw [List.getElem?_append_right (by omega), List.getElem?_eq_none (l := r) (by omega)]
    by_cases h2 : i - r.length < m
    · rw [List.getElem?_replicate, if_pos h2]; rfl
    · rw [List.getElem?_eq_none (by rw [List.length_replicate]; omega)]
theorem laidF_getD {r : List Int} {n : Nat} {d : List Int} (h : d ≠ []) (i : Nat) : (laidF r n d)[i]?.getD 0 = if n ≤ i ∧ i < n + d.length then d.getD (i - n) 0 else r.getD i 0 := by
  have lt : ((r ++ List.replicate (n - r.length) 0).take n).length = n := by
    rw [List.length_take, List.length_append, List.length_replicate]; omega
  rw [laidF_cons h, List.append_assoc]
  by_cases h1 : i < n
  · rw [if_neg (by omega), List.getElem?_append_left (by rw [lt]; exact h1), List.getElem?_take_of_lt h1]
    exact pad_get r _ i
  · rw [List.getElem?_append_right (by rw [lt]; omega), lt]
    by_cases h2 : i < n + d.length
    · rw [if_pos ⟨by omega, h2⟩, List.getElem?_append_left (by omega), List.getD_eq_getElem?_getD]
    · rw [if_neg (by omega), List.getElem?_append_right (by omega), List.getElem?_drop, ← pad_get r (n - r.length) i]
      congr 2
      omega
theorem laidF_get {r : List Int} {n : Nat} {d : List Int} {i : Nat} (h : d ≠ []) (hi : i < (laidF r n d).length) : (laidF r n d)[i]? = some (if n ≤ i ∧ i < n + d.length then d.getD (i - n) 0 else r.getD i 0) := by
  rw [← laidF_getD h i, List.getElem?_eq_getElem hi]; rfl
theorem ext_getD {xs ys : List Int} (hl : xs.length = ys.length) (h : ∀ i, i < xs.length → xs[i]?.getD 0 = ys[i]?.getD 0) : xs = ys := by
  apply List.ext_getElem hl
  intro i h1 h2
  have := h i h1
  rw [List.getElem?_eq_getElem h1, List.getElem?_eq_getElem h2] at this
  exact this
/-- laid over once more: the same -/
theorem laidF_twice (r : List Int) (n : Nat) (d : List Int) : laidF (laidF r n d) n d = laidF r n d := by
  by_cases h : d = []
  · subst h; rw [laidF_nil, laidF_nil]
  · have l1 := laidF_length (r := r) (n := n) h
    have l2 := laidF_length (r := laidF r n d) (n := n) h
    refine ext_getD (by omega) fun i hi => ?_
    rw [laidF_getD h, laidF_getD h]
    split
    · rfl
    · next c => rw [List.getD_eq_getElem?_getD, laidF_getD h, if_neg c]
theorem flat_rep (m : Nat) (v : V) : (List.replicate m [v]).flatten = List.replicate m v := by
  induction m with
  | zero => rfl
  | succ m ih => rw [List.replicate_succ, List.flatten_cons, ih, List.replicate_succ]; rfl
theorem all_true (n : Nat) : (List.replicate n true).all id = true := by
  rw [List.all_eq_true]
  intro x hx
  exact (List.mem_replicate.mp hx).2
def spBytes : Sp := fun vs H Q _ => ∃ (p : Addr) (n : Int) (o : HO), vs = [.ref p] ∧ H p = some o ∧ PoolO n o ∧ n ≤ 900000000 ∧
  ∀ (H' : Hp) (q : Addr) (bs : List Int) (o' : HO), H q = none → H' q = some (.lst (bs.map V.int)) → H' p = some o' → PoolO (n + 1000) o' → Kp [p] H H' → bs.length ≤ 400 → (∀ b ∈ bs, 0 ≤ b ∧ b ≤ 255) → Q (.ref q) H'
def spLaid (K : PySem.W.Frag) : Sp := fun vs H Q _ => ∃ (a b : Addr) (r : List Int) (n : Nat) (d : List Int), vs = [.ref a, .int n, .ref b] ∧ SqL K H a (r.map V.int) ∧ H b = some (.lst (d.map V.int)) ∧ r.length ≤ 10000 ∧ n ≤ 4400 ∧ d.length ≤ 4400 ∧
  ∀ (H' : Hp) (q : Addr), H q = none → H' q = some (.lst ((laidF r n d).map V.int)) → Same H H' → Q (.ref q) H'
def spDue (K : PySem.W.Frag) : Sp := fun vs H Q _ => ∃ (a b : Addr) (r : List Int) (n : Nat) (d : List Int), vs = [.ref a, .int n, .ref b] ∧ SqL K H a (r.map V.int) ∧ SqL K H b (d.map V.int) ∧ r.length ≤ 10000 ∧ n ≤ 4400 ∧ d.length ≤ 4400 ∧
  ∀ (H' : Hp) (q : Addr), H q = none → H' q = some (.lst ((laidF r n d).map V.int)) → Same H H' → Q (.ref q) H'
def spFits (K : PySem.W.Frag) : Sp := fun vs H Q _ => ∃ (a b : Addr) (xs ys : List Int), vs = [.ref a, .ref b] ∧ H a = some (.lst (xs.map V.int)) ∧ SqL K H b (ys.map V.int) ∧ xs.length ≤ 100000 ∧
  ∀ H' : Hp, Same H H' → Q (.bl (decide (xs = ys))) H'
def spLaw (K : PySem.W.Frag) : Sp := fun vs H Q _ => ∃ (a : Addr) (ns : List Int), vs = [.ref a] ∧ SqL K H a (ns.map V.int) ∧ ns.length ≤ 63 ∧ ∀ H' : Hp, Q (.bl true) H'
theorem step_same {H H1 H2 : Hp} {p : Addr} (s : Same H H1) (n : H p = none) (k : Kp [p] H1 H2) : Same H H2 := fun b o e =>
  k b o (fun z => ne_of_none e n (List.mem_singleton.mp z)) (s b o e)
theorem put_same {H H1 : Hp} {p : Addr} {o : HO} (s : Same H H1) (n : H p = none) : Same H (upd H1 p o) := fun b x e => by
  rw [upd_ne (ne_of_none e n)]; exact s b x e
theorem ixN_zero {n : Nat} (h : 0 < n) : ixN n 0 = some 0 := by
  unfold ixN
  rw [if_pos (by decide), if_pos (by omega)]; rfl
theorem laidF_le {r d : List Int} {n m : Nat} (h : r.length ≤ m ∧ n + d.length ≤ m) : (laidF r n d).length ≤ m := by
  by_cases e : d = []
  · subst e; rw [laidF_nil]; exact h.1
  · rw [laidF_length e]; omega
end Sip
namespace Sip
open PySem PySem.Spec PyProof.Rows L2 PySem.Builtin PySem.Builtin.Str PySem.Builtin.Int PySem.Builtin.Float

def figs : List Nat := [48, 49, 50, 51, 52, 53, 54, 55, 56, 57, 97, 98, 99, 100, 101, 102]
/-- two figures of sixteen -/
def two (n : Nat) : Str := ⟨#[figs.getD (n / 16) 0, figs.getD (n % 16) 0]⟩
def hexSpec : FormatSpec := { fill := 48, align := 61, width := some 2, type := some 120 }
theorem hex_parse : parseFormatSpec (Str.ofString "02x").cps.toList "int" 62 = .ok hexSpec := by kernel_rfl
theorem hex_ascii : (((Str.ofString "02x").cps.toList.drop 1).any (· ≥ 128) || ((Str.ofString "02x").cps.getD 0 0 ≥ 128 && !([60, 62, 61, 94] : List Nat).contains ((Str.ofString "02x").cps.getD 1 0))) = false := by decide +kernel
theorem hex_some : ((Str.ofString "02x").length == 0) = false := by decide +kernel
theorem hex_ex : ∃ F : Int → Str, (∀ (a : Int) (t u : Tok), Gives («int.__format__» ⟨[.int a t, .str (Str.ofString "02x") u], []⟩) (.str (F a))) ∧ ∀ b : Fin 256, F (b.val : Int) = two b.val := by
  apply Exists.intro
  apply And.intro
  · intro a t u prog w A R s hq
    unfold «int.__format__»
    simp only [selfAndOne, noKeywords, Int.intOfSelf, asInt?, asStr?, List.isEmpty_nil, if_true, pure_bind, bind_pure, bind_assoc, hex_some, hex_ascii, Bool.false_eq_true, if_false,
      show (Value.str (Str.ofString "02x") u == Value.none) = false from rfl]
    refine wpAny_bind (wpAny_typeNameOf (T := "str") (typeIs_str _ _ _) (by decide) fun _ => wpAny_bind (wpAny_typeNameOfCut_int ?_))
    simp only [hex_parse]
    refine PySem.W.KFB.if_so (by decide +kernel) ?_
    show wpAny _ _ (retStr _) _ _ _
    unfold retStr
    exact wpAny_bind (wpAny_mkStr (wpAny_pure hq.2) hq.1)
  · decide +kernel
end Sip
namespace Sip
open PySem PySem.Spec PyProof.Rows L2 TL

section
variable {X : Cx}
/-- f'{b:02x}' of a byte -/
def tHex (te : TE) : TE := fun σ H Q => te σ H fun x H1 => ∃ b : Nat, b < 256 ∧ x = .int b ∧ Q (.str (two b)) H1
theorem pe_hex {e : Expr} {te : TE} {k : Nat} {p1 p2 p3 p4 : Pos} (he : PE X e te) :
    PE X (.JoinedStr [.FormattedValue e (-1) (some (.JoinedStr [.Constant (.str (Str.ofString "02x")) k p1] p2)) p3] p4) (tHex te) := by
  have hs : PE X (.JoinedStr [.Constant (.str (Str.ofString "02x")) k p1] p2) (tC (.str (Str.ofString "02x"))) := pe_joined1 pe_str
  obtain ⟨F, g1, g2⟩ := hex_ex
  refine ⟨fun pins s σ H Q I h => wpAny_JoinedStr_one (wpAny_FormattedValue_spec (thn (he.run pins s σ H _ I h) fun v s1 ⟨x, H1, I1, r1, q1⟩ => ?_))⟩
  obtain ⟨b, hb, rfl, q⟩ := q1
  obtain ⟨t, rfl⟩ := r1
  refine thn (hs.run pins s1 σ H1 (fun y H2 => y = .str (Str.ofString "02x") ∧ H2 = H1) I1 ⟨rfl, rfl⟩) fun u s2 ⟨y, H2, I2, r2, ey, eH⟩ => ?_
  subst ey eH
  obtain ⟨t2, rfl⟩ := r2
  have e2 : F (b : Int) = two b := g2 ⟨b, hb⟩
  refine ⟨_, _, rfl, wpAny_formatField_spec (x := F (b : Int)) hex_some (fun s' => typeIs_int s' _ _) PySem.F.slot_int_format PySem.F.entry_int_format PySem.F.args_int_format_2 (fun u => g1 b t u) ?_ (by rw [sizeLine_eq]; decide +kernel) (by rw [e2, sizeLine_eq]; show (2 : Nat) ≤ _; decide)⟩
  rw [e2]
  exact ⟨.str (two b), H2, (I2.tok _).tok _, ⟨_, rfl⟩, q⟩
end

/-! the text of a row, as codes -/
def twoL (b : Int) : List Nat := [figs.getD (b.toNat / 16) 0, figs.getD (b.toNat % 16) 0]
def txL (bs : List Int) : List Nat := bs.flatMap twoL
def tx (bs : List Int) : Str := ⟨(txL bs).toArray⟩
def Bytes (bs : List Int) : Prop := ∀ b ∈ bs, 0 ≤ b ∧ b ≤ 255
theorem txL_length : ∀ bs : List Int, (txL bs).length = 2 * bs.length
  | [] => rfl
  | b :: r => by
    show (twoL b ++ txL r).length = 2 * (r.length + 1)
    rw [List.length_append, txL_length r]
    show 2 + 2 * r.length = _
    omega
theorem tx_length (bs : List Int) : (tx bs).length = 2 * bs.length := by
  show (txL bs).toArray.size = _
  rw [List.size_toArray, txL_length]
theorem txL_append (a b : List Int) : txL (a ++ b) = txL a ++ txL b := List.flatMap_append
theorem tx_append (a b : List Int) : tx (a ++ b) = tx a ++ tx b := ext_toList (by
  show (txL (a ++ b)).toArray.toList = ((txL a).toArray ++ (txL b).toArray).toList
  rw [Array.toList_append, txL_append])
/-- a figure's worth -/
def wor (c : Nat) : Nat := figs.idxOf c
theorem wor_figs : ∀ j : Fin 16, wor (figs.getD j.val 0) = j.val := by decide
theorem twoL_back {b : Int} (h : 0 ≤ b ∧ b ≤ 255) : ∃ i j : Nat, i < 16 ∧ j < 16 ∧ twoL b = [figs.getD i 0, figs.getD j 0] ∧ b = 16 * (i : Int) + j :=
  ⟨b.toNat / 16, b.toNat % 16, by omega, by omega, rfl, by omega⟩
theorem figs_inj {i j : Nat} (hi : i < 16) (hj : j < 16) (e : figs.getD i 0 = figs.getD j 0) : i = j := by
  have a : wor (figs.getD i 0) = i := wor_figs ⟨i, hi⟩
  have b : wor (figs.getD j 0) = j := wor_figs ⟨j, hj⟩
  exact a.symm.trans ((congrArg wor e).trans b)
theorem txL_inj : ∀ {a b : List Int}, Bytes a → Bytes b → txL a = txL b → a = b
  | [], [], _, _, _ => rfl
  | [], y :: r, _, _, e => by cases e
  | x :: r, [], _, _, e => by cases e
  | x :: r, y :: q, ha, hb, e => by
    obtain ⟨i, j, hi, hj, e1, e2⟩ := twoL_back (ha x (List.mem_cons_self ..))
    obtain ⟨m, n, hm, hn, e3, e4⟩ := twoL_back (hb y (List.mem_cons_self ..))
    have e5 : twoL x ++ txL r = twoL y ++ txL q := e
    rw [e1, e3] at e5
    have e6 := List.cons.inj e5
    have e7 := List.cons.inj e6.2
    have k1 := figs_inj hi hm e6.1
    have k2 := figs_inj hj hn e7.1
    have k3 := txL_inj (fun z hz => ha z (List.mem_cons_of_mem _ hz)) (fun z hz => hb z (List.mem_cons_of_mem _ hz)) e7.2
    rw [e2, e4, k1, k2, k3]
theorem tx_inj {a b : List Int} (ha : Bytes a) (hb : Bytes b) (e : tx a = tx b) : a = b := txL_inj ha hb (by
  have := congrArg (fun s : Str => s.cps.toList) e
  exact this)
theorem tx_eq {a b : List Int} (ha : Bytes a) (hb : Bytes b) : decide (V.str (tx a) = V.str (tx b)) = decide (a = b) := by
  by_cases h : a = b
  · subst h; rw [decide_eq_true rfl, decide_eq_true rfl]
  · rw [decide_eq_false h, decide_eq_false]
    intro z
    exact h (tx_inj ha hb (V.str.inj z))
/-- joined from its parts -/
theorem join_two : ∀ bs : List Int, Str.join (Str.ofString "") (bs.map fun b => two b.toNat) = tx bs := fun bs => ext_toList (by
  show tl (Str.join (Str.ofString "") _) = txL bs
  rw [tl_join]
  have e0 : tl (Str.ofString "") = [] := by decide +kernel
  rw [e0, List.map_map]
  induction bs with
  | nil => rfl
  | cons b r ih =>
    cases r with
    | nil => show twoL b = twoL b ++ []; rw [List.append_nil]
    | cons c q =>
      show twoL b ++ ([] ++ joinL [] ((c :: q).map _)) = twoL b ++ txL (c :: q)
      rw [List.nil_append, ih])
/-- its signs by place -/
theorem txL_get : ∀ {bs : List Int} {i : Nat} {b : Int}, bs[i]? = some b → (txL bs)[2 * i]? = some (figs.getD (b.toNat / 16) 0) ∧ (txL bs)[2 * i + 1]? = some (figs.getD (b.toNat % 16) 0)
  | [], _, _, h => by simp at h
  | x :: r, 0, b, h => by
    have e : x = b := Option.some.inj h
    subst e
    exact ⟨rfl, rfl⟩
  | x :: r, i + 1, b, h => txL_get (bs := r) (i := i) (b := b) h
theorem tx_at {bs : List Int} {i : Nat} {b : Int} (h : bs[i]? = some b) : atI (tx bs).cps.toList ((2 * i : Nat) : Int) = some (figs.getD (b.toNat / 16) 0) ∧ atI (tx bs).cps.toList ((2 * i + 1 : Nat) : Int) = some (figs.getD (b.toNat % 16) 0) :=
  ⟨atI_nat (txL_get h).1, atI_nat (txL_get h).2⟩
def FIG : Str := Str.ofString "0123456789abcdef"
theorem fig_find : ∀ j : Fin 16, Txt.find FIG ⟨#[figs.getD j.val 0]⟩ = (j.val : Int) := by decide +kernel
theorem fig_at {j : Nat} (h : j < 16) : atI FIG.cps.toList (j : Int) = some (figs.getD j 0) := by
  have e : FIG.cps.toList = figs := by decide +kernel
  rw [e]
  refine atI_nat ?_
  rw [List.getD_eq_getElem?_getD, List.getElem?_eq_getElem (show j < figs.length from h)]; rfl
/-! slices of lists of ints -/
theorem cut_map (bs : List Int) (lo hi : Option Int) : ∃ cs : List Int, cutV (bs.map V.int) lo hi = cs.map V.int ∧ cs.length ≤ bs.length ∧ ∀ x ∈ cs, x ∈ bs := by
  refine ⟨(bs.drop (HT.sIx bs.length 0 lo)).take (HT.sIx bs.length bs.length hi - HT.sIx bs.length 0 lo), ?_, ?_, ?_⟩
  · unfold cutV
    rw [List.length_map, List.map_take, List.map_drop]
  · rw [List.length_take, List.length_drop]; omega
  · intro x hx
    exact List.mem_of_mem_drop (List.mem_of_mem_take hx)
theorem size_two (n : Nat) : Builtin.Range.rangeSize 0 ((2 * n : Nat) : Int) 2 = (n : Int) := by
  unfold Builtin.Range.rangeSize
  rw [if_pos (by decide)]
  split <;> omega
theorem range_two (n : Nat) (h : n ≤ 1000000) : RgC 0 ((2 * n : Nat) : Int) 2 n := by
  refine ⟨by decide, by decide, ?_, size_two n⟩
  have f : ∀ x : Int, 0 ≤ x → x ≤ 3000000 → Builtin.Range.rangeFitsLong x = true := fun x h0 h1 => by
    unfold Builtin.Range.rangeFitsLong
    rw [Bool.and_eq_true, decide_eq_true_eq, decide_eq_true_eq]
    omega
  unfold Builtin.Range.small
  rw [size_two, f 0 (by decide) (by decide), f ((2 * n : Nat) : Int) (by omega) (by omega), f 2 (by decide) (by decide), f (n : Int) (by omega) (by omega)]
  simp only [Bool.true_and, show (2 : Int) > 0 from by decide, if_true, Bool.or_eq_true, beq_iff_eq]
  exact .inr (f _ (by omega) (by omega))
end Sip
namespace Sip
open PySem PySem.Spec PyProof.Rows L2 TL
def spWorth : Sp := fun vs H Q _ => ∃ j : Nat, j < 16 ∧ vs = [.str ⟨#[figs.getD j 0]⟩] ∧ Q (.int j) H
def spRead : Sp := fun vs H Q _ => ∃ bs : List Int, vs = [.str (tx bs)] ∧ Bytes bs ∧ bs.length ≤ 8000 ∧ ∀ (H' : Hp) (p : Addr), H p = none → H' p = some (.lst (bs.map V.int)) → Same H H' → Q (.ref p) H'
def spTxt (K : PySem.W.Frag) : Sp := fun vs H Q _ => ∃ (a : Addr) (bs : List Int), vs = [.ref a] ∧ SqL K H a (bs.map V.int) ∧ Bytes bs ∧ bs.length ≤ 8000 ∧ ∀ H' : Hp, Same H H' → Q (.str (tx bs)) H'
theorem get_int {xs : List Int} {i : Nat} {x : V} (h : (xs.map V.int)[i]? = some x) : ∃ hi : i < xs.length, x = .int xs[i] := by
  have hi : i < xs.length := by
    have := (List.getElem?_eq_some_iff.mp h).1
    rwa [List.length_map] at this
  refine ⟨hi, ?_⟩
  rw [List.getElem?_map, List.getElem?_eq_getElem hi] at h
  exact (Option.some.inj h).symm
theorem sum_two : ∀ bs : List Int, ((bs.map fun b => two b.toNat).map (·.length)).sum = 2 * bs.length
  | [] => rfl
  | b :: r => by
    show 2 + ((r.map fun b => two b.toNat).map (·.length)).sum = 2 * (r.length + 1)
    rw [sum_two r]; omega
theorem fit_two (bs : List Int) (h : bs.length ≤ 8000) : ((bs.map fun b => two b.toNat).map (·.length)).sum + (bs.map fun b => two b.toNat).length * (Str.ofString "").length ≤ 16777216 := by
  rw [sum_two, show (Str.ofString "").length = 0 by decide +kernel]; omega
end Sip
namespace Sip
open PySem PySem.Spec PyProof.Rows L2 TL
def spAsked : Sp := fun vs H Q _ => ∃ (a : Addr) (bs : List Int), vs = [.ref a] ∧ H a = some (.lst (bs.map V.int)) ∧ Bytes bs ∧ bs.length ≤ 4000 ∧ ∀ H' : Hp, Same H H' → Q (.bl true) H'
end Sip
/-! a list comprehension whose element may raise: what is raised leaves the comprehension -/
namespace Sip
open PySem PySem.Spec PyProof.Rows L2

theorem note_same {e : Value} {a b : Env} (h : a.frame = b.frame) : noteFrame e a = noteFrame e b := by
  unfold noteFrame PySem.frameOf
  rw [h]

/-- a comprehension's end, either way -/
def endX (M : Model) (A : Around) (E : Value → Shared → Prop) (Q : Value → Shared → Prop) (acc : Value) (ce : Env) (r : Result) (s' : Shared) : Prop :=
  ∃ m, s'.heap.Ns ce.locals m ∧ ∀ h', Heap.SameBut ce.locals s'.heap h' → match r with
    | .ok _ => Q acc { s' with heap := h' }
    | .error x => wpAny M A (passOn "comprehension.variables-let-go" x ce : Sem Value) (fun _ _ => False) E { s' with heap := h' }

theorem comp_run {M : Model} {A : Around} {E : Value → Shared → Prop} {s : Shared} {env : Env} {e : Expr} {scope : Scope} {pos : Pos} {na fi : Sem Value} {g : Comprehension} {gs : List Comprehension} {cl : List (Str × Addr)} {Q : Value → Shared → Prop}
    (hg : clausesOf e = g :: gs) (hs : ∀ x, foldedSetIterable g.iter env x = pure x) (hcl : closureFor scope env = pure cl) (hk : scope.kind = .function)
    (hn : ∀ x ∈ scope.names, x.2 = .local → scope.names.lookup x.1 = some .local)
    (h : wpAny M A fi (fun x s1 => wpAny M A (pyIter x) (fun it s2 => wpAny M A na (fun acc s3 => wpAny M A (newFunctionEnv scope env.globals cl [] env.qual none .none (some env)) (fun ce s4 =>
      codeAny M A (.compStart e 0 it acc { ce with scope := relabel scope env }) (endX M A E Q acc { ce with scope := relabel scope env }) s4) E s3) E s2) E s1) E s) :
    wpAny M A (comprehension e scope env pos na false fi none) Q E s := by
  unfold comprehension
  rw [hcl, hg]
  refine wpAny_bind (wpAny_mono h (fun x s1 h1 => ?_) fun _ _ z => z)
  refine wpAny_bind (wpAny_standAt (wpAny_bind (wpAny_of_eq (hs x) ?_)))
  refine wpAny_bind (wpAny_holding (wpAny_mono h1 (fun it s2 h2 => ?_) fun _ _ z => z))
  refine wpAny_standIf (wpAny_bind (wpAny_mono h2 (fun acc s3 h3 => ?_) fun _ _ z => z))
  refine wpAny_bind (wpAny_pure (wpAny_bind (wpAny_mono h3 (fun ce s4 h4 => ?_) fun _ _ z => z)))
  dsimp only
  have vs : ∀ x ∈ (scope.names.filter fun x => (x.2 == .local || x.2 == .cell) && x.1 != (".0" : Str)).reverse, x.2 = .local → Env.kindOf { ce with scope := relabel scope env } x.1 = some .local :=
    fun x hx hl => lookup_relabel_local (hn x (List.mem_filter.mp (List.mem_reverse.mp hx)).1 hl)
  refine wpAny_holding (wpAny_bind (wpAny_attempt (wpAny_holding (wpAny_run (codeAny_mono h4 fun r s' hr => ?_)))))
  obtain ⟨m, nm, hr⟩ := hr
  cases r with
  | ok f => exact wpAny_bind (wpAny_holding (wpAny_comp_letGo (cenv := { ce with scope := relabel scope env }) hk _ s' m vs nm fun h' _ _ sb => wpAny_pure (hr h' sb)))
  | error x => exact wpAny_bind (wpAny_holding (wpAny_comp_letGo (cenv := { ce with scope := relabel scope env }) hk _ s' m vs nm fun h' _ _ sb => wpAny_mono (hr h' sb) (fun _ _ f => f.elim) fun _ _ z => z))

theorem frames_to {h h' B B' : Heap} : ∀ {l : List Env}, h.FunFrames B l → (∀ b ∈ frs l, ∀ o, h.get? b = some o → h'.get? b = some o) → (∀ b ∈ frs l, B'.get? b = none) → h'.FunFrames B' l
  | [], _, _, _ => trivial
  | v :: l, f, k, n => by
    obtain ⟨f1, ⟨L, o, f2, f3, f4, f5⟩, f6⟩ := f
    have up : ∀ b ∈ frs l, b ∈ frs (v :: l) := fun b hb => by
      obtain ⟨x, hx, q⟩ := List.mem_filterMap.mp hb
      exact List.mem_filterMap.mpr ⟨x, List.mem_cons_of_mem _ hx, q⟩
    have hL : L ∈ frs (v :: l) := List.mem_filterMap.mpr ⟨v, List.mem_cons_self, f2⟩
    exact ⟨f1, ⟨L, o, f2, n L hL, k L hL o f4, f5⟩, frames_to f6 (fun b hb => k b (up b hb)) fun b hb => n b (up b hb)⟩

section
variable {X : Cx} {pins : List (Addr × Obj)} {σ : L2.St} {H3 : Hp} {s3 : Shared}
set_option maxHeartbeats 1000000 in
theorem comp_out {scope : Scope} {ce : Env} {fp : List Addr} {W : WX} {E : XK} {pb : List (Addr × Obj)} {σb : L2.St} {Hb : Hp} {sb s' : Shared} {u acc : Value} {Q : Value → Shared → Prop}
    (I3 : Inv X pins σ H3 s3) (hst : X.stack = X.env :: X.outer) (hfr : X.env.frame = some X.env.locals) (tk : Takes X W) (hfp : ∀ b ∈ fp, FpOk X pins H3 b)
    (cf : ce.frame = X.env.frame) (cL : ce.locals = s3.heap.objs.size) (Ib : Inv (X.blk s3 H3 scope ce fp) pb σb Hb sb) (hE : ∀ cls d H', E cls d H' → W cls d σ H')
    (c : CX X.prog X.w X.stack Hb sb E u s') :
    notedBy (model X.prog X.w) X.A ce (fun e s'' => endX (model X.prog X.w) X.A X.xe Q acc ce (.error e) s'') u s' := by
  obtain ⟨a, B, H', cls, d, rfl, fl, hok, ub, na, os, ag, hw⟩ := c
  have hA : X.A.frames = some (X.env :: X.outer) := by rw [I3.ok.frames, hst]
  have Bu : Un (frs X.stack) fp H3 Hb s3.heap sb.heap := Ib.base
  have HbC : Hb ce.locals = none := Ib.free
  obtain ⟨m, ⟨oC, es, ep, eC, dC, rC⟩, _⟩ := Ib.loc
  have eC : sb.heap.get? ce.locals = some oC := eC
  have nC : ce.locals ∉ frs X.stack := fun z => by
    rcases List.mem_cons.mp (I3.stkSub _ z) with z | z
    · have := I3.lt
      rw [← z, cL] at this
      exact absurd this (Nat.lt_irrefl _)
    · exact I3.nofs (Nat.le_of_eq cL.symm) z
  have BC : B.get? ce.locals = some oC := ub.keep _ _ eC HbC nC
  have H'C : H' ce.locals = none := ub.free _ _ eC HbC
  have ffl : ∀ b ∈ frs X.stack, ∃ o, s'.heap.get? b = some o ∧ ∀ vs, o.data ≠ .fields vs := fun b hb => (fl.2.2.1.mem hb).2
  show wpAny _ _ (noteFrame (.ref a) ce) _ _ s'
  rw [note_same cf]
  have fl2 := fl
  rw [hst] at fl2
  refine HandSPX.looks_onZ Zc.steady hA hfr fl2 fun h1 hh up1 => ?_
  obtain ⟨st1, en1, ff1, tr1⟩ := hh
  refine ⟨m, ⟨oC, es, ep, st1 _ _ BC, dC, rC⟩, fun h' sbut => ?_⟩
  -- the ground without the comprehension's own names
  obtain ⟨B', b1, b2⟩ := restrict B fun b => !decide (b = ce.locals)
  have Bto : ∀ b o, B.get? b = some o → b ≠ ce.locals → B'.get? b = some o := fun b o e n => by
    rw [b1 b (by simp [n])]; exact e
  have Bof : ∀ b o, B'.get? b = some o → B.get? b = some o ∧ b ≠ ce.locals := fun b o e => by
    by_cases n : b = ce.locals
    · rw [b2 b (by simp [n])] at e; cases e
    · rw [b1 b (by simp [n])] at e; exact ⟨e, n⟩
  have Bno : ∀ b, B.get? b = none → B'.get? b = none ∧ b ≠ ce.locals := fun b e => by
    have n : b ≠ ce.locals := fun z => by rw [z, BC] at e; cases e
    exact ⟨by rw [b1 b (by simp [n])]; exact e, n⟩
  have st2 : B'.StaysIn h' := fun b o e => by
    obtain ⟨e1, n⟩ := Bof b o e
    rw [sbut.2 b n]; exact st1 b o e1
  have ff2 : h'.FunFrames B' (X.env :: X.outer) := frames_to ff1 (fun b hb o e => by
    rw [sbut.2 b (Bno b (ff1.mem hb).1).2]; exact e) fun b hb => (Bno b (ff1.mem hb).1).1
  have tr2 : HandSPX.TracedZ h' B' a (Zc cls d) (rawInt X.env.locals) := by
    obtain ⟨oe, vs, T, oT, ts, t1, t2, t3, t4, t5, t6, t7, t8, t9⟩ := tr1
    exact ⟨oe, vs, T, oT, ts, by rw [sbut.2 a (Bno a en1).2]; exact t1, t2, t3, t4, (Bno T t5).1, t6, by rw [sbut.2 T (Bno T t5).2]; exact t7, t8, t9⟩
  show wpAny _ _ (passOn "comprehension.variables-let-go" (.ref a) ce : Sem Value) _ _ _
  obtain ⟨oe, vs, T, oT, ts, t1, t2, t3, t4, t5, t6, t7, t8, t9⟩ := id tr2
  unfold PySem.passOn
  refine wpAny_bind (wpAny_field t1 t3 t4 ?_)
  rw [if_neg (show ¬ ((Value.ref T == Value.none) = true) from by simp)]
  try refine wpAny_bind (wpAny_pure ?_)
  refine wpAny_bind (HandSPX.setFlight_anyZ (s := { s' with heap := h' }) st2 ff2 tr2 fun h2 k1 k2 k3 k4 => wpAny_throw (tk _ _ ?_))
  rw [cf, hfr] at k3
  -- the state without it
  obtain ⟨G, g1, g2⟩ := restrict h2 fun b => (B'.get? b).isSome || decide (b ∈ frs X.stack)
  have gB : ∀ b o, B'.get? b = some o → G.get? b = some o := fun b o e => by
    rw [g1 b (by simp [e])]; exact k1 b o e
  have gF : ∀ b ∈ frs X.stack, G.get? b = h2.get? b := fun b hb => g1 b (by simp [hb])
  have og : ∀ b o, G.get? b = some o → h2.get? b = some o ∧ ((B'.get? b).isSome = true ∨ b ∈ frs X.stack) := fun b o e => by
    cases q : ((B'.get? b).isSome || decide (b ∈ frs X.stack)) with
    | false => rw [g2 b q] at e; cases e
    | true => rw [g1 b q] at e; exact ⟨e, by simpa [Bool.or_eq_true] using q⟩
  -- a frame's object through all of it
  have fr : ∀ b ∈ frs X.stack, ∀ o, s'.heap.get? b = some o → ∃ sl, h2.get? b = some { o with slots := sl } := fun b hb o e => by
    obtain ⟨o2, e2, nf⟩ := ffl b hb
    rw [e] at e2; cases e2
    obtain ⟨sl1, e3⟩ := up1 b o e nf
    have nb : b ≠ ce.locals := fun z => nC (z ▸ hb)
    rw [← sbut.2 b nb] at e3
    obtain ⟨sl2, e4⟩ := k4 b _ e3 nf
    exact ⟨sl2, e4⟩
  have lt3 : ∀ b o, s3.heap.get? b = some o → b ≠ ce.locals := fun b o e z => by
    have := Heap.lt_size e
    rw [z, cL] at this
    exact absurd this (Nat.lt_irrefl _)
  have U : Un (frs X.stack) fp H3 H' s3.heap G := by
    refine ⟨fun b o e n hb hx => ?_, fun b o e n hb hx => ?_, fun b o e n hx => ?_, fun b o e hx => ?_, fun b xs e => ub.tups b xs (Bu.tups b xs e), fun b o v e => ub.frzs b o v (Bu.frzs b o v e), fun b ps e => ?_⟩
    · exact gB b o (Bto b o (ub.keep b o (Bu.keep b o e n hb hx) (Bu.free b o e n hx) hb) (lt3 b o e))
    · obtain ⟨sl, e1⟩ := Bu.slot b o e n hb hx
      obtain ⟨sl1, e2⟩ := ub.slot b _ e1 hb
      obtain ⟨sl2, e3⟩ := fr b hb _ e2
      exact ⟨sl2, by rw [gF b hb]; exact e3⟩
    · obtain ⟨o1, e1⟩ := Bu.there b o e hx
      exact ub.free b o1 e1 (Bu.free b o e n hx)
    · obtain ⟨o1, e1⟩ := Bu.there b o e hx
      by_cases hb : b ∈ frs X.stack
      · obtain ⟨sl1, e2⟩ := ub.slot b _ e1 hb
        obtain ⟨sl2, e3⟩ := fr b hb _ e2
        exact ⟨_, by rw [gF b hb]; exact e3⟩
      · obtain ⟨o2, e2⟩ := ub.there b o1 e1 hb
        exact ⟨o2, gB b o2 (Bto b o2 e2 (lt3 b o e))⟩
    · obtain ⟨m1, e1⟩ := Bu.tbls b ps e
      obtain ⟨m2, e2⟩ := ub.tbls b _ e1
      exact ⟨m1 ++ m2, by rw [e2]; simp⟩
  have hokG : HOk X.prog X.w H' G := fun b o q => (hok b o q).stay (fun c v hc r => gB c v (Bto c v r fun z => by
    rcases hc with hc | hc
    · rw [← hc, z, H'C] at q; cases q
    · rw [z, H'C] at hc; cases hc)) (fun _ r => r) fun _ _ r => r
  have IX : Inv X pins σ H' { s3 with heap := G, gens := s'.gens, drawn := s'.drawn, toks := s'.toks } :=
    I3.call (ch := fp) U hokG ag fun b hb => ⟨(hfp b hb).2.2.2.1, (hfp b hb).2.1, (hfp b hb).2.2.2.2.1, (hfp b hb).2.2.2.2.2⟩
  refine ⟨a, B', _, pins, σ, H', cls, d, rfl, IX, fun b o e hb => ?_, Heap.UpToSlots.of_keeps fun b o e => (og b o e).1, .inr (.inr ⟨k1, (Bno a en1).1, by rw [hst]; exact k2, k3⟩), na, os.trans Ib.os, ag, hE _ _ _ hw⟩
  obtain ⟨e1, w1⟩ := og b o e
  rcases w1 with w1 | w1
  · obtain ⟨o2, q2⟩ := Option.isSome_iff_exists.mp w1
    have := k1 b o2 q2
    rw [e1] at this; cases this
    exact q2
  · exact absurd w1 hb
end

/-- another wish about what is raised -/
abbrev withX (X : Cx) (xe : Value → Shared → Prop) : Cx := { X with xe := xe }
theorem swapX {X : Cx} {pins : List (Addr × Obj)} {σ : L2.St} {H : Hp} {s : Shared} (xe : Value → Shared → Prop) (I : Inv X pins σ H s) : Inv (withX X xe) pins σ H s :=
  ⟨⟨I.ok.mod, I.ok.kind, I.ok.glob, I.ok.blt, I.ok.above, I.ok.inj, I.ok.has, I.ok.cab, I.ok.hd, I.ok.frames, I.ok.stk, I.ok.exf, I.ok.bs, I.ok.bsz, I.ok.noex, I.ok.exfs, I.ok.funs, I.ok.frf⟩,
    I.os, I.bare, I.base, I.loc, I.cell, I.free, I.freeC, I.pin, I.hok, I.len⟩
theorem unswapX {X : Cx} {pins : List (Addr × Obj)} {σ : L2.St} {H : Hp} {s : Shared} {xe : Value → Shared → Prop} (I : Inv (withX X xe) pins σ H s) : Inv X pins σ H s :=
  ⟨⟨I.ok.mod, I.ok.kind, I.ok.glob, I.ok.blt, I.ok.above, I.ok.inj, I.ok.has, I.ok.cab, I.ok.hd, I.ok.frames, I.ok.stk, I.ok.exf, I.ok.bs, I.ok.bsz, I.ok.noex, I.ok.exfs, I.ok.funs, I.ok.frf⟩,
    I.os, I.bare, I.base, I.loc, I.cell, I.free, I.freeC, I.pin, I.hok, I.len⟩
section
variable {X : Cx}
/-- [elt for target in iter], where elt may raise: W tells what is then wanted -/
def tLcX (wi : TI) (g : TG) (te : XK → TE) (vs : List Nat) (W : WX) : TE := fun σ H Q => tLc wi g tYes (te fun cls d H' => W cls d σ H') vs σ H Q
set_option maxHeartbeats 2000000 in
theorem pe_lcX {elt tg iter : Expr} {scope : Scope} {own : List (Str × Nat)} {pos : Pos} {wi : TI} {g : TG} {te : XK → TE} {W : WX} (hc : X.calm = true) (hst : X.stack = X.env :: X.outer) (hfr : X.env.frame = some X.env.locals) (tk : Takes X W) (hN : X.N.Nodup)
    (hi : PI X tg iter wi) (ok : BlkOk X.N X.env.scope scope own)
    (hg : ∀ (s : Shared) (H : Hp) (C : Addr) (cl : List (Str × Addr)) (fp : List Addr), PG (X.blk s H scope (compEnvC scope cl C X.env) fp) tg g)
    (he : ∀ (s : Shared) (H : Hp) (C : Addr) (cl : List (Str × Addr)) (fp : List Addr) (xe : Value → Shared → Prop) (E : XK), Passes (CX X.prog X.w) (withX (X.blk s H scope (compEnvC scope cl C X.env) fp) xe) E →
      PE (withX (X.blk s H scope (compEnvC scope cl C X.env) fp) xe) elt (te E))
    (hs : ∀ x, foldedSetIterable iter X.env x = pure x := by intro _; rfl) : PE X (.ListComp elt [⟨tg, iter, [], 0⟩] scope pos) (tLcX wi g te (own.map (·.2)) W) := by
  refine ⟨fun pins s σ H Q I h => ?_⟩
  have h : tLc wi g tYes (te fun cls d H' => W cls d σ H') (own.map (·.2)) σ H Q := h
  generalize hE : (fun cls d H' => W cls d σ H' : XK) = E at h
  have hEW : ∀ cls d H', E cls d H' → W cls d σ H' := fun cls d H' q => by rw [← hE] at q; exact q
  rw [eval_ListComp]
  have cells : ∀ y ∈ scope.names, y.2 = .free → ∃ c, X.env.cells.lookup y.1 = some c := fun y hy e => (ok.free y hy e).elim (fun k => I.ok.has _ (.inl k)) fun k => I.ok.has _ (.inr k)
  refine comp_run rfl hs (closure_ok cells) ok.kind (fun y hy e => by rw [ok.uniq y hy, e]) (thn (hi.run pins s σ H _ I h) fun xv s1 hx => ?_)
  refine thn hx fun itv s2 h2 => ?_
  obtain ⟨it, fp, tn, J, H2, rfl, I2, T, st2, f2, q⟩ := h2
  refine wpAny_newObj_type (newEnv_comp ?_) (by show 0 ≤ sizeLine; decide)
  generalize eD : s2.heap.objs.size = D
  have nD : H2 D = none := I2.hok.fresh (Nat.le_of_eq eD)
  obtain ⟨Wi, ⟨m0, w0⟩, turn⟩ := q D nD
  generalize es3 : ({ s2 with heap := s2.heap.push { cls := .type "list", data := .seq ([] : List Value).toArray } } : Shared) = s3
  have p3 : s3.heap = s2.heap.push { cls := .type "list", data := .seq ([] : List Value).toArray } := by rw [← es3]
  have I3 : Inv X pins σ (upd H2 D (.lst [])) s3 := by
    subst es3
    refine I2.laid (t' := s2.toks) (fun b o e => Heap.get?_push_of_some _ e) (Nat.le_of_eq eD) ⟨Nat.zero_le _, [], 0, .nil, ?_⟩
    subst eD
    exact Heap.get?_push_size _ rfl
  have f3 : ∀ b ∈ fp, FpOk X pins (upd H2 D (.lst [])) b ∧ b < s3.heap.objs.size := fun b hb => by
    obtain ⟨o, e, _⟩ := T.obj _ _ st2 b hb
    have lt := Heap.lt_size e
    refine ⟨⟨?_, (f2 b hb).2⟩, by rw [p3, Heap.size_push]; exact Nat.lt_succ_of_lt lt⟩
    rw [upd_ne (by rw [← eD]; exact Nat.ne_of_lt lt)]
    exact (f2 b hb).1
  have st3 : tn 0 s3.heap := T.keep _ _ _ st2 fun b _ o e => by rw [p3]; exact Heap.get?_push_of_some _ e
  have I4 := block_start I3 ok hN f3
  generalize ecl : cellsFrom (s3.heap.objs.size + 1) scope.names (cloFrom X.env.cells scope.names []) = cl at I4 ⊢
  have pg := hg s3 (upd H2 D (.lst [])) s3.heap.objs.size cl fp
  have pe := he s3 (upd H2 D (.lst [])) s3.heap.objs.size cl fp
  have nf : ∀ b ∈ fp, (upd H2 D (.lst [])) b = none := fun b hb => (f3 b hb).1.1
  show codeAny _ _ (.compStart (.ListComp elt [⟨tg, iter, [], 0⟩] scope pos) 0 (.ref it) (.ref D) (compEnvC scope cl s3.heap.objs.size X.env)) (endX (model X.prog X.w) X.A X.xe (EP X pins σ Q) (.ref D) (compEnvC scope cl s3.heap.objs.size X.env)) { s3 with heap := pushCells (s3.heap.push { cls := .type "dict", data := .dict #[] }) scope.names }
  generalize ece : compEnvC scope cl s3.heap.objs.size X.env = ce at I4 pg pe ⊢
  have cL : ce.locals = s3.heap.objs.size := by subst ece; rfl
  have cF : ce.frame = X.env.frame := by subst ece; rfl
  generalize eH3 : upd H2 D (.lst []) = H3 at I3 I4 pg pe w0 nf f3
  generalize es4 : ({ s3 with heap := pushCells (s3.heap.push { cls := .type "dict", data := .dict #[] }) scope.names } : Shared) = s4 at I4 ⊢
  have st4 : tn 0 s4.heap := T.keep _ _ _ st3 fun b _ o e => by rw [← es4]; exact pushCells_keeps _ _ _ _ (Heap.get?_push_of_some _ e)
  generalize eY : X.blk s3 H3 scope ce fp = Y at I4 pg pe
  have Yi : ∀ {σ' : L2.St} {H' : Hp} {s' : Shared}, Inv Y [] σ' H' s' → (∀ b ∈ fp, H' b = none) → ∀ b ∈ fp, FpOk Y [] H' b := fun {σ' H' s'} I' hn b hb => by
    subst eY
    exact ⟨hn b hb, (I'.ok.exf b hb).1, I'.ok.exfs b hb, .inl hb, fun x c e => (I'.ok.exf b hb).2 x c e, fun p hp => absurd (show p ∈ ([] : List (Addr × Obj)) ++ [] from hp) (by simp)⟩
  -- what is raised in the block
  have out : ∀ {pb : List (Addr × Obj)} {σb : L2.St} {Hb : Hp} {sb s' : Shared} {u : Value}, Inv Y pb σb Hb sb → CX X.prog X.w X.stack Hb sb E u s' →
      notedBy (model X.prog X.w) X.A ce (fun e s'' => endX (model X.prog X.w) X.A X.xe (EP X pins σ Q) (.ref D) ce (.error e) s'') u s' := fun {pb σb Hb sb s' u} Ib c => by
    subst eY
    exact comp_out I3 hst hfr tk (fun b hb => (f3 b hb).1) cF cL Ib hEW c
  have Yp : Y.prog = X.prog ∧ Y.w = X.w ∧ Y.K = X.K ∧ Y.A = X.A ∧ Y.env = ce ∧ Y.stack = X.stack ∧ Y.xe = (fun _ _ => False) := by subst eY; exact ⟨rfl, rfl, rfl, rfl, rfl, rfl, rfl⟩
  have back : ∀ {H5 : Hp} {s6 : Shared}, Inv Y [] (wipe σ (own.map (·.2))) H5 s6 → Inv X pins σ H5 s6 ∧ H5 s3.heap.objs.size = none ∧ ∃ m, s6.heap.Ns ce.locals m := fun {H5 s6} I6 => by
    subst eY
    refine ⟨I3.call' (ch := fp) I6.os I6.base I6.hok I6.bare fun b hb => ?_, ?_, ?_⟩
    · obtain ⟨⟨_, z1, _, z3, z4, z5⟩, _⟩ := f3 b hb
      exact ⟨z3, z1, z4, z5⟩
    · have z : H5 ce.locals = none := I6.free
      rw [cL] at z; exact z
    · obtain ⟨m, hn, _⟩ := I6.loc
      exact ⟨m, hn⟩
  subst eY
  have loop : codeAny (model X.prog X.w) X.A (.compLoop (.ListComp elt [⟨tg, iter, [], 0⟩] scope pos) 0 (.ref it) (.ref D) ce) (endX (model X.prog X.w) X.A X.xe (EP X pins σ Q) (.ref D) ce) s4 := by
    refine compLoop_any (fun n s' => ∃ i H', Inv (X.blk s3 H3 scope ce fp) [] (wipe σ (own.map (·.2))) H' s' ∧ tn i s'.heap ∧ (∀ b ∈ fp, H' b = none) ∧ Wi i n H') (fun n s5 hI => ?_) m0 ⟨0, H3, I4, st4, nf, w0⟩
    obtain ⟨i, H5, I5, st5, n5, w5⟩ := hI
    rcases turn i n H5 w5 with ⟨stop, qq⟩ | ⟨go, Nx, hNx, step⟩
    · refine thnF (T.done (X.blk s3 H3 scope ce fp) rfl rfl rfl hc i [] s5 _ H5 (fun _ _ => False) I5 (Yi I5 n5) st5 stop) fun r s6 ⟨hr, I6⟩ => ?_
      subst hr
      obtain ⟨I7, nC, m, hn⟩ := back I6
      refine ⟨m, hn, fun h' sb => ?_⟩
      obtain ⟨c0, c1, c2, c3, c4, c5⟩ := I3.fpOk (Nat.le_refl _) nC
      rw [cL] at sb
      exact ⟨.ref D, H5, I7.turned (t' := s6.toks) (fun b o hb e => (sb.2 b hb).trans e) c0 c1 c3 c4 c5, rfl, qq⟩
    · refine thnF (T.item (X.blk s3 H3 scope ce fp) rfl rfl rfl hc i [] s5 _ H5 (fun _ _ => False) I5 (Yi I5 n5) st5 go) fun r s6 ⟨u, hr, h6⟩ => ?_
      subst hr
      refine thnF h6 fun _ s7 ⟨x, H7, I7, r7, y7, st7, n7⟩ => ?_
      have I7p := I7.pinned (Yi I7 n7) (T.obj _ _ st7)
      refine thnF (pg.run _ s7 _ H7 x u _ I7p r7 (step x H7 y7)) fun _ s8 ⟨σ8, H8, I8, w8, q8⟩ => wpAny_tests_nil ?_
      have q9 : te E σ8 H8 fun y H4 => ∃ acc, H4 D = some (.lst acc) ∧ acc.length < sizeLine ∧ Nx (upd H4 D (.lst (acc ++ [y]))) := q8
      rw [if_pos rfl]
      have pe1 := pe (fun u s' => ∃ pb σb Hb sb, Inv (X.blk s3 H3 scope ce fp) pb σb Hb sb ∧ CX X.prog X.w X.stack Hb sb E u s') E (fun pb σb Hb sb e s' Ib c => ⟨pb, σb, Hb, sb, unswapX Ib, c⟩)
      refine wpAny_mono (pe1.run _ s8 σ8 H8 _ (swapX _ I8) q9) (fun z s10 hz => ?_) (fun e s' hx => ?_)
      · obtain ⟨yv, H10, I10, r10, acc, d10, z10, nx⟩ := hz
        refine app_ok (X := X.blk s3 H3 scope ce fp) (unswapX I10) d10 z10 r10 fun s11 I11 => ?_
        obtain ⟨m', hm, w'⟩ := hNx _ nx
        have pin : ∀ b ∈ fp, ∀ o, s7.heap.get? b = some o → s11.heap.get? b = some o ∧ (upd H10 D (.lst (acc ++ [yv]))) b = none := fun b hb o e => by
          have z := I11.pin (b, o) (List.mem_append_right _ (List.mem_append_right _ (mem_pinsAt hb e)))
          exact ⟨z.1, z.2.1⟩
        refine ⟨m', hm, i + 1, _, (I11.unpinned (pins := [])).weak (by rw [← w8, wipe_length]) (fun j v e => ?_), T.keep _ _ _ st7 fun b hb o e => (pin b hb o e).1, fun b hb => ?_, w'⟩
        · rw [← w8] at e
          exact (wipe_some e).1
        · obtain ⟨o, e, _⟩ := T.obj _ _ st7 b hb
          exact (pin b hb o e).2
      · obtain ⟨pb, σb, Hb, sb, Ib, c⟩ := hx
        exact out Ib c
  exact codeAny_compStart_list loop (T.self X.A 0 _ _ _ st4 loop)
end
end Sip
namespace Sip
open PySem PySem.Spec PyProof.Rows L2 TL

section
variable {X : Cx}
/-- X(), X an own error class without an __init__ of its own -/
theorem pmk_own0 {C : Addr} {bmB : List Value} {B newId initId : String} {x : Str} {p pos : Pos} (F : ExcBaseFacts B newId initId bmB) (q : PySem.W.excIn X.K C bmB newId = true) (gC : X.mg x = some (.ref C)) (kC : PySem.W.keepIn X.K (.ref C) = true)
    (r : Raises X (.ref C)) (hg : Gl X x) (hdb : (x == ("__debug__" : Str)) = false := by decide) : PMk X (.Call (.Name x p) [] [] pos) (fun _ H Q => Q (.ref C) none H) := by
  intro pins s σ H Q I h
  refine wpAny_Call_Name_kw (ld_glob I hg gC (PySem.W.callWith_K0 I.kIn kC ?_) hdb)
  obtain ⟨bm, N, nm, qn, bs, hdct, sn, sub, ab, col, dd, k0, k1, k2, k3, k5, mN, hC, hN, hni, T⟩ := exc_obj I.kIn q
  exact wpAny_call_exc_subT (rest := []) F T hC hN hni (fun h' e hm => mk_of I hm r h (I.hok.gone hm.new)) (Nat.zero_le _)
/-- isinstance(e, c), e the caught error, whose class is to be shown -/
def rIsX (K : PySem.W.Frag) (D : Addr) (cls : Value) (d : Option Addr) (a : Addr) : List V → Hp → VK → Prop := fun xs H Q => cls = .ref D ∧ d = none ∧ rIsE K D a xs H Q
theorem call_isX {a D : Addr} {oe : Obj} {cls : Value} {d : Option Addr} {pn : List (Addr × Obj)} (C : ExcC X.K D) (hz : Zc cls d oe) (hf : ∃ vs, oe.data = .fields vs) : CallR (X.suite a ((a, oe) :: pn)) (.builtin "isinstance") (rIsX X.K D cls d a) := by
  intro pins s σ H xs us Q I r h
  obtain ⟨rfl, rfl, h⟩ := h
  exact call_isE C hz hf pins s σ H xs us Q I r h
end
/-- what the text's error classes are: C the one that is raised, S the one above it -/
structure Errs (K : PySem.W.Frag) (mg : Str → Option Value) (C S : Addr) : Prop where
  gP : mg "NoRow" = some (.ref C)
  gS : mg "SipError" = some (.ref S)
  xP : PySem.W.excIn K C [.type "ValueError", .type "Exception", .type "BaseException", .type "object"] "ValueError.__new__" = true
  kP : PySem.W.keepIn K (.ref C) = true
  bP : PySem.W.subIn K (.ref C) (.type "BaseException") = some true
  tP : PySem.W.typeIn K (.ref C) = some (.type "type")
  te : PySem.W.exmOne K (.ref C) (.ref C) = some true
  i1 : PySem.W.kitOne K (.ref C) (.ref S) = some true
  i2 : PySem.W.kitOne K (.ref C) (.type "ValueError") = some true
  ec : ExcC K C

/-! texts of plain signs -/
def Asc (z : Str) : Prop := ∀ c ∈ z.cps.toList, c < 128
theorem asc_append {a b : Str} (ha : Asc a) (hb : Asc b) : Asc (a ++ b) := fun c hc => by
  have e : (a ++ b).cps.toList = a.cps.toList ++ b.cps.toList := tl_append a b
  rw [e] at hc
  exact (List.mem_append.mp hc).elim (ha c) (hb c)
theorem asc_cut {z : Str} (h : Asc z) (lo hi : Option Int) : Asc (cutS z lo hi) := fun c hc => by
  have e : (cutS z lo hi).cps.toList = (z.cps.toList.drop (HT.sIx z.length 0 lo)).take (HT.sIx z.length z.length hi - HT.sIx z.length 0 lo) := rfl
  rw [e] at hc
  exact h c (List.mem_of_mem_drop (List.mem_of_mem_take hc))
theorem up_small : ∀ c : Fin 128, up1 c.val < 128 := by decide +kernel
theorem asc_upper {z : Str} (h : Asc z) : Asc (Txt.upper z) ∧ (Txt.upper z).length = z.length := by
  rw [upper_ascii h]
  refine ⟨fun c hc => ?_, ?_⟩
  · have e : (z.cps.map up1).toList = z.cps.toList.map up1 := Array.toList_map ..
    have hc : c ∈ (z.cps.map up1).toList := hc
    rw [e] at hc
    obtain ⟨b, hb, rfl⟩ := List.mem_map.mp hc
    exact up_small ⟨b, h b hb⟩
  · show (z.cps.map up1).size = z.cps.size
    exact Array.size_map ..
theorem len_append (a b : Str) : (a ++ b).length = a.length + b.length := strLen_append ..
theorem asc_one {c : Nat} (h : c < 128) : Asc ⟨#[c]⟩ := fun x hx => by
  have : x ∈ [c] := hx
  rw [List.mem_singleton.mp this]; exact h

/-! which texts are read, and to what -/
theorem find_fig : ∀ c : Fin 128, Txt.find FIG ⟨#[c.val]⟩ = if c.val ∈ figs then (wor c.val : Int) else -1 := by decide +kernel
theorem index_fig : ∀ c : Fin 128, c.val ∈ figs → Txt.index0 FIG ⟨#[c.val]⟩ = some (wor c.val) := by decide +kernel
def okT (cs : List Nat) : Prop := cs.length % 2 = 0 ∧ ∀ c ∈ cs, c ∈ figs
def rd (cs : List Nat) (i : Nat) : Int := 16 * (wor (cs.getD (2 * i) 0) : Int) + (wor (cs.getD (2 * i + 1) 0) : Int)
def rdL (cs : List Nat) : List Int := (List.range (cs.length / 2)).map (rd cs)
theorem rdL_length (cs : List Nat) : (rdL cs).length = cs.length / 2 := by
  unfold rdL; rw [List.length_map, List.length_range]
theorem rdL_get {cs : List Nat} {i : Nat} (h : i < cs.length / 2) : (rdL cs)[i]? = some (rd cs i) := by
  unfold rdL; rw [List.getElem?_map, List.getElem?_range h]; rfl
theorem get_at {cs : List Nat} {i : Nat} (h : i < cs.length) : atI cs (i : Int) = some (cs.getD i 0) ∧ cs.getD i 0 ∈ cs := by
  have e : cs.getD i 0 = cs[i] := by rw [List.getD_eq_getElem?_getD, List.getElem?_eq_getElem h]; rfl
  rw [e]
  exact ⟨atI_nat (List.getElem?_eq_getElem h), List.getElem_mem h⟩
theorem len_codes (z : Str) : z.length = z.cps.toList.length := by
  show z.cps.size = _
  exact (Array.length_toList ..).symm
def spWorthX (C : Addr) : Sp := fun vs H Q E => ∃ c : Nat, c < 128 ∧ vs = [.str ⟨#[c]⟩] ∧ (c ∈ figs → Q (.int (wor c : Nat)) H) ∧ (c ∉ figs → E (.ref C) none H)
def spReadX (C : Addr) : Sp := fun vs H Q E => ∃ z : Str, vs = [.str z] ∧ Asc z ∧ z.length ≤ 1000 ∧
  (okT z.cps.toList → ∀ (H' : Hp) (p : Addr), H p = none → H' p = some (.lst ((rdL z.cps.toList).map V.int)) → Same H H' → Q (.ref p) H') ∧ (¬ okT z.cps.toList → ∀ H' : Hp, Same H H' → E (.ref C) none H')
def spDueT : Sp := fun vs H Q _ => ∃ z : Str, vs = [.str z] ∧ Asc z ∧ z.length ≤ 1000 ∧
  (okT z.cps.toList → ∀ (H' : Hp) (p : Addr), H p = none → H' p = some (.lst ((rdL z.cps.toList).map V.int)) → Same H H' → Q (.ref p) H') ∧ (¬ okT z.cps.toList → ∀ H' : Hp, Same H H' → Q .non H')
/-- a text drawn from a pool -/
def spDraw : Sp := fun vs H Q _ => ∃ (p : Addr) (n : Int) (o : HO), vs = [.ref p] ∧ H p = some o ∧ PoolO n o ∧ n ≤ 900000000 ∧
  ∀ (H' : Hp) (z : Str) (o' : HO), H' p = some o' → PoolO (n + 100) o' → Kp [p] H H' → Asc z → z.length ≤ 60 → Q (.str z) H'
def spSign : Sp := fun vs H Q _ => ∃ (p : Addr) (n : Int) (o : HO), vs = [.ref p] ∧ H p = some o ∧ PoolO n o ∧ n ≤ 999999000 ∧
  ∀ (c : Nat) (o' : HO), c < 128 → PoolO (n + 1) o' → Q (.str ⟨#[c]⟩) (upd H p o')
def spSpoilt : Sp := fun vs H Q _ => ∃ (p : Addr) (n : Int) (o : HO) (z : Str), vs = [.ref p, .str z] ∧ H p = some o ∧ PoolO n o ∧ n ≤ 999990000 ∧ Asc z ∧ z.length ≤ 100 ∧
  ∀ (y : Str) (o' : HO), Asc y → y.length ≤ z.length + 1 → PoolO (n + 3) o' → Q (.str y) (upd H p o')
def spAskedT : Sp := fun vs H Q _ => ∃ z : Str, vs = [.str z] ∧ Asc z ∧ z.length ≤ 1000 ∧ ∀ H' : Hp, Same H H' → Q (.bl true) H'
def SIGNS : Str := Str.ofString " !\"#$&'()*+,-./0123456789:;<=>?@ABCDEFGHIJKLMNOPQRSTUVWXYZ[\\]^_`abcdefghijklmnopqrstuvwxyz{|}~"
theorem signs_asc : SIGNS.cps.toList.length = 94 ∧ ∀ c ∈ SIGNS.cps.toList, c < 128 := by decide +kernel
def GIF : Str := Str.ofString "fedcba9876543210"
theorem gif_asc : GIF.cps.toList.length = 16 ∧ ∀ c ∈ GIF.cps.toList, c < 128 := by decide +kernel
theorem fig_asc : FIG.cps.toList.length = 16 ∧ ∀ c ∈ FIG.cps.toList, c < 128 := by decide +kernel
theorem str_at {z : Str} {n : Nat} (hz : z.cps.toList.length = n ∧ ∀ c ∈ z.cps.toList, c < 128) {r : Int} (r0 : 0 ≤ r) (r1 : r < n) : ∃ c, c < 128 ∧ atI z.cps.toList r = some c := by
  obtain ⟨j, rfl⟩ := Int.eq_ofNat_of_zero_le r0
  obtain ⟨e, m⟩ := get_at (cs := z.cps.toList) (i := j) (by rw [hz.1]; omega)
  exact ⟨_, hz.2 _ m, e⟩
end Sip
namespace Sip
open PySem PySem.Spec PyProof.Rows L2 TL
theorem cut_codes (z : Str) (lo hi : Option Int) : (cutS z lo hi).length = ((z.cps.toList.drop (HT.sIx z.length 0 lo)).take (HT.sIx z.length z.length hi - HT.sIx z.length 0 lo)).length := by
  rw [len_codes]; rfl
theorem cut_len1 (z : Str) {k : Nat} (h : k ≤ z.length) : (cutS z none (some (k : Int))).length = k := by
  have lc := len_codes z
  rw [cut_codes, HT.sIx_none, HT.sIx_nat, List.length_take, List.length_drop]; omega
theorem cut_len2 (z : Str) {k : Nat} (h : k ≤ z.length) : (cutS z (some (k : Int)) none).length = z.length - k := by
  have lc := len_codes z
  rw [cut_codes, HT.sIx_none, HT.sIx_nat, List.length_take, List.length_drop]; omega
theorem cut_len3 (z : Str) {k : Nat} (h : k ≤ z.length) : (cutS z (some ((k : Nat) + 1 : Int)) none).length ≤ z.length - k := by
  have lc := len_codes z
  rw [show ((k : Nat) + 1 : Int) = ((k + 1 : Nat) : Int) by omega, cut_codes, HT.sIx_none, HT.sIx_nat, List.length_take, List.length_drop]; omega
end Sip
namespace Sip
open PySem PySem.Spec PyProof.Rows L2 TL
theorem all_figs {cs : List Nat} : ((cs.map fun c => decide (c ∈ figs)).all id) = true ↔ ∀ c ∈ cs, c ∈ figs := by
  rw [List.all_eq_true]
  constructor
  · intro h c hc
    exact of_decide_eq_true (h _ (List.mem_map.mpr ⟨c, hc, rfl⟩))
  · intro h x hx
    obtain ⟨c, hc, rfl⟩ := List.mem_map.mp hx
    exact decide_eq_true (h c hc)
end Sip
namespace Sip
open PySem PySem.Spec PyProof.Rows L2 TL
theorem asc_nil : Asc (Str.ofString "") := fun c hc => by
  have e : (Str.ofString "").cps.toList = [] := by decide +kernel
  rw [e] at hc; cases hc
end Sip
namespace Sip
open PySem PySem.Spec PyProof.Rows L2 TL
theorem kit_own {K : PySem.W.Frag} {C S : Addr} (h1 : PySem.W.isClsIn K S = true) (h2 : PySem.W.typeIn K (.ref S) = some (.type "type")) (h3 : PySem.W.subIn K (.ref C) (.ref S) = some true) : PySem.W.kitOne K (.ref C) (.ref S) = some true := by
  have a : ((PySem.W.clsIn K S).isSome && PySem.W.typeIn K (.ref S) == some (.type "type")) = true := by
    have h1' : (PySem.W.clsIn K S).isSome = true := h1
    rw [h1', h2]; rfl
  unfold PySem.W.kitOne PySem.W.kitCls
  split
  · rfl
  · exact (if_pos a).trans h3
theorem kit_bltn {K : PySem.W.Frag} {C : Addr} {T : String} (h1 : PySem.W.kitMeta T = true) (h3 : PySem.W.subIn K (.ref C) (.type T) = some true) : PySem.W.kitOne K (.ref C) (.type T) = some true := by
  unfold PySem.W.kitOne PySem.W.kitCls
  split
  · rfl
  · exact (if_pos h1).trans h3
end Sip
namespace Sip
open PySem PySem.Spec PyProof.Rows L2 TL

/-- a def of the text, whatever its defaults -/
structure FunA (K : PySem.W.Frag) (x qual : Str) (st : Stmt) (f : Addr) (fd : FuncData) : Prop where
  ex : ∃ (oc : Value) (od : Option Addr) (dV kV doc pm : Value) (an : Option Addr) (cdv ct : Value) (osl : Array (Option Value)),
    fd = PySem.W.fnOf x qual (defArgs st) (defBody st) (defScope st) dV kV doc pm an cdv ct ∧ K.lookup f = some ⟨oc, od, .func fd, osl⟩ ∧ PySem.W.codeIn K cdv qual = true
  kp : PySem.W.keepIn K (.ref f) = true
section
variable {P : Program} {w : World} {K : PySem.W.Frag} {mg : Str → Option Value} {base : Heap} {x qual : Str} {st : Stmt} {f : Addr} {fd : FuncData} {N ps : List Str} {k : Nat} {sp : Sp}
theorem FunA.ok (F : FunA K x qual st f fd) (S : FnScope N ps (defScope st)) (len : ∀ vs H Q E, sp vs H Q E → vs.length = ps.length)
    (hb : ∀ (cdv : Value) (A : Around) (outer : List Env) (s : Shared) (H : Hp) (vs : List V) (Q : VK) (E : XK), Room k (A.deeper (envOfC qual (defScope st) s.heap.objs.size f cdv)) → sp vs H Q E →
      ∃ t, PSs (cxOf CX0 P w K mg base N qual (defScope st) f cdv A outer s H E).nox (defBody st) t ∧ t { nx := fun _ H' => Q .non H', rt := Q } (start N vs) H) : FnOk P w K mg base CX0 (k + 1) f fd ps sp := by
  obtain ⟨oc, od, dV, kV, doc, pm, an, cdv, ct, osl, rfl, lk, hcd⟩ := F.ex
  refine fn_of lk hcd S len fun A outer s H vs Q E hr hsp => ?_
  obtain ⟨t, h, q⟩ := hb cdv A outer s H vs Q E hr hsp
  exact ⟨t, h.nox, q⟩
theorem FunA.okX (F : FunA K x qual st f fd) (S : FnScope N ps (defScope st)) (len : ∀ vs H Q E, sp vs H Q E → vs.length = ps.length)
    (hb : ∀ (cdv : Value) (A : Around) (outer : List Env) (s : Shared) (H : Hp) (vs : List V) (Q : VK) (E : XK), Room k (A.deeper (envOfC qual (defScope st) s.heap.objs.size f cdv)) → sp vs H Q E →
      ∃ t, PSs (cxOf (L2.CX P w) P w K mg base N qual (defScope st) f cdv A outer s H E) (defBody st) t ∧ t { nx := fun _ H' => Q .non H', rt := Q } (start N vs) H) : FnOk P w K mg base (L2.CX P w) (k + 1) f fd ps sp := by
  obtain ⟨oc, od, dV, kV, doc, pm, an, cdv, ct, osl, rfl, lk, hcd⟩ := F.ex
  exact fn_of lk hcd S len fun A outer s H vs Q E hr hsp => hb cdv A outer s H vs Q E hr hsp
end
/-- o.m(e, .., k = v, ..) -/
def tMethN (C : Addr) (m : Str) (n j : Nat) (sp : Sp) (gV : List V → List V → List V) (E : XK) (ta : TE) (t tk : TA) : TE := fun σ H Q => ta σ H fun x H1 =>
  ∃ a dx fs, x = .ref a ∧ H1 a = some (.ins C dx fs) ∧ fs.lookup m = none ∧ t σ H1 fun vs H2 => tk σ H2 fun zs H3 => vs.length = n ∧ zs.length = j ∧ sp (gV (x :: vs) zs) H3 Q E
section
variable {X : Cx} {CX : CXT} {k n : Nat} {f C : Addr} {fd : FuncData} {ps ks : List Str} {sp : Sp} {E : XK} {m : Str} {apos pos : Pos} {o e : Expr} {es : List Expr} {kws : List Keyword} {ta : TE} {t tk : TA} {g : List Value → List Value → List Value} {gV : List V → List V → List V}
theorem pe_methN {pl : Sem Bool} (he : PE X o ta) (c : Cls X.K C) (hm : Meth X.K C m f) (F : FnOk X.prog X.w X.K X.mg X.base CX k f fd ps sp) (hr : Room k X.A) (hb : KBn X.K fd ps (n + 1) ks g gV) (hx : Passes CX X E) (ha : PA X (e :: es) t) (hkw : PK X kws tk)
    (hall : (backToKw pos (keywordEach kws X.env)).all (·.1.isSome) = true := by rfl) (hks : (backToKw pos (keywordEach kws X.env)).filterMap (·.1) = ks := by rfl) (hst : starEach (e :: es) X.env = (false, eval e X.env) :: starEach es X.env := by rfl)
    (hpl : ((backTo pos (starEach (e :: es) X.env)).any (·.1) || (backToKw pos (keywordEach kws X.env)).any (·.1.isNone)) = false := by rfl)
    (ht : eval (.Call (.Attribute o m apos) (e :: es) kws pos) X.env = (do
      let ov ← eval o X.env
      standAt apos.atName
      let (f, first) ← holding [ov] (getMethod ov m pl)
      callWith pos f first (backTo pos (starEach (e :: es) X.env)) (backToKw pos (keywordEach kws X.env))) := by rfl) :
    PE X (.Call (.Attribute o m apos) (e :: es) kws pos) (tMethN C m n ks.length sp gV E ta t tk) := by
  refine ⟨fun pins s σ H Q I h => ?_⟩
  refine PySem.W.methodCall_KW (pl := pl) (thn (he.run pins s σ H _ I h) fun u s1 ⟨x, H1, I1, rx, a, dx, fs, ex, ea, l, q⟩ => ?_) ht
  subst ex
  obtain rfl : u = Value.ref a := rx
  refine getmeth_ok I1 ea c hm l ?_
  refine PySem.W.callWith_KW (first := [.ref a]) (h₀ := X.base) I.ok.mod.kin hm.kp hall (thn (ha.run pos pins s1 σ H1 _ I1 q) fun us s2 ⟨vs, H2, I2, r, q2⟩ => ?_) hpl hst
  refine thn (hkw.run pos pins s2 σ H2 _ I2 q2) fun ws s3 ⟨zs, H3, I3, rz, l1, l2, q3⟩ => ⟨I3.kIn, ?_⟩
  rw [hks]
  exact run_fnN (us := .ref a :: us) (vs := .ref a :: vs) F hr hb hx I3 (.cons rfl r) rz (by rw [List.length_cons, l1]) l2 q3
end
/-- fields by name -/
abbrev Fs := List (Str × V)
example (h c d : V) : putF ("cursor" : Str) d ([("held", h), ("cursor", c)] : Fs) = ([("held", h), ("cursor", d)] : Fs) := by kernel_rfl
example (h c d : V) : putF ("cursor" : Str) d ([("held", h)] : Fs) = ([("held", h), ("cursor", d)] : Fs) := by kernel_rfl
end Sip
namespace Sip
open PySem PySem.Spec PyProof.Rows L2 TL
/-- a def of the top, a method of a class -/
structure Dg (K : PySem.W.Frag) (mg : Str → Option Value) (x : Str) (st : Stmt) (f : Addr) (fd : FuncData) : Prop where
  F : FunA K x x st f fd
  g : mg x = some (.ref f)
structure Mf (K : PySem.W.Frag) (C : Addr) (x qual : Str) (st : Stmt) (f : Addr) (fd : FuncData) : Prop where
  F : FunA K x qual st f fd
  m : Meth K C x f
theorem funA_mk {K : PySem.W.Frag} {x qual : Str} {st : Stmt} {f : Addr} {oc : Value} {od an : Option Addr} {osl : Array (Option Value)} {dV kV doc pm cdv ct : Value} (l : K.lookup f = some ⟨oc, od, .func (PySem.W.fnOf x qual (defArgs st) (defBody st) (defScope st) dV kV doc pm an cdv ct), osl⟩)
    (c : PySem.W.codeIn K cdv qual = true) (k : PySem.W.keepIn K (.ref f) = true) : FunA K x qual st f (PySem.W.fnOf x qual (defArgs st) (defBody st) (defScope st) dV kV doc pm an cdv ct) := ⟨⟨oc, od, dV, kV, doc, pm, an, cdv, ct, osl, rfl, l, c⟩, k⟩
end Sip
namespace Sip
open PySem PySem.Spec PyProof.Rows L2 TL

abbrev Piece := Nat × List Int
/-! all pieces laid one behind another -/
def allF (r : List Int) (ps : List Piece) : List Int := ps.foldl (fun acc p => laidF acc p.1 p.2) r
def mostF (m : Nat) (ps : List Piece) : Nat := ps.foldl (fun m p => if 0 < p.2.length then max m (p.1 + p.2.length) else m) m
def stepB (k : Nat) (b : Int) (p : Piece) : Int := if p.1 ≤ k ∧ k < p.1 + p.2.length then p.2.getD (k - p.1) 0 else b
def byteF (b : Int) (k : Nat) (ps : List Piece) : Int := ps.foldl (stepB k) b
theorem laidF_len (r : List Int) (p : Piece) : (laidF r p.1 p.2).length = if 0 < p.2.length then max r.length (p.1 + p.2.length) else r.length := by
  by_cases h : p.2 = []
  · rw [h, laidF_nil]; rfl
  · rw [laidF_length h, if_pos (List.length_pos_iff.mpr h)]
theorem laidF_byte (r : List Int) (p : Piece) (k : Nat) : (laidF r p.1 p.2)[k]?.getD 0 = stepB k (r[k]?.getD 0) p := by
  unfold stepB
  by_cases h : p.2 = []
  · rw [h, laidF_nil, if_neg (by simp)]
  · rw [laidF_getD h, List.getD_eq_getElem?_getD, List.getD_eq_getElem?_getD]
theorem allF_len : ∀ (ps : List Piece) (r : List Int), (allF r ps).length = mostF r.length ps
  | [], _ => rfl
  | p :: q, r => by
    show (allF (laidF r p.1 p.2) q).length = mostF (if 0 < p.2.length then max r.length (p.1 + p.2.length) else r.length) q
    rw [allF_len q, laidF_len]
theorem allF_byte : ∀ (ps : List Piece) (r : List Int) (k : Nat), (allF r ps)[k]?.getD 0 = byteF (r[k]?.getD 0) k ps
  | [], _, _ => rfl
  | p :: q, r, k => by
    show (allF (laidF r p.1 p.2) q)[k]?.getD 0 = byteF (stepB k (r[k]?.getD 0) p) k q
    rw [allF_byte q, laidF_byte]
theorem allF_append (r : List Int) (a b : List Piece) : allF r (a ++ b) = allF (allF r a) b := List.foldl_append
/-- a piece in two parts -/
theorem laidF_parts (r : List Int) (n c : Nat) (d : List Int) (h : c ≤ d.length) : laidF (laidF r n (d.take c)) (n + c) (d.drop c) = laidF r n d := by
  have l1 := laidF_len r (n, d.take c)
  have l2 := laidF_len (laidF r n (d.take c)) (n + c, d.drop c)
  have l3 := laidF_len r (n, d)
  simp only [List.length_take, List.length_drop] at l1 l2 l3
  refine ext_getD ?_ fun k hk => ?_
  · rw [l2, l3, l1]
    split <;> split <;> split <;> omega
  · rw [laidF_byte _ (n + c, d.drop c), laidF_byte r (n, d.take c), laidF_byte r (n, d)]
    unfold stepB
    simp only [List.length_take, List.length_drop, List.getD_eq_getElem?_getD, List.getElem?_drop]
    by_cases h1 : n + c ≤ k ∧ k < n + c + (d.length - c)
    · rw [if_pos h1, if_pos (by omega)]
      congr 2
      omega
    · rw [if_neg h1]
      by_cases h2 : n ≤ k ∧ k < n + min c d.length
      · rw [if_pos h2, if_pos (by omega), List.getElem?_take_of_lt (by omega)]
      · rw [if_neg h2, if_neg (by omega)]
theorem allF_parts (r : List Int) (a b : List Piece) (n c : Nat) (d : List Int) (h : c ≤ d.length) :
    allF r (a ++ [(n, d.take c), (n + c, d.drop c)] ++ b) = allF r (a ++ [(n, d)] ++ b) := by
  rw [allF_append, allF_append, allF_append, allF_append]
  show allF (laidF (laidF (allF r a) n (d.take c)) (n + c) (d.drop c)) b = allF (laidF (allF r a) n d) b
  rw [laidF_parts _ _ _ _ h]
def Small (p : Piece) : Prop := p.1 ≤ 340 ∧ p.2.length ≤ 400 ∧ Bytes p.2
theorem bytes_getD {bs : List Int} (h : Bytes bs) (k : Nat) : 0 ≤ bs[k]?.getD 0 ∧ bs[k]?.getD 0 ≤ 255 := by
  cases e : bs[k]? with
  | none => exact ⟨by decide, by decide⟩
  | some b =>
    obtain ⟨hk, rfl⟩ := List.getElem?_eq_some_iff.mp e
    exact h _ (List.getElem_mem hk)
theorem bytes_of {bs : List Int} (h : ∀ k, k < bs.length → 0 ≤ bs[k]?.getD 0 ∧ bs[k]?.getD 0 ≤ 255) : Bytes bs := fun b hb => by
  obtain ⟨k, hk, rfl⟩ := List.getElem_of_mem hb
  have := h k hk
  rw [List.getElem?_eq_getElem hk] at this
  exact this
theorem laid_bytes {r : List Int} {p : Piece} (hr : Bytes r) (hp : Bytes p.2) : Bytes (laidF r p.1 p.2) := bytes_of fun k _ => by
  rw [laidF_byte]
  unfold stepB
  split
  · rw [List.getD_eq_getElem?_getD]; exact bytes_getD hp _
  · exact bytes_getD hr k
theorem allF_good : ∀ (ps : List Piece) (r : List Int), Bytes r → r.length ≤ 740 → (∀ p ∈ ps, Small p) → Bytes (allF r ps) ∧ (allF r ps).length ≤ 740
  | [], r, hb, hl, _ => ⟨hb, hl⟩
  | p :: q, r, hb, hl, hp => by
    have h1 := hp p (List.mem_cons_self ..)
    refine allF_good q (laidF r p.1 p.2) (laid_bytes hb h1.2.2) ?_ (fun z hz => hp z (List.mem_cons_of_mem _ hz))
    exact laidF_le ⟨hl, by have := h1.1; have := h1.2.1; omega⟩

/-! pieces in the heap -/
def PieceAt (H : Hp) (v : V) (p : Piece) : Prop := ∃ T D : Addr, v = .ref T ∧ H T = some (.tup [.int (p.1 : Nat), .ref D]) ∧ H D = some (.lst (p.2.map V.int))
def Pieces (H : Hp) (vs : List V) (ps : List Piece) : Prop := vs.length = ps.length ∧ ∀ (i : Nat) (v : V) (p : Piece), vs[i]? = some v → ps[i]? = some p → PieceAt H v p
theorem PieceAt.mono {H H' : Hp} {v : V} {p : Piece} (s : Same H H') (h : PieceAt H v p) : PieceAt H' v p := by
  obtain ⟨T, D, e, h1, h2⟩ := h
  exact ⟨T, D, e, s _ _ h1, s _ _ h2⟩
theorem Pieces.mono {H H' : Hp} {vs : List V} {ps : List Piece} (s : Same H H') (h : Pieces H vs ps) : Pieces H' vs ps :=
  ⟨h.1, fun i v p a b => (h.2 i v p a b).mono s⟩
theorem Pieces.at {H : Hp} {vs : List V} {ps : List Piece} {i : Nat} {v : V} (h : Pieces H vs ps) (e : vs[i]? = some v) : ∃ hi : i < ps.length, PieceAt H v ps[i] := by
  have hi : i < ps.length := by
    have := (List.getElem?_eq_some_iff.mp e).1
    rw [h.1] at this; exact this
  exact ⟨hi, h.2 i v _ e (List.getElem?_eq_getElem hi)⟩
theorem Pieces.nil {H : Hp} : Pieces H [] [] := ⟨rfl, fun i v p a => by simp at a⟩
theorem Pieces.append {H : Hp} {vs us : List V} {ps qs : List Piece} (h : Pieces H vs ps) (k : Pieces H us qs) : Pieces H (vs ++ us) (ps ++ qs) := by
  refine ⟨by rw [List.length_append, List.length_append, h.1, k.1], fun i v p a b => ?_⟩
  by_cases hi : i < vs.length
  · rw [List.getElem?_append_left hi] at a
    rw [List.getElem?_append_left (by rw [← h.1]; exact hi)] at b
    exact h.2 i v p a b
  · rw [List.getElem?_append_right (by omega)] at a
    rw [List.getElem?_append_right (by rw [← h.1]; omega), ← h.1] at b
    exact k.2 _ v p a b
theorem Pieces.one {H : Hp} {v : V} {p : Piece} (h : PieceAt H v p) : Pieces H [v] [p] := ⟨rfl, fun i w q a b => by
  cases i with
  | zero =>
    have e1 : v = w := Option.some.inj a
    have e2 : p = q := Option.some.inj b
    rw [← e1, ← e2]; exact h
  | succ i => simp at a⟩
theorem Pieces.take {H : Hp} {vs : List V} {ps : List Piece} (h : Pieces H vs ps) (n : Nat) : Pieces H (vs.take n) (ps.take n) := by
  refine ⟨by rw [List.length_take, List.length_take, h.1], fun i v p a b => ?_⟩
  have hi : i < n := by
    have := (List.getElem?_eq_some_iff.mp a).1
    rw [List.length_take] at this; omega
  rw [List.getElem?_take_of_lt hi] at a b
  exact h.2 i v p a b
theorem Pieces.drop {H : Hp} {vs : List V} {ps : List Piece} (h : Pieces H vs ps) (n : Nat) : Pieces H (vs.drop n) (ps.drop n) := by
  refine ⟨by rw [List.length_drop, List.length_drop, h.1], fun i v p a b => ?_⟩
  rw [List.getElem?_drop] at a b
  exact h.2 _ v p a b
theorem cut_to (xs : List V) (n : Nat) (h : n ≤ xs.length) : cutV xs none (some (n : Int)) = xs.take n := by
  unfold cutV
  rw [HT.sIx_none, HT.sIx_nat, Nat.min_eq_left h]; rfl
theorem cut_from (xs : List V) (n : Nat) (h : n ≤ xs.length) : cutV xs (some (n : Int)) none = xs.drop n := by
  unfold cutV
  rw [HT.sIx_none, HT.sIx_nat, Nat.min_eq_left h]
  exact List.take_of_length_le (by rw [List.length_drop]; omega)
theorem split_at {α : Type} {ps : List α} {i : Nat} (hi : i < ps.length) : ps.take i ++ [ps[i]] ++ ps.drop (i + 1) = ps := by
  rw [List.append_assoc]
  show ps.take i ++ (ps[i] :: ps.drop (i + 1)) = ps
  rw [List.getElem_cons_drop, List.take_append_drop]
theorem foldl_next {α β : Type} (f : β → α → β) (b : β) (xs : List α) (i : Nat) (hi : i < xs.length) : (xs.take (i + 1)).foldl f b = f ((xs.take i).foldl f b) xs[i] := by
  rw [List.take_add_one, List.getElem?_eq_getElem hi, List.foldl_append]; rfl

def spBytesM (K : PySem.W.Frag) : Sp := fun vs H Q _ => ∃ (p m : Addr) (n : Int) (o : HO) (ms : List Int), vs = [.ref p, .ref m] ∧ H p = some o ∧ PoolO n o ∧ n ≤ 900000000 ∧ SqL K H m (ms.map V.int) ∧ p ≠ m ∧ ms ≠ [] ∧ ms.length ≤ 100 ∧ (∀ z ∈ ms, 0 ≤ z ∧ z ≤ 400) ∧
  ∀ (H' : Hp) (q : Addr) (bs : List Int) (o' : HO), H q = none → H' q = some (.lst (bs.map V.int)) → H' p = some o' → PoolO (n + 1000) o' → Kp [p] H H' → (∃ z ∈ ms, (bs.length : Int) = z) → Bytes bs → Q (.ref q) H'
def spDueP (K : PySem.W.Frag) : Sp := fun vs H Q _ => ∃ (a b : Addr) (r : List Int) (us : List V) (ps : List Piece), vs = [.ref a, .ref b] ∧ SqL K H a (r.map V.int) ∧ SqL K H b us ∧ Pieces H us ps ∧ r.length ≤ 740 ∧ Bytes r ∧ (∀ p ∈ ps, Small p) ∧ ps.length ≤ 100 ∧
  ∀ (H' : Hp) (q : Addr), H q = none → H' q = some (.lst ((allF r ps).map V.int)) → Same H H' → Q (.ref q) H'
/-! what stands apart from some places -/
def mask (qs : List Addr) (H : Hp) : Hp := fun b => if b ∈ qs then none else H b
theorem mask_le (qs : List Addr) (H : Hp) : Same (mask qs H) H := fun b o e => by
  unfold mask at e
  split at e
  · cases e
  · exact e
theorem mask_upd {qs : List Addr} {H : Hp} {q : Addr} {o : HO} (h : q ∈ qs) : mask qs (upd H q o) = mask qs H := by
  funext b
  unfold mask
  split
  · rfl
  · next n =>
    have : b ≠ q := fun z => n (by rw [z]; exact h)
    rw [upd_ne this]
theorem mask_kp {qs : List Addr} {H H' : Hp} (k : Kp qs H H') : Same (mask qs H) (mask qs H') := fun b o e => by
  unfold mask at e ⊢
  split at e
  · cases e
  · next n => rw [if_neg n]; exact k b o n e
theorem mask_at {qs : List Addr} {H : Hp} {b : Addr} (h : b ∉ qs) : mask qs H b = H b := if_neg h
theorem Kp.sub {ps qs : List Addr} {H H' : Hp} (k : Kp ps H H') (h : ∀ x ∈ ps, x ∈ qs ∨ H x = none) : Kp qs H H' := fun b o n e => by
  refine k b o (fun z => ?_) e
  rcases h b z with h | h
  · exact n h
  · rw [h] at e; cases e
def Tiny (p : Piece) : Prop := p.1 ≤ 299 ∧ p.2.length ≤ 40 ∧ Bytes p.2
theorem Tiny.small {p : Piece} (h : Tiny p) : Small p := ⟨by have := h.1; omega, by have := h.2.1; omega, h.2.2⟩
end Sip
namespace Sip
open PySem PySem.Spec PyProof.Rows L2 TL

/-! an object with all that is its own (F): what a call may change -/
def Step (F : Addr → Prop) (H : Hp) (F' : Addr → Prop) (H' : Hp) : Prop := (∀ b o, ¬ F b → H b = some o → H' b = some o) ∧ ∀ b, F' b → F b ∨ H b = none
theorem Step.keep {F F' : Addr → Prop} {H H' : Hp} {b : Addr} {o : HO} (s : Step F H F' H') (n : ¬ F b) (e : H b = some o) : H' b = some o ∧ ¬ F' b :=
  ⟨s.1 b o n e, fun z => (s.2 b z).elim n fun q => by rw [q] at e; cases e⟩
/-- own objects made since H0 alone -/
theorem Step.since {F F' : Addr → Prop} {H0 H H' : Hp} (s : Step F H F' H') (a : Same H0 H) (n : ∀ b, F b → H0 b = none) : Same H0 H' ∧ ∀ b, F' b → H0 b = none := by
  refine ⟨fun b o e => s.1 b o (fun z => by rw [n b z] at e; cases e) (a b o e), fun b z => ?_⟩
  rcases s.2 b z with q | q
  · exact n b q
  · exact a.free q
theorem Step.of {F : Addr → Prop} {H H' : Hp} (s : Same H H') : Step F H F H' := ⟨fun b o _ e => s b o e, fun b z => .inl z⟩
theorem Step.trans {F F' F2 : Addr → Prop} {H H' H2 : Hp} (a : Step F H F' H') (b : Step F' H' F2 H2) : Step F H F2 H2 := by
  refine ⟨fun x o n e => b.1 x o (a.keep n e).2 (a.keep n e).1, fun x z => ?_⟩
  rcases b.2 x z with q | q
  · exact a.2 x q
  · by_cases f : F x
    · exact .inl f
    · cases e : H x with
      | none => exact .inr rfl
      | some o => rw [a.1 x o f e] at q; cases q

/-- a plain file in the heap, however it keeps its row: heap, address, what is its own, row, cursor -/
abbrev PP := Hp → Addr → (Addr → Prop) → List Int → Nat → Prop
structure IsPlain (C : Addr) (PA : PP) : Prop where
  loc : ∀ {H H' : Hp} {p : Addr} {F : Addr → Prop} {r : List Int} {c : Nat}, PA H p F r c → (∀ b o, F b → H b = some o → H' b = some o) → PA H' p F r c
  own : ∀ {H : Hp} {p : Addr} {F : Addr → Prop} {r : List Int} {c : Nat}, PA H p F r c → ∀ b, F b → ∃ o, H b = some o
  ins : ∀ {H : Hp} {p : Addr} {F : Addr → Prop} {r : List Int} {c : Nat}, PA H p F r c → ∃ dx fs, H p = some (.ins C dx fs) ∧ ∀ m ∈ (["read", "read_some", "peek", "readline", "write", "seek", "tell", "size", "row", "cut"] : List Str), fs.lookup m = none
theorem IsPlain.same {C : Addr} {PA : PP} (I : IsPlain C PA) {H H' : Hp} {p : Addr} {F : Addr → Prop} {r : List Int} {c : Nat} (h : PA H p F r c) (s : Same H H') : PA H' p F r c := I.loc h fun b o _ e => s b o e
theorem IsPlain.kp {C : Addr} {PA : PP} (I : IsPlain C PA) {H H' : Hp} {qs : List Addr} {p : Addr} {F : Addr → Prop} {r : List Int} {c : Nat} (h : PA H p F r c) (k : Kp qs H H') (n : ∀ q ∈ qs, ¬ F q) : PA H' p F r c :=
  I.loc h fun b o f e => k b o (fun z => n b z f) e
theorem IsPlain.new {C : Addr} {PA : PP} (I : IsPlain C PA) {H : Hp} {q p : Addr} {F : Addr → Prop} {r : List Int} {c : Nat} (h : PA H p F r c) (n : H q = none) : ¬ F q := fun f => by
  obtain ⟨o, e⟩ := I.own h q f
  rw [n] at e; cases e

def spPInit (K : PySem.W.Frag) (C : Addr) (PA : PP) : Sp := fun vs H Q _ => ∃ (p a dx : Addr) (r : List Int) (c : Nat), vs = [.ref p, .ref a, .int c] ∧ H p = some (.ins C dx []) ∧ H dx = some (.own p) ∧ SqL K H a (r.map V.int) ∧ p ≠ a ∧ r.length ≤ 400 ∧ c ≤ 4000 ∧
  ∀ (H' : Hp) (F' : Addr → Prop), PA H' p F' r c → Step (fun b => b = p ∨ b = dx) H F' H' → Q .non H'
def spPTell (PA : PP) : Sp := fun vs H Q _ => ∃ (p : Addr) (F : Addr → Prop) (r : List Int) (c : Nat), vs = [.ref p] ∧ PA H p F r c ∧ Q (.int c) H
def spPSize (PA : PP) : Sp := fun vs H Q _ => ∃ (p : Addr) (F : Addr → Prop) (r : List Int) (c : Nat), vs = [.ref p] ∧ PA H p F r c ∧ Q (.int r.length) H
def spPRow (PA : PP) : Sp := fun vs H Q _ => ∃ (p : Addr) (F : Addr → Prop) (r : List Int) (c : Nat), vs = [.ref p] ∧ PA H p F r c ∧ ∀ (H' : Hp) (q : Addr), H q = none → H' q = some (.lst (r.map V.int)) → Same H H' → Q (.ref q) H'
def spPSeek (PA : PP) : Sp := fun vs H Q _ => ∃ (p : Addr) (F : Addr → Prop) (r : List Int) (c g : Nat) (pl : Int) (st : Str), vs = [.ref p, .int pl, .str st] ∧ PA H p F r c ∧
  ((st = Str.ofString "head" ∧ (g : Int) = pl) ∨ (st = Str.ofString "here" ∧ (g : Int) = c + pl) ∨ (st = Str.ofString "tail" ∧ (g : Int) = r.length + pl)) ∧ g ≤ 4000 ∧ ∀ (H' : Hp) (F' : Addr → Prop), PA H' p F' r g → Step F H F' H' → Q (.int g) H'
def spPCut (PA : PP) : Sp := fun vs H Q _ => ∃ (p : Addr) (F : Addr → Prop) (r : List Int) (c g : Nat) (v : V), vs = [.ref p, v] ∧ PA H p F r c ∧ ((v = .non ∧ g = c) ∨ v = .int g) ∧ g ≤ 4000 ∧ ∀ (H' : Hp) (F' : Addr → Prop), PA H' p F' (r.take g) c → Step F H F' H' → Q .non H'
def spPWrite (PA : PP) : Sp := fun vs H Q _ => ∃ (p b : Addr) (F : Addr → Prop) (r : List Int) (c : Nat) (d : List Int), vs = [.ref p, .ref b] ∧ PA H p F r c ∧ ¬ F b ∧ H b = some (.lst (d.map V.int)) ∧ Bytes d ∧ r.length ≤ 4000 ∧ c ≤ 4000 ∧ d.length ≤ 400 ∧ (laidF r c d).length ≤ 4000 ∧
  ∀ (H' : Hp) (F' : Addr → Prop), PA H' p F' (laidF r c d) (c + d.length) → Step F H F' H' → Q (.int d.length) H'
/-- a place drawn for a row of n bytes -/
def spGoal (K : PySem.W.Frag) : Sp := fun vs H Q _ => ∃ (p x : Addr) (n : Int) (o : HO) (r : List Int), vs = [.ref p, .ref x] ∧ H p = some o ∧ PoolO n o ∧ n ≤ 900000000 ∧ SqL K H x (r.map V.int) ∧ p ≠ x ∧ r.length ≤ 5000 ∧
  ∀ (H' : Hp) (g : Nat) (o' : HO), g ≤ max (r.length + 20) 4000 → H' p = some o' → PoolO (n + 4) o' → Kp [p] H H' → Q (.int g) H'
def spSought (K : PySem.W.Frag) (PA : PP) : Sp := fun vs H Q _ => ∃ (p x : Addr) (F : Addr → Prop) (r : List Int) (c g : Nat) (way : Int), vs = [.ref p, .int way, .int g, .ref x, .int c] ∧ 0 ≤ way ∧ way ≤ 3 ∧ PA H p F r c ∧ SqL K H x (r.map V.int) ∧ g ≤ 4000 ∧
  ∀ (H' : Hp) (F' : Addr → Prop), PA H' p F' r g → Step F H F' H' → Q (.int g) H'
def spCutL (PA : PP) : Sp := fun vs H Q _ => ∃ (p : Addr) (F : Addr → Prop) (r : List Int) (c g : Nat) (way : Int), vs = [.ref p, .int way, .int g] ∧ 0 ≤ way ∧ way ≤ 2 ∧ (way < 2 → g = c) ∧ PA H p F r c ∧ g ≤ 4000 ∧
  ∀ (H' : Hp) (F' : Addr → Prop), PA H' p F' (r.take g) c → Step F H F' H' → Q .non H'
theorem take_cut (r : List Int) (g : Nat) : cutV (r.map V.int) none (some (g : Int)) = (r.take g).map V.int := by
  unfold cutV
  rw [HT.sIx_none, HT.sIx_nat, List.length_map, List.map_take]
  show (r.map V.int).take (min g r.length - 0) = _
  by_cases h : g ≤ r.length
  · rw [Nat.min_eq_left h]; rfl
  · rw [Nat.min_eq_right (by omega), List.take_of_length_le (by rw [List.length_map]; omega), List.take_of_length_le (by rw [List.length_map]; omega)]
theorem drop_cut (r : List Int) (g : Nat) : cutV (r.map V.int) (some (g : Int)) none = (r.drop g).map V.int := by
  unfold cutV
  rw [HT.sIx_none, HT.sIx_nat, List.length_map, List.map_drop]
  by_cases h : g ≤ r.length
  · rw [Nat.min_eq_left h]
    exact List.take_of_length_le (by rw [List.length_drop, List.length_map]; omega)
  · rw [Nat.min_eq_right (by omega), List.drop_of_length_le (by rw [List.length_map]; omega), List.drop_of_length_le (l := r.map V.int) (by rw [List.length_map]; omega)]
    simp
/-- one byte laid over by hand -/
theorem laid_one (r : List Int) (c : Nat) (v : Int) : (r ++ List.replicate (c - r.length) 0).take c ++ [v] ++ r.drop (c + 1) = laidF r c [v] := by
  rw [laidF_cons (by simp)]
  congr 1
  by_cases h : c + 1 ≤ r.length
  · rw [show c - r.length = 0 by omega]; simp
  · rw [List.drop_of_length_le (l := r) (by omega), List.drop_of_length_le]
    rw [List.length_append, List.length_replicate]
    show _ ≤ c + 1
    omega
end Sip
namespace Sip
open PySem PySem.Spec PyProof.Rows L2 TL
/-! a heap by name: what was made, what was written -/
theorem updG {H H' : Hp} {q : Addr} {o : HO} (g : upd H q o = H') (n : H q = none) : H' q = some o ∧ Same H H' := by
  subst g; exact ⟨upd_same, (Kp.new (ps := []) n).same⟩
theorem updK {H H' : Hp} {q : Addr} {o : HO} (g : upd H q o = H') : H' q = some o ∧ Kp [q] H H' := by
  subst g; exact ⟨upd_same, Kp.at (by simp)⟩
theorem neN {H : Hp} {p x : Addr} {o : HO} (n : H p = none) (e : H x = some o) : x ≠ p := ne_of_none e n
theorem neM {H : Hp} {p x : Addr} {o : HO} (n : H x = none) (e : H p = some o) : x ≠ p := (ne_of_none e n).symm
theorem kp1 {H H' : Hp} {p x : Addr} {o : HO} (k : Kp [p] H H') (n : x ≠ p) (e : H x = some o) : H' x = some o := k x o (by simpa using n) e
theorem sm1 {H H' : Hp} {x : Addr} {o : HO} (k : Same H H') (e : H x = some o) : H' x = some o := k x o e
theorem sqS {K : PySem.W.Frag} {H H' : Hp} {a : Addr} {l : List V} (s : Same H H') (h : SqL K H a l) : SqL K H' a l := s.seq h
theorem sqK {K : PySem.W.Frag} {H H' : Hp} {p a : Addr} {l : List V} (s : Kp [p] H H') (n : a ≠ p) (h : SqL K H a l) : SqL K H' a l := s.seq (by simpa using n) h
end Sip
namespace Sip
open PySem PySem.Spec PyProof.Rows L2 TL
theorem mapI_nil : ([] : List V) = List.map V.int [] := rfl
theorem mapI_cons {a : Int} {l : List V} {ms : List Int} (h : l = List.map V.int ms) : V.int a :: l = List.map V.int (a :: ms) := by rw [h]; rfl
theorem sq_lit {K : PySem.W.Frag} {H : Hp} {m : Addr} {l : List V} {ms : List Int} (h : H m = some (.lst l)) (e : l = ms.map V.int) : SqL K H m (ms.map V.int) := by rw [← e]; exact sq_at h
theorem hp_lit {H : Hp} {m : Addr} {l : List V} {ms : List Int} (h : H m = some (.lst l)) (e : l = ms.map V.int) : H m = some (.lst (ms.map V.int)) := by rw [← e]; exact h
end Sip
namespace Sip
open PySem PySem.Spec PyProof.Rows L2 TL
theorem iteFc {b : Bool} {A B : Prop} (e : b = false) (h : B) : if b = true then A else B := by subst e; exact iteF h
theorem iteTc {b : Bool} {A B : Prop} (e : b = true) (h : A) : if b = true then A else B := by subst e; exact iteT h
theorem free1 {H H' : Hp} {l : Addr} (h : H' l = none) (e : Same H H') : H l = none := e.free h
theorem same_tr {H H1 H2 : Hp} (b : Same H1 H2) (a : Same H H1) : Same H H2 := a.trans b
theorem step_sm {H H1 H2 : Hp} {p : Addr} (k : Kp [p] H1 H2) (n : H p = none) (s : Same H H1) : Same H H2 := step_same s n k
end Sip
namespace Sip
open PySem PySem.Spec PyProof.Rows L2 TL
theorem upd_get {H : Hp} {a b : Addr} {o u : HO} (n : b ≠ a) (e : H b = some u) : upd H a o b = some u := by rw [upd_ne n]; exact e
end Sip
namespace Sip
open PySem PySem.Spec PyProof.Rows L2 TL
/-- an object made: the older ones stay, and are not its own -/
theorem made_new {H H5 : Hp} {f dx : Addr} {o1 o2 : HO} {F : Addr → Prop} (st : Step (fun b => b = f ∨ b = dx) (upd (upd H dx o2) f o1) F H5) (nf : H f = none) (nd : H dx = none) : Same H H5 ∧ ∀ b o, H b = some o → ¬ F b := by
  have k : ∀ b o, H b = some o → H5 b = some o ∧ ¬ F b := fun b o e => by
    have bf : b ≠ f := ne_of_none e nf
    have bd : b ≠ dx := ne_of_none e nd
    exact st.keep (fun z => z.elim bf bd) (by rw [upd_ne bf, upd_ne bd]; exact e)
  exact ⟨fun b o e => (k b o e).1, fun b o e => (k b o e).2⟩
end Sip
namespace Sip
open PySem PySem.Spec PyProof.Rows L2 TL
theorem sqA {K : PySem.W.Frag} {H H' : Hp} {a : Addr} {l : List V} (h : SqL K H a l) (s : Same H H') : SqL K H' a l := s.seq h
end Sip
namespace Sip
open PySem PySem.Spec PyProof.Rows L2 TL
theorem sqB {K K' : PySem.W.Frag} {H H' : Hp} {a : Addr} {l : List V} (h : SqL K H a l) (s : Same H H') (e : K = K') : SqL K' H' a l := e ▸ s.seq h
end Sip
namespace Sip
open PySem PySem.Spec PyProof.Rows L2 TL
/-- what may be found by the way (no word over a frame) -/
class Wit (α : Type) : Prop where
  ok : True
instance : Wit V := ⟨trivial⟩
instance : Wit Int := ⟨trivial⟩
instance : Wit Nat := ⟨trivial⟩
instance : Wit Bool := ⟨trivial⟩
instance : Wit HO := ⟨trivial⟩
instance : Wit Str := ⟨trivial⟩
instance : Wit Value := ⟨trivial⟩
instance : Wit (Addr → Prop) := ⟨trivial⟩
instance {α β : Type} [Wit α] [Wit β] : Wit (α × β) := ⟨trivial⟩
instance {α : Type} [Wit α] : Wit (Option α) := ⟨trivial⟩
instance {α : Type} [Wit α] : Wit (List α) := ⟨trivial⟩
theorem exI {α : Type} [Wit α] {p : α → Prop} (a : α) (h : p a) : ∃ x, p x := ⟨a, h⟩
end Sip
namespace Sip
open PySem PySem.Spec PyProof.Rows L2 TL
theorem isi_ii {K : PySem.W.Frag} {v : Int} {H : Hp} {Q : VK} (h : Q (.bl true) H) : rIsi K [.int v, .ty "int"] H Q := ⟨.int v, .ty "int", _, _, true, rfl, .ty "int", .base (.int v), kit_ty (by decide +kernel), h⟩
theorem isi_ib {K : PySem.W.Frag} {v : Int} {H : Hp} {Q : VK} (h : Q (.bl false) H) : rIsi K [.int v, .ty "bool"] H Q := ⟨.int v, .ty "bool", _, _, false, rfl, .ty "bool", .base (.int v), kit_ty (by decide +kernel), h⟩
end Sip
namespace Sip
open PySem PySem.Spec PyProof.Rows L2

/-! del xs[lo:hi] -/
def delL {α : Type} (xs : List α) (a c : Nat) : List α := xs.take a ++ xs.drop (max a c)
theorem sel_filter {α : Type} (sel : Nat → Bool) (a c : Nat) (h : ∀ k, sel k = (decide (a ≤ k) && decide (k < c))) (xs : List α) :
    ∀ j, (xs.zipIdx j).filterMap (fun p => if sel p.2 = true then none else some p.1) = xs.take (a - j) ++ xs.drop (max (a - j) (c - j)) := by
  induction xs with
  | nil => intro j; simp
  | cons x r ih =>
    intro j
    rw [List.zipIdx_cons, List.filterMap_cons]
    have e := h j
    by_cases h1 : a ≤ j
    · by_cases h2 : j < c
      · rw [decide_eq_true h1, decide_eq_true h2] at e
        have e' : sel j = true := e
        simp only [e', if_true]
        rw [ih (j + 1)]
        have : a - j = 0 := by omega
        have : a - (j + 1) = 0 := by omega
        have : c - j = (c - (j + 1)) + 1 := by omega
        simp [*]
      · rw [decide_eq_true h1, decide_eq_false h2] at e
        have e' : ¬ (sel j = true) := by rw [e]; decide
        simp only [if_neg e']
        rw [ih (j + 1)]
        have : a - j = 0 := by omega
        have : a - (j + 1) = 0 := by omega
        have : c - j = 0 := by omega
        have : c - (j + 1) = 0 := by omega
        simp [*]
    · rw [decide_eq_false h1] at e
      have e' : ¬ (sel j = true) := by rw [e]; simp
      simp only [if_neg e']
      rw [ih (j + 1)]
      have e1 : a - j = (a - (j + 1)) + 1 := by omega
      have e2 : max (a - j) (c - j) = max (a - (j + 1)) (c - (j + 1)) + 1 := by omega
      rw [e2, e1, List.take_succ_cons, List.drop_succ_cons]
      rfl
def selF (a c : Nat) (i : Nat) : Bool :=
  if (1 : Int) > 0 then (a : Int) ≤ i && i < (c : Int) && (i - (a : Int)) % 1 == 0
  else (c : Int) < i && i ≤ (a : Int) && ((a : Int) - i) % (-1) == 0
theorem selF_eq (a c k : Nat) : selF a c k = (decide (a ≤ k) && decide (k < c)) := by
  unfold selF
  rw [if_pos (by decide)]
  have : ((k : Int) - (a : Int)) % 1 = 0 := by omega
  rw [this]
  simp
theorem selF_fun (a c : Nat) : (fun xs : Array Value => (List.filterMap (fun x => if selF a c x.snd = true then none else some x.fst) xs.toList.zipIdx).toArray) = fun t => (delL t.toList a c).toArray := by
  funext t
  have := sel_filter (selF a c) a c (selF_eq a c) t.toList 0
  rw [Nat.sub_zero, Nat.sub_zero] at this
  exact congrArg _ this
theorem sel_fun {sel : Nat → Bool} {a c : Nat} (h : ∀ k, sel k = selF a c k) : (fun xs : Array Value => (List.filterMap (fun x => if sel x.snd = true then none else some x.fst) xs.toList.zipIdx).toArray) = fun t => (delL t.toList a c).toArray := by
  have e : sel = selF a c := funext h
  subst e
  exact selF_fun a c
section
variable {pr : Program} {wd : World} {ar : Around} {er : Value → Shared → Prop} {s : Shared}
set_option maxHeartbeats 4000000 in
theorem del_slice {l z : Addr} {old : Array Value} {m a c : Nat} {lo hi : Option Int} {vl vu : Value} {Q : Unit → Shared → Prop}
    (eo : s.heap.get? l = some { cls := .type "list", data := .seq old m })
    (hz : s.heap.IsSliceOf z vl vu .none) (pl : IsPart vl lo) (pu : IsPart vu hi)
    (bd : sliceBounds lo hi none old.size = ((a : Int), (c : Int), 1)) (fit : old.size ≤ sizeLine)
    (k : Q () { s with heap := s.heap.update l (Obj.mapSeq fun t => (delL t.toList a c).toArray) }) :
    wpAny (model pr wd) ar (delItem (.ref l) (.ref z)) Q er s := by
  have lo' : s.heap.IsList l old := PySem.IsL.isList eo
  obtain ⟨oz, gz, cz, dz⟩ := id hz
  have tz : s.TypeIs (.ref z) "slice" := ⟨oz, gz, cz⟩
  refine wpAny_delItem_slot lo'.typeIs (by decide) PySem.F.slot_list_delitem ?_
  refine wpAny_call_entry PySem.F.slot_list_delitem lo'.typeIs PySem.F.entry_list_delitem ?_ (PySem.F.args_list_delitem_2 _ _)
  show wpAny _ _ (Builtin.List.listSubscript? (.ref z) >>= _) _ _ s
  refine wpAny_bind ?_
  unfold Builtin.List.listSubscript?
  refine wpAny_bind (wpAny_specialOf tz slice_no_index ?_)
  simp only [Option.isNone_none, if_true]
  refine wpAny_pure ?_
  show wpAny _ _ (typeOf (.ref z) >>= _) _ _ s
  refine wpAny_bind (wpAny_typeOf tz ?_)
  first
    | rw [if_neg (by decide)]
    | refine PySem.W.KFB.if_not (by decide) ?_
  rw [listSliceParts_eq]
  refine wpAny_bind (wpAny_bind (wpAny_field gz dz (x := .none) rfl (wpAny_bind (wpAny_listPart .none ?_))))
  rw [if_neg (show ¬ ((rawPart none == rawInt 0) = true) from Bool.false_ne_true)]
  refine wpAny_bind (wpAny_field gz dz (x := vl) rfl (wpAny_bind (wpAny_listPart pl ?_)))
  refine wpAny_bind (wpAny_field gz dz (x := vu) rfl (wpAny_bind (wpAny_listPart pu (wpAny_pure ?_))))
  unfold Builtin.List.listItems
  refine wpAny_bind (wpAny_bind (wpAny_seqItems eo rfl (wpAny_pure ?_)))
  have si := (sliceIndices_raw lo hi none old.size (by simp)).trans (congrArg (pure : Int × Int × Int → Sem (Int × Int × Int)) bd)
  refine wpAny_bind (wpAny_of_eq si ?_)
  refine wpAny_bind (wpAny_rule ?_)
  refine wpAny_bind ?_
  unfold Builtin.List.listUpdate
  simp only []
  rw [sel_fun (a := a) (c := c) (fun k => by with_unfolding_all rfl)]
  have zz : ((fun t : Array Value => (delL t.toList a c).toArray) old).size ≤ sizeLine + 1 := by
    show (delL old.toList a c).toArray.size ≤ _
    rw [List.size_toArray]
    unfold delL
    rw [List.length_append, List.length_take, List.length_drop, Array.length_toList]; omega
  refine wpAny_updateSeq (hz := fit) (_hz' := zz) eo rfl (wpAny_bind (wpAny_letGo ?_))
  first
    | with_reducible exact wpAny_pure ⟨.none, rfl, k⟩
    | exact wpAny_bind (wpAny_pure (wpAny_pure ⟨.none, rfl, k⟩))
    | exact wpAny_pure ⟨.none, rfl, k⟩
end
/-- what is left of a list whose part from lo to hi is deleted -/
def delV (xs : List V) (lo hi : Option Int) : List V := delL xs (HT.sIx xs.length 0 lo) (HT.sIx xs.length xs.length hi)
theorem bounds_sIx (lo hi : Option Int) (n : Nat) : sliceBounds lo hi none n = ((HT.sIx n 0 lo : Int), (HT.sIx n n hi : Int), 1) := by
  have f : ∀ (v : Option Int) (d : Nat), d ≤ n → (match v with | none => (d : Int) | some i => max 0 (min (if i < 0 then i + (n : Int) else i) (n : Int))) = (HT.sIx n d v : Int) ∨ (∃ i, v = some i ∧ i < 0 ∧ i + (n : Int) > n) := by
    intro v d hd
    cases v with
    | none => exact .inl rfl
    | some i =>
      left
      show max 0 (min (if i < 0 then i + (n : Int) else i) (n : Int)) = ((if i < 0 then (i + (n : Int)).toNat else min i.toNat n : Nat) : Int)
      split <;> omega
  have f1 := (f lo 0 (by omega)).resolve_right (by rintro ⟨i, _, h1, h2⟩; omega)
  have f2 := (f hi n (by omega)).resolve_right (by rintro ⟨i, _, h1, h2⟩; omega)
  rw [← f1, ← f2]
  unfold sliceBounds
  cases lo <;> cases hi <;> rfl
section
variable {X : Cx} {pos : Pos}
def tDelS (to : TE) (tl th : TO) : TS := fun D σ H => to σ H fun o H1 => tl σ H1 fun lo H2 => th σ H2 fun hi H3 => ∃ (l : Addr) (xs : List V), o = .ref l ∧ H3 l = some (.lst xs) ∧ D.nx σ (upd H3 l (.lst (delV xs lo hi)))
theorem ps_delS {o : Expr} {lo hi : Option Expr} {to : TE} {tl th : TO} {p2 tpos : Pos} (ho : PE X o to) (hl : PO X lo tl) (hh : PO X hi th) : PS X (.Delete [.Subscript o (.Slice lo hi none p2) tpos] pos) (tDelS to tl th) := by
  refine ⟨fun pins s σ H D I h => ?_⟩
  refine wpAny_Delete (wpAny_deleteEach_cons (wpAny_delete_Subscript (thn (ho.run pins s σ H _ I h) fun ov s1 ⟨x, H1, I1, r1, q1⟩ => ?_)))
  refine wpAny_Slice (thn (hl.run pins s1 σ H1 _ I1 q1) fun wl s2 ⟨l, H2, I2, pl, q2⟩ => ?_)
  refine thn (hh.run pins s2 σ H2 _ I2 q2) fun wu s3 ⟨uu, H3, I3, pu, q3⟩ => ?_
  rw [evalPart_none]
  refine wpAny_pure ?_
  obtain ⟨p, xs, rfl, hp, fin⟩ := q3
  cases r1
  have I4 : Inv X pins σ H3 { s3 with heap := s3.heap.push { cls := .type "slice", data := .fields #[wl, wu, .none] } } := I3.kept (t' := s3.toks) fun b ob e => Heap.get?_push_of_some _ e
  obtain ⟨z1, us1, n1, rv1, hz1, e1⟩ := I4.lstM hp
  have L1 := rv1.length
  refine del_slice (a := HT.sIx xs.length 0 l) (c := HT.sIx xs.length xs.length uu) e1 (Heap.IsSliceOf.new ..) pl pu (by rw [List.size_toArray, ← L1]; exact bounds_sIx _ _ _) (by rw [List.size_toArray]; omega) ?_
  refine wpAny_deleteEach_nil ⟨σ, _, ?_, fin⟩
  refine I4.lset (its' := delL us1 (HT.sIx xs.length 0 l) (HT.sIx xs.length xs.length uu)) (t' := s3.toks) hp e1 rfl (Vals.append (rv1.take _) (rv1.drop _)) ?_
  show (delL _ _ _).length ≤ _
  unfold delL
  rw [List.length_append, List.length_take, List.length_drop]
  omega
end
end Sip
namespace Sip
open PySem PySem.Spec PyProof.Rows L2 TL
/-- for i, x in enumerate(xs), the list standing -/
theorem for_enum {K : PySem.W.Frag} {a : Addr} {xs : List V} {g : TG} {tb : TS} {D : Ends} {σ : L2.St} {H : Hp} (Pv : Nat → L2.St → Hp → Prop) (h0 : Pv 0 σ H) (hl : ∀ i σ H, i ≤ xs.length → Pv i σ H → SqL K H a xs)
    (hs : ∀ i x σ H T, xs[i]? = some x → Pv i σ H → H T = none → g (.ref T) σ (upd H T (.tup [.int (i : Nat), x])) fun σ2 H2 => tb { D with nx := Pv (i + 1), ct := Pv (i + 1), bk := D.nx } σ2 H2) (hd : ∀ σ H, Pv xs.length σ H → D.nx σ H) :
    ∃ W : Nat → Nat → L2.St → Hp → Prop, (∃ m, W 0 m σ H) ∧ ∀ i m σ H, W i m σ H →
      ((Ite K a).stop i H ∧ D.nx σ H) ∨ ((Ite K a).go i H ∧ ∃ N : L2.St → Hp → Prop, (∀ σ' H', N σ' H' → ∃ m', m' < m ∧ W (i + 1) m' σ' H') ∧ ∀ x H', (Ite K a).yld i H x H' → g x σ H' fun σ2 H2 => tb { D with nx := N, ct := N, bk := D.nx } σ2 H2) := by
  refine ⟨fun i m σ H => m = xs.length - i ∧ i ≤ xs.length ∧ Pv i σ H, ⟨xs.length, by simp, Nat.zero_le _, h0⟩, ?_⟩
  rintro i m σ H ⟨rfl, hi, p⟩
  have q := hl i σ H hi p
  by_cases hlt : i < xs.length
  · refine .inr ⟨⟨xs, xs[i], q, by simp [hlt]⟩, Pv (i + 1), fun σ' H' p' => ⟨xs.length - (i + 1), by omega, rfl, hlt, p'⟩, fun x H' y => ?_⟩
    obtain ⟨T, y, rfl, nT, rfl, hy⟩ := y
    exact hs i y σ _ T (hy xs q) p nT
  · have e : i = xs.length := by omega
    subst e
    exact .inl ⟨⟨xs, q, Nat.le_refl _⟩, hd σ H p⟩
end Sip
namespace Sip
open PySem PySem.Spec PyProof.Rows L2 TL
section
variable {X : Cx} {e : Expr} {te : TE}
/-- a bound of a slice that may be None -/
def tPartO (te : TE) : TO := fun σ H Q => te σ H fun x H1 => ∃ k : Option Int, x = (match k with | none => .non | some i => .int i) ∧ Q k H1
theorem po_opt (h : PE X e te) : PO X (some e) (tPartO te) := by
  refine ⟨fun pins s σ H Q I hw => ?_⟩
  rw [evalPart_some]
  refine thn (h.run pins s σ H _ I hw) fun u s1 ⟨x, H1, I1, r1, q1⟩ => ?_
  obtain ⟨k, rfl, q⟩ := q1
  cases k with
  | none =>
    cases (show u = Value.none from r1)
    exact ⟨none, H1, I1, .none, q⟩
  | some i =>
    obtain ⟨t, rfl⟩ := (show ∃ t, u = Value.int i t from r1)
    exact ⟨some i, H1, I1, .int i t, q⟩
end
def cntV : Option Nat → V
  | none => .non
  | some n => .int n
def cntI : Option Nat → Option Int
  | none => none
  | some n => some n
theorem cntV_eq (k : Option Nat) : cntV k = (match cntI k with | none => V.non | some i => .int i) := by cases k <;> rfl
def takeO (k : Option Nat) (xs : List Int) : List Int := match k with
  | none => xs
  | some n => xs.take n
theorem cut_O (r : List Int) (k : Option Nat) : cutV (r.map V.int) none (cntI k) = (takeO k r).map V.int := by
  cases k with
  | none =>
    unfold cutV cntI takeO
    rw [HT.sIx_none, HT.sIx_none, List.length_map]
    show (r.map V.int).take (r.length - 0) = _
    exact List.take_of_length_le (by rw [List.length_map]; omega)
  | some n => exact take_cut r n
theorem takeO_len (k : Option Nat) (xs : List Int) : (takeO k xs).length ≤ xs.length := by
  cases k with
  | none => exact Nat.le_refl _
  | some n => show (xs.take n).length ≤ _; rw [List.length_take]; omega
def lineF (xs : List Int) : List Int := xs.take (xs.idxOf 10 + 1)
theorem lineF_no {xs : List Int} (h : (10 : Int) ∉ xs) : lineF xs = xs := by
  unfold lineF
  exact List.take_of_length_le (by rw [List.idxOf_eq_length h]; omega)
theorem idx_take (xs : List Int) (n : Nat) : (xs.take n).idxOf 10 = min (xs.idxOf 10) (xs.take n).length := by
  induction xs generalizing n with
  | nil => simp
  | cons x r ih =>
    cases n with
    | zero => simp
    | succ n =>
      rw [List.take_succ_cons, List.idxOf_cons, List.idxOf_cons, List.length_cons]
      by_cases h : x = 10
      · subst h; simp
      · have : (x == 10) = false := by simpa using h
        rw [this]
        simp only [cond_false]
        rw [ih n]; omega
theorem lineF_take (xs : List Int) (n : Nat) : lineF (xs.take n) = (lineF xs).take n := by
  unfold lineF
  rw [idx_take, List.take_take, List.take_take]
  rw [List.length_take]
  by_cases h : n ≤ xs.length
  · congr 1; omega
  · rw [List.take_of_length_le (l := xs) (by omega : xs.length ≤ n) |>.symm]
    by_cases g : xs.idxOf 10 < xs.length
    · rw [List.take_of_length_le (l := xs) (by omega : xs.length ≤ n)]; congr 1; omega
    · rw [List.take_of_length_le (l := xs) (by omega : xs.length ≤ n)]
      have : xs.idxOf 10 ≤ xs.length := List.idxOf_le_length
      rw [List.take_of_length_le (by omega), List.take_of_length_le (by omega)]
theorem lineF_O (xs : List Int) (k : Option Nat) : lineF (takeO k xs) = takeO k (lineF xs) := by
  cases k with
  | none => rfl
  | some n => exact lineF_take xs n
theorem inV_ten (xs : List Int) (v : Int) : inV (.int v) (xs.map V.int) = decide (v ∈ xs) := by
  unfold inV
  rw [List.any_map]
  rw [Bool.eq_iff_iff, List.any_eq_true, decide_eq_true_iff]
  constructor
  · rintro ⟨x, hx, e⟩
    have e1 : x = v := by
      have : eqV (.int x) (.int v) = true := e
      simpa [eqV] using this
    rw [← e1]; exact hx
  · intro h
    exact ⟨v, h, by show eqV (.int v) (.int v) = true; simp [eqV]⟩
theorem flat_ints (xs : List Int) : (xs.map V.int).all flatV = true := by
  rw [List.all_map, List.all_eq_true]
  intro x _
  rfl
theorem idx_facts {xs : List Int} {v : Int} (h : v ∈ xs) : (xs.map V.int)[xs.idxOf v]? = some (.int v) ∧ ∀ (m : Nat) (z : V), m < xs.idxOf v → (xs.map V.int)[m]? = some z → eqV z (.int v) = false := by
  have hl : xs.idxOf v < xs.length := List.idxOf_lt_length_of_mem h
  refine ⟨?_, fun m z hm hz => ?_⟩
  · rw [List.getElem?_map, List.getElem?_eq_getElem hl, List.getElem_idxOf hl]; rfl
  · rw [List.getElem?_map] at hz
    obtain ⟨y, hy, rfl⟩ := Option.map_eq_some_iff.mp hz
    have : y ≠ v := by
      intro e
      subst e
      have hm' : m < xs.length := by omega
      rw [List.getElem?_eq_getElem hm'] at hy
      have := List.not_of_lt_findIdx (p := (· == y)) (xs := xs) (i := m) hm
      have e2 : xs[m] = y := Option.some.inj hy
      rw [e2] at this
      simp at this
    show eqV (.int y) (.int v) = false
    simpa [eqV] using this
theorem mid_cut (r : List Int) (c n : Nat) : cutV (r.map V.int) (some (c : Int)) (some ((c + n : Nat) : Int)) = ((r.drop c).take n).map V.int := by
  unfold cutV
  rw [HT.sIx_nat, HT.sIx_nat, List.length_map, ← List.map_drop, ← List.map_take]
  congr 1
  by_cases h : c ≤ r.length
  · rw [Nat.min_eq_left h]
    by_cases g : c + n ≤ r.length
    · rw [Nat.min_eq_left g, Nat.add_sub_cancel_left]
    · rw [Nat.min_eq_right (by omega), List.take_of_length_le (by rw [List.length_drop]; omega), List.take_of_length_le (by rw [List.length_drop]; omega)]
  · rw [Nat.min_eq_right (by omega : r.length ≤ c), Nat.min_eq_right (by omega), List.drop_of_length_le (Nat.le_refl _), List.drop_of_length_le (by omega : r.length ≤ c)]
    simp
theorem past_le (r : List Int) (c n m : Nat) (h1 : r.length ≤ m) (h2 : c ≤ m) : c + ((r.drop c).take n).length ≤ m := by
  rw [List.length_take, List.length_drop]; omega
/-! promises of the reading calls -/
def spPPeek (PA : PP) : Sp := fun vs H Q _ => ∃ (p : Addr) (F : Addr → Prop) (r : List Int) (c : Nat) (k : Option Nat), vs = [.ref p, cntV k] ∧ PA H p F r c ∧
  ∀ (H' : Hp) (q : Addr), H q = none → H' q = some (.lst ((takeO k (r.drop c)).map V.int)) → Same H H' → Q (.ref q) H'
def spPRead (PA : PP) : Sp := fun vs H Q _ => ∃ (p : Addr) (F : Addr → Prop) (r : List Int) (c : Nat) (k : Option Nat), vs = [.ref p, cntV k] ∧ PA H p F r c ∧
  ∀ (H' : Hp) (F' : Addr → Prop) (q : Addr), PA H' p F' r (c + (takeO k (r.drop c)).length) → H q = none → ¬ F' q → H' q = some (.lst ((takeO k (r.drop c)).map V.int)) → Step F H F' H' → Q (.ref q) H'
def spPLine (PA : PP) : Sp := fun vs H Q _ => ∃ (p : Addr) (F : Addr → Prop) (r : List Int) (c : Nat) (k : Option Nat), vs = [.ref p, cntV k] ∧ PA H p F r c ∧ r.length ≤ 10000 ∧
  ∀ (H' : Hp) (F' : Addr → Prop) (q : Addr), PA H' p F' r (c + (takeO k (lineF (r.drop c))).length) → H q = none → ¬ F' q → H' q = some (.lst ((takeO k (lineF (r.drop c))).map V.int)) → Step F H F' H' → Q (.ref q) H'
def spFLine (K : PySem.W.Frag) : Sp := fun vs H Q _ => ∃ (a : Addr) (xs : List Int) (k : Option Nat), vs = [.ref a, cntV k] ∧ SqL K H a (xs.map V.int) ∧ xs.length ≤ 10000 ∧
  ∀ (H' : Hp) (q : Addr), H q = none → H' q = some (.lst ((takeO k (lineF xs)).map V.int)) → Same H H' → Q (.ref q) H'
def spCount : Sp := fun vs H Q _ => ∃ k : Option Nat, vs = [cntV k] ∧ Q .non H
def spAhead (PA : PP) : Sp := fun vs H Q _ => ∃ (p : Addr) (F : Addr → Prop) (r : List Int) (c : Nat), vs = [.ref p] ∧ PA H p F r c ∧
  ∀ (H' : Hp) (q : Addr), H q = none → H' q = some (.lst ((r.drop c).map V.int)) → Same H H' → Q (.ref q) H'
def spPassed (PA : PP) : Sp := fun vs H Q _ => ∃ (p t : Addr) (F : Addr → Prop) (r xs : List Int) (c : Nat), vs = [.ref p, .ref t] ∧ PA H p F r c ∧ ¬ F t ∧ H t = some (.lst (xs.map V.int)) ∧
  ∀ (H' : Hp) (F' : Addr → Prop), PA H' p F' r (c + xs.length) → ¬ F' t → H' t = some (.lst (xs.map V.int)) → Step F H F' H' → Q (.ref t) H'
end Sip
namespace Sip
open PySem PySem.Spec PyProof.Rows L2 TL
/-! ### tuples alike -/
section
variable {X : Cx}
def rEqS (K : PySem.W.Frag) : R2 := fun x y H Q => ∃ d, Dp K H x d ∧ Dp K H y d ∧ SeqAt.shaped d = true ∧ Q (.bl true) H
def rNeS (K : PySem.W.Frag) : R2 := fun x y H Q => ∃ d, Dp K H x d ∧ Dp K H y d ∧ SeqAt.shaped d = true ∧ Q (.bl false) H
theorem eqv_same {d : PyData} (h : SeqAt.shaped d = true) : PyData.eqv d d = true := SeqAt.eqv_refl d (SeqAt.canLay_of_shaped h)
theorem op_eqS (hu : X.A.units + 64 < cLine) : OpR X (compareOp .Eq) (rEqS X.K) := by
  intro pins s σ H x y v u Q I rx ry h
  obtain ⟨d, h1, h2, h3, q⟩ := h
  exact op_eqD hu pins s σ H x y v u Q I rx ry ⟨d, d, h1, h2, h3, h3, by rw [eqv_same h3]; exact q⟩
theorem op_neS (hu : X.A.units + 64 < cLine) : OpR X (compareOp .NotEq) (rNeS X.K) := by
  intro pins s σ H x y v u Q I rx ry h
  obtain ⟨d, h1, h2, h3, q⟩ := h
  exact op_neD hu pins s σ H x y v u Q I rx ry ⟨d, d, h1, h2, h3, h3, by rw [eqv_same h3]; exact q⟩
/-- == of two tuples of ints -/
def rEqTI (K : PySem.W.Frag) : R2 := fun x y H Q => ∃ (a b : Addr) (ns ms : List Int), x = .ref a ∧ y = .ref b ∧ SqT K H a (ns.map V.int) ∧ SqT K H b (ms.map V.int) ∧ Q (.bl (decide (ns = ms))) H
theorem lay_ints : ∀ ns : List Int, PyData.canLayAll0 (ns.map PyData.int) = true
  | [] => rfl
  | n :: r => by
    have := lay_ints r
    simp [PyData.canLayAll0, PyData.canLay0, this]
theorem eqv_ints : ∀ ns ms : List Int, PyData.eqvAll (ns.map PyData.int) (ms.map PyData.int) = decide (ns = ms)
  | [], [] => rfl
  | [], _ :: _ => by simp [PyData.eqvAll]
  | _ :: _, [] => by simp [PyData.eqvAll]
  | n :: r, m :: t => by
    show (PyData.eqv (.int n) (.int m) && PyData.eqvAll (r.map PyData.int) (t.map PyData.int)) = _
    rw [eqv_ints r t]
    show ((n == m) && decide (r = t)) = _
    by_cases h : n = m <;> by_cases g : r = t <;> simp [h, g]
end
theorem shaped_ints (ns : List Int) : SeqAt.shaped (.tuple (ns.map PyData.int)) = true := by
  unfold SeqAt.shaped
  rw [Bool.and_eq_true]
  refine ⟨lay_ints ns, decide_eq_true ?_⟩
  have : ∀ ms : List Int, PyData.depthAll (ms.map PyData.int) ≤ 1 := by
    intro ms
    induction ms with
    | nil => simp [PyData.depthAll]
    | cons m r ih => simp [PyData.depthAll, PyData.depth]; try omega
  have h := this ns
  show PyData.depth (.tuple (ns.map PyData.int)) ≤ 64
  simp [PyData.depth]; try omega
section
variable {X : Cx}
theorem op_eqTI (hu : X.A.units + 64 < cLine) : OpR X (compareOp .Eq) (rEqTI X.K) := by
  intro pins s σ H x y v u Q I rx ry h
  obtain ⟨a, b, ns, ms, rfl, rfl, ha, hb, q⟩ := h
  exact op_eqD hu pins s σ H _ _ v u Q I rx ry ⟨.tuple (ns.map PyData.int), .tuple (ms.map PyData.int), .tup ha (dp_ints ns), .tup hb (dp_ints ms), shaped_ints ns, shaped_ints ms, by
    rw [show PyData.eqv (.tuple (ns.map PyData.int)) (.tuple (ms.map PyData.int)) = decide (ns = ms) from eqv_ints ns ms]; exact q⟩
end
theorem dp4 {K : PySem.W.Frag} {H : Hp} {q : Addr} {w : Str} {a b c : Int} (h : SqT K H q [.str w, .int a, .int b, .int c]) : Dp K H (.ref q) (.tuple [.str w, .int a, .int b, .int c]) :=
  .tup h (.cons (.str _) (.cons (.int _) (.cons (.int _) (.cons (.int _) .nil))))
theorem sh4 {w : Str} (h : PyData.strOk w = true) (a b c : Int) : SeqAt.shaped (.tuple [.str w, .int a, .int b, .int c]) = true := by
  simp [SeqAt.shaped, PyData.canLay0, PyData.canLayAll0, PyData.depth, PyData.depthAll, h]
/-! ### the codes -/
inductive Cd
  | plain | steps | wide | turn
def Cd.w : Cd → Str
  | .plain => Str.ofString "plain"
  | .steps => Str.ofString "steps"
  | .wide => Str.ofString "wide"
  | .turn => Str.ofString "turn"
def skipT : List Int → Nat → Int → Nat × Int
  | [], p, s => (p, s)
  | x :: r, p, s => if 128 ≤ x then skipT r (p + 1) (x - 128) else (p, s)
def markW (row : List Int) (p : Nat) : Nat × Int :=
  if (row.drop p).take 2 = [254, 255] then (p + 2, 2) else if (row.drop p).take 2 = [255, 254] then (p + 2, 1) else (p, 2)
def goneF (c : Cd) (row : List Int) (p : Nat) (s : Int) : Nat × Int := match c with
  | .turn => skipT (row.drop p) p s
  | .wide => if s = 0 then markW row p else (p, s)
  | _ => (p, s)
def leadF (x : Int) : Nat × Int :=
  if x < 128 then (1, 0) else if x < 192 then (0, 0) else if x < 224 then (2, 192) else if x < 240 then (3, 224) else if x < 248 then (4, 240) else (0, 0)
def stepsW (n : Int) : List Int :=
  if n < 128 then [n] else if n < 2048 then [192 + n / 64, 128 + n % 64] else if n < 65536 then [224 + n / 4096, 128 + n / 64 % 64, 128 + n % 64]
  else [240 + n / 262144, 128 + n / 4096 % 64, 128 + n / 64 % 64, 128 + n % 64]
def foldS (s : Int) (xs : List Int) : Int := xs.foldl (fun s b => 64 * s + b - 128) s
def stepsAt (xs : List Int) : Int × Nat :=
  let l := leadF (xs.headD 0)
  let wr := xs.take l.1
  let sg := foldS (xs.headD 0 - l.2) (wr.drop 1)
  if stepsW sg = wr then (sg, l.1) else (0, 0)
def signF (c : Cd) (row : List Int) (b : Nat) (s : Int) : Int × Nat := match c with
  | .steps => stepsAt (row.drop b)
  | .wide => if row.length < b + 2 then (0, 0) else if s = 1 then (row.getD b 0 + 256 * row.getD (b + 1) 0, 2) else (256 * row.getD b 0 + row.getD (b + 1) 0, 2)
  | .turn => (128 * s + row.getD b 0, 1)
  | .plain => (row.getD b 0, 1)
def fourV (w : Str) (a : Int) (p : Nat) (s : Int) : List V := [.str w, .int a, .int p, .int s]
def tellF (row : List Int) (p : Nat) (s : Int) (g : Nat × Int) (t : Int × Nat) : List V :=
  if row.length ≤ g.1 then fourV (Str.ofString "end") 0 p s else if t.2 = 0 then fourV (Str.ofString "wrong") 0 (g.1 + 1) g.2 else fourV (Str.ofString "sign") t.1 (g.1 + t.2) g.2
def readF (c : Cd) (row : List Int) (p : Nat) (s : Int) : List V := tellF row p s (goneF c row p s) (signF c row (goneF c row p s).1 (goneF c row p s).2)
theorem readF_shape (c : Cd) (row : List Int) (p : Nat) (s : Int) : ∃ (w : Str) (a : Int) (p' : Nat) (s' : Int), readF c row p s = fourV w a p' s' ∧ PyData.strOk w = true := by
  unfold readF tellF
  split
  · exact ⟨_, _, _, _, rfl, by decide +kernel⟩
  · split
    · exact ⟨_, _, _, _, rfl, by decide +kernel⟩
    · exact ⟨_, _, _, _, rfl, by decide +kernel⟩
/-- two told tuples alike -/
theorem dp_read {K : PySem.W.Frag} {H : Hp} {a b : Addr} {c : Cd} {row : List Int} {p : Nat} {s : Int} (ha : SqT K H a (readF c row p s)) (hb : SqT K H b (readF c row p s)) : ∃ d, Dp K H (.ref a) d ∧ Dp K H (.ref b) d ∧ SeqAt.shaped d = true := by
  obtain ⟨w, x, p', s', e, h⟩ := readF_shape c row p s
  rw [e] at ha hb
  exact ⟨_, dp4 ha, dp4 hb, sh4 h _ _ _⟩
/-! promises -/
def newT (H : Hp) (vs : List V) (Q : VK) : Prop := ∀ (H' : Hp) (q : Addr), H q = none → H' q = some (.tup vs) → Same H H' → Q (.ref q) H'
def spChk : Sp := fun vs H Q _ => ∃ c : Cd, vs = [.str c.w] ∧ ∀ H', Same H H' → Q .non H'
def spBT (K : PySem.W.Frag) : Sp := fun vs H Q _ => ∃ (a : Addr) (row : List Int) (p : Nat) (s : Int), vs = [.ref a, .int p, .int s] ∧ SqL K H a (row.map V.int) ∧ newT H [.int (skipT (row.drop p) p s).1, .int (skipT (row.drop p) p s).2] Q
def spBM (K : PySem.W.Frag) : Sp := fun vs H Q _ => ∃ (a : Addr) (row : List Int) (p : Nat), vs = [.ref a, .int p] ∧ SqL K H a (row.map V.int) ∧ newT H [.int (markW row p).1, .int (markW row p).2] Q
def spGone (K : PySem.W.Frag) : Sp := fun vs H Q _ => ∃ (a : Addr) (row : List Int) (p : Nat) (s : Int) (c : Cd), vs = [.ref a, .int p, .int s, .str c.w] ∧ SqL K H a (row.map V.int) ∧ newT H [.int (goneF c row p s).1, .int (goneF c row p s).2] Q
def spWideAt (K : PySem.W.Frag) : Sp := fun vs H Q _ => ∃ (a : Addr) (row : List Int) (b : Nat) (s : Int), vs = [.ref a, .int b, .int s] ∧ SqL K H a (row.map V.int) ∧ b < row.length ∧ newT H [.int (signF .wide row b s).1, .int (signF .wide row b s).2] Q
def spStepsAt (K : PySem.W.Frag) : Sp := fun vs H Q _ => ∃ (a : Addr) (row : List Int) (b : Nat), vs = [.ref a, .int b] ∧ SqL K H a (row.map V.int) ∧ b < row.length ∧ newT H [.int (stepsAt (row.drop b)).1, .int (stepsAt (row.drop b)).2] Q
def spLead : Sp := fun vs H Q _ => ∃ x : Int, vs = [.int x] ∧ newT H [.int (leadF x).1, .int (leadF x).2] Q
def spStepsW : Sp := fun vs H Q _ => ∃ n : Int, vs = [.int n] ∧ ∀ (H' : Hp) (q : Addr), H q = none → H' q = some (.lst ((stepsW n).map V.int)) → Same H H' → Q (.ref q) H'
def spSignAt (K : PySem.W.Frag) (ok : Cd → Prop) : Sp := fun vs H Q _ => ∃ (a : Addr) (row : List Int) (b : Nat) (s : Int) (c : Cd), vs = [.ref a, .int b, .int s, .str c.w] ∧ ok c ∧ SqL K H a (row.map V.int) ∧ b < row.length ∧ newT H [.int (signF c row b s).1, .int (signF c row b s).2] Q
def spReadS (K : PySem.W.Frag) (ok : Cd → Prop) : Sp := fun vs H Q _ => ∃ (a : Addr) (row : List Int) (p : Nat) (s : Int) (c : Cd), vs = [.ref a, .int p, .int s, .str c.w] ∧ ok c ∧ SqL K H a (row.map V.int) ∧ newT H (readF c row p s) Q
end Sip
namespace Sip
open PySem PySem.Spec PyProof.Rows L2 TL
/-! the code steps: what is written is read -/
def baseF (m : Nat) : Int := match m with | 0 => 0 | 1 => 192 | 2 => 224 | _ => 240
theorem stepsW_back {s : Int} (h0 : 0 ≤ s) (h1 : s < 2097152) : ∃ (x : Int) (r : List Int) (m : Nat), stepsW s = x :: r ∧ r.length = m ∧ m ≤ 3 ∧ leadF x = (m + 1, baseF m) ∧ foldS (x - baseF m) r = s ∧ ∀ b ∈ x :: r, 0 ≤ b ∧ b ≤ 255 := by
  unfold stepsW
  by_cases a : s < 128
  · rw [if_pos a]
    refine ⟨s, [], 0, rfl, rfl, by omega, ?_, ?_, ?_⟩
    · unfold leadF baseF; rw [if_pos a]; rfl
    · show s - 0 = s; omega
    · intro b hb; rw [List.mem_singleton.mp hb]; omega
  · rw [if_neg a]
    by_cases b : s < 2048
    · rw [if_pos b]
      refine ⟨_, _, 1, rfl, rfl, by omega, ?_, ?_, ?_⟩
      · unfold leadF baseF; rw [if_neg (by omega), if_neg (by omega), if_pos (by omega)]; rfl
      · show 64 * (192 + s / 64 - 192) + (128 + s % 64) - 128 = s; omega
      · intro b hb; simp only [List.mem_cons, List.mem_nil_iff, or_false] at hb; rcases hb with rfl | rfl <;> omega
    · rw [if_neg b]
      by_cases c : s < 65536
      · rw [if_pos c]
        refine ⟨_, _, 2, rfl, rfl, by omega, ?_, ?_, ?_⟩
        · unfold leadF baseF; rw [if_neg (by omega), if_neg (by omega), if_neg (by omega), if_pos (by omega)]; rfl
        · show 64 * (64 * (224 + s / 4096 - 224) + (128 + s / 64 % 64) - 128) + (128 + s % 64) - 128 = s; omega
        · intro b hb; simp only [List.mem_cons, List.mem_nil_iff, or_false] at hb; rcases hb with rfl | rfl | rfl <;> omega
      · rw [if_neg c]
        refine ⟨_, _, 3, rfl, rfl, by omega, ?_, ?_, ?_⟩
        · unfold leadF baseF; rw [if_neg (by omega), if_neg (by omega), if_neg (by omega), if_neg (by omega), if_pos (by omega)]; rfl
        · show 64 * (64 * (64 * (240 + s / 262144 - 240) + (128 + s / 4096 % 64) - 128) + (128 + s / 64 % 64) - 128) + (128 + s % 64) - 128 = s; omega
        · intro b hb; simp only [List.mem_cons, List.mem_nil_iff, or_false] at hb; rcases hb with rfl | rfl | rfl | rfl <;> omega
def sgM (xs : List Int) (m : Nat) : Int := foldS (xs.headD 0 - baseF m) ((xs.take (m + 1)).drop 1)
def condM (xs : List Int) (m : Nat) : Prop := 0 ≤ sgM xs m ∧ sgM xs m < 2097152 ∧ stepsW (sgM xs m) = xs.take (m + 1)
theorem cond_at {xs : List Int} {m : Nat} (h : condM xs m) : stepsAt xs = (sgM xs m, (xs.take (m + 1)).length) ∧ (xs.take (m + 1)).length ≠ 0 := by
  obtain ⟨h0, h1, h2⟩ := h
  obtain ⟨x, r, k, e, lr, k3, el, ef, _⟩ := stepsW_back h0 h1
  rw [h2] at e
  generalize sgM xs m = s at *
  cases xs with
  | nil => simp at e
  | cons y t =>
    rw [List.take_succ_cons] at e h2 ⊢
    obtain ⟨rfl, er⟩ := List.cons.inj e
    have lt : (t.take m).length = k := by rw [er]; exact lr
    have et : t.take k = t.take m := by
      rw [← lt, List.length_take]
      by_cases g : m ≤ t.length
      · rw [Nat.min_eq_left g]
      · rw [Nat.min_eq_right (by omega), List.take_of_length_le (Nat.le_refl _), List.take_of_length_le (by omega)]
    refine ⟨?_, by simp⟩
    unfold stepsAt
    show (if stepsW (foldS (y - (leadF y).2) (((y :: t).take (leadF y).1).drop 1)) = (y :: t).take (leadF y).1 then _ else _) = _
    rw [el]
    dsimp only
    rw [List.take_succ_cons, List.drop_succ_cons, List.drop_zero, et, er, ef, h2, er, if_pos rfl, List.length_cons, lr]
    show (foldS (y - (leadF y).2) (List.drop 1 (List.take (leadF y).1 (y :: t))), (leadF y).1) = _
    rw [el]
    dsimp only
    rw [List.take_succ_cons, List.drop_succ_cons, List.drop_zero, et, er, ef]
theorem at_cond {xs : List Int} (hn : xs ≠ []) (nn : ∀ b ∈ xs, 0 ≤ b) (h : ∀ m, m < 4 → ¬ condM xs m) : stepsAt xs = (0, 0) := by
  cases xs with
  | nil => exact absurd rfl hn
  | cons x t =>
    have x0 := nn x (by simp)
    unfold stepsAt
    show (if stepsW (foldS (x - (leadF x).2) (((x :: t).take (leadF x).1).drop 1)) = (x :: t).take (leadF x).1 then _ else _) = _
    have lead : (leadF x).1 = 0 ∨ ∃ m, m < 4 ∧ leadF x = (m + 1, baseF m) ∧ (m = 0 → x < 128) ∧ (0 < m → 192 ≤ x) ∧ (m = 3 → x < 248) := by
      unfold leadF
      by_cases a : x < 128
      · rw [if_pos a]; exact .inr ⟨0, by omega, rfl, fun _ => a, by omega, by omega⟩
      · rw [if_neg a]
        by_cases b : x < 192
        · rw [if_pos b]; exact .inl rfl
        · rw [if_neg b]
          by_cases c : x < 224
          · rw [if_pos c]; exact .inr ⟨1, by omega, rfl, by omega, by omega, by omega⟩
          · rw [if_neg c]
            by_cases d : x < 240
            · rw [if_pos d]; exact .inr ⟨2, by omega, rfl, by omega, by omega, by omega⟩
            · rw [if_neg d]
              by_cases e : x < 248
              · rw [if_pos e]; exact .inr ⟨3, by omega, rfl, by omega, by omega, fun _ => e⟩
              · rw [if_neg e]; exact .inl rfl
    have ne : ∀ s, stepsW s ≠ [] := by
      intro s; unfold stepsW; split
      · simp
      · split
        · simp
        · split <;> simp
    rcases lead with l0 | ⟨m, m4, el, ma, mb, mc⟩
    · rw [l0, List.take_zero, if_neg (ne _)]
    · rw [el]
      dsimp only
      refine if_neg fun e => h m m4 ?_
      have es : sgM (x :: t) m = foldS (x - baseF m) (((x :: t).take (m + 1)).drop 1) := rfl
      rw [← es] at e
      refine ⟨?_, ?_, e⟩
      · by_cases hs : sgM (x :: t) m < 0
        · exfalso
          have e1 : stepsW (sgM (x :: t) m) = [sgM (x :: t) m] := by unfold stepsW; rw [if_pos (by omega)]
          rw [e1, List.take_succ_cons] at e
          have := (List.cons.inj e).1
          omega
        · omega
      · by_cases hs : sgM (x :: t) m < 2097152
        · exact hs
        · exfalso
          have e1 : stepsW (sgM (x :: t) m) = [240 + sgM (x :: t) m / 262144, 128 + sgM (x :: t) m / 4096 % 64, 128 + sgM (x :: t) m / 64 % 64, 128 + sgM (x :: t) m % 64] := by
            unfold stepsW; rw [if_neg (by omega), if_neg (by omega), if_neg (by omega)]
          rw [e1, List.take_succ_cons] at e
          obtain ⟨e2, e3⟩ := List.cons.inj e
          have l3 : (t.take m).length = 3 := by rw [← e3]; rfl
          rw [List.length_take] at l3
          have : m = 3 := by omega
          have := mc this
          omega
/-- the digits of sixty-four behind the first i ones, the eldest ahead -/
def restF (n : Int) : Nat → List Int
  | 0 => []
  | i + 1 => (128 + (n / 64 ^ i) % 64) :: restF n i
theorem restF_len (n : Int) (i : Nat) : (restF n i).length = i := by
  induction i with
  | zero => rfl
  | succ i ih => show (restF n i).length + 1 = _; rw [ih]
theorem restF_nn (n : Int) (i : Nat) : ∀ b ∈ restF n i, 0 ≤ b := by
  induction i with
  | zero => intro b hb; cases hb
  | succ i ih =>
    intro b hb
    rcases List.mem_cons.mp hb with rfl | hb
    · have := Int.emod_nonneg (n / 64 ^ i) (show (64 : Int) ≠ 0 by decide); omega
    · exact ih b hb
theorem div_next (n : Int) (i : Nat) : n / 64 ^ i / 64 = n / 64 ^ (i + 1) := by
  rw [Int.ediv_ediv_of_nonneg (Int.pow_nonneg (by decide)), Int.pow_succ]
theorem restF3 (n : Int) : restF n 3 = [128 + n / 4096 % 64, 128 + n / 64 % 64, 128 + n % 64] := by
  show [128 + (n / 4096) % 64, 128 + (n / 64) % 64, 128 + (n / 1) % 64] = _
  rw [Int.ediv_one]
theorem restF2 (n : Int) : restF n 2 = [128 + n / 64 % 64, 128 + n % 64] := by
  show [128 + (n / 64) % 64, 128 + (n / 1) % 64] = _
  rw [Int.ediv_one]
theorem restF1 (n : Int) : restF n 1 = [128 + n % 64] := by
  show [128 + (n / 1) % 64] = _
  rw [Int.ediv_one]
theorem foldS_snoc (s : Int) (xs : List Int) (x : Int) : foldS s (xs ++ [x]) = 64 * foldS s xs + x - 128 := by
  unfold foldS; rw [List.foldl_append]; rfl
def sizeF : Cd → Int
  | .plain => 256
  | .steps => 2097152
  | .wide => 65536
  | .turn => 16384
theorem sizeF_b (c : Cd) : 256 ≤ sizeF c ∧ sizeF c ≤ 2097152 := by cases c <;> decide
/-! promises of a law's own defs about signs -/
def spSignL : Sp := fun vs H Q _ => ∃ (p : Addr) (n : Int) (o : HO) (c : Cd), vs = [.ref p, .str c.w] ∧ H p = some o ∧ PoolO n o ∧ n ≤ 900000000 ∧
  ∀ (H' : Hp) (g : Int) (o' : HO), 0 ≤ g → g < sizeF c → H' p = some o' → PoolO (n + 3) o' → Kp [p] H H' → Q (.int g) H'
def spStepsL : Sp := fun vs H Q _ => ∃ n : Int, vs = [.int n] ∧ 0 ≤ n ∧ n < 2097152 ∧ ∀ (H' : Hp) (q : Addr), H q = none → H' q = some (.lst ((stepsW n).map V.int)) → Same H H' → Q (.ref q) H'
def spStepsRd (K : PySem.W.Frag) : Sp := fun vs H Q _ => ∃ (x : Addr) (row : List Int) (p : Nat), vs = [.ref x, .int p] ∧ SqL K H x (row.map V.int) ∧ p < row.length ∧ (∀ b ∈ row, 0 ≤ b) ∧ row.length ≤ 1000 ∧ newT H (readF .steps row p 0) Q
end Sip
namespace Sip
open PySem PySem.Spec PyProof.Rows L2 TL
def manyF (n : Int) : Nat := if n < 2048 then 1 else if n < 65536 then 2 else 3
theorem manyF_b (n : Int) : 1 ≤ manyF n ∧ manyF n ≤ 3 := by unfold manyF; split; · omega
                                                            split <;> omega
theorem many_val (n : Int) : (1 : Int) + (if decide (n > 2047) = true then 1 else 0) + (if decide (n > 65535) = true then 1 else 0) = (manyF n : Int) := by
  unfold manyF
  by_cases a : n < 2048
  · rw [if_pos a, if_neg (by simp; omega), if_neg (by simp; omega)]; rfl
  · by_cases b : n < 65536
    · rw [if_neg a, if_pos b, if_pos (by simp; omega), if_neg (by simp; omega)]; rfl
    · rw [if_neg a, if_neg b, if_pos (by simp; omega), if_pos (by simp; omega)]; rfl
theorem stepsW_rest {n : Int} (h : 128 ≤ n) : stepsW n = (baseF (manyF n) + n / 64 ^ manyF n) :: restF n (manyF n) := by
  unfold stepsW manyF
  rw [if_neg (by omega)]
  by_cases a : n < 2048
  · rw [if_pos a, if_pos a, restF1]; rfl
  · rw [if_neg a, if_neg a]
    by_cases b : n < 65536
    · rw [if_pos b, if_pos b, restF2]; rfl
    · rw [if_neg b, if_neg b, restF3]; rfl
theorem base_at {m : Nat} (h1 : 1 ≤ m) (h3 : m ≤ 3) : atI [V.int 192, .int 224, .int 240] ((m : Int) - 1) = some (.int (baseF m)) := by
  rcases (show m = 1 ∨ m = 2 ∨ m = 3 by omega) with rfl | rfl | rfl <;> rfl
theorem base_at0 {m : Nat} (h3 : m ≤ 3) : atI [V.int 0, .int 192, .int 224, .int 240] (m : Int) = some (.int (baseF m)) := by
  rcases (show m = 0 ∨ m = 1 ∨ m = 2 ∨ m = 3 by omega) with rfl | rfl | rfl | rfl <;> rfl
def sizesK : List (Key × V) := [(Sum.inr (Str.ofString "plain"), .int 256), (Sum.inr (Str.ofString "steps"), .int 2097152), (Sum.inr (Str.ofString "wide"), .int 65536), (Sum.inr (Str.ofString "turn"), .int 16384)]
theorem sizes_at (c : Cd) : valV (mergeK [] sizesK) (Sum.inr c.w) = some (.int (sizeF c)) := by
  cases c <;> kernel_rfl
theorem edges_nn : ∀ y ∈ ([0, 127, 128, 255, 2047, 2048, 65535, 65536, 2097151, 65279, 65534, 65533, 16383] : List Int), 0 ≤ y := by decide
end Sip
namespace Sip
open PySem PySem.Spec PyProof.Rows L2 TL
/-! writing signs -/
def signW (c : Cd) (g s : Int) : List Int × Int := match c with
  | .plain => ([g], s)
  | .steps => (stepsW g, s)
  | .wide => if s = 1 then ([g % 256, g / 256], 1) else if s = 2 then ([g / 256, g % 256], 2) else ([254, 255, g / 256, g % 256], 2)
  | .turn => if g / 128 = s then ([g % 128], g / 128) else ([128 + g / 128, g % 128], g / 128)
def writeF (c : Cd) : List Int → Int → List Int × Int
  | [], s => ([], s)
  | g :: r, s => ((signW c g s).1 ++ (writeF c r (signW c g s).2).1, (writeF c r (signW c g s).2).2)
def VS (c : Cd) (s : Int) : Prop := match c with
  | .wide => 0 ≤ s ∧ s ≤ 2
  | _ => True
theorem writeF_snoc (c : Cd) : ∀ (xs : List Int) (g s : Int), writeF c (xs ++ [g]) s = ((writeF c xs s).1 ++ (signW c g (writeF c xs s).2).1, (signW c g (writeF c xs s).2).2)
  | [], g, s => by simp [writeF]
  | x :: r, g, s => by
    show ((signW c x s).1 ++ (writeF c (r ++ [g]) (signW c x s).2).1, (writeF c (r ++ [g]) (signW c x s).2).2) = _
    rw [writeF_snoc c r g]
    simp [writeF]
theorem writeF_app (c : Cd) : ∀ (xs ys : List Int) (s : Int), writeF c (xs ++ ys) s = ((writeF c xs s).1 ++ (writeF c ys (writeF c xs s).2).1, (writeF c ys (writeF c xs s).2).2)
  | [], ys, s => by simp [writeF]
  | x :: r, ys, s => by
    show ((signW c x s).1 ++ (writeF c (r ++ ys) (signW c x s).2).1, (writeF c (r ++ ys) (signW c x s).2).2) = _
    rw [writeF_app c r ys]
    simp [writeF]
theorem writeF_one (c : Cd) (g s : Int) : writeF c [g] s = signW c g s := by
  show ((signW c g s).1 ++ [], (signW c g s).2) = _
  rw [List.append_nil]
theorem signW_vs {c : Cd} {g s : Int} (h : VS c s) : VS c (signW c g s).2 := by
  cases c with
  | wide =>
    show 0 ≤ (signW .wide g s).2 ∧ (signW .wide g s).2 ≤ 2
    unfold signW
    dsimp only
    split
    · show (0 : Int) ≤ 1 ∧ (1 : Int) ≤ 2; decide
    · split
      · show (0 : Int) ≤ 2 ∧ (2 : Int) ≤ 2; decide
      · show (0 : Int) ≤ 2 ∧ (2 : Int) ≤ 2; decide
  | plain => trivial
  | steps => trivial
  | turn => trivial
theorem writeF_vs {c : Cd} : ∀ {xs : List Int} {s : Int}, VS c s → VS c (writeF c xs s).2
  | [], s, h => h
  | x :: r, s, h => writeF_vs (xs := r) (signW_vs h)
theorem signW_len {c : Cd} {g s : Int} (g0 : 0 ≤ g) (g1 : g < sizeF c) : 0 < (signW c g s).1.length ∧ (signW c g s).1.length ≤ 4 := by
  cases c with
  | plain =>
    show 0 < 1 ∧ 1 ≤ 4
    decide
  | steps =>
    obtain ⟨x, r, m, e, lr, m3, _, _, _⟩ := stepsW_back g0 g1
    show 0 < (stepsW g).length ∧ (stepsW g).length ≤ 4
    rw [e, List.length_cons]; omega
  | wide =>
    unfold signW
    dsimp only
    split
    · show 0 < 2 ∧ 2 ≤ 4; decide
    · split
      · show 0 < 2 ∧ 2 ≤ 4; decide
      · show 0 < 4 ∧ 4 ≤ 4; decide
  | turn =>
    unfold signW
    dsimp only
    split
    · show 0 < 1 ∧ 1 ≤ 4; decide
    · show 0 < 2 ∧ 2 ≤ 4; decide
theorem signW_nn {c : Cd} {g s : Int} (g0 : 0 ≤ g) (g1 : g < sizeF c) : ∀ b ∈ (signW c g s).1, 0 ≤ b := by
  cases c with
  | plain => intro b hb; rw [List.mem_singleton.mp hb]; exact g0
  | steps =>
    obtain ⟨x, r, m, e, _, _, _, _, hb⟩ := stepsW_back g0 g1
    intro b h
    exact (hb b (by rw [← e]; exact h)).1
  | wide =>
    unfold signW
    dsimp only
    split
    · intro b hb; simp only [List.mem_cons, List.mem_nil_iff, or_false] at hb; rcases hb with rfl | rfl <;> omega
    · split
      · intro b hb; simp only [List.mem_cons, List.mem_nil_iff, or_false] at hb; rcases hb with rfl | rfl <;> omega
      · intro b hb; simp only [List.mem_cons, List.mem_nil_iff, or_false] at hb; rcases hb with rfl | rfl | rfl | rfl <;> omega
  | turn =>
    unfold signW
    dsimp only
    split
    · intro b hb; rw [List.mem_singleton.mp hb]; omega
    · intro b hb; simp only [List.mem_cons, List.mem_nil_iff, or_false] at hb; rcases hb with rfl | rfl <;> omega
theorem getD_at (A : List Int) (x : Int) (B : List Int) : (A ++ x :: B).getD A.length 0 = x := by
  rw [List.getD_eq_getElem?_getD, List.getElem?_append_right (Nat.le_refl _), Nat.sub_self]; rfl
theorem getD_at1 (A : List Int) (x y : Int) (B : List Int) : (A ++ x :: y :: B).getD (A.length + 1) 0 = y := by
  rw [List.getD_eq_getElem?_getD, List.getElem?_append_right (by omega), Nat.add_sub_cancel_left]; rfl
theorem drop_at (A B : List Int) : (A ++ B).drop A.length = B := by simp
theorem tell_sign {row : List Int} {p : Nat} {s : Int} {b : Nat} {sb g : Int} {n : Nat} (hb : b < row.length) (hn : n ≠ 0) : tellF row p s (b, sb) (g, n) = fourV (Str.ofString "sign") g (b + n) sb := by
  unfold tellF
  rw [if_neg (show ¬ row.length ≤ b by omega), if_neg (show ¬ (n = 0) from hn)]
/-- what is written of a sign is read as it -/
theorem read_written {c : Cd} {g s : Int} (g0 : 0 ≤ g) (g1 : g < sizeF c) (hs : VS c s) (A B : List Int) :
    readF c (A ++ (signW c g s).1 ++ B) A.length s = fourV (Str.ofString "sign") g (A.length + (signW c g s).1.length) (signW c g s).2 := by
  unfold readF
  cases c with
  | plain =>
    show tellF (A ++ [g] ++ B) A.length s (A.length, s) ((A ++ [g] ++ B).getD A.length 0, 1) = _
    rw [List.append_assoc]
    show tellF (A ++ g :: B) A.length s (A.length, s) ((A ++ g :: B).getD A.length 0, 1) = _
    rw [getD_at, tell_sign (by simp) (by decide)]
    rfl
  | steps =>
    show tellF (A ++ stepsW g ++ B) A.length s (A.length, s) (stepsAt ((A ++ stepsW g ++ B).drop A.length)) = fourV _ g (A.length + (stepsW g).length) s
    obtain ⟨x, r, m, e, lr, m3, el, ef, _⟩ := stepsW_back g0 g1
    rw [List.append_assoc, drop_at]
    have hw : (stepsW g).length = m + 1 := by rw [e, List.length_cons, lr]
    have et : (stepsW g ++ B).take (m + 1) = stepsW g := by rw [← hw, List.take_left]
    have hsg : sgM (stepsW g ++ B) m = g := by
      unfold sgM
      rw [et, e]
      exact ef
    have hc : condM (stepsW g ++ B) m := ⟨by rw [hsg]; exact g0, by rw [hsg]; exact g1, by rw [hsg, et]⟩
    obtain ⟨ea, ne⟩ := cond_at hc
    rw [hsg, et] at ea
    rw [et] at ne
    rw [ea, tell_sign (by simp [e]) ne]
  | turn =>
    show tellF _ A.length s (skipT ((A ++ (signW .turn g s).1 ++ B).drop A.length) A.length s) _ = _
    have g128 := Int.emod_nonneg g (show (128 : Int) ≠ 0 by decide)
    have g129 := Int.emod_lt_of_pos g (show (0 : Int) < 128 by decide)
    have gd : 0 ≤ g / 128 := Int.ediv_nonneg g0 (by decide)
    by_cases h : g / 128 = s
    · have ew : signW .turn g s = ([g % 128], g / 128) := if_pos h
      rw [ew, List.append_assoc]
      show tellF (A ++ (g % 128) :: B) A.length s (goneF .turn (A ++ (g % 128) :: B) A.length s) (signF .turn (A ++ (g % 128) :: B) (goneF .turn (A ++ (g % 128) :: B) A.length s).1 (goneF .turn (A ++ (g % 128) :: B) A.length s).2) = fourV _ g (A.length + 1) (g / 128)
      have eg : goneF .turn (A ++ (g % 128) :: B) A.length s = (A.length, s) := by
        show skipT ((A ++ (g % 128) :: B).drop A.length) A.length s = _
        rw [drop_at]
        show (if 128 ≤ g % 128 then _ else _) = _
        rw [if_neg (by omega)]
      rw [eg]
      show tellF (A ++ (g % 128) :: B) A.length s (A.length, s) (128 * s + (A ++ (g % 128) :: B).getD A.length 0, 1) = _
      rw [getD_at, tell_sign (by simp) (by decide), ← h, show 128 * (g / 128) + g % 128 = g by omega]
    · have ew : signW .turn g s = ([128 + g / 128, g % 128], g / 128) := if_neg h
      rw [ew, List.append_assoc]
      show tellF (A ++ (128 + g / 128) :: (g % 128) :: B) A.length s (goneF .turn (A ++ (128 + g / 128) :: (g % 128) :: B) A.length s) (signF .turn (A ++ (128 + g / 128) :: (g % 128) :: B) (goneF .turn (A ++ (128 + g / 128) :: (g % 128) :: B) A.length s).1 (goneF .turn (A ++ (128 + g / 128) :: (g % 128) :: B) A.length s).2) = fourV _ g (A.length + 2) (g / 128)
      have eg : goneF .turn (A ++ (128 + g / 128) :: (g % 128) :: B) A.length s = (A.length + 1, g / 128) := by
        show skipT ((A ++ (128 + g / 128) :: (g % 128) :: B).drop A.length) A.length s = _
        rw [drop_at]
        show (if 128 ≤ 128 + g / 128 then (if 128 ≤ g % 128 then _ else _) else _) = _
        rw [if_pos (by omega), if_neg (by omega), show 128 + g / 128 - 128 = g / 128 by omega]
      rw [eg]
      show tellF (A ++ (128 + g / 128) :: (g % 128) :: B) A.length s (A.length + 1, g / 128) (128 * (g / 128) + (A ++ (128 + g / 128) :: (g % 128) :: B).getD (A.length + 1) 0, 1) = _
      rw [getD_at1, tell_sign (by simp) (by decide), show 128 * (g / 128) + g % 128 = g by omega]
  | wide =>
    obtain ⟨s0, s2⟩ := (show 0 ≤ s ∧ s ≤ 2 from hs)
    have wd : ∀ (A' B' : List Int) (x y : Int) (sb : Int), signF .wide (A' ++ x :: y :: B') A'.length sb = (if sb = 1 then (x + 256 * y, 2) else (256 * x + y, 2)) := by
      intro A' B' x y sb
      show (if (A' ++ x :: y :: B').length < A'.length + 2 then _ else if sb = 1 then ((A' ++ x :: y :: B').getD A'.length 0 + 256 * (A' ++ x :: y :: B').getD (A'.length + 1) 0, 2) else (256 * (A' ++ x :: y :: B').getD A'.length 0 + (A' ++ x :: y :: B').getD (A'.length + 1) 0, 2)) = _
      rw [if_neg (by rw [List.length_append, List.length_cons, List.length_cons]; omega), getD_at, getD_at1]
    rcases (show s = 0 ∨ s = 1 ∨ s = 2 by omega) with rfl | rfl | rfl
    · have ew : signW .wide g 0 = ([254, 255, g / 256, g % 256], 2) := rfl
      rw [ew, List.append_assoc]
      show tellF (A ++ 254 :: 255 :: (g / 256) :: (g % 256) :: B) A.length 0 (goneF .wide (A ++ 254 :: 255 :: (g / 256) :: (g % 256) :: B) A.length 0) (signF .wide (A ++ 254 :: 255 :: (g / 256) :: (g % 256) :: B) (goneF .wide (A ++ 254 :: 255 :: (g / 256) :: (g % 256) :: B) A.length 0).1 (goneF .wide (A ++ 254 :: 255 :: (g / 256) :: (g % 256) :: B) A.length 0).2) = fourV _ g (A.length + 4) 2
      have eg : goneF .wide (A ++ 254 :: 255 :: (g / 256) :: (g % 256) :: B) A.length 0 = (A.length + 2, 2) := by
        show markW _ _ = _
        unfold markW
        rw [drop_at, if_pos (show List.take 2 (254 :: 255 :: (g / 256) :: (g % 256) :: B) = [254, 255] from rfl)]
      rw [eg]
      have ea : A ++ 254 :: 255 :: (g / 256) :: (g % 256) :: B = (A ++ [254, 255]) ++ (g / 256) :: (g % 256) :: B := by rw [List.append_assoc]; rfl
      have el : (A ++ [254, 255]).length = A.length + 2 := by rw [List.length_append]; rfl
      have := wd (A ++ [254, 255]) B (g / 256) (g % 256) 2
      rw [← ea, el, if_neg (by decide)] at this
      show tellF _ _ _ (A.length + 2, 2) (signF .wide _ (A.length + 2) 2) = _
      rw [this, tell_sign (by simp) (by decide), show 256 * (g / 256) + g % 256 = g by omega]
    · have ew : signW .wide g 1 = ([g % 256, g / 256], 1) := rfl
      rw [ew, List.append_assoc]
      show tellF (A ++ (g % 256) :: (g / 256) :: B) A.length 1 (A.length, 1) (signF .wide (A ++ (g % 256) :: (g / 256) :: B) A.length 1) = fourV _ g (A.length + 2) 1
      rw [wd, if_pos rfl, tell_sign (by simp) (by decide), show g % 256 + 256 * (g / 256) = g by omega]
    · have ew : signW .wide g 2 = ([g / 256, g % 256], 2) := rfl
      rw [ew, List.append_assoc]
      show tellF (A ++ (g / 256) :: (g % 256) :: B) A.length 2 (A.length, 2) (signF .wide (A ++ (g / 256) :: (g % 256) :: B) A.length 2) = fourV _ g (A.length + 2) 2
      rw [wd, if_neg (by decide), tell_sign (by simp) (by decide), show 256 * (g / 256) + g % 256 = g by omega]
theorem readF_end {c : Cd} {row : List Int} {p : Nat} {s : Int} (h : row.length ≤ p) : readF c row p s = fourV (Str.ofString "end") 0 p s := by
  have g : row.length ≤ (goneF c row p s).1 := by
    have e : row.drop p = [] := List.drop_of_length_le h
    unfold goneF
    cases c with
    | turn => show _ ≤ (skipT (row.drop p) p s).1; rw [e]; exact h
    | wide =>
      show _ ≤ (if s = 0 then markW row p else (p, s)).1
      split
      · unfold markW; rw [e]; simp; exact h
      · exact h
    | plain => exact h
    | steps => exact h
  unfold readF tellF
  rw [if_pos g]
/-! promises of the laws' own defs -/
def CODES : List V := [.str (Str.ofString "plain"), .str (Str.ofString "steps"), .str (Str.ofString "wide"), .str (Str.ofString "turn")]
theorem codes_at {i : Int} (h0 : 0 ≤ i) (h1 : i < 4) : ∃ c : Cd, atI CODES i = some (.str c.w) := by
  rcases (show i = 0 ∨ i = 1 ∨ i = 2 ∨ i = 3 by omega) with rfl | rfl | rfl | rfl
  · exact ⟨.plain, rfl⟩
  · exact ⟨.steps, rfl⟩
  · exact ⟨.wide, rfl⟩
  · exact ⟨.turn, rfl⟩
def spCodes : Sp := fun vs H Q _ => ∃ u : Unit, vs = [] ∧ ∀ (q : Addr), H q = none → Q (.ref q) (upd H q (.lst CODES))
def spState : Sp := fun vs H Q _ => ∃ (p : Addr) (n : Int) (o : HO) (c : Cd), vs = [.ref p, .str c.w] ∧ H p = some o ∧ PoolO n o ∧ n ≤ 900000000 ∧
  ∀ (H' : Hp) (s : Int) (o' : HO), VS c s → 0 ≤ s → s < 128 → H' p = some o' → PoolO (n + 3) o' → Kp [p] H H' → Q (.int s) H'
def spWriteL (K : PySem.W.Frag) : Sp := fun vs H Q _ => ∃ (a : Addr) (gs : List Int) (s : Int) (c : Cd), vs = [.ref a, .int s, .str c.w] ∧ SqL K H a (gs.map V.int) ∧ gs.length ≤ 200 ∧ VS c s ∧ (∀ g ∈ gs, 0 ≤ g ∧ g < sizeF c) ∧
  ∀ (H' : Hp) (q w : Addr), H q = none → H w = none → q ≠ w → H' q = some (.tup [.ref w, .int (writeF c gs s).2]) → H' w = some (.lst ((writeF c gs s).1.map V.int)) → Same H H' → Q (.ref q) H'
end Sip
namespace Sip
open PySem PySem.Spec PyProof.Rows L2 TL
def spWholeI : Sp := fun vs H Q _ => ∃ v : Int, vs = [.int v] ∧ Q (.bl true) H
def spLastS : Sp := fun vs H Q _ => ∃ c : Cd, vs = [.str c.w] ∧ Q (.int (sizeF c - 1)) H
def newW (H : Hp) (W : List Int × Int) (Q : VK) : Prop := ∀ (H' : Hp) (q w : Addr), H q = none → H w = none → q ≠ w → H' q = some (.tup [.ref w, .int W.2]) → H' w = some (.lst (W.1.map V.int)) → Same H H' → Q (.ref q) H'
def spWW : Sp := fun vs H Q _ => ∃ g s : Int, vs = [.int g, .int s] ∧ VS .wide s ∧ newW H (signW .wide g s) Q
def spTW : Sp := fun vs H Q _ => ∃ g s : Int, vs = [.int g, .int s] ∧ newW H (signW .turn g s) Q
def spSWr : Sp := fun vs H Q _ => ∃ (g s : Int) (c : Cd), vs = [.int g, .int s, .str c.w] ∧ VS c s ∧ newW H (signW c g s) Q
/-- a tuple of a row and a number -/
theorem shaped_row (ns : List Int) (v : Int) : SeqAt.shaped (.tuple [.list (ns.map PyData.int), .int v]) = true := by
  have h := shaped_ints ns
  unfold SeqAt.shaped at h ⊢
  rw [Bool.and_eq_true] at h ⊢
  obtain ⟨h1, h2⟩ := h
  have h1' : PyData.canLayAll0 (ns.map PyData.int) = true := lay_ints ns
  refine ⟨by simp [PyData.canLay0, PyData.canLayAll0, h1'], decide_eq_true ?_⟩
  have : ∀ ms : List Int, PyData.depthAll (ms.map PyData.int) ≤ 1 := by
    intro ms
    induction ms with
    | nil => simp [PyData.depthAll]
    | cons m r ih => simp [PyData.depthAll, PyData.depth]; try omega
  have h3 := this ns
  simp [PyData.depth, PyData.depthAll]; try omega
theorem dp_row {K : PySem.W.Frag} {H : Hp} {q w : Addr} {ns : List Int} {v : Int} (h : SqT K H q [.ref w, .int v]) (hw : SqL K H w (ns.map V.int)) : Dp K H (.ref q) (.tuple [.list (ns.map PyData.int), .int v]) :=
  .tup h (.cons (dp_lst hw) (.cons (.int _) .nil))
end Sip
namespace Sip
open PySem PySem.Spec PyProof.Rows L2 TL
/-! what is read stays when bytes come behind -/
theorem lead_le (x : Int) : (leadF x).1 ≤ 4 := by
  unfold leadF
  split
  · decide
  · split
    · decide
    · split
      · decide
      · split
        · decide
        · split <;> decide
theorem steps4 {xs : List Int} (h : 4 ≤ xs.length) (m : List Int) : stepsAt (xs ++ m) = stepsAt xs := by
  cases xs with
  | nil => simp at h
  | cons x t =>
    have e : ((x :: t) ++ m).take (leadF x).1 = (x :: t).take (leadF x).1 := List.take_append_of_le_length (Nat.le_trans (lead_le x) h)
    show (if stepsW (foldS (x - (leadF x).2) ((((x :: t) ++ m).take (leadF x).1).drop 1)) = ((x :: t) ++ m).take (leadF x).1 then (foldS (x - (leadF x).2) ((((x :: t) ++ m).take (leadF x).1).drop 1), (leadF x).1) else (0, 0)) = (if stepsW (foldS (x - (leadF x).2) (((x :: t).take (leadF x).1).drop 1)) = (x :: t).take (leadF x).1 then (foldS (x - (leadF x).2) (((x :: t).take (leadF x).1).drop 1), (leadF x).1) else (0, 0))
    rw [e]
theorem stepsN {xs : List Int} (hn : xs ≠ []) (nn : ∀ b ∈ xs, 0 ≤ b) (h : (stepsAt xs).2 ≠ 0) (m : List Int) : stepsAt (xs ++ m) = stepsAt xs ∧ (stepsAt xs).2 ≤ xs.length := by
  have ex : ∃ j, j < 4 ∧ condM xs j := by
    refine Classical.byContradiction fun no => h ?_
    rw [at_cond hn nn (fun j hj hc => no ⟨j, hj, hc⟩)]
  obtain ⟨j, _, hc⟩ := ex
  obtain ⟨ea, _⟩ := cond_at hc
  obtain ⟨h0, h1, h2⟩ := hc
  obtain ⟨x, r, k, e, lr, k3, el, ef, _⟩ := stepsW_back h0 h1
  have et : xs.take (j + 1) = x :: r := h2.symm.trans e
  have ll : (xs.take (j + 1)).length = k + 1 := by rw [et, List.length_cons, lr]
  have le : k + 1 ≤ xs.length := by rw [← ll, List.length_take]; omega
  have ek : (xs ++ m).take (k + 1) = x :: r := by
    rw [List.take_append_of_le_length le, ← et, ← ll, List.length_take]
    by_cases g : j + 1 ≤ xs.length
    · rw [Nat.min_eq_left g]
    · rw [Nat.min_eq_right (by omega), List.take_of_length_le (Nat.le_refl _), List.take_of_length_le (by omega)]
  have hh : (xs ++ m).headD 0 = x := by
    cases xs with
    | nil => exact absurd rfl hn
    | cons y t =>
      rw [List.take_succ_cons] at et
      exact (List.cons.inj et).1
  have es : sgM (xs ++ m) k = sgM xs j := by
    show foldS ((xs ++ m).headD 0 - baseF k) (((xs ++ m).take (k + 1)).drop 1) = _
    rw [hh, ek]
    exact ef
  have hc2 : condM (xs ++ m) k := ⟨by rw [es]; exact h0, by rw [es]; exact h1, by rw [es, ek]; exact e⟩
  obtain ⟨ea2, _⟩ := cond_at hc2
  rw [es, ek, List.length_cons, lr] at ea2
  rw [ll] at ea
  refine ⟨by rw [ea2, ea], by rw [ea]; exact le⟩
theorem skip_more : ∀ (xs m : List Int) (p : Nat) (s : Int), (skipT xs p s).1 < p + xs.length → skipT (xs ++ m) p s = skipT xs p s
  | [], m, p, s, h => by
    have : p < p + 0 := h
    omega
  | x :: r, m, p, s, h => by
    show (if 128 ≤ x then skipT (r ++ m) (p + 1) (x - 128) else (p, s)) = (if 128 ≤ x then skipT r (p + 1) (x - 128) else (p, s))
    by_cases g : 128 ≤ x
    · rw [if_pos g, if_pos g]
      have h' : (if 128 ≤ x then skipT r (p + 1) (x - 128) else (p, s)).1 < p + (r.length + 1) := h
      rw [if_pos g] at h'
      exact skip_more r m (p + 1) (x - 128) (by omega)
    · rw [if_neg g, if_neg g]
theorem skip_ge : ∀ (xs : List Int) (p : Nat) (s : Int), p ≤ (skipT xs p s).1
  | [], p, s => Nat.le_refl _
  | x :: r, p, s => by
    show p ≤ (if 128 ≤ x then skipT r (p + 1) (x - 128) else (p, s)).1
    split
    · exact Nat.le_trans (Nat.le_succ p) (skip_ge r (p + 1) (x - 128))
    · exact Nat.le_refl _
theorem getD_more {row m : List Int} {b : Nat} (h : b < row.length) : (row ++ m).getD b 0 = row.getD b 0 := by
  rw [List.getD_eq_getElem?_getD, List.getD_eq_getElem?_getD, List.getElem?_append_left h]
/-- the states that a reading of a row comes to -/
def RS (c : Cd) (s : Int) : Prop := match c with
  | .wide => 0 ≤ s ∧ s ≤ 2
  | .turn => True
  | _ => s = 0
theorem read_cases {c : Cd} {row : List Int} {p : Nat} {s : Int} (nn : ∀ b ∈ row, 0 ≤ b) (rs : RS c s) (m : List Int) :
    readF c row p s = fourV (Str.ofString "end") 0 p s ∨
    (∃ (p' : Nat) (s' : Int), readF c row p s = fourV (Str.ofString "wrong") 0 p' s' ∧ p < p' ∧ p' ≤ row.length ∧ RS c s' ∧ (p' + 3 ≤ row.length → readF c (row ++ m) p s = readF c row p s)) ∨
    (∃ (g : Int) (p' : Nat) (s' : Int), readF c row p s = fourV (Str.ofString "sign") g p' s' ∧ p < p' ∧ p' ≤ row.length ∧ RS c s' ∧ readF c (row ++ m) p s = readF c row p s) := by
  by_cases hp : row.length ≤ p
  · exact .inl (readF_end hp)
  have hp : p < row.length := by omega
  have ll : (row ++ m).length = row.length + m.length := List.length_append
  cases c with
  | plain =>
    refine .inr (.inr ⟨row.getD p 0, p + 1, s, ?_, by omega, by omega, rs, ?_⟩)
    · exact tell_sign hp (by decide)
    · have e1 : readF .plain (row ++ m) p s = fourV (Str.ofString "sign") ((row ++ m).getD p 0) (p + 1) s := tell_sign (by omega) (by decide)
      rw [e1, getD_more hp]
      exact (tell_sign hp (by decide)).symm
  | steps =>
    have hd : row.drop p ≠ [] := fun z => by
      have := congrArg List.length z
      rw [List.length_drop] at this; simp at this; omega
    have nd : ∀ b ∈ row.drop p, 0 ≤ b := fun b hb => nn b (List.mem_of_mem_drop hb)
    have ed : (row ++ m).drop p = row.drop p ++ m := List.drop_append_of_le_length (by omega)
    have e0 : readF .steps row p s = tellF row p s (p, s) (stepsAt (row.drop p)) := rfl
    have e1 : readF .steps (row ++ m) p s = tellF (row ++ m) p s (p, s) (stepsAt (row.drop p ++ m)) := by
      show tellF (row ++ m) p s (p, s) (stepsAt ((row ++ m).drop p)) = _
      rw [ed]
    have ldr : (row.drop p).length = row.length - p := List.length_drop
    by_cases z : (stepsAt (row.drop p)).2 = 0
    · have ez : readF .steps row p s = fourV (Str.ofString "wrong") 0 (p + 1) s := by
        rw [e0]; unfold tellF; rw [if_neg (show ¬ row.length ≤ p by omega), if_pos z]
      refine .inr (.inl ⟨p + 1, s, ez, by omega, by omega, rs, fun h => ?_⟩)
      rw [e1, steps4 (by omega) m, ez]
      unfold tellF
      rw [if_neg (show ¬ (row ++ m).length ≤ p by omega), if_pos z]
    · obtain ⟨es, le⟩ := stepsN hd nd z m
      have ez : readF .steps row p s = fourV (Str.ofString "sign") (stepsAt (row.drop p)).1 (p + (stepsAt (row.drop p)).2) s := by
        rw [e0]; unfold tellF; rw [if_neg (show ¬ row.length ≤ p by omega), if_neg z]
      refine .inr (.inr ⟨_, _, s, ez, by omega, by omega, rs, ?_⟩)
      rw [e1, es, ez]
      unfold tellF
      rw [if_neg (show ¬ (row ++ m).length ≤ p by omega), if_neg z]
  | turn =>
    have ed : (row ++ m).drop p = row.drop p ++ m := List.drop_append_of_le_length (by omega)
    have ldr : (row.drop p).length = row.length - p := List.length_drop
    have ge := skip_ge (row.drop p) p s
    by_cases hb : row.length ≤ (skipT (row.drop p) p s).1
    · left
      show tellF row p s (skipT (row.drop p) p s) _ = _
      unfold tellF; rw [if_pos hb]
    · have em := skip_more (row.drop p) m p s (by omega)
      have e0 : readF .turn row p s = tellF row p s (skipT (row.drop p) p s) (128 * (skipT (row.drop p) p s).2 + row.getD (skipT (row.drop p) p s).1 0, 1) := rfl
      have e1 : readF .turn (row ++ m) p s = tellF (row ++ m) p s (skipT (row.drop p) p s) (128 * (skipT (row.drop p) p s).2 + (row ++ m).getD (skipT (row.drop p) p s).1 0, 1) := by
        show tellF (row ++ m) p s (skipT ((row ++ m).drop p) p s) (128 * (skipT ((row ++ m).drop p) p s).2 + (row ++ m).getD (skipT ((row ++ m).drop p) p s).1 0, 1) = _
        rw [ed, em]
      generalize skipT (row.drop p) p s = g at *
      obtain ⟨b, sb⟩ := g
      dsimp only at e0 e1 hb ge
      rw [getD_more (by omega), tell_sign (by omega) (by decide)] at e1
      rw [tell_sign (by omega) (by decide)] at e0
      exact .inr (.inr ⟨_, b + 1, sb, e0, by omega, by omega, trivial, by rw [e1, e0]⟩)
  | wide =>
    obtain ⟨s0, s2⟩ := (show 0 ≤ s ∧ s ≤ 2 from rs)
    have o12 : 0 ≤ (goneF .wide row p s).2 ∧ (goneF .wide row p s).2 ≤ 2 := by
      show 0 ≤ (if s = 0 then markW row p else (p, s)).2 ∧ (if s = 0 then markW row p else (p, s)).2 ≤ 2
      split
      · unfold markW
        split
        · show (0 : Int) ≤ 2 ∧ (2 : Int) ≤ 2; decide
        · split
          · show (0 : Int) ≤ 1 ∧ (1 : Int) ≤ 2; decide
          · show (0 : Int) ≤ 2 ∧ (2 : Int) ≤ 2; decide
      · exact ⟨s0, s2⟩
    have gp : p ≤ (goneF .wide row p s).1 := by
      show p ≤ (if s = 0 then markW row p else (p, s)).1
      split
      · unfold markW
        split
        · show p ≤ p + 2; omega
        · split
          · show p ≤ p + 2; omega
          · exact Nat.le_refl _
      · exact Nat.le_refl _
    have same : (goneF .wide row p s).1 + 2 ≤ row.length → goneF .wide (row ++ m) p s = goneF .wide row p s := by
      intro h
      show (if s = 0 then markW (row ++ m) p else (p, s)) = (if s = 0 then markW row p else (p, s))
      by_cases z : s = 0
      · rw [if_pos z, if_pos z]
        have l2 : 2 ≤ (row.drop p).length := by rw [List.length_drop]; omega
        unfold markW
        rw [List.drop_append_of_le_length (by omega), List.take_append_of_le_length l2]
      · rw [if_neg z, if_neg z]
    have e0 : readF .wide row p s = tellF row p s (goneF .wide row p s) (signF .wide row (goneF .wide row p s).1 (goneF .wide row p s).2) := rfl
    have e1 : readF .wide (row ++ m) p s = tellF (row ++ m) p s (goneF .wide (row ++ m) p s) (signF .wide (row ++ m) (goneF .wide (row ++ m) p s).1 (goneF .wide (row ++ m) p s).2) := rfl
    generalize goneF .wide row p s = g at *
    obtain ⟨b, sb⟩ := g
    dsimp only at *
    by_cases hb : row.length ≤ b
    · left; rw [e0]; unfold tellF; rw [if_pos hb]
    by_cases h2 : row.length < b + 2
    · have es : signF .wide row b sb = (0, 0) := if_pos h2
      have ez : readF .wide row p s = fourV (Str.ofString "wrong") 0 (b + 1) sb := by
        rw [e0, es]; unfold tellF; rw [if_neg (show ¬ row.length ≤ b by omega), if_pos rfl]
      exact .inr (.inl ⟨b + 1, sb, ez, by omega, by omega, o12, fun h => by omega⟩)
    · have eg := same (by omega)
      rw [eg] at e1
      dsimp only at e1
      have es : signF .wide (row ++ m) b sb = signF .wide row b sb := by
        show (if (row ++ m).length < b + 2 then _ else if sb = 1 then ((row ++ m).getD b 0 + 256 * (row ++ m).getD (b + 1) 0, 2) else (256 * (row ++ m).getD b 0 + (row ++ m).getD (b + 1) 0, 2)) = (if row.length < b + 2 then _ else if sb = 1 then (row.getD b 0 + 256 * row.getD (b + 1) 0, 2) else (256 * row.getD b 0 + row.getD (b + 1) 0, 2))
        rw [if_neg (show ¬ (row ++ m).length < b + 2 by omega), if_neg (show ¬ row.length < b + 2 by omega), getD_more (show b < row.length by omega), getD_more (show b + 1 < row.length by omega)]
      have e2 : (signF .wide row b sb).2 = 2 := by
        show (if row.length < b + 2 then ((0, 0) : Int × Nat) else if sb = 1 then (row.getD b 0 + 256 * row.getD (b + 1) 0, 2) else (256 * row.getD b 0 + row.getD (b + 1) 0, 2)).2 = 2
        rw [if_neg (by omega)]
        split <;> rfl
      rw [es] at e1
      generalize signF .wide row b sb = t at *
      obtain ⟨v, n⟩ := t
      dsimp only at e2
      subst e2
      rw [tell_sign (by omega) (by decide)] at e0 e1
      exact .inr (.inr ⟨v, b + 2, sb, e0, by omega, by omega, o12, by rw [e1, e0]⟩)
end Sip
namespace Sip
open PySem PySem.Spec PyProof.Rows L2 TL
/-! what is read of bytes is a sign of the code -/
def BB (r : List Int) : Prop := ∀ b ∈ r, 0 ≤ b ∧ b ≤ 255
theorem bb_app {a b : List Int} (ha : BB a) (hb : BB b) : BB (a ++ b) := fun x hx => (List.mem_append.mp hx).elim (ha x) (hb x)
theorem bb_take {a : List Int} (ha : BB a) (n : Nat) : BB (a.take n) := fun x hx => ha x (List.mem_of_mem_take hx)
theorem bb_drop {a : List Int} (ha : BB a) (n : Nat) : BB (a.drop n) := fun x hx => ha x (List.mem_of_mem_drop hx)
theorem bb_one {v : Int} (h0 : 0 ≤ v) (h1 : v ≤ 255) : BB [v] := fun x hx => by rw [List.mem_singleton.mp hx]; exact ⟨h0, h1⟩
theorem bb_nn {r : List Int} (h : BB r) : ∀ b ∈ r, 0 ≤ b := fun b hb => (h b hb).1
theorem bb_at {r : List Int} (h : BB r) {i : Nat} (hi : i < r.length) : 0 ≤ r.getD i 0 ∧ r.getD i 0 ≤ 255 := by
  rw [List.getD_eq_getElem?_getD, List.getElem?_eq_getElem hi]
  exact h _ (List.getElem_mem hi)
theorem signW_bb {c : Cd} {g s : Int} (g0 : 0 ≤ g) (g1 : g < sizeF c) : BB (signW c g s).1 := by
  cases c with
  | plain => exact bb_one g0 (by have : g < 256 := g1; omega)
  | steps =>
    obtain ⟨x, r, m, e, _, _, _, _, hb⟩ := stepsW_back g0 g1
    intro b h
    exact hb b (by rw [← e]; exact h)
  | wide =>
    have g2 : g < 65536 := g1
    unfold signW
    dsimp only
    split
    · intro b hb; simp only [List.mem_cons, List.mem_nil_iff, or_false] at hb; rcases hb with rfl | rfl <;> omega
    · split
      · intro b hb; simp only [List.mem_cons, List.mem_nil_iff, or_false] at hb; rcases hb with rfl | rfl <;> omega
      · intro b hb; simp only [List.mem_cons, List.mem_nil_iff, or_false] at hb; rcases hb with rfl | rfl | rfl | rfl <;> omega
  | turn =>
    have g2 : g < 16384 := g1
    unfold signW
    dsimp only
    split
    · exact bb_one (by omega) (by omega)
    · intro b hb; simp only [List.mem_cons, List.mem_nil_iff, or_false] at hb; rcases hb with rfl | rfl <;> omega
def RT (c : Cd) (s : Int) : Prop := match c with
  | .wide => 0 ≤ s ∧ s ≤ 2
  | .turn => 0 ≤ s ∧ s ≤ 127
  | _ => s = 0
theorem rt_rs {c : Cd} {s : Int} (h : RT c s) : RS c s := by cases c <;> first | exact h | trivial
theorem rt_vs {c : Cd} {s : Int} (h : RT c s) : VS c s := by cases c <;> first | exact h | trivial
theorem skip_st : ∀ (xs : List Int) (p : Nat) (s : Int), BB xs → 0 ≤ s ∧ s ≤ 127 → 0 ≤ (skipT xs p s).2 ∧ (skipT xs p s).2 ≤ 127
  | [], p, s, _, h => h
  | x :: r, p, s, hb, h => by
    show 0 ≤ (if 128 ≤ x then skipT r (p + 1) (x - 128) else (p, s)).2 ∧ (if 128 ≤ x then skipT r (p + 1) (x - 128) else (p, s)).2 ≤ 127
    have hx := hb x (by simp)
    by_cases g : 128 ≤ x
    · rw [if_pos g]
      exact skip_st r (p + 1) (x - 128) (fun b hb' => hb b (List.mem_cons_of_mem _ hb')) ⟨by omega, by omega⟩
    · rw [if_neg g]; exact h
theorem skip_val : ∀ (xs : List Int) (p : Nat) (s : Int), (skipT xs p s).1 < p + xs.length → xs.getD ((skipT xs p s).1 - p) 0 < 128
  | [], p, s, h => by
    have : p < p + 0 := h
    omega
  | x :: r, p, s, h => by
    have e : skipT (x :: r) p s = if 128 ≤ x then skipT r (p + 1) (x - 128) else (p, s) := rfl
    by_cases g : 128 ≤ x
    · rw [e, if_pos g] at h ⊢
      have ge := skip_ge r (p + 1) (x - 128)
      have h' := skip_val r (p + 1) (x - 128) (by rw [List.length_cons] at h; omega)
      rw [show (skipT r (p + 1) (x - 128)).1 - p = ((skipT r (p + 1) (x - 128)).1 - (p + 1)) + 1 by omega]
      exact h'
    · rw [e, if_neg g]
      show (x :: r).getD (p - p) 0 < 128
      rw [Nat.sub_self]
      show x < 128
      omega
theorem getD_drop (r : List Int) (p i : Nat) : (r.drop p).getD i 0 = r.getD (p + i) 0 := by
  rw [List.getD_eq_getElem?_getD, List.getD_eq_getElem?_getD, List.getElem?_drop]
theorem read_good {c : Cd} {row : List Int} {p : Nat} {s : Int} (bb : BB row) (rt : RT c s) :
    (readF c row p s = fourV (Str.ofString "end") 0 p s ∧ True) ∨
    (∃ (p' : Nat) (s' : Int), readF c row p s = fourV (Str.ofString "wrong") 0 p' s' ∧ p < p' ∧ p' ≤ row.length ∧ RT c s') ∨
    (∃ (g : Int) (p' : Nat) (s' : Int), readF c row p s = fourV (Str.ofString "sign") g p' s' ∧ p < p' ∧ p' ≤ row.length ∧ RT c s' ∧ 0 ≤ g ∧ g < sizeF c ∧ ((c = .plain ∨ c = .steps) → (signW c g 0).1 = (row.drop p).take (p' - p))) := by
  by_cases hp : row.length ≤ p
  · exact .inl ⟨readF_end hp, trivial⟩
  have hp : p < row.length := by omega
  cases c with
  | plain =>
    obtain ⟨b0, b1⟩ := bb_at bb hp
    refine .inr (.inr ⟨row.getD p 0, p + 1, s, tell_sign hp (by decide), by omega, by omega, rt, b0, by show _ < (256 : Int); omega, fun _ => ?_⟩)
    rw [Nat.add_sub_cancel_left, List.drop_eq_getElem_cons hp, List.getD_eq_getElem?_getD, List.getElem?_eq_getElem hp]
    rfl
  | steps =>
    have hd : row.drop p ≠ [] := fun z => by
      have := congrArg List.length z
      rw [List.length_drop] at this; simp at this; omega
    have nd : ∀ b ∈ row.drop p, 0 ≤ b := bb_nn (bb_drop bb p)
    have e0 : readF .steps row p s = tellF row p s (p, s) (stepsAt (row.drop p)) := rfl
    have ldr : (row.drop p).length = row.length - p := List.length_drop
    by_cases z : (stepsAt (row.drop p)).2 = 0
    · refine .inr (.inl ⟨p + 1, s, ?_, by omega, by omega, rt⟩)
      rw [e0]; unfold tellF; rw [if_neg (show ¬ row.length ≤ p by omega), if_pos z]
    · have ex : ∃ j, j < 4 ∧ condM (row.drop p) j := by
        refine Classical.byContradiction fun no => z ?_
        rw [at_cond hd nd (fun j hj hc => no ⟨j, hj, hc⟩)]
      obtain ⟨j, _, hc⟩ := ex
      obtain ⟨ea, ne⟩ := cond_at hc
      obtain ⟨h0, h1, h2⟩ := hc
      have ln : ((row.drop p).take (j + 1)).length ≤ row.length - p := by rw [List.length_take, ldr]; omega
      have ez : readF .steps row p s = fourV (Str.ofString "sign") (sgM (row.drop p) j) (p + ((row.drop p).take (j + 1)).length) s := by
        rw [e0, ea]; exact tell_sign hp ne
      refine .inr (.inr ⟨_, _, s, ez, by omega, by omega, rt, h0, h1, fun _ => ?_⟩)
      rw [Nat.add_sub_cancel_left]
      show stepsW _ = _
      rw [h2, List.length_take]
      by_cases g : j + 1 ≤ (row.drop p).length
      · rw [Nat.min_eq_left g]
      · rw [Nat.min_eq_right (by omega), List.take_of_length_le (Nat.le_refl _), List.take_of_length_le (by omega)]
  | turn =>
    have ldr : (row.drop p).length = row.length - p := List.length_drop
    have ge := skip_ge (row.drop p) p s
    have st := skip_st (row.drop p) p s (bb_drop bb p) rt
    by_cases hb : row.length ≤ (skipT (row.drop p) p s).1
    · left
      refine ⟨?_, trivial⟩
      show tellF row p s (skipT (row.drop p) p s) _ = _
      unfold tellF; rw [if_pos hb]
    · have sv := skip_val (row.drop p) p s (by omega)
      rw [getD_drop] at sv
      have e0 : readF .turn row p s = tellF row p s (skipT (row.drop p) p s) (128 * (skipT (row.drop p) p s).2 + row.getD (skipT (row.drop p) p s).1 0, 1) := rfl
      generalize skipT (row.drop p) p s = g at *
      obtain ⟨b, sb⟩ := g
      dsimp only at e0 hb ge st sv
      rw [show p + (b - p) = b by omega] at sv
      obtain ⟨b0, b1⟩ := bb_at bb (show b < row.length by omega)
      rw [tell_sign (by omega) (by decide)] at e0
      exact .inr (.inr ⟨_, b + 1, sb, e0, by omega, by omega, st, by omega, by show _ < (16384 : Int); omega, fun h => by rcases h with h | h <;> cases h⟩)
  | wide =>
    rcases read_cases (p := p) (bb_nn bb) (rt_rs (c := .wide) rt) [] with e | ⟨p', s', e, h1, h2, h3, _⟩ | ⟨g, p', s', e, h1, h2, h3, _⟩
    · exact .inl ⟨e, trivial⟩
    · exact .inr (.inl ⟨p', s', e, h1, h2, h3⟩)
    · refine .inr (.inr ⟨g, p', s', e, h1, h2, h3, ?_⟩)
      have gb : 0 ≤ g ∧ g < 65536 := by
        have e0 : readF .wide row p s = tellF row p s (goneF .wide row p s) (signF .wide row (goneF .wide row p s).1 (goneF .wide row p s).2) := rfl
        generalize goneF .wide row p s = gg at *
        obtain ⟨b, sb⟩ := gg
        dsimp only at e0
        by_cases hb : row.length < b + 2
        · rw [show signF .wide row b sb = (0, 0) from if_pos hb, e] at e0
          unfold tellF at e0
          split at e0
          · have := List.cons.inj e0
            exact absurd (V.str.inj this.1) (by decide +kernel)
          · rw [if_pos rfl] at e0
            have := List.cons.inj e0
            exact absurd (V.str.inj this.1) (by decide +kernel)
        · obtain ⟨x0, x1⟩ := bb_at bb (show b < row.length by omega)
          obtain ⟨y0, y1⟩ := bb_at bb (show b + 1 < row.length by omega)
          by_cases h : sb = 1
          · rw [show signF .wide row b sb = (row.getD b 0 + 256 * row.getD (b + 1) 0, 2) from (if_neg hb).trans (if_pos h), tell_sign (by omega) (by decide), e] at e0
            have e1 := List.cons.inj (List.cons.inj e0).2
            have := V.int.inj e1.1
            omega
          · rw [show signF .wide row b sb = (256 * row.getD b 0 + row.getD (b + 1) 0, 2) from (if_neg hb).trans (if_neg h), tell_sign (by omega) (by decide), e] at e0
            have e1 := List.cons.inj (List.cons.inj e0).2
            have := V.int.inj e1.1
            omega
      exact ⟨gb.1, gb.2, fun h => by rcases h with h | h <;> cases h⟩
end Sip
/-! items of a row -/
namespace Sip
open PySem PySem.Spec PyProof.Rows L2 TL
/-- what reading one sign tells -/
inductive Rd
  | fin
  | sg (g : Int) (p : Nat) (s : Int)
  | wr (p : Nat) (s : Int)
def rdF (c : Cd) (row : List Int) (p : Nat) (s : Int) : Rd :=
  if row.length ≤ (goneF c row p s).1 then .fin
  else if (signF c row (goneF c row p s).1 (goneF c row p s).2).2 = 0 then .wr ((goneF c row p s).1 + 1) (goneF c row p s).2
  else .sg (signF c row (goneF c row p s).1 (goneF c row p s).2).1 ((goneF c row p s).1 + (signF c row (goneF c row p s).1 (goneF c row p s).2).2) (goneF c row p s).2
def wEnd : Str := Str.ofString "end"
def wSign : Str := Str.ofString "sign"
def wWrong : Str := Str.ofString "wrong"
def rdV (p : Nat) (s : Int) : Rd → List V
  | .fin => fourV wEnd 0 p s
  | .sg g p' s' => fourV wSign g p' s'
  | .wr p' s' => fourV wWrong 0 p' s'
theorem readF_rd (c : Cd) (row : List Int) (p : Nat) (s : Int) : readF c row p s = rdV p s (rdF c row p s) := by
  unfold readF tellF rdF
  split
  · rfl
  · split
    · rfl
    · rfl
theorem gone_ge (c : Cd) (row : List Int) (p : Nat) (s : Int) : p ≤ (goneF c row p s).1 := by
  cases c with
  | plain => exact Nat.le_refl _
  | steps => exact Nat.le_refl _
  | turn => exact skip_ge _ _ _
  | wide =>
    show p ≤ (if s = 0 then markW row p else (p, s)).1
    split
    · unfold markW
      split
      · show p ≤ p + 2; omega
      · split
        · show p ≤ p + 2; omega
        · exact Nat.le_refl _
    · exact Nat.le_refl _
theorem rd_sg {c : Cd} {row : List Int} {p p' : Nat} {s g s' : Int} (h : rdF c row p s = .sg g p' s') : p < row.length ∧ p < p' := by
  have ge := gone_ge c row p s
  unfold rdF at h
  split at h
  · cases h
  · split at h
    · cases h
    · cases h
      omega
theorem rd_wr {c : Cd} {row : List Int} {p p' : Nat} {s s' : Int} (h : rdF c row p s = .wr p' s') : p < row.length ∧ p < p' ∧ p' ≤ row.length := by
  have ge := gone_ge c row p s
  unfold rdF at h
  split at h
  · cases h
  · split at h
    · cases h
      omega
    · cases h
abbrev Item := Int × Nat × Int
/-- the items as they are read, sign by sign; by strict they end ahead of a wrong byte -/
def rawF (c : Cd) (row : List Int) (st : Bool) : Nat → Nat → Int → List Item
  | 0, _, _ => []
  | f + 1, p, s => match rdF c row p s with
    | .fin => []
    | .wr p' s' => if st then [] else (65533, p', s') :: rawF c row st f p' s'
    | .sg g p' s' => (g, p', s') :: rawF c row st f p' s'
/-- where the wrong byte lies that ends them -/
def badF (c : Cd) (row : List Int) (st : Bool) : Nat → Nat → Int → Option Nat
  | 0, _, _ => none
  | f + 1, p, s => match rdF c row p s with
    | .fin => none
    | .wr p' s' => if st then some (p' - 1) else badF c row st f p' s'
    | .sg g p' s' => badF c row st f p' s'
section
variable {c : Cd} {row : List Int} {st : Bool} {f p p' : Nat} {s g s' : Int}
theorem raw_fin (h : rdF c row p s = .fin) : rawF c row st (f + 1) p s = [] := by unfold rawF; rw [h]
theorem raw_sg (h : rdF c row p s = .sg g p' s') : rawF c row st (f + 1) p s = (g, p', s') :: rawF c row st f p' s' := by rw [rawF]; rw [h]
theorem raw_wrS (h : rdF c row p s = .wr p' s') : rawF c row true (f + 1) p s = [] := by rw [rawF, h]; rfl
theorem raw_wrM (h : rdF c row p s = .wr p' s') : rawF c row false (f + 1) p s = (65533, p', s') :: rawF c row false f p' s' := by rw [rawF, h]; rfl
theorem bad_fin (h : rdF c row p s = .fin) : badF c row st (f + 1) p s = none := by unfold badF; rw [h]
theorem bad_sg (h : rdF c row p s = .sg g p' s') : badF c row st (f + 1) p s = badF c row st f p' s' := by rw [badF, h]
theorem bad_wrS (h : rdF c row p s = .wr p' s') : badF c row true (f + 1) p s = some (p' - 1) := by rw [badF, h]; rfl
theorem bad_wrM (h : rdF c row p s = .wr p' s') : badF c row false (f + 1) p s = badF c row false f p' s' := by rw [badF, h]; rfl
end
/-- enough fuel is enough -/
theorem raw_fuel {c : Cd} {row : List Int} {st : Bool} : ∀ (f f' p : Nat) (s : Int), row.length ≤ p + f → row.length ≤ p + f' → rawF c row st (f + 1) p s = rawF c row st (f' + 1) p s := by
  intro f
  induction f with
  | zero =>
    intro f' p s h h'
    cases e : rdF c row p s with
    | fin => rw [raw_fin e, raw_fin e]
    | sg g p' s' => have := rd_sg e; omega
    | wr p' s' => have := rd_wr e; omega
  | succ f ih =>
    intro f' p s h h'
    cases e : rdF c row p s with
    | fin => rw [raw_fin e, raw_fin e]
    | sg g p' s' =>
      have := rd_sg e
      obtain ⟨k, rfl⟩ : ∃ k, f' = k + 1 := ⟨f' - 1, by omega⟩
      rw [raw_sg e, raw_sg e, ih k p' s' (by omega) (by omega)]
    | wr p' s' =>
      have := rd_wr e
      obtain ⟨k, rfl⟩ : ∃ k, f' = k + 1 := ⟨f' - 1, by omega⟩
      cases st with
      | true => rw [raw_wrS e, raw_wrS e]
      | false => rw [raw_wrM e, raw_wrM e, ih k p' s' (by omega) (by omega)]
theorem raw_fits {c : Cd} {row : List Int} {st : Bool} : ∀ (f p : Nat) (s : Int), (rawF c row st f p s).length ≤ f
  | 0, _, _ => Nat.le_refl _
  | f + 1, p, s => by
    cases e : rdF c row p s with
    | fin => rw [raw_fin e]; exact Nat.zero_le _
    | sg g p' s' => rw [raw_sg e]; exact Nat.succ_le_succ (raw_fits f p' s')
    | wr p' s' =>
      cases st with
      | true => rw [raw_wrS e]; exact Nat.zero_le _
      | false => rw [raw_wrM e]; exact Nat.succ_le_succ (raw_fits f p' s')
/-- by any: 13 and the 10 straight behind it are one 10, another 13 is a 10 -/
def anyF : List Item → List Item
  | [] => []
  | [(g, x)] => [(if g = 13 then 10 else g, x)]
  | (g, x) :: (h, y) :: r => if g = 13 then (if h = 10 then (10, y) :: anyF r else (10, x) :: anyF ((h, y) :: r)) else (g, x) :: anyF ((h, y) :: r)
theorem any_one (g : Int) (x : Nat × Int) : anyF [(g, x)] = [(if g = 13 then 10 else g, x)] := rfl
theorem any_two (g h : Int) (x y : Nat × Int) (r : List Item) : anyF ((g, x) :: (h, y) :: r) = if g = 13 then (if h = 10 then (10, y) :: anyF r else (10, x) :: anyF ((h, y) :: r)) else (g, x) :: anyF ((h, y) :: r) := by rw [anyF]
theorem any_not {g : Int} {x : Nat × Int} (r : List Item) (n : g ≠ 13) : anyF ((g, x) :: r) = (g, x) :: anyF r := by
  cases r with
  | nil => rw [any_one, if_neg n]; rfl
  | cons y r => rw [any_two, if_neg n]
theorem any_feed {x y : Nat × Int} (r : List Item) : anyF ((13, x) :: (10, y) :: r) = (10, y) :: anyF r := by rw [any_two, if_pos rfl, if_pos rfl]
theorem any_ret {x : Nat × Int} (r : List Item) (n : ∀ y, r.head? ≠ some (10, y)) : anyF ((13, x) :: r) = (10, x) :: anyF r := by
  cases r with
  | nil => rfl
  | cons y r =>
    obtain ⟨h, y⟩ := y
    rw [any_two, if_pos rfl, if_neg (fun z => n y (by rw [z]; rfl))]
theorem any_len : ∀ l : List Item, (anyF l).length ≤ l.length
  | [] => Nat.le_refl _
  | [(g, x)] => Nat.le_refl _
  | (g, x) :: (h, y) :: r => by
    rw [any_two]
    split
    · split
      · have := any_len r
        simp only [List.length_cons]; omega
      · have := any_len ((h, y) :: r)
        simp only [List.length_cons] at this ⊢; omega
    · have := any_len ((h, y) :: r)
      simp only [List.length_cons] at this ⊢; omega
/-- one more item behind -/
def snocA (l : List Item) (prev : Option Int) (x : Item) : List Item := if x.1 = 10 ∧ prev = some 13 then l.dropLast ++ [x] else l ++ [(if x.1 = 13 then 10 else x.1, x.2)]
def lastS (l : List Item) : Option Int := l.getLast?.map (·.1)
theorem any_ne : ∀ {l : List Item}, l ≠ [] → anyF l ≠ []
  | [], h => absurd rfl h
  | [(g, x)], _ => by rw [any_one]; exact fun z => nomatch z
  | (g, x) :: (h, y) :: r, _ => by
    rw [any_two]
    split
    · split <;> exact fun z => nomatch z
    · exact fun z => nomatch z
theorem snocA_cons {a x : Item} {l : List Item} (h : l ≠ []) (q : Option Int) : a :: snocA l q x = snocA (a :: l) q x := by
  unfold snocA
  split
  · obtain ⟨b, t, rfl⟩ := List.exists_cons_of_ne_nil h
    rfl
  · rfl
theorem any_snoc (x : Item) : ∀ l : List Item, anyF (l ++ [x]) = snocA (anyF l) (lastS l) x
  | [] => by
    obtain ⟨g, y⟩ := x
    show anyF [(g, y)] = snocA [] none (g, y)
    have n : ¬ ((g, y).1 = 10 ∧ (none : Option Int) = some 13) := fun z => nomatch z.2
    show _ = if _ then _ else _
    rw [if_neg n]; rfl
  | [(g, a)] => by
    obtain ⟨h, y⟩ := x
    show anyF [(g, a), (h, y)] = snocA [(if g = 13 then 10 else g, a)] (some g) (h, y)
    rw [any_two]
    unfold snocA
    by_cases e : g = 13
    · subst e
      rw [if_pos rfl, if_pos rfl]
      by_cases k : h = 10
      · subst k
        rw [if_pos rfl, if_pos ⟨rfl, rfl⟩]; rfl
      · rw [if_neg k, if_neg (fun z => k z.1)]; rfl
    · rw [if_neg e, if_neg e, if_neg (fun z => e (Option.some.inj z.2))]; rfl
  | (g, a) :: (h, b) :: r => by
    have l1 : lastS ((g, a) :: (h, b) :: r) = lastS ((h, b) :: r) := rfl
    rw [l1]
    show anyF ((g, a) :: (h, b) :: (r ++ [x])) = _
    rw [any_two, any_two]
    have ih := any_snoc x ((h, b) :: r)
    have e1 : anyF ((h, b) :: (r ++ [x])) = snocA (anyF ((h, b) :: r)) (lastS ((h, b) :: r)) x := ih
    split
    · split
      · next e2 =>
        subst e2
        cases r with
        | nil =>
          show (10, b) :: anyF [x] = snocA [(10, b)] (some 10) x
          obtain ⟨k, y⟩ := x
          have n : ¬ ((k, y).1 = 10 ∧ some (10 : Int) = some 13) := fun z => absurd (Option.some.inj z.2) (by decide)
          show _ = if _ then _ else _
          rw [if_neg n]; rfl
        | cons d r =>
          have l2 : lastS ((10, b) :: d :: r) = lastS (d :: r) := rfl
          rw [l2, any_snoc x (d :: r), snocA_cons (any_ne (by exact fun z => nomatch z))]
      · rw [e1, snocA_cons (any_ne (by exact fun z => nomatch z))]
    · rw [e1, snocA_cons (any_ne (by exact fun z => nomatch z))]
end Sip
namespace Sip
open PySem PySem.Spec PyProof.Rows L2 TL
/-! ### own errors that keep a value -/
/-- __init__(self, f): self.f = f -/
def spErr1 (C : Addr) (f : Str) : Sp := fun vs H Q _ => ∃ (a : Addr) (v : V), vs = [.ref a, v] ∧ H a = some (exo a C none) ∧ ∀ dx, H dx = none → dx ≠ a → Q .non (upd (upd H dx (exd dx [(f, v)])) a (exo a C (some dx)))
/-- what a raise of it asks, once its value stands -/
theorem mk1_fin {C : Addr} {f : Str} {H1 : Hp} {v : V} {Q : XK} (h : ∀ d, H1 d = none → Q (.ref C) (some d) (upd H1 d (.xd [(f, v)]))) :
    [v].length ≤ 1000 ∧ ∀ a, H1 a = none → spErr1 C f (.ref a :: ([v] ++ [])) (upd H1 a (exo a C none))
      (fun v H2 => v = .non ∧ ∃ (d : Addr) (fs : List (Str × V)), H2 a = some (exo a C (some d)) ∧ H2 d = some (exd d fs) ∧ H1 d = none ∧ Q (.ref C) (some d) (upd (del H2 a) d (.xd fs))) (fun _ _ _ => False) := by
  refine ⟨by show 1 ≤ 1000; decide, fun a na => ⟨a, v, rfl, upd_same, fun dx nd ne => ⟨rfl, dx, [(f, v)], upd_same, ?_, ?_, ?_⟩⟩⟩
  · rw [upd_ne ne]; exact upd_same
  · rw [upd_ne ne] at nd; exact nd
  · have nd' : H1 dx = none := by rw [upd_ne ne] at nd; exact nd
    have e : upd (del (upd (upd (upd H1 a (exo a C none)) dx (exd dx [(f, v)])) a (exo a C (some dx))) a) dx (.xd [(f, v)]) = upd H1 dx (.xd [(f, v)]) := by
      funext b
      by_cases hb : b = dx
      · subst hb; rw [upd_same, upd_same]
      · rw [upd_ne hb, upd_ne hb]
        by_cases ha : b = a
        · subst ha; rw [del_same, na]
        · rw [del_ne ha, upd_ne ha, upd_ne hb, upd_ne ha]
    rw [e]
    exact h dx nd'
section
variable {X : Cx}
/-- isinstance(e, c): e is the error that the suite holds, whatever it keeps -/
def rIsO (K : PySem.W.Frag) (cls : Value) (d : Option Addr) (a : Addr) : List V → Hp → VK → Prop := fun xs H Q => ∃ D : Addr, cls = .ref D ∧ ExcC K D ∧ (d = none ∨ ∃ dd fs, d = some dd ∧ H dd = some (.xd fs)) ∧ rIsE K D a xs H Q
theorem inst_of {a D : Addr} {oe : Obj} {d : Option Addr} {H : Hp} {s : Shared} {pins : List (Addr × Obj)} {σ : L2.St} {Y : Cx} (I : Inv Y pins σ H s) (ha : s.heap.get? a = some oe) (hz : Zc (.ref D) d oe) (hf : ∃ vs, oe.data = .fields vs)
    (hd : d = none ∨ ∃ dd fs, d = some dd ∧ H dd = some (.xd fs)) : ∃ od, PySem.W.InstAt s.heap a oe D od := by
  obtain ⟨vs, hv⟩ := hf
  obtain ⟨z1, z2⟩ := hz
  have nc : PySem.W.notCls oe = true := by unfold PySem.W.notCls; rw [hv]
  rcases hd with rfl | ⟨dd, fs, rfl, ed⟩
  · refine ⟨none, ha, z1, nc, ?_⟩
    rw [z2]; trivial
  · have ob : ObjOk Y.prog Y.w H s.heap dd (.xd fs) := I.hok dd _ ed
    obtain ⟨mA, hns, _⟩ := ob
    obtain ⟨od, ho, _⟩ := lookIn_ns hns
    refine ⟨some od, ha, z1, nc, ?_⟩
    rw [z2]; exact ho
theorem call_isO {a : Addr} {oe : Obj} {cls : Value} {d : Option Addr} {pn : List (Addr × Obj)} (hz : Zc cls d oe) (hf : ∃ vs, oe.data = .fields vs) : CallR (X.suite a ((a, oe) :: pn)) (.builtin "isinstance") (rIsO X.K cls d a) := by
  intro pins s σ H xs us Q I r h
  obtain ⟨D, rfl, C, hd, c, cv, b, rfl, hcv, e, q⟩ := h
  obtain ⟨u1, u2, rfl, r1, r2⟩ := vals2 r
  obtain rfl : u1 = Value.ref a := r1
  obtain rfl := hcv _ r2
  obtain ⟨ha, _⟩ := I.pin (a, oe) (List.mem_append_left _ List.mem_cons_self)
  obtain ⟨od, J⟩ := inst_of I ha hz hf hd
  have hcl : (PySem.W.clsIn X.K D).isSome = true := by
    obtain ⟨cd, h1, _⟩ := PySem.W.any_some C.hd
    rw [h1]; rfl
  exact PySem.W.kia_one (PySem.W.kitx_exc hcl C.hg C.hk C.hs C.ha C.hn C.ht C.hm) I.kIn J e (fun z => nomatch z) fun tk => ⟨.bl b, H, I.kept (t' := tk) fun _ _ z => z, rfl, q⟩
/-- e.f of that error -/
def tXf (K : PySem.W.Frag) (f : Str) (a : Addr) (cls : Value) (d : Option Addr) (te : TE) : TE := fun σ H Q => te σ H fun x H1 => ∃ (D dd : Addr) (fs : List (Str × V)) (v : V), x = .ref a ∧ cls = .ref D ∧ ExcC K D ∧ PySem.W.findIn K (.ref D) f = some none ∧ d = some dd ∧ H1 dd = some (.xd fs) ∧ fs.lookup f = some v ∧ Q v H1
theorem pe_xf {f : Str} {a : Addr} {oe : Obj} {cls : Value} {d : Option Addr} {pn : List (Addr × Obj)} {e : Expr} {te : TE} {pos : Pos} (hz : Zc cls d oe) (hf : ∃ vs, oe.data = .fields vs) (he : PE (X.suite a ((a, oe) :: pn)) e te)
    (hb : attributeBase e f X.env (eval e X.env) = eval e X.env := by rfl) : PE (X.suite a ((a, oe) :: pn)) (.Attribute e f pos) (tXf X.K f a cls d te) := by
  refine ⟨fun pins s σ H Q I h => attr_of hb (thn (he.run pins s σ H _ I h) fun u s1 hh => ?_)⟩
  obtain ⟨x, H1, I1, rx, D, dd, fs, v, rfl, rfl, C, no, rfl, ed, lk, q⟩ := hh
  obtain rfl : u = Value.ref a := rx
  obtain ⟨ha, _⟩ := I1.pin (a, oe) (List.mem_append_left _ List.mem_cons_self)
  have ob : ObjOk X.prog X.w H1 s1.heap dd (.xd fs) := I1.hok dd _ ed
  obtain ⟨mA, hns, hr⟩ := ob
  obtain ⟨od, ho, hl⟩ := lookIn_ns hns
  obtain ⟨v', hv', rv⟩ := RelO.some_of (v := v) (o := mA f) (by rw [← lk]; exact hr f)
  obtain ⟨vs, hd⟩ := hf
  have J : PySem.W.InstAt s1.heap a oe D (some od) := by
    refine ⟨ha, hz.1, ?_, ?_⟩
    · unfold PySem.W.notCls; rw [hd]
    · rw [hz.2]; exact ho
  exact HandSPX.exc_get I1.kIn J C.hg C.hk C.hs (PySem.W.findObj_own C.hd no rfl (by rw [hl, hv'])) (handed_of rv) ⟨v, H1, I1.tok _, rv, q⟩
end
/-! ### calls within a try -/
section
variable {X : Cx} {CX : CXT} {k n : Nat} {f : Addr} {fd : FuncData} {ps ks : List Str} {sp : Sp} {E : L2.St → XK} {x : Str} {p pos : Pos} {e : Expr} {es : List Expr} {kws : List Keyword} {t tk : TA} {g : List Value → List Value → List Value} {gV : List V → List V → List V}
def tCallNS (n m : Nat) (sp : Sp) (gV : List V → List V → List V) (E : L2.St → XK) (t tk : TA) : TE := fun σ H Q => t σ H fun vs H1 => tk σ H1 fun zs H2 => vs.length = n ∧ zs.length = m ∧ sp (gV vs zs) H2 Q (E σ)
theorem pe_callNS (F : FnOk X.prog X.w X.K X.mg X.base CX k f fd ps sp) (hr : Room k X.A) (hg : Gl X x) (hm : X.mg x = some (.ref f)) (hk : PySem.W.keepIn X.K (.ref f) = true) (hb : KBn X.K fd ps n ks g gV) (hx : ∀ σ, PassesAt CX X σ (E σ))
    (ha : PA X (e :: es) t) (hkw : PK X kws tk) (hall : (backToKw pos (keywordEach kws X.env)).all (·.1.isSome) = true := by rfl) (hks : (backToKw pos (keywordEach kws X.env)).filterMap (·.1) = ks := by rfl)
    (hdb : (x == ("__debug__" : Str)) = false := by decide) (he : starEach (e :: es) X.env = (false, eval e X.env) :: starEach es X.env := by rfl)
    (hpl : ((backTo pos (starEach (e :: es) X.env)).any (·.1) || (backToKw pos (keywordEach kws X.env)).any (·.1.isNone)) = false := by rfl) :
    PE X (.Call (.Name x p) (e :: es) kws pos) (tCallNS n ks.length sp gV E t tk) := by
  refine ⟨fun pins s σ H Q I h => wpAny_Call_Name_kw (ld_glob I hg hm ?_ hdb)⟩
  refine PySem.W.callWith_KW (h₀ := X.base) I.ok.mod.kin hk hall (thn (ha.run pos pins s σ H _ I h) fun us s1 ⟨vs, H1, I1, r, q⟩ => ?_) hpl he
  refine thn (hkw.run pos pins s1 σ H1 _ I1 q) fun ws s2 w2 => ?_
  obtain ⟨zs, H2, I2, rz, l1, l2, q2⟩ := w2
  refine ⟨I2.kIn, ?_⟩
  rw [hks]
  have bt := hb.to s2 us ws I2.kIn (r.length.symm.trans l1) (rz.length.symm.trans l2)
  refine wpAny_call (codeAny_mono (F.run X.A X.stack s2 H2 ⟨us, ks.zip ws⟩ (g us ws) (gV vs zs) Q (E σ) hr I2.env0 bt (hb.rel r rz) q2) fun out s' hq => ?_)
  match out, hq with
  | .error e, hq => exact hx σ pins H2 s2 e s' I2 hq
  | .ok (.ret u), hq => exact I2.after hq
  | .ok .next, hq => exact hq.elim
  | .ok .brk, hq => exact hq.elim
  | .ok .cont, hq => exact hq.elim
end
/-- a raising callee within a def that lets the error out -/
theorem passX {X : Cx} {E : XK} (tk : Takes X (fun cls d _ H => E cls d H)) : Passes (L2.CX X.prog X.w) X E := fun pins σ H s e s' I c => passes_call tk (fun _ _ _ _ h => h) pins σ H s e s' I c
end Sip
namespace Sip
open PySem PySem.Spec PyProof.Rows L2 TL
theorem kit_ownF {K : PySem.W.Frag} {C S : Addr} (h1 : PySem.W.isClsIn K S = true) (h2 : PySem.W.typeIn K (.ref S) = some (.type "type")) (h0 : PySem.W.subIn K (.ref C) (.ref C) = some true) (h3 : PySem.W.subIn K (.ref C) (.ref S) = some false) : PySem.W.kitOne K (.ref C) (.ref S) = some false := by
  have ne : C ≠ S := fun z => by
    rw [z] at h0 h3
    rw [h0] at h3
    cases h3
  have a : ((PySem.W.clsIn K S).isSome && PySem.W.typeIn K (.ref S) == some (.type "type")) = true := by
    have h1' : (PySem.W.clsIn K S).isSome = true := h1
    rw [h1', h2]; rfl
  unfold PySem.W.kitOne PySem.W.kitCls
  split
  · next h =>
    exfalso
    exact ne (by simpa using h)
  · exact (if_pos a).trans h3
/-- the written class of an own error straight beneath S -/
def IsExcObj (K : PySem.W.Frag) (C S : Addr) : Prop := ∃ nm q N bs bm sn sub ab col dd k0 k1 k2 k3 k5, K.lookup C = some (excClassObj nm q C N bs bm true sn sub ab col dd k0 k1 k2 k3 k5 "ValueError.__new__") ∧ PySem.HandSPX.refsVE bm = true
end Sip
/-! several except clauses, some with a name -/
namespace Sip
open PySem PySem.Spec PyProof.Rows L2 TL
/-- a clause: its class, the slot of its name, its suite -/
abbrev Cl := Value × Option Nat × (Addr → Value → Option Addr → TS)
/-- behind a suite its name is gone -/
def offD (i : Nat) (D : Ends) : Ends where
  nx := fun σ H => D.nx (σ.set i none) H
  rt := D.rt
  bk := fun σ H => D.bk (σ.set i none) H
  ct := fun σ H => D.ct (σ.set i none) H
def suiteW (D : Ends) (ts : Addr → Value → Option Addr → TS) (cls : Value) (d : Option Addr) (σ : L2.St) (H : Hp) (a : Addr) : Option Nat → Prop
  | none => ts a cls d D σ H
  | some i => ts a cls d (offD i D) (σ.set i (some (.ref a))) H
def wMix (K : PySem.W.Frag) (Wo : WX) (D : Ends) : List Cl → WX
  | [] => Wo
  | (c, o, ts) :: r => fun cls d σ H => ∃ b, PySem.W.exmOne K cls c = some b ∧ (b = true → ∀ a, H a = none → suiteW D ts cls d σ H a o) ∧ (b = false → wMix K Wo D r cls d σ H)
/-- the slot of a clause's name -/
def AsOk (X : Cx) : Option Str → Option Nat → Prop
  | none, none => True
  | some n, some i => X.N.Nodup ∧ X.N[i]? = some n ∧ X.env.kindOf n = some .local
  | _, _ => False
abbrev SuiteOk (X : Cx) (su : List Stmt) (ts : Addr → Value → Option Addr → TS) : Prop := ∀ (a : Addr) (oe : Obj) (cls : Value) (d : Option Addr) (pn : List (Addr × Obj)), Zc cls d oe → (∃ vs, oe.data = .fields vs) → PSs (X.suite a ((a, oe) :: pn)) su (ts a cls d)
inductive ClsOk (X : Cx) : List ExceptHandler → List Cl → Prop
  | nil : ClsOk X [] []
  | cons {x : Str} {c : Value} {nm : Option Str} {o : Option Nat} {ts : Addr → Value → Option Addr → TS} {st : Stmt} {su : List Stmt} {q1 q2 : Pos} {hs : List ExceptHandler} {l : List Cl} (hc : Names X x c) (ha : AsOk X nm o) (hsu : SuiteOk X (st :: su) ts) (r : ClsOk X hs l) :
      ClsOk X (.ExceptHandler (some (.Name x q1)) nm (st :: su) q2 :: hs) ((c, o, ts) :: l)
/-- an error that has come to the clauses of a try -/
structure Caught (X : Cx) (pins : List (Addr × Obj)) (a : Addr) (B : Heap) (sI s1 : Shared) (h3 : Heap) (σ : L2.St) (H : Hp) (cls : Value) (d : Option Addr) : Prop where
  ok : X.Ok
  stk : X.stack = X.env :: X.outer
  frm : X.env.frame = some X.env.locals
  inv : Inv X pins σ H sI
  nb : ∀ b o, sI.heap.get? b = some o → b ∉ frs X.stack → B.get? b = some o
  up : sI.heap.UpToSlots h3
  fl : HandSPX.FlyingZ B (X.env :: X.outer) a (Zc cls d) h3
  na : H a = none
  nL : a ≠ X.env.locals
  nF : a ∉ X.fs
  os : s1.os = sI.os
  ag : AllBare s1.gens
section
variable {X : Cx} {pins : List (Addr × Obj)} {a : Addr} {B : Heap} {sI s1 : Shared} {h3 : Heap} {σ : L2.St} {H : Hp} {cls : Value} {d : Option Addr} {D : Ends} {Wo : WX}
theorem Caught.at (C : Caught X pins a B sI s1 h3 σ H cls d) {h4 : Heap} (f : HandSPX.FlyingZ B (X.env :: X.outer) a (Zc cls d) h4) (u : h3.UpToSlots h4) : Inv X pins σ H { s1 with heap := h4 } :=
  C.inv.landed (s' := { s1 with heap := h4 }) (by have := C.nb; exact this) f.1 (C.up.trans u) C.os C.ag
/-- no clause takes it -/
theorem Caught.none (C : Caught X pins a B sI s1 h3 σ H cls d) (tk : Takes X Wo) (w : Wo cls d σ H) : wpAny (model X.prog X.w) X.A (handleBy (.ref a) X.env []) (SP X pins D) X.xe { s1 with heap := h3 } := by
  have C2 := C
  obtain ⟨_, _, _, _, _, T, _, _, he, _, hd, h1, _⟩ := C2.fl
  have go : wpAny (model X.prog X.w) X.A (setFlight (.ref a) X.env.frame) (fun _ s4 => wpAny (model X.prog X.w) X.A (throw (.ref a) : Sem Flow) (SP X pins D) X.xe s4) X.xe { s1 with heap := h3 } := by
    rw [C.frm]
    exact HandSPX.setFlight_upZ C.fl fun h4 held u4 => wpAny_throw (tk _ _ ⟨a, B, sI, pins, σ, H, cls, d, rfl, C.inv, C.nb, C.up.trans u4, .inr (.inr (by rw [C.stk]; exact held)), C.na, C.os, C.ag, w⟩)
  refine wpAny_handleBy_nil ?_
  unfold PySem.passOn
  refine wpAny_bind (wpAny_field he hd h1 ?_)
  have nn : ¬ ((Value.ref T == Value.none) = true) := by simp
  rw [if_neg nn]
  first | exact wpAny_bind (wpAny_pure (wpAny_bind go)) | exact wpAny_bind go
theorem caught_go (C : Caught X pins a B sI s1 h3 σ H cls d) (tk : Takes X Wo) : ∀ {hs : List ExceptHandler} {l : List Cl}, ClsOk X hs l → wMix X.K Wo D l cls d σ H → wpAny (model X.prog X.w) X.A (handleBy (.ref a) X.env hs) (SP X pins D) X.xe { s1 with heap := h3 } := by
  intro hs l hk
  induction hk with
  | nil => exact fun w => C.none tk w
  | @cons x c nm o ts st su q1 q2 hs2 l2 hc ha hsu r ih =>
    rintro ⟨b, hb, yes, no⟩
    have J3 := C.at C.fl (Heap.UpToSlots.refl _)
    obtain ⟨oe, vs, he, hz, hd⟩ := C.fl.there
    have S3 := J3.suite he hd C.na C.nL C.nF
    refine wpAny_handleBy_cons (codeAny_handlers_test ?_) (by intro q; cases q)
    have knows : PySem.W.Looks (model X.prog X.w) h3 (typeOf (.ref a)) cls := fun _ _ _ _ k q => wpAny_typeOf_ref (k _ _ he) (by rw [hz.1]; exact q)
    have look := PySem.W.exm_one (M := model X.prog X.w) J3.kIn knows hb
    have named : ∀ {Q E : Value → Shared → Prop}, Q c { s1 with heap := h3 } → wpAny (model X.prog X.w) (X.A.mark (some (.ref a))) (eval (.Name x q1) X.env) Q E { s1 with heap := h3 } := fun q => by
      rcases hc with ⟨g1, g2, m1 | ⟨m1, m2, m3⟩⟩
      · exact ld_glob (X := X.suite a ((a, oe) :: (X.pn ++ pins))) S3 g1 m1 q g2
      · exact ld_blt (X := X.suite a ((a, oe) :: (X.pn ++ pins))) S3 g1 m1 m2 q m3 g2
    refine named (look.here ?_)
    cases b with
    | false => exact ih (no rfl)
    | true =>
      cases nm with
      | none =>
        cases o with
        | some i => exact ha.elim
        | none =>
          refine codeAny_handlers_suite (HandSPX.lands_againZ C.fl fun h4 f4 u4 => ?_)
          obtain ⟨oe4, _, e4, z4, d4⟩ := f4.there
          have S4 := (C.at f4 u4).suite e4 d4 C.na C.nL C.nF
          refine wpAny_mono ((hsu a oe4 cls d (X.pn ++ pins) z4 ⟨_, d4⟩).run [] _ _ H _ S4 (yes rfl a C.na)) (fun f s6 hp => ?_) fun _ _ z => z.elim
          match f, hp with
          | .next, ⟨_, _, S6, q6⟩ => exact ⟨_, _, S6.unsuite C.ok, q6⟩
          | .brk, ⟨_, _, S6, q6⟩ => exact ⟨_, _, S6.unsuite C.ok, q6⟩
          | .cont, ⟨_, _, S6, q6⟩ => exact ⟨_, _, S6.unsuite C.ok, q6⟩
          | .ret _, ⟨_, _, _, S6, r6, q6⟩ => exact ⟨_, _, _, S6.unsuite C.ok, r6, q6⟩
      | some n =>
        cases o with
        | none => exact ha.elim
        | some i =>
          obtain ⟨hN, hi, hl⟩ := ha
          refine codeAny_handlers_suite_as (HandSPX.lands_againZ C.fl fun h4 f4 u4 => ?_)
          obtain ⟨oe4, _, e4, z4, d4⟩ := f4.there
          have S4 := (C.at f4 u4).suite e4 d4 C.na C.nL C.nF
          refine store_ok (X := X.suite a ((a, oe4) :: (X.pn ++ pins))) (v := .ref a) S4 hN hi (.inl hl) rfl (fun s5 S5 => ?_) (.inr hl)
          refine wpAny_mono ((hsu a oe4 cls d (X.pn ++ pins) z4 ⟨_, d4⟩).run [] s5 _ H _ S5 (yes rfl a C.na)) (fun f s6 hp => ?_) fun _ _ z => z.elim
          have off : ∀ {σ6 : L2.St} {H6 : Hp} {Q : Shared → Prop}, Inv (X.suite a ((a, oe4) :: (X.pn ++ pins))) [] σ6 H6 s6 → (∀ s7, Inv X pins (σ6.set i none) H6 s7 → Q s7) → wpAny (model X.prog X.w) X.A (do bindName X.env n .none; unbindBehindTheSuite X.env n q2) (fun _ s7 => Q s7) X.xe s6 :=
            fun S6 hq => gone_ok (S6.unsuite C.ok) hN hi hl hq
          match f, hp with
          | .next, ⟨_, _, S6, q6⟩ => exact off S6 fun _ J7 => ⟨_, _, J7, q6⟩
          | .brk, ⟨_, _, S6, q6⟩ => exact off S6 fun _ J7 => ⟨_, _, J7, q6⟩
          | .cont, ⟨_, _, S6, q6⟩ => exact off S6 fun _ J7 => ⟨_, _, J7, q6⟩
          | .ret _, ⟨_, _, _, S6, r6, q6⟩ => exact off S6 fun _ J7 => ⟨_, _, _, J7, r6, q6⟩
/-- try: .. except X: .. except Y as n: .. -/
theorem ps_try_mix {body : List Stmt} {h0 : ExceptHandler} {hs : List ExceptHandler} {l : List Cl} {pos : Pos} {tb : WX → TS} (stk : X.stack = X.env :: X.outer) (frm : X.env.frame = some X.env.locals) (tk : Takes X Wo)
    (hb : ∀ (W : WX) (pn : List (Addr × Obj)) (xe : Value → Shared → Prop), Takes (X.tr pn xe) W → PassesOwn (model X.prog X.w) X.A X.env xe → PSs (X.tr pn xe) body (tb W)) (hh : ClsOk X (h0 :: hs) l) :
    PS X (.Try body (h0 :: hs) [] [] pos) (fun D σ H => tb (wMix X.K Wo D l) D σ H) := by
  refine ⟨fun pins s σ H D I h => wpAny_Try_except ?_⟩
  have ok := I.ok
  have fr : X.A.frames = some (X.env :: X.outer) := by rw [ok.frames, stk]
  have run := (hb (wMix X.K Wo D l) (X.pn ++ pins) (fun e t1 => wpAny (model X.prog X.w) X.A (noteFrame e X.env) (fun _ t2 => wpAny (model X.prog X.w) X.A (setFlight e none) (fun _ t3 => wpAny (model X.prog X.w) X.A (handleBy e X.env (h0 :: hs)) (SP X pins D) X.xe t3) X.xe t2) X.xe t1) ?_ PassesOwn.looking).run [] s σ H D (I.toTry _) h
  · refine wpAny_mono run (fun f s1 hp => ?_) fun _ _ he => he
    match f, hp with
    | .next, ⟨_, _, J, q⟩ => exact wpAny_execs_nil ⟨_, _, J.ofTry ok, q⟩
    | .brk, ⟨_, _, J, q⟩ => exact ⟨_, _, J.ofTry ok, q⟩
    | .cont, ⟨_, _, J, q⟩ => exact ⟨_, _, J.ofTry ok, q⟩
    | .ret _, ⟨_, _, _, J, r, q⟩ => exact ⟨_, _, _, J.ofTry ok, r, q⟩
  · rintro u s1 ⟨a, B, sI, pins2, σ2, H2, cls, d, rfl, J2, nb, up, sky, na, os, ag, w⟩
    have sky2 : Sky B (X.env :: X.outer) a (Zc cls d) X.env.locals s1.heap := by rw [← stk]; exact sky
    refine Sky.land Zc.steady fr frm sky2 fun h3 f3 u3 => ?_
    obtain ⟨oe, vs, he, _, hd⟩ := f3.there
    have far : a ∉ frs (X.env :: X.outer) := fun m => by
      obtain ⟨_, o2, e2, nf⟩ := f3.2.2.1.mem m
      rw [he] at e2; cases e2
      exact nf _ hd
    have nL : a ≠ X.env.locals := fun z => far (List.mem_filterMap.mpr ⟨X.env, List.mem_cons_self, by rw [frm, z]⟩)
    have nF : a ∉ X.fs := fun m => by
      obtain ⟨e, h1, h2⟩ := List.mem_filterMap.mp m
      exact far (List.mem_filterMap.mpr ⟨e, List.mem_cons_of_mem _ h1, h2⟩)
    exact caught_go ⟨ok, stk, frm, J2.ofTry ok, nb, up.trans u3, f3, na, nL, nF, os, ag⟩ tk hh w
end
/-- a promise that raises nothing, where one that may raise is asked; two promises of one def -/
theorem FnOk.lift {P : Program} {w : World} {K : PySem.W.Frag} {mg : Str → Option Value} {base : Heap} {CX : CXT} {k : Nat} {f : Addr} {fd : FuncData} {ps : List Str} {sp : Sp} (F : FnOk P w K mg base CX0 k f fd ps sp) : FnOk P w K mg base CX k f fd ps sp :=
  ⟨F.len, fun A outer s H args us vs Q E hr he hb hv h => codeAny_mono (F.run A outer s H args us vs Q E hr he hb hv h) fun r s2 q => match r, q with
    | .ok (.ret _), q => q⟩
theorem FnOk.or {P : Program} {w : World} {K : PySem.W.Frag} {mg : Str → Option Value} {base : Heap} {CX : CXT} {k : Nat} {f : Addr} {fd : FuncData} {ps : List Str} {sp sq : Sp} (F : FnOk P w K mg base CX k f fd ps sp) (G : FnOk P w K mg base CX k f fd ps sq) :
    FnOk P w K mg base CX k f fd ps (fun vs H Q E => sp vs H Q E ∨ sq vs H Q E) :=
  ⟨fun vs H Q E h => h.elim (F.len vs H Q E) (G.len vs H Q E), fun A outer s H args us vs Q E hr he hb hv h => h.elim (F.run A outer s H args us vs Q E hr he hb hv) (G.run A outer s H args us vs Q E hr he hb hv)⟩
end Sip
/-! calls within a try whose last parameters keep their defaults; parts of values -/
namespace Sip
open PySem PySem.Spec PyProof.Rows L2 TL
theorem vals_cut : ∀ {zs : List V} {ws : List Value} (i n : Nat), Vals zs ws → Vals ((zs.drop i).take n) ((ws.drop i).take n)
  | [], [], i, n, .nil => by simp; exact .nil
  | z :: zs, w :: ws, 0, 0, .cons h t => .nil
  | z :: zs, w :: ws, 0, n + 1, .cons h t => .cons h (vals_cut 0 n t)
  | z :: zs, w :: ws, i + 1, n, .cons h t => vals_cut i n t
section
variable {X : Cx} {CX : CXT} {k n : Nat} {f : Addr} {fd : FuncData} {ps : List Str} {sp : Sp} {E : L2.St → XK} {x : Str} {p pos : Pos} {e : Expr} {es : List Expr} {t : TA} {ds : List Value} {dvs : List V}
def tCallDS (sp : Sp) (dvs : List V) (E : L2.St → XK) (t : TA) : TE := fun σ H Q => t σ H fun vs H1 => sp (vs ++ dvs) H1 Q (E σ)
theorem pe_callDS (F : FnOk X.prog X.w X.K X.mg X.base CX k f fd ps sp) (hr : Room k X.A) (hg : Gl X x) (hm : X.mg x = some (.ref f)) (hk : PySem.W.keepIn X.K (.ref f) = true) (hb : Binds X.K fd ps ds) (hd : Vals dvs ds) (hx : ∀ σ, PassesAt CX X σ (E σ))
    (ha : PA X (e :: es) t) (hdb : (x == ("__debug__" : Str)) = false := by decide) (he : starEach (e :: es) X.env = (false, eval e X.env) :: starEach es X.env := by rfl)
    (hpl : ((backTo pos (starEach es X.env)).any (·.1)) = false := by rfl) :
    PE X (.Call (.Name x p) (e :: es) [] pos) (tCallDS sp dvs E t) := by
  refine ⟨fun pins s σ H Q I h => wpAny_Call_Name_kw (ld_glob I hg hm ?_ hdb)⟩
  refine PySem.W.callWith_K (h₀ := X.base) I.ok.mod.kin hk (thn (ha.run pos pins s σ H _ I h) fun us s1 w1 => ?_) he hpl
  obtain ⟨vs, H1, I1, r, q⟩ := w1
  refine ⟨I1.kIn, ?_⟩
  have rv : Vals (vs ++ dvs) (us ++ ds) := Vals.append r hd
  have ln : (us ++ ds).length = ps.length := rv.length.symm.trans (F.len _ _ _ _ q)
  have bt := hb s1 us I1.kIn ln
  refine wpAny_call (codeAny_mono (F.run X.A X.stack s1 H1 ⟨us, []⟩ (us ++ ds) (vs ++ dvs) Q (E σ) hr I1.env0 bt rv q) fun out s' hq => ?_)
  match out, hq with
  | .error e, hq => exact hx σ pins H1 s1 e s' I1 hq
  | .ok (.ret u), hq => exact I1.after hq
  | .ok .next, hq => exact hq.elim
  | .ok .brk, hq => exact hq.elim
  | .ok .cont, hq => exact hq.elim
end
end Sip
namespace Sip
open PySem PySem.Spec PyProof.Rows L2 TL
def topS (i : Nat) : Stmt := PySem.Challenge.pw_sipstack_k53_rows_decoded_and_encoded.main.body.getD i (.Pass ⟨0, 0, 0, 0⟩)
abbrev s_iBadCode : Stmt := inClass (topS 2) 0
abbrev N_iBadCode : List Str := ["self", "at"]
abbrev P_iBadCode : List Str := ["self", "at"]
theorem sc_iBadCode : FnScope N_iBadCode P_iBadCode (defScope s_iBadCode) := ⟨rfl, rfl, rfl, by decide +kernel, rfl, by decide +kernel, by decide +kernel⟩
abbrev s_iNoSign : Stmt := inClass (topS 3) 0
abbrev N_iNoSign : List Str := ["self", "sign"]
abbrev P_iNoSign : List Str := ["self", "sign"]
theorem sc_iNoSign : FnScope N_iNoSign P_iNoSign (defScope s_iNoSign) := ⟨rfl, rfl, rfl, by decide +kernel, rfl, by decide +kernel, by decide +kernel⟩
abbrev s_iNoCode : Stmt := inClass (topS 4) 0
abbrev N_iNoCode : List Str := ["self", "word"]
abbrev P_iNoCode : List Str := ["self", "word"]
theorem sc_iNoCode : FnScope N_iNoCode P_iNoCode (defScope s_iNoCode) := ⟨rfl, rfl, rfl, by decide +kernel, rfl, by decide +kernel, by decide +kernel⟩
abbrev s_iNoEnds : Stmt := inClass (topS 5) 0
abbrev N_iNoEnds : List Str := ["self", "word"]
abbrev P_iNoEnds : List Str := ["self", "word"]
theorem sc_iNoEnds : FnScope N_iNoEnds P_iNoEnds (defScope s_iNoEnds) := ⟨rfl, rfl, rfl, by decide +kernel, rfl, by decide +kernel, by decide +kernel⟩
abbrev s_iNoWay : Stmt := inClass (topS 6) 0
abbrev N_iNoWay : List Str := ["self", "word"]
abbrev P_iNoWay : List Str := ["self", "word"]
theorem sc_iNoWay : FnScope N_iNoWay P_iNoWay (defScope s_iNoWay) := ⟨rfl, rfl, rfl, by decide +kernel, rfl, by decide +kernel, by decide +kernel⟩
abbrev s_chk : Stmt := topS 32
abbrev N_chk : List Str := ["code"]
abbrev P_chk : List Str := ["code"]
theorem sc_chk : FnScope N_chk P_chk (defScope s_chk) := ⟨rfl, rfl, rfl, by decide +kernel, rfl, by decide +kernel, by decide +kernel⟩
abbrev s_gone : Stmt := topS 34
abbrev N_gone : List Str := ["row", "place", "state", "code"]
abbrev P_gone : List Str := ["row", "place", "state", "code"]
theorem sc_gone : FnScope N_gone P_gone (defScope s_gone) := ⟨rfl, rfl, rfl, by decide +kernel, rfl, by decide +kernel, by decide +kernel⟩
abbrev s_bturn : Stmt := topS 35
abbrev N_bturn : List Str := ["row", "place", "state"]
abbrev P_bturn : List Str := ["row", "place", "state"]
theorem sc_bturn : FnScope N_bturn P_bturn (defScope s_bturn) := ⟨rfl, rfl, rfl, by decide +kernel, rfl, by decide +kernel, by decide +kernel⟩
abbrev s_bmark : Stmt := topS 36
abbrev N_bmark : List Str := ["row", "place", "first_two"]
abbrev P_bmark : List Str := ["row", "place"]
theorem sc_bmark : FnScope N_bmark P_bmark (defScope s_bmark) := ⟨rfl, rfl, rfl, by decide +kernel, rfl, by decide +kernel, by decide +kernel⟩
abbrev s_sat : Stmt := topS 38
abbrev N_sat : List Str := ["row", "begin", "state", "code"]
abbrev P_sat : List Str := ["row", "begin", "state", "code"]
theorem sc_sat : FnScope N_sat P_sat (defScope s_sat) := ⟨rfl, rfl, rfl, by decide +kernel, rfl, by decide +kernel, by decide +kernel⟩
abbrev s_wat : Stmt := topS 41
abbrev N_wat : List Str := ["row", "begin", "state"]
abbrev P_wat : List Str := ["row", "begin", "state"]
theorem sc_wat : FnScope N_wat P_wat (defScope s_wat) := ⟨rfl, rfl, rfl, by decide +kernel, rfl, by decide +kernel, by decide +kernel⟩
abbrev s_stat : Stmt := topS 39
abbrev N_stat : List Str := ["row", "begin", "many", "base", "writing", "sign", "byte"]
abbrev P_stat : List Str := ["row", "begin"]
theorem sc_stat : FnScope N_stat P_stat (defScope s_stat) := ⟨rfl, rfl, rfl, by decide +kernel, rfl, by decide +kernel, by decide +kernel⟩
abbrev s_lead : Stmt := topS 40
abbrev N_lead : List Str := ["lead"]
abbrev P_lead : List Str := ["lead"]
theorem sc_lead : FnScope N_lead P_lead (defScope s_lead) := ⟨rfl, rfl, rfl, by decide +kernel, rfl, by decide +kernel, by decide +kernel⟩
abbrev s_stw : Stmt := topS 43
abbrev N_stw : List Str := ["sign"]
abbrev P_stw : List Str := ["sign"]
theorem sc_stw : FnScope N_stw P_stw (defScope s_stw) := ⟨rfl, rfl, rfl, by decide +kernel, rfl, by decide +kernel, by decide +kernel⟩
abbrev s_rsign : Stmt := topS 30
abbrev N_rsign : List Str := ["row", "place", "state", "code", "begin", "state_there", "sign", "many"]
abbrev P_rsign : List Str := ["row", "place", "state", "code"]
theorem sc_rsign : FnScope N_rsign P_rsign (defScope s_rsign) := ⟨rfl, rfl, rfl, by decide +kernel, rfl, by decide +kernel, by decide +kernel⟩
abbrev s_whole : Stmt := topS 22
abbrev N_whole : List Str := ["thing"]
abbrev P_whole : List Str := ["thing"]
theorem sc_whole : FnScope N_whole P_whole (defScope s_whole) := ⟨rfl, rfl, rfl, by decide +kernel, rfl, by decide +kernel, by decide +kernel⟩
abbrev s_lasts : Stmt := topS 33
abbrev N_lasts : List Str := ["code"]
abbrev P_lasts : List Str := ["code"]
theorem sc_lasts : FnScope N_lasts P_lasts (defScope s_lasts) := ⟨rfl, rfl, rfl, by decide +kernel, rfl, by decide +kernel, by decide +kernel⟩
abbrev s_swr : Stmt := topS 42
abbrev N_swr : List Str := ["sign", "state", "code"]
abbrev P_swr : List Str := ["sign", "state", "code"]
theorem sc_swr : FnScope N_swr P_swr (defScope s_swr) := ⟨rfl, rfl, rfl, by decide +kernel, rfl, by decide +kernel, by decide +kernel⟩
abbrev s_ww : Stmt := topS 44
abbrev N_ww : List Str := ["sign", "state", "writing"]
abbrev P_ww : List Str := ["sign", "state"]
theorem sc_ww : FnScope N_ww P_ww (defScope s_ww) := ⟨rfl, rfl, rfl, by decide +kernel, rfl, by decide +kernel, by decide +kernel⟩
abbrev s_tw : Stmt := topS 45
abbrev N_tw : List Str := ["sign", "state", "page"]
abbrev P_tw : List Str := ["sign", "state"]
theorem sc_tw : FnScope N_tw P_tw (defScope s_tw) := ⟨rfl, rfl, rfl, by decide +kernel, rfl, by decide +kernel, by decide +kernel⟩
abbrev s_wsigns : Stmt := topS 31
abbrev N_wsigns : List Str := ["signs", "state", "code", "last", "row", "sign", "writing"]
abbrev P_wsigns : List Str := ["signs", "state", "code"]
theorem sc_wsigns : FnScope N_wsigns P_wsigns (defScope s_wsigns) := ⟨rfl, rfl, rfl, by decide +kernel, rfl, by decide +kernel, by decide +kernel⟩
abbrev s_fstate : Stmt := topS 29
abbrev N_fstate : List Str := ["code"]
abbrev P_fstate : List Str := ["code"]
theorem sc_fstate : FnScope N_fstate P_fstate (defScope s_fstate) := ⟨rfl, rfl, rfl, by decide +kernel, rfl, by decide +kernel, by decide +kernel⟩
abbrev s_wends : Stmt := topS 47
abbrev N_wends : List Str := ["signs", "ends", "feed", "told", "sign"]
abbrev P_wends : List Str := ["signs", "ends"]
theorem sc_wends : FnScope N_wends P_wends (defScope s_wends) := ⟨rfl, rfl, rfl, by decide +kernel, rfl, by decide +kernel, by decide +kernel⟩
abbrev s_wfeed : Stmt := topS 48
abbrev N_wfeed : List Str := ["ends"]
abbrev P_wfeed : List Str := ["ends"]
theorem sc_wfeed : FnScope N_wfeed P_wfeed (defScope s_wfeed) := ⟨rfl, rfl, rfl, by decide +kernel, rfl, by decide +kernel, by decide +kernel⟩
abbrev s_cends : Stmt := topS 49
abbrev N_cends : List Str := ["ends"]
abbrev P_cends : List Str := ["ends"]
theorem sc_cends : FnScope N_cends P_cends (defScope s_cends) := ⟨rfl, rfl, rfl, by decide +kernel, rfl, by decide +kernel, by decide +kernel⟩
abbrev s_eline : Stmt := topS 50
abbrev N_eline : List Str := ["sign", "before", "feed_follows", "ends"]
abbrev P_eline : List Str := ["sign", "before", "feed_follows", "ends"]
theorem sc_eline : FnScope N_eline P_eline (defScope s_eline) := ⟨rfl, rfl, rfl, by decide +kernel, rfl, by decide +kernel, by decide +kernel⟩
abbrev s_cways : Stmt := topS 54
abbrev N_cways : List Str := ["code", "ends", "wrong"]
abbrev P_cways : List Str := ["code", "ends", "wrong"]
theorem sc_cways : FnScope N_cways P_cways (defScope s_cways) := ⟨rfl, rfl, rfl, by decide +kernel, rfl, by decide +kernel, by decide +kernel⟩
abbrev s_mgo : Stmt := topS 37
abbrev N_mgo : List Str := ["row", "begin", "code", "many", "missing"]
abbrev P_mgo : List Str := ["row", "begin", "code"]
theorem sc_mgo : FnScope N_mgo P_mgo (defScope s_mgo) := ⟨rfl, rfl, rfl, by decide +kernel, rfl, by decide +kernel, by decide +kernel⟩
abbrev s_sure : Stmt := topS 56
abbrev N_sure : List Str := ["row", "place", "state", "code", "whole", "word", "sign", "behind", "state_there"]
abbrev P_sure : List Str := ["row", "place", "state", "code", "whole"]
theorem sc_sure : FnScope N_sure P_sure (defScope s_sure) := ⟨rfl, rfl, rfl, by decide +kernel, rfl, by decide +kernel, by decide +kernel⟩
abbrev s_sinit : Stmt := inClass (topS 57) 0
abbrev N_sinit : List Str := ["self", "place", "state", "code", "ends", "wrong", "most", "by_line"]
abbrev P_sinit : List Str := ["self", "place", "state", "code", "ends", "wrong", "most", "by_line"]
theorem sc_sinit : FnScope N_sinit P_sinit (defScope s_sinit) := ⟨rfl, rfl, rfl, by decide +kernel, rfl, by decide +kernel, by decide +kernel⟩
abbrev s_goon : Stmt := inClass (topS 57) 1
abbrev N_goon : List Str := ["self", "row", "whole"]
abbrev P_goon : List Str := ["self", "row", "whole"]
theorem sc_goon : FnScope N_goon P_goon (defScope s_goon) := ⟨rfl, rfl, rfl, by decide +kernel, rfl, by decide +kernel, by decide +kernel⟩
abbrev s_fone : Stmt := inClass (topS 57) 2
abbrev N_fone : List Str := ["self", "row", "whole", "word", "sign", "place", "state", "follower", "place_behind", "state_there", "feed_follows"]
abbrev P_fone : List Str := ["self", "row", "whole"]
theorem sc_fone : FnScope N_fone P_fone (defScope s_fone) := ⟨rfl, rfl, rfl, by decide +kernel, rfl, by decide +kernel, by decide +kernel⟩
abbrev s_pwrong : Stmt := inClass (topS 57) 3
abbrev N_pwrong : List Str := ["self", "place", "state"]
abbrev P_pwrong : List Str := ["self", "place", "state"]
theorem sc_pwrong : FnScope N_pwrong P_pwrong (defScope s_pwrong) := ⟨rfl, rfl, rfl, by decide +kernel, rfl, by decide +kernel, by decide +kernel⟩
abbrev s_looks : Stmt := inClass (topS 57) 4
abbrev N_looks : List Str := ["self", "last_one"]
abbrev P_looks : List Str := ["self"]
theorem sc_looks : FnScope N_looks P_looks (defScope s_looks) := ⟨rfl, rfl, rfl, by decide +kernel, rfl, by decide +kernel, by decide +kernel⟩
abbrev s_note : Stmt := inClass (topS 57) 5
abbrev N_note : List Str := ["self", "sign", "place", "state", "feed_follows", "before", "ended"]
abbrev P_note : List Str := ["self", "sign", "place", "state", "feed_follows"]
theorem sc_note : FnScope N_note P_note (defScope s_note) := ⟨rfl, rfl, rfl, by decide +kernel, rfl, by decide +kernel, by decide +kernel⟩
abbrev s_sof : Stmt := topS 55
abbrev N_sof : List Str := ["found", "sign", "place", "state"]
abbrev P_sof : List Str := ["found"]
theorem sc_sof : FnScope N_sof P_sof (defScope s_sof) := ⟨rfl, rfl, rfl, by decide +kernel, rfl, by decide +kernel, by decide +kernel⟩
abbrev s_decod : Stmt := topS 52
abbrev N_decod : List Str := ["row", "code", "ends", "wrong", "scan"]
abbrev P_decod : List Str := ["row", "code", "ends", "wrong"]
theorem sc_decod : FnScope N_decod P_decod (defScope s_decod) := ⟨rfl, rfl, rfl, by decide +kernel, rfl, by decide +kernel, by decide +kernel⟩
abbrev s_encod : Stmt := topS 53
abbrev N_encod : List Str := ["signs", "code", "ends", "row", "state"]
abbrev P_encod : List Str := ["signs", "code", "ends"]
theorem sc_encod : FnScope N_encod P_encod (defScope s_encod) := ⟨rfl, rfl, rfl, by decide +kernel, rfl, by decide +kernel, by decide +kernel⟩
abbrev s_pool : Stmt := topS 59
abbrev N_pool : List Str := ["_law_script", "_law_at", "_law_cell", "_law_digits"]
abbrev P_pool : List Str := ["_law_script", "_law_at"]
theorem sc_pool : FnScope N_pool P_pool (defScope s_pool) := ⟨rfl, rfl, rfl, by decide +kernel, rfl, by decide +kernel, by decide +kernel⟩
abbrev s_take : Stmt := topS 60
abbrev N_take : List Str := ["_law_pool_here", "_law_wide", "_law_found", "_law_seed"]
abbrev P_take : List Str := ["_law_pool_here", "_law_wide"]
theorem sc_take : FnScope N_take P_take (defScope s_take) := ⟨rfl, rfl, rfl, by decide +kernel, rfl, by decide +kernel, by decide +kernel⟩
abbrev s_lcodes : Stmt := topS 61
abbrev N_lcodes : List Str := []
abbrev P_lcodes : List Str := []
theorem sc_lcodes : FnScope N_lcodes P_lcodes (defScope s_lcodes) := ⟨rfl, rfl, rfl, by decide +kernel, rfl, by decide +kernel, by decide +kernel⟩
abbrev s_lsign : Stmt := topS 63
abbrev N_lsign : List Str := ["_law_pool_here", "_law_tongue", "_law_size", "_law_edges", "_law_way"]
abbrev P_lsign : List Str := ["_law_pool_here", "_law_tongue"]
theorem sc_lsign : FnScope N_lsign P_lsign (defScope s_lsign) := ⟨rfl, rfl, rfl, by decide +kernel, rfl, by decide +kernel, by decide +kernel⟩
abbrev s_lsteps : Stmt := topS 64
abbrev N_lsteps : List Str := ["_law_sign_here", "_law_many", "_law_rest", "_law_k"]
abbrev P_lsteps : List Str := ["_law_sign_here"]
theorem sc_lsteps : FnScope N_lsteps P_lsteps (defScope s_lsteps) := ⟨rfl, rfl, rfl, by decide +kernel, rfl, by decide +kernel, by decide +kernel⟩
abbrev s_lbytes : Stmt := topS 65
abbrev N_lbytes : List Str := ["_law_signs", "_law_state_here", "_law_tongue", "_law_row_here", "_law_sign_here"]
abbrev P_lbytes : List Str := ["_law_signs", "_law_state_here", "_law_tongue"]
theorem sc_lbytes : FnScope N_lbytes P_lbytes (defScope s_lbytes) := ⟨rfl, rfl, rfl, by decide +kernel, rfl, by decide +kernel, by decide +kernel⟩
abbrev s_lsread : Stmt := topS 66
abbrev N_lsread : List Str := ["_law_row_here", "_law_place", "_law_many", "_law_piece", "_law_sign_here", "_law_byte"]
abbrev P_lsread : List Str := ["_law_row_here", "_law_place"]
theorem sc_lsread : FnScope N_lsread P_lsread (defScope s_lsread) := ⟨rfl, rfl, rfl, by decide +kernel, rfl, by decide +kernel, by decide +kernel⟩
abbrev s_lwide : Stmt := topS 67
abbrev N_lwide : List Str := ["_law_row_here", "_law_place", "_law_state_here", "_law_at", "_law_order", "_law_mark", "_law_pair"]
abbrev P_lwide : List Str := ["_law_row_here", "_law_place", "_law_state_here"]
theorem sc_lwide : FnScope N_lwide P_lwide (defScope s_lwide) := ⟨rfl, rfl, rfl, by decide +kernel, rfl, by decide +kernel, by decide +kernel⟩
abbrev s_lturn : Stmt := topS 68
abbrev N_lturn : List Str := ["_law_row_here", "_law_place", "_law_state_here", "_law_page", "_law_at"]
abbrev P_lturn : List Str := ["_law_row_here", "_law_place", "_law_state_here"]
theorem sc_lturn : FnScope N_lturn P_lturn (defScope s_lturn) := ⟨rfl, rfl, rfl, by decide +kernel, rfl, by decide +kernel, by decide +kernel⟩
abbrev s_lstep : Stmt := topS 69
abbrev N_lstep : List Str := ["_law_row_here", "_law_place", "_law_state_here", "_law_tongue"]
abbrev P_lstep : List Str := ["_law_row_here", "_law_place", "_law_state_here", "_law_tongue"]
theorem sc_lstep : FnScope N_lstep P_lstep (defScope s_lstep) := ⟨rfl, rfl, rfl, by decide +kernel, rfl, by decide +kernel, by decide +kernel⟩
abbrev s_lany : Stmt := topS 70
abbrev N_lany : List Str := ["_law_items_here", "_law_found", "_law_k", "_law_sign_here", "_law_place", "_law_state_here"]
abbrev P_lany : List Str := ["_law_items_here"]
theorem sc_lany : FnScope N_lany P_lany (defScope s_lany) := ⟨rfl, rfl, rfl, by decide +kernel, rfl, by decide +kernel, by decide +kernel⟩
abbrev s_litems : Stmt := topS 71
abbrev N_litems : List Str := ["_law_row_here", "_law_place", "_law_state_here", "_law_tongue", "_law_lines", "_law_amiss", "_law_found", "_law_broken", "_law_word", "_law_sign_here", "_law_behind", "_law_after"]
abbrev P_litems : List Str := ["_law_row_here", "_law_place", "_law_state_here", "_law_tongue", "_law_lines", "_law_amiss"]
theorem sc_litems : FnScope N_litems P_litems (defScope s_litems) := ⟨rfl, rfl, rfl, by decide +kernel, rfl, by decide +kernel, by decide +kernel⟩
abbrev s_lways : Stmt := topS 72
abbrev N_lways : List Str := []
abbrev P_lways : List Str := []
theorem sc_lways : FnScope N_lways P_lways (defScope s_lways) := ⟨rfl, rfl, rfl, by decide +kernel, rfl, by decide +kernel, by decide +kernel⟩
abbrev s_lends : Stmt := topS 73
abbrev N_lends : List Str := ["_law_signs", "_law_lines", "_law_found", "_law_sign_here"]
abbrev P_lends : List Str := ["_law_signs", "_law_lines"]
theorem sc_lends : FnScope N_lends P_lends (defScope s_lends) := ⟨rfl, rfl, rfl, by decide +kernel, rfl, by decide +kernel, by decide +kernel⟩
abbrev s_lrow : Stmt := topS 74
abbrev N_lrow : List Str := ["_law_pool_here", "_law_tongue", "_law_most", "_law_many", "_law_start", "_law_row_here", "_law_state_here", "_law_k", "_law_way", "_law_sign_here", "_law_piece", "_law_after"]
abbrev P_lrow : List Str := ["_law_pool_here", "_law_tongue", "_law_most"]
theorem sc_lrow : FnScope N_lrow P_lrow (defScope s_lrow) := ⟨rfl, rfl, rfl, by decide +kernel, rfl, by decide +kernel, by decide +kernel⟩
abbrev s_lread : Stmt := topS 75
abbrev N_lread : List Str := ["_law_row_here", "_law_tongue", "_law_lines", "_law_amiss", "_law_found", "e"]
abbrev P_lread : List Str := ["_law_row_here", "_law_tongue", "_law_lines", "_law_amiss"]
theorem sc_lread : FnScope N_lread P_lread (defScope s_lread) := ⟨rfl, rfl, rfl, by decide +kernel, rfl, by decide +kernel, by decide +kernel⟩
abbrev s_lrdue : Stmt := topS 76
abbrev N_lrdue : List Str := ["_law_row_here", "_law_tongue", "_law_lines", "_law_amiss", "_law_items_here", "_law_broken", "_law_sign_here", "_law_place", "_law_state_here"]
abbrev P_lrdue : List Str := ["_law_row_here", "_law_tongue", "_law_lines", "_law_amiss"]
theorem sc_lrdue : FnScope N_lrdue P_lrdue (defScope s_lrdue) := ⟨rfl, rfl, rfl, by decide +kernel, rfl, by decide +kernel, by decide +kernel⟩
abbrev s_lwritten : Stmt := topS 77
abbrev N_lwritten : List Str := ["_law_signs", "_law_tongue", "_law_lines", "_law_found", "e"]
abbrev P_lwritten : List Str := ["_law_signs", "_law_tongue", "_law_lines"]
theorem sc_lwritten : FnScope N_lwritten P_lwritten (defScope s_lwritten) := ⟨rfl, rfl, rfl, by decide +kernel, rfl, by decide +kernel, by decide +kernel⟩
abbrev s_law : Stmt := topS 78
abbrev N_law : List Str := ["_law_script", "_law_pool_here", "_law_tongue", "_law_lines", "_law_amiss", "_law_strange", "_law_row_here", "_law_handed", "_law_some", "_law_one", "_law_two", "_law_three", "_law_signs", "_law_k", "_law_items_here", "_law_broken", "_law_due", "_law_sign_here", "_law_place", "_law_state_here", "_law_other"]
abbrev P_law : List Str := ["_law_script"]
theorem sc_law : FnScope N_law P_law (defScope s_law) := ⟨rfl, rfl, rfl, by decide +kernel, rfl, by decide +kernel, by decide +kernel⟩
set_option maxHeartbeats 2000000

def isCode (z : Str) : Prop := ∃ c : Cd, z = c.w
def errQ (H : Hp) (E : XK) (C : Addr) (f : Str) (v : V) : Prop := ∀ (H' : Hp) (d : Addr), Same H H' → H' d = some (.xd [(f, v)]) → E (.ref C) (some d) H'
def spChkX (C : Addr) : Sp := fun vs H Q E => ∃ z : Str, vs = [.str z] ∧ (∀ c : Cd, z = c.w → ∀ H', Same H H' → Q .non H') ∧ (¬ isCode z → errQ H E C "word" (.str z))
def spFState (C : Addr) : Sp := fun vs H Q E => ∃ z : Str, vs = [.str z] ∧ (∀ c : Cd, z = c.w → ∀ H', Same H H' → Q (.int 0) H') ∧ (¬ isCode z → errQ H E C "word" (.str z))
def spRdX (K : PySem.W.Frag) (C : Addr) : Sp := fun vs H Q E => ∃ (a : Addr) (row : List Int) (p : Nat) (s : Int) (z : Str), vs = [.ref a, .int p, .int s, .str z] ∧ SqL K H a (row.map V.int) ∧ (∀ c : Cd, z = c.w → newT H (readF c row p s) Q) ∧ (¬ isCode z → errQ H E C "word" (.str z))
def spWriteX (K : PySem.W.Frag) (C D : Addr) : Sp := fun vs H Q E => ∃ (a : Addr) (gs : List Int) (s : Int) (z : Str), vs = [.ref a, .int s, .str z] ∧ SqL K H a (gs.map V.int) ∧ gs.length ≤ 200 ∧
  (∀ c : Cd, z = c.w → VS c s ∧ ((∀ g ∈ gs, 0 ≤ g ∧ g < sizeF c) → newW H (writeF c gs s) Q) ∧ ∀ (i : Nat) (g : Int), gs[i]? = some g → ¬ (0 ≤ g ∧ g < sizeF c) → (∀ x ∈ gs.take i, 0 ≤ x ∧ x < sizeF c) → errQ H E D "sign" (.int g)) ∧ (¬ isCode z → errQ H E C "word" (.str z))
theorem inC (z : Str) : inV (.str z) [.str (Str.ofString "plain"), .str (Str.ofString "steps"), .str (Str.ofString "wide"), .str (Str.ofString "turn")] = true ↔ isCode z := by
  unfold inV
  simp only [List.any_cons, List.any_nil]
  have q : ∀ y : Str, (eqV (.str y) (.str z) = true) ↔ y = z := fun y => by
    show (y == z) = true ↔ _
    exact beq_iff_eq
  simp only [Bool.or_eq_true, q, Bool.false_eq_true, or_false]
  constructor
  · rintro (h | h | h | h)
    · exact ⟨.plain, h.symm⟩
    · exact ⟨.steps, h.symm⟩
    · exact ⟨.wide, h.symm⟩
    · exact ⟨.turn, h.symm⟩
  · rintro ⟨c, rfl⟩
    cases c
    · exact .inl rfl
    · exact .inr (.inl rfl)
    · exact .inr (.inr (.inl rfl))
    · exact .inr (.inr (.inr rfl))
theorem errQ.mono {H H1 : Hp} {E : XK} {C : Addr} {f : Str} {v : V} (h : errQ H E C f v) (s : Same H H1) : errQ H1 E C f v := fun H' d s' e => h H' d (s.trans s') e
theorem errQ.raise {H : Hp} {E : XK} {C : Addr} {f : Str} {v : V} (h : errQ H E C f v) : ∀ d, H d = none → E (.ref C) (some d) (upd H d (.xd [(f, v)])) := fun d nd => h _ d (Kp.new (ps := []) nd).same upd_same

theorem order12 {row : List Int} {p : Nat} {s : Int} (h0 : 0 ≤ s) (h2 : s ≤ 2) : (goneF .wide row p s).2 = 1 ∨ (goneF .wide row p s).2 = 2 := by
  show (if s = 0 then markW row p else (p, s)).2 = 1 ∨ (if s = 0 then markW row p else (p, s)).2 = 2
  split
  · unfold markW
    split
    · exact .inr rfl
    · split
      · exact .inl rfl
      · exact .inr rfl
  · show s = 1 ∨ s = 2
    omega
theorem two_of {row : List Int} {a : Nat} (h : a + 2 ≤ row.length) : (row.drop a).take 2 = [row.getD a 0, row.getD (a + 1) 0] := by
  have h1 : a < row.length := by omega
  have h2 : a + 1 < row.length := by omega
  rw [List.drop_eq_getElem_cons h1, List.drop_eq_getElem_cons h2, List.getD_eq_getElem?_getD, List.getD_eq_getElem?_getD, List.getElem?_eq_getElem h1, List.getElem?_eq_getElem h2]
  rfl
def spWideL (K : PySem.W.Frag) : Sp := fun vs H Q _ => ∃ (x : Addr) (row : List Int) (p : Nat) (s : Int), vs = [.ref x, .int p, .int s] ∧ SqL K H x (row.map V.int) ∧ p < row.length ∧ 0 ≤ s ∧ s ≤ 2 ∧ newT H (readF .wide row p s) Q
def spTurnL (K : PySem.W.Frag) : Sp := fun vs H Q _ => ∃ (x : Addr) (row : List Int) (p : Nat) (s : Int), vs = [.ref x, .int p, .int s] ∧ SqL K H x (row.map V.int) ∧ p < row.length ∧ row.length ≤ 1000 ∧ newT H (readF .turn row p s) Q
def spRowL : Sp := fun vs H Q _ => ∃ (p : Addr) (n : Int) (o : HO), vs = [.ref p] ∧ H p = some o ∧ PoolO n o ∧ n ≤ 900000000 ∧
  ∀ (H' : Hp) (q : Addr) (bs : List Int) (o' : HO), H q = none → H' q = some (.lst (bs.map V.int)) → H' p = some o' → PoolO (n + 200) o' → Kp [p] H H' → bs.length ≤ 100 → Q (.ref q) H'
theorem kp_new {ps : List Addr} {H0 H : Hp} {q : Addr} {o : HO} (k : Kp ps H0 H) (n : H q = none) : Kp ps H0 (upd H q o) := k.trans (Kp.new n)

def spStepL (K : PySem.W.Frag) : Sp := fun vs H Q _ => ∃ (x : Addr) (row : List Int) (p : Nat) (s : Int) (c : Cd), vs = [.ref x, .int p, .int s, .str c.w] ∧ SqL K H x (row.map V.int) ∧ (∀ b ∈ row, 0 ≤ b) ∧ RS c s ∧ row.length ≤ 1000 ∧ newT H (readF c row p s) Q
theorem rs_zero (c : Cd) : RS c 0 := by cases c <;> first | trivial | rfl | exact ⟨by decide, by decide⟩
theorem vs_zero (c : Cd) : VS c 0 := by cases c <;> first | trivial | exact ⟨by decide, by decide⟩

def wR : Str := Str.ofString "return"
def wB : Str := Str.ofString "both"
def wA : Str := Str.ofString "any"
def wK : Str := Str.ofString "kept"
def wF : Str := Str.ofString "feed"
def wS : Str := Str.ofString "strict"
def wM : Str := Str.ofString "mark"
def Way (z : Str) : Prop := z = wA ∨ z = wK ∨ z = wF ∨ z = wR ∨ z = wB
def wrW (st : Bool) : Str := if st then wS else wM
def spWFeed : Sp := fun vs H Q _ => ∃ z : Str, vs = [.str z] ∧ Way z ∧ ∀ (H' : Hp) (q : Addr), Same H H' → Q (.ref q) H'
def spCEnds : Sp := fun vs H Q _ => ∃ z : Str, vs = [.str z] ∧ Way z ∧ ∀ (H' : Hp), Same H H' → Q .non H'
def spCWays : Sp := fun vs H Q _ => ∃ (c : Cd) (z : Str) (st : Bool), vs = [.str c.w, .str z, .str (wrW st)] ∧ Way z ∧ ∀ (H' : Hp), Same H H' → Q .non H'
def spNo3 : Sp := fun vs _ _ _ => ∃ a b c : V, vs = [a, b, c] ∧ False
def spNo4 : Sp := fun vs _ _ _ => ∃ a b c d : V, vs = [a, b, c, d] ∧ False
def spSure (K : PySem.W.Frag) : Sp := fun vs H Q _ => ∃ (a : Addr) (row : List Int) (p : Nat) (s : Int) (c : Cd), vs = [.ref a, .int p, .int s, .str c.w, .bl true] ∧ SqL K H a (row.map V.int) ∧ newT H (rdV p s (rdF c row p s)) Q
/-- the tuples at ts are the items -/
def itV (x : Item) : List V := [.int x.1, .int x.2.1, .int x.2.2]
def Its (H : Hp) : List Addr → List Item → Prop
  | [], [] => True
  | t :: ts, x :: xs => H t = some (.tup (itV x)) ∧ Its H ts xs
  | _, _ => False
theorem Its.same {H H' : Hp} (s : Same H H') : ∀ {ts : List Addr} {xs : List Item}, Its H ts xs → Its H' ts xs
  | [], [], _ => trivial
  | _ :: _, _ :: _, h => ⟨s _ _ h.1, Its.same s h.2⟩
  | [], _ :: _, h => h.elim
  | _ :: _, [], h => h.elim
theorem Its.put {H : Hp} {b : Addr} {o : HO} : ∀ {ts : List Addr} {xs : List Item}, b ∉ ts → Its H ts xs → Its (upd H b o) ts xs
  | [], [], _, _ => trivial
  | q :: qs, _ :: _, n, h => ⟨by rw [upd_ne (fun z => n (by rw [z]; exact List.mem_cons_self))]; exact h.1, Its.put (fun z => n (List.mem_cons_of_mem _ z)) h.2⟩
  | [], _ :: _, _, h => h.elim
  | _ :: _, [], _, h => h.elim
theorem Its.snoc {H : Hp} {q : Addr} {r : Item} (e : H q = some (.tup (itV r))) : ∀ {qs : List Addr} {rs : List Item}, Its H qs rs → Its H (qs ++ [q]) (rs ++ [r])
  | [], [], _ => ⟨e, trivial⟩
  | _ :: _, _ :: _, h => ⟨h.1, Its.snoc e h.2⟩
  | [], _ :: _, h => h.elim
  | _ :: _, [], h => h.elim
theorem Its.len {H : Hp} : ∀ {qs : List Addr} {rs : List Item}, Its H qs rs → qs.length = rs.length
  | [], [], _ => rfl
  | _ :: _, _ :: _, h => congrArg (· + 1) (Its.len h.2)
  | [], _ :: _, h => h.elim
  | _ :: _, [], h => h.elim
theorem Its.mem {H : Hp} {q : Addr} : ∀ {qs : List Addr} {rs : List Item}, Its H qs rs → q ∈ qs → ∃ r, H q = some (.tup (itV r))
  | [], [], _, h => nomatch h
  | x :: qs, r :: rs, h, m => by
    rcases List.mem_cons.mp m with rfl | m
    · exact ⟨r, h.1⟩
    · exact Its.mem h.2 m
  | [], _ :: _, h, _ => h.elim
  | _ :: _, [], h, _ => h.elim
theorem Its.notin {H : Hp} {q : Addr} {qs : List Addr} {rs : List Item} (h : Its H qs rs) (n : ∀ vs, H q ≠ some (.tup vs)) : q ∉ qs := fun m => by
  obtain ⟨r, e⟩ := h.mem m
  exact n _ e
theorem Its.dp {K : PySem.W.Frag} {H : Hp} : ∀ {qs : List Addr} {rs : List Item}, Its H qs rs → DpAll K H (qs.map V.ref) (rs.map fun x => .tuple [.int x.1, .int x.2.1, .int x.2.2])
  | [], [], _ => .nil
  | _ :: _, _ :: _, h => .cons (.tup (.inl (.inl h.1)) (.cons (.int _) (.cons (.int _) (.cons (.int _) .nil)))) (Its.dp h.2)
  | [], _ :: _, h => h.elim
  | _ :: _, [], h => h.elim
theorem Its.at {H : Hp} : ∀ {qs : List Addr} {rs : List Item} {i : Nat} {q : Addr}, Its H qs rs → qs[i]? = some q → ∃ r, rs[i]? = some r ∧ H q = some (.tup (itV r))
  | [], [], _, _, _, e => nomatch e
  | _ :: _, r :: _, 0, _, h, e => ⟨r, rfl, by cases e; exact h.1⟩
  | _ :: _, _ :: _, i + 1, _, h, e => Its.at (i := i) h.2 e
  | [], _ :: _, _, _, h, _ => h.elim
  | _ :: _, [], _, _, h, _ => h.elim
/-- a scan: where it stands, its list, what it found -/
def sfs (p : Nat) (s : Int) (c : Cd) (z : Str) (st : Bool) (l : Addr) (b : V) : Fs := [("spot", .int p), ("state", .int s), ("code", .str c.w), ("ends", .str z), ("wrong", .str (wrW st)), ("most", .non), ("by_line", .bl false), ("found", .ref l), ("bad", b), ("full", .bl false)]
section
variable (p p' : Nat) (s s' : Int) (c : Cd) (z : Str) (st : Bool) (l : Addr) (b b' : V)
theorem sfs_spot : (sfs p s c z st l b).lookup ("spot" : Str) = some (.int p) := by unfold sfs; kernel_rfl
theorem sfs_state : (sfs p s c z st l b).lookup ("state" : Str) = some (.int s) := by unfold sfs; kernel_rfl
theorem sfs_code : (sfs p s c z st l b).lookup ("code" : Str) = some (.str c.w) := by unfold sfs; kernel_rfl
theorem sfs_ends : (sfs p s c z st l b).lookup ("ends" : Str) = some (.str z) := by unfold sfs; kernel_rfl
theorem sfs_wrong : (sfs p s c z st l b).lookup ("wrong" : Str) = some (.str (wrW st)) := by unfold sfs; kernel_rfl
theorem sfs_most : (sfs p s c z st l b).lookup ("most" : Str) = some .non := by unfold sfs; kernel_rfl
theorem sfs_by_line : (sfs p s c z st l b).lookup ("by_line" : Str) = some (.bl false) := by unfold sfs; kernel_rfl
theorem sfs_found : (sfs p s c z st l b).lookup ("found" : Str) = some (.ref l) := by unfold sfs; kernel_rfl
theorem sfs_bad : (sfs p s c z st l b).lookup ("bad" : Str) = some b := by unfold sfs; kernel_rfl
theorem sfs_full : (sfs p s c z st l b).lookup ("full" : Str) = some (.bl false) := by unfold sfs; kernel_rfl
theorem sfs_put_spot : putF ("spot" : Str) (.int p') (sfs p s c z st l b) = sfs p' s c z st l b := by unfold sfs; kernel_rfl
theorem sfs_put_state : putF ("state" : Str) (.int s') (sfs p s c z st l b) = sfs p s' c z st l b := by unfold sfs; kernel_rfl
theorem sfs_put_bad : putF ("bad" : Str) b' (sfs p s c z st l b) = sfs p s c z st l b' := by unfold sfs; kernel_rfl
theorem sfs_put_full : putF ("full" : Str) (.bl false) (sfs p s c z st l b) = sfs p s c z st l b := by unfold sfs; kernel_rfl
theorem sfs_few : (sfs p s c z st l b).length < 1000 := by show 10 < 1000; decide
theorem sfs_no : ∀ m ∈ (["go_on", "find_one", "pass_wrong", "looks_behind_return", "note_item"] : List Str), (sfs p s c z st l b).lookup m = none := by
  intro m hm
  simp only [List.mem_cons, List.mem_nil_iff, or_false] at hm
  unfold sfs
  rcases hm with rfl | rfl | rfl | rfl | rfl <;> kernel_rfl
end
def optV : Option Nat → V
  | none => .non
  | some n => .int n
structure ScanAt (C : Addr) (H : Hp) (o dx l : Addr) (p : Nat) (s : Int) (c : Cd) (z : Str) (st : Bool) (b : V) (ts : List Addr) (xs : List Item) : Prop where
  ins : H o = some (.ins C dx (sfs p s c z st l b))
  lst : H l = some (.lst (ts.map V.ref))
  its : Its H ts xs
  len : xs.length ≤ 1000
theorem ScanAt.same {C : Addr} {H H' : Hp} {o dx l : Addr} {p : Nat} {s : Int} {c : Cd} {z : Str} {st : Bool} {b : V} {ts : List Addr} {xs : List Item} (h : ScanAt C H o dx l p s c z st b ts xs) (k : Same H H') : ScanAt C H' o dx l p s c z st b ts xs :=
  ⟨k _ _ h.ins, k _ _ h.lst, h.its.same k, h.len⟩
theorem ScanAt.ol {C : Addr} {H : Hp} {o dx l : Addr} {p : Nat} {s : Int} {c : Cd} {z : Str} {st : Bool} {b : V} {ts : List Addr} {xs : List Item} (h : ScanAt C H o dx l p s c z st b ts xs) : o ≠ l := fun e => by
  have := h.ins
  rw [e, h.lst] at this; cases this
/-- by the way: o and l are stored to, tuples are new -/
def StepS (o l : Addr) (H H' : Hp) : Prop := Kp [o, l] H H'
def spSInit (C : Addr) : Sp := fun vs H Q _ => ∃ (o dx : Addr) (p : Nat) (s : Int) (c : Cd) (z : Str) (st : Bool), vs = [.ref o, .int p, .int s, .str c.w, .str z, .str (wrW st), .non, .bl false] ∧ H o = some (.ins C dx []) ∧
  ∀ (H' : Hp) (l : Addr), H l = none → ScanAt C H' o dx l p s c z st .non [] [] → Kp [o] H H' → Q .non H'
theorem at_last {ts : List Addr} (h : ts ≠ []) : ∃ t ∈ ts, atI (ts.map V.ref) (-1) = some (.ref t) := by
  have hl : 0 < ts.length := List.length_pos_iff.mpr h
  refine ⟨ts[ts.length - 1], List.getElem_mem _, ?_⟩
  have e : (ts.map V.ref)[ts.length - 1]? = some (.ref ts[ts.length - 1]) := by rw [List.getElem?_map, List.getElem?_eq_getElem (by omega)]; rfl
  obtain ⟨l, x, rfl⟩ : ∃ l x, ts = l ++ [x] := ⟨ts.dropLast, ts.getLast h, (List.dropLast_concat_getLast h).symm⟩
  rw [List.map_append]
  have := atI_last (l.map V.ref) (.ref x)
  rw [List.getElem_append_right (by simp)]
  simpa using this
def spNote (C : Addr) : Sp := fun vs H Q _ => ∃ (o dx l : Addr) (p : Nat) (s : Int) (c : Cd) (z : Str) (st : Bool) (b : V) (ts : List Addr) (xs : List Item) (x : Item) (ff : Bool), vs = [.ref o, .int x.1, .int x.2.1, .int x.2.2, .bl ff] ∧ ScanAt C H o dx l p s c z st b ts xs ∧ xs.length + 1 ≤ 1000 ∧
  ∀ (H' : Hp) (t : Addr), H t = none → ScanAt C H' o dx l x.2.1 x.2.2 c z st b (ts ++ [t]) (xs ++ [x]) → Kp [o, l] H H' → Q .non H'
def spLooks (C : Addr) : Sp := fun vs H Q _ => ∃ (o dx l : Addr) (p : Nat) (s : Int) (c : Cd) (z : Str) (st : Bool) (b : V) (ts : List Addr) (xs : List Item), vs = [.ref o] ∧ ScanAt C H o dx l p s c z st b ts xs ∧ ∀ H', Same H H' → Q (.bl (decide (z = wA))) H'
def spPWrong (C : Addr) : Sp := fun vs H Q _ => ∃ (o dx l : Addr) (p : Nat) (s : Int) (c : Cd) (z : Str) (st : Bool) (b : V) (ts : List Addr) (xs : List Item) (p' : Nat) (s' : Int), vs = [.ref o, .int p', .int s'] ∧ ScanAt C H o dx l p s c z st b ts xs ∧ xs.length + 1 ≤ 1000 ∧ 0 < p' ∧
  (st = true → ∀ H', ScanAt C H' o dx l p s c z st (.int (p' - 1 : Nat)) ts xs → Kp [o, l] H H' → Q (.bl false) H') ∧
  (st = false → ∀ (H' : Hp) (t : Addr), H t = none → ScanAt C H' o dx l p' s' c z st b (ts ++ [t]) (xs ++ [(65533, p', s')]) → Kp [o, l] H H' → Q (.bl true) H')
/-- what one more turn finds -/
def oneF (c : Cd) (row : List Int) (any st : Bool) (p : Nat) (s : Int) : Option Item := match rdF c row p s with
  | .fin => none
  | .wr p' s' => if st then none else some (65533, p', s')
  | .sg g p' s' => if any && g == 13 then (match rdF c row p' s' with
      | .sg g2 p'' s'' => if g2 = 10 then some (10, p'', s'') else some (10, p', s')
      | _ => some (10, p', s')) else some (g, p', s')
def oneB (c : Cd) (row : List Int) (st : Bool) (p : Nat) (s : Int) (b : V) : V := match rdF c row p s with
  | .wr p' _ => if st then .int (p' - 1 : Nat) else b
  | _ => b
theorem one_go {c : Cd} {row : List Int} {any st : Bool} {p : Nat} {s : Int} {x : Item} (h : oneF c row any st p s = some x) : p < row.length ∧ p < x.2.1 := by
  unfold oneF at h
  cases e : rdF c row p s with
  | fin => rw [e] at h; cases h
  | wr p' s' =>
    rw [e] at h
    have := rd_wr e
    dsimp only at h
    split at h
    · cases h
    · cases h; exact ⟨this.1, this.2.1⟩
  | sg g p' s' =>
    rw [e] at h
    have := rd_sg e
    dsimp only at h
    split at h
    · cases e2 : rdF c row p' s' with
      | fin => rw [e2] at h; cases h; exact this
      | wr p2 s2 => rw [e2] at h; cases h; exact this
      | sg g2 p2 s2 =>
        have t2 := rd_sg e2
        rw [e2] at h
        dsimp only at h
        split at h
        · cases h; exact ⟨this.1, by show p < p2; omega⟩
        · cases h; exact this
    · cases h; exact this
def scanF (c : Cd) (row : List Int) (any st : Bool) : Nat → Nat → Int → List Item
  | 0, _, _ => []
  | f + 1, p, s => match oneF c row any st p s with
    | none => []
    | some x => x :: scanF c row any st f x.2.1 x.2.2
def scanB (c : Cd) (row : List Int) (any st : Bool) : Nat → Nat → Int → V
  | 0, _, _ => .non
  | f + 1, p, s => match oneF c row any st p s with
    | none => oneB c row st p s .non
    | some x => scanB c row any st f x.2.1 x.2.2
section
variable {c : Cd} {row : List Int} {any st : Bool} {f p : Nat} {s : Int} {x : Item}
theorem scan_none (h : oneF c row any st p s = none) : scanF c row any st (f + 1) p s = [] ∧ scanB c row any st (f + 1) p s = oneB c row st p s .non := by
  constructor
  · rw [scanF, h]
  · rw [scanB, h]
theorem scan_some (h : oneF c row any st p s = some x) : scanF c row any st (f + 1) p s = x :: scanF c row any st f x.2.1 x.2.2 ∧ scanB c row any st (f + 1) p s = scanB c row any st f x.2.1 x.2.2 := by
  constructor
  · rw [scanF, h]
  · rw [scanB, h]
end
theorem sq_kp {K : PySem.W.Frag} {H H' : Hp} {o l a C dx : Addr} {fs : Fs} {xs : List V} (k : Kp [o, l] H H') (ho : H o = some (.ins C dx fs)) (al : a ≠ l) (h : SqL K H a xs) : SqL K H' a xs := by
  rcases h with (h | ⟨u, h⟩) | h
  · have ao : a ≠ o := fun e => by rw [e, ho] at h; cases h
    exact .inl (.inl (k _ _ (by simp [ao, al]) h))
  · have ao : a ≠ o := fun e => by rw [e, ho] at h; cases h
    exact .inl (.inr ⟨u, k _ _ (by simp [ao, al]) h⟩)
  · exact .inr h
theorem scan_raw {c : Cd} {row : List Int} {st : Bool} : ∀ (f p : Nat) (s : Int), scanF c row false st f p s = rawF c row st f p s
  | 0, _, _ => rfl
  | f + 1, p, s => by
    cases e : rdF c row p s with
    | fin => rw [raw_fin e, (scan_none (by unfold oneF; rw [e])).1]
    | sg g p' s' => rw [raw_sg e, (scan_some (x := (g, p', s')) (by unfold oneF; rw [e]; rfl)).1, scan_raw f p' s']
    | wr p' s' =>
      cases st with
      | true => rw [raw_wrS e, (scan_none (by unfold oneF; rw [e]; rfl)).1]
      | false => rw [raw_wrM e, (scan_some (x := (65533, p', s')) (by unfold oneF; rw [e]; rfl)).1, scan_raw f p' s']
theorem scan_any {c : Cd} {row : List Int} {st : Bool} : ∀ (f p : Nat) (s : Int), row.length ≤ p + f → scanF c row true st (f + 1) p s = anyF (rawF c row st (f + 1) p s) := by
  intro f
  induction f with
  | zero =>
    intro p s h
    cases e : rdF c row p s with
    | fin => rw [raw_fin e, (scan_none (by unfold oneF; rw [e])).1]; rfl
    | sg g p' s' => have := rd_sg e; omega
    | wr p' s' => have := rd_wr e; omega
  | succ f ih =>
    intro p s h
    cases e : rdF c row p s with
    | fin => rw [raw_fin e, (scan_none (by unfold oneF; rw [e])).1]; rfl
    | wr p' s' =>
      have := rd_wr e
      cases st with
      | true => rw [raw_wrS e, (scan_none (by unfold oneF; rw [e]; rfl)).1]; rfl
      | false => rw [raw_wrM e, (scan_some (x := (65533, p', s')) (by unfold oneF; rw [e]; rfl)).1, any_not _ (by decide), ih p' s' (by omega)]
    | sg g p' s' =>
      have h1 := rd_sg e
      by_cases g13 : g = 13
      rotate_left
      · rw [raw_sg e, (scan_some (x := (g, p', s')) (by unfold oneF; rw [e]; dsimp only; rw [if_neg (by simp [g13])])).1, any_not _ g13, ih p' s' (by omega)]
      subst g13
      have lone : (∀ y, (rawF c row st (f + 1) p' s').head? ≠ some (10, y)) → oneF c row true st p s = some (10, p', s') → scanF c row true st (f + 1 + 1) p s = anyF (rawF c row st (f + 1 + 1) p s) := fun hh ho => by
        rw [raw_sg e, any_ret _ hh, (scan_some ho).1, ih p' s' (by omega)]
      cases e2 : rdF c row p' s' with
      | fin => exact lone (fun y => by rw [raw_fin e2]; exact fun z => nomatch z) (by unfold oneF; rw [e]; dsimp only; rw [if_pos (by rfl), e2])
      | wr p2 s2 =>
        refine lone (fun y => ?_) (by unfold oneF; rw [e]; dsimp only; rw [if_pos (by rfl), e2])
        cases st with
        | true => rw [raw_wrS e2]; exact fun z => nomatch z
        | false => rw [raw_wrM e2]; exact fun z => by cases z
      | sg g2 p2 s2 =>
        have h2 := rd_sg e2
        by_cases g10 : g2 = 10
        · subst g10
          obtain ⟨k, rfl⟩ : ∃ k, f = k + 1 := ⟨f - 1, by omega⟩
          rw [raw_sg e, raw_sg e2, any_feed, (scan_some (x := (10, p2, s2)) (by unfold oneF; rw [e]; dsimp only; rw [if_pos (by rfl), e2]; exact if_pos rfl)).1, ih p2 s2 (by omega), raw_fuel (k + 1) k p2 s2 (by omega) (by omega)]
        · refine lone (fun y => ?_) (by unfold oneF; rw [e]; dsimp only; rw [if_pos (by rfl), e2]; exact if_neg g10)
          rw [raw_sg e2]
          exact fun z => g10 (congrArg Prod.fst (Option.some.inj z))
def itemsF (c : Cd) (row : List Int) (any st : Bool) (p : Nat) (s : Int) : List Item := if any then anyF (rawF c row st (row.length + 1) p s) else rawF c row st (row.length + 1) p s
theorem scan_items (c : Cd) (row : List Int) (any st : Bool) (p : Nat) (s : Int) : scanF c row any st (row.length + 1) p s = itemsF c row any st p s := by
  cases any with
  | true => exact scan_any _ _ _ (by omega)
  | false => exact scan_raw _ _ _
def spotO : Option HO → Nat
  | some (.ins _ _ fs) => (match fs.lookup ("spot" : Str) with | some (.int i) => i.toNat | _ => 0)
  | _ => 0
theorem spot_of {C : Addr} {H : Hp} {o dx l : Addr} {p : Nat} {s : Int} {c : Cd} {z : Str} {st : Bool} {b : V} {ts : List Addr} {xs : List Item} (h : ScanAt C H o dx l p s c z st b ts xs) : spotO (H o) = p := by
  rw [h.ins]
  show (match (sfs p s c z st l b).lookup ("spot" : Str) with | some (.int i) => i.toNat | _ => 0) = p
  rw [sfs_spot]; rfl
def spGoOn (K : PySem.W.Frag) (C : Addr) : Sp := fun vs H Q _ => ∃ (o dx l a : Addr) (p : Nat) (s : Int) (c : Cd) (z : Str) (st : Bool) (row : List Int), vs = [.ref o, .ref a, .bl true] ∧ ScanAt C H o dx l p s c z st .non [] [] ∧ row.length ≤ 900 ∧ SqL K H a (row.map V.int) ∧ a ≠ l ∧
  ∀ (H' : Hp) (p' : Nat) (s' : Int) (ts : List Addr), ScanAt C H' o dx l p' s' c z st (scanB c row (decide (z = wA)) st (row.length + 1) p s) ts (scanF c row (decide (z = wA)) st (row.length + 1) p s) → (∀ t ∈ ts, H t = none) → Kp [o, l] H H' → Q .non H'
def spRItems (K : PySem.W.Frag) : Sp := fun vs H Q _ => ∃ (a : Addr) (p : Nat) (s : Int) (c : Cd) (z : Str) (st : Bool) (row : List Int), vs = [.ref a, .int p, .int s, .str c.w, .str z, .str (wrW st)] ∧ Way z ∧ row.length ≤ 900 ∧ H a = some (.lst (row.map V.int)) ∧
  ∀ (H' : Hp) (l : Addr) (ts : List Addr), H' l = some (.lst (ts.map V.ref)) → Its H' ts (itemsF c row (decide (z = wA)) st p s) → H l = none → (∀ t ∈ ts, H t = none) → Same H H' → Q (.ref l) H'
def spFone (K : PySem.W.Frag) (C : Addr) : Sp := fun vs H Q _ => ∃ (o dx l a : Addr) (p : Nat) (s : Int) (c : Cd) (z : Str) (st : Bool) (b : V) (ts : List Addr) (xs : List Item) (row : List Int), vs = [.ref o, .ref a, .bl true] ∧ ScanAt C H o dx l p s c z st b ts xs ∧ xs.length + 1 ≤ 1000 ∧ SqL K H a (row.map V.int) ∧
  (oneF c row (decide (z = wA)) st p s = none → ∀ (H' : Hp), ScanAt C H' o dx l p s c z st (oneB c row st p s b) ts xs → Kp [o, l] H H' → Q (.bl false) H') ∧
  (∀ x, oneF c row (decide (z = wA)) st p s = some x → ∀ (H' : Hp) (t : Addr), H t = none → ScanAt C H' o dx l x.2.1 x.2.2 c z st b (ts ++ [t]) (xs ++ [x]) → Kp [o, l] H H' → Q (.bl true) H')

def spStateR : Sp := fun vs H Q _ => ∃ (p : Addr) (n : Int) (o : HO) (c : Cd), vs = [.ref p, .str c.w] ∧ H p = some o ∧ PoolO n o ∧ n ≤ 900000000 ∧
  ∀ (H' : Hp) (v : Int) (o' : HO), RT c v → H' p = some o' → PoolO (n + 2) o' → Kp [p] H H' → Q (.int v) H'
theorem rt_zero (c : Cd) : RT c 0 := by cases c <;> first | rfl | exact ⟨by decide, by decide⟩
def WAYS : List V := [.str wA, .str wK, .str wF, .str wR, .str wB]
theorem ways_at {i : Int} (h0 : 0 ≤ i) (h1 : i < 5) : ∃ z : Str, atI WAYS i = some (.str z) ∧ Way z := by
  rcases (show i = 0 ∨ i = 1 ∨ i = 2 ∨ i = 3 ∨ i = 4 by omega) with rfl | rfl | rfl | rfl | rfl
  · exact ⟨wA, rfl, .inl rfl⟩
  · exact ⟨wK, rfl, .inr (.inl rfl)⟩
  · exact ⟨wF, rfl, .inr (.inr (.inl rfl))⟩
  · exact ⟨wR, rfl, .inr (.inr (.inr (.inl rfl)))⟩
  · exact ⟨wB, rfl, .inr (.inr (.inr (.inr rfl)))⟩
def spWays : Sp := fun vs H Q _ => ∃ u : Unit, vs = [] ∧ ∀ (q : Addr), H q = none → Q (.ref q) (upd H q (.lst WAYS))
/-- a list of items -/
def ItL (H : Hp) (l : Addr) (ts : List Addr) (xs : List Item) : Prop := H l = some (.lst (ts.map V.ref)) ∧ Its H ts xs
theorem ItL.same {H H' : Hp} {l : Addr} {ts : List Addr} {xs : List Item} (h : ItL H l ts xs) (s : Same H H') : ItL H' l ts xs := ⟨s _ _ h.1, h.2.same s⟩
def spAnyL : Sp := fun vs H Q _ => ∃ (l : Addr) (ts : List Addr) (xs : List Item), vs = [.ref l] ∧ ItL H l ts xs ∧ xs.length ≤ 1000 ∧
  ∀ (H' : Hp) (m : Addr) (us : List Addr), ItL H' m us (anyF xs) → H m = none → (∀ u ∈ us, H u = none) → Same H H' → Q (.ref m) H'
def spRowR : Sp := fun vs H Q _ => ∃ (p : Addr) (n m : Int) (o : HO) (c : Cd), vs = [.ref p, .str c.w, .int m] ∧ H p = some o ∧ PoolO n o ∧ n ≤ 800000000 ∧ 0 ≤ m ∧ m ≤ 40 ∧
  ∀ (H' : Hp) (q : Addr) (bs : List Int), H q = none → H' q = some (.lst (bs.map V.int)) → BB bs → bs.length ≤ 200 → Kp [p] H H' → Q (.ref q) H'
theorem Its.pop {H : Hp} : ∀ {qs : List Addr} {rs : List Item}, Its H qs rs → Its H qs.dropLast rs.dropLast
  | [], [], _ => trivial
  | [_], [_], _ => trivial
  | _ :: _ :: _, _ :: _ :: _, h => ⟨h.1, Its.pop h.2⟩
  | [], _ :: _, h => h.elim
  | _ :: _, [], h => h.elim
  | [_], _ :: _ :: _, h => h.2.elim
  | _ :: _ :: _, [_], h => h.2.elim
theorem take_last {xs : List Item} {i : Nat} {x : Item} (h : xs[i]? = some x) : xs.take (i + 1) = xs.take i ++ [x] := by rw [List.take_add_one, h]; rfl
theorem lastS_take {xs : List Item} {i : Nat} {x : Item} (h : xs[i]? = some x) : lastS (xs.take (i + 1)) = some x.1 := by
  rw [take_last h]; unfold lastS; simp

theorem it_lay : ∀ xs : List Item, PyData.canLayAll0 (xs.map fun x => .tuple [.int x.1, .int x.2.1, .int x.2.2]) = true
  | [] => rfl
  | x :: r => by
    have := it_lay r
    simp [PyData.canLayAll0, PyData.canLay0, this]
theorem it_depth : ∀ xs : List Item, PyData.depthAll (xs.map fun x => .tuple [.int x.1, .int x.2.1, .int x.2.2]) ≤ 1
  | [] => by simp [PyData.depthAll]
  | x :: r => by
    have := it_depth r
    simp [PyData.depthAll, PyData.depth]; omega
theorem it_shaped (xs : List Item) : SeqAt.shaped (.list (xs.map fun x => .tuple [.int x.1, .int x.2.1, .int x.2.2])) = true := by
  unfold SeqAt.shaped
  rw [Bool.and_eq_true]
  refine ⟨it_lay xs, decide_eq_true ?_⟩
  have := it_depth xs
  show PyData.depthAll _ + 1 ≤ 64
  omega
theorem ItL.two {K : PySem.W.Frag} {H : Hp} {l m : Addr} {ts us : List Addr} {xs : List Item} (a : ItL H l ts xs) (b : ItL H m us xs) : ∃ d, Dp K H (.ref l) d ∧ Dp K H (.ref m) d ∧ SeqAt.shaped d = true := ⟨_, .lst (sq_at a.1) a.2.dp, .lst (sq_at b.1) b.2.dp, it_shaped xs⟩
def spIsItems : Sp := fun vs H Q _ => ∃ (l : Addr) (ts : List Addr) (xs : List Item), vs = [.ref l] ∧ ItL H l ts xs ∧ Q (.bl true) H
def spLItems (K : PySem.W.Frag) : Sp := fun vs H Q _ => ∃ (a : Addr) (p : Nat) (s : Int) (c : Cd) (z : Str) (st : Bool) (row : List Int), vs = [.ref a, .int p, .int s, .str c.w, .str z, .str (wrW st)] ∧ SqL K H a (row.map V.int) ∧ BB row ∧ RT c s ∧ row.length ≤ 900 ∧
  ∀ (H' : Hp) (t l : Addr) (ts : List Addr) (b : V), H' t = some (.tup [.ref l, b]) → ItL H' l ts (itemsF c row (decide (z = wA)) st p s) → H l = none → (∀ t ∈ ts, H t = none) → Same H H' → Q (.ref t) H'
theorem rd_rt {c : Cd} {row : List Int} {p p' : Nat} {s g s' : Int} (bb : BB row) (rt : RT c s) (h : rdF c row p s = .sg g p' s' ∨ rdF c row p s = .wr p' s') : RT c s' := by
  rcases read_good (p := p) bb rt with ⟨e, _⟩ | ⟨p2, s2, e, _, _, r⟩ | ⟨g2, p2, s2, e, _, _, r, _⟩
  · rw [readF_rd] at e
    rcases h with h | h
    · rw [h] at e
      exact absurd (V.str.inj (List.cons.inj e).1) (by decide +kernel)
    · rw [h] at e
      exact absurd (V.str.inj (List.cons.inj e).1) (by decide +kernel)
  · rw [readF_rd] at e
    rcases h with h | h
    · rw [h] at e
      exact absurd (V.str.inj (List.cons.inj e).1) (by decide +kernel)
    · rw [h] at e
      have := (List.cons.inj (List.cons.inj (List.cons.inj (List.cons.inj e).2).2).2).1
      rw [V.int.inj this]; exact r
  · rw [readF_rd] at e
    rcases h with h | h
    · rw [h] at e
      have := (List.cons.inj (List.cons.inj (List.cons.inj (List.cons.inj e).2).2).2).1
      rw [V.int.inj this]; exact r
    · rw [h] at e
      exact absurd (V.str.inj (List.cons.inj e).1) (by decide +kernel)
theorem small01 {i : Int} (k : Bool) : CMul i (if k = true then 1 else 0) := .inr (by cases k <;> decide)
theorem mul01 {y : Int} (h0 : 0 ≤ y) (h1 : y ≤ 40) (k : Bool) : ∃ N : Int, y * (if k = true then 1 else 0) = N ∧ 0 ≤ N ∧ N ≤ 40 := by
  cases k with
  | true => exact ⟨y, by rw [if_pos rfl, Int.mul_one], h0, h1⟩
  | false => exact ⟨0, by rw [if_neg (by decide), Int.mul_zero], by decide, by decide⟩
def mapS (x : Item) : Item := (if x.1 = 13 then 10 else x.1, x.2)
theorem snoc_pop {l : List Item} {x : Item} (h : x.1 = 10) : snocA l (some 13) x = l.dropLast ++ [mapS x] := by
  obtain ⟨g, y⟩ := x
  cases h
  unfold snocA
  rw [if_pos ⟨rfl, rfl⟩]; rfl
theorem snoc_add {l : List Item} {q : Option Int} {x : Item} (h : ¬ (x.1 = 10 ∧ q = some 13)) : snocA l q x = l ++ [mapS x] := by
  unfold snocA
  rw [if_neg h]; rfl
def feedF (z : Str) : Option (List Int) := if z = wR then some [13] else if z = wB then some [13, 10] else if z = wA ∨ z = wK ∨ z = wF then some [10] else none
def endsF (f : List Int) : List Int → List Int
  | [] => []
  | g :: r => (if g = 10 then f else [g]) ++ endsF f r
theorem endsF_snoc (f : List Int) : ∀ (xs : List Int) (g : Int), endsF f (xs ++ [g]) = endsF f xs ++ (if g = 10 then f else [g])
  | [], g => by simp [endsF]
  | x :: r, g => by
    show (if x = 10 then f else [x]) ++ endsF f (r ++ [g]) = _
    rw [endsF_snoc f r g, ← List.append_assoc]; rfl
theorem endsF_len {f : List Int} (hf : f.length ≤ 2) : ∀ xs : List Int, (endsF f xs).length ≤ 2 * xs.length
  | [] => Nat.le_refl _
  | g :: r => by
    have := endsF_len hf r
    show ((if g = 10 then f else [g]) ++ endsF f r).length ≤ 2 * (r.length + 1)
    rw [List.length_append]
    split
    · omega
    · show 1 + _ ≤ _; omega
theorem feed_len {z : Str} {f : List Int} (h : feedF z = some f) : f.length ≤ 2 := by
  unfold feedF at h
  split at h
  · cases h; decide
  · split at h
    · cases h; decide
    · split at h
      · cases h; decide
      · cases h
def lstQ (H : Hp) (xs : List Int) (Q : VK) : Prop := ∀ (H' : Hp) (q : Addr), H q = none → H' q = some (.lst (xs.map V.int)) → Same H H' → Q (.ref q) H'
def spFeedX (C : Addr) : Sp := fun vs H Q E => ∃ z : Str, vs = [.str z] ∧ (∀ f, feedF z = some f → lstQ H f Q) ∧ (feedF z = none → ∀ d, H d = none → E (.ref C) (some d) (upd H d (.xd [(("word" : Str), .str z)])))
def spEndsX (K : PySem.W.Frag) (C : Addr) : Sp := fun vs H Q E => ∃ (a : Addr) (gs : List Int) (z : Str), vs = [.ref a, .str z] ∧ SqL K H a (gs.map V.int) ∧ gs.length ≤ 1000 ∧ (∀ f, feedF z = some f → lstQ H (endsF f gs) Q) ∧ (feedF z = none → ∀ d, H d = none → E (.ref C) (some d) (upd H d (.xd [(("word" : Str), .str z)])))
def spEndsL (K : PySem.W.Frag) : Sp := fun vs H Q _ => ∃ (a : Addr) (gs : List Int) (z : Str) (f : List Int), vs = [.ref a, .str z] ∧ SqL K H a (gs.map V.int) ∧ gs.length ≤ 1000 ∧ feedF z = some f ∧ lstQ H (endsF f gs) Q
def Good (c : Cd) (gs : List Int) : Prop := ∀ g ∈ gs, 0 ≤ g ∧ g < sizeF c
theorem good_app {c : Cd} {a b : List Int} (ha : Good c a) (hb : Good c b) : Good c (a ++ b) := fun x hx => (List.mem_append.mp hx).elim (ha x) (hb x)
theorem good_one {c : Cd} {g : Int} (h0 : 0 ≤ g) (h1 : g < sizeF c) : Good c [g] := fun x hx => by rw [List.mem_singleton.mp hx]; exact ⟨h0, h1⟩
theorem writeF_len {c : Cd} : ∀ {gs : List Int} {s : Int}, Good c gs → (writeF c gs s).1.length ≤ 4 * gs.length
  | [], s, _ => Nat.zero_le _
  | g :: r, s, h => by
    have h1 := (signW_len (s := s) (h g (by simp)).1 (h g (by simp)).2).2
    have h2 := writeF_len (gs := r) (s := (signW c g s).2) (fun x hx => h x (List.mem_cons_of_mem _ hx))
    show ((signW c g s).1 ++ (writeF c r (signW c g s).2).1).length ≤ 4 * (r.length + 1)
    rw [List.length_append]; omega
/-- sign i of what is written of gs -/
theorem read_at {c : Cd} {gs : List Int} {s g : Int} {i : Nat} (hg : Good c gs) (vs : VS c s) (hi : gs[i]? = some g) :
    readF c (writeF c gs s).1 (writeF c (gs.take i) s).1.length (writeF c (gs.take i) s).2 = fourV (Str.ofString "sign") g (writeF c (gs.take (i + 1)) s).1.length (writeF c (gs.take (i + 1)) s).2 ∧ (writeF c (gs.take i) s).1.length < (writeF c (gs.take (i + 1)) s).1.length := by
  obtain ⟨g0, g1⟩ := hg g (List.mem_of_getElem? hi)
  have hl := (List.getElem?_eq_some_iff.mp hi).1
  have et : gs.take (i + 1) = gs.take i ++ [g] := by rw [List.take_add_one, hi]; rfl
  have es : gs = gs.take i ++ ([g] ++ gs.drop (i + 1)) := by
    rw [← List.append_assoc, ← et, List.take_append_drop]
  have v1 : VS c (writeF c (gs.take i) s).2 := writeF_vs vs
  have e2 : (writeF c gs s).1 = (writeF c (gs.take i) s).1 ++ (signW c g (writeF c (gs.take i) s).2).1 ++ (writeF c (gs.drop (i + 1)) (signW c g (writeF c (gs.take i) s).2).2).1 := by
    conv => lhs; rw [es]
    rw [writeF_app, writeF_app, writeF_one]
    simp
  rw [e2, read_written g0 g1 v1, et, writeF_snoc]
  have := (signW_len (s := (writeF c (gs.take i) s).2) g0 g1).1
  refine ⟨?_, ?_⟩
  · dsimp only; rw [List.length_append]
  · dsimp only; rw [List.length_append]; omega

theorem w_inj {c d : Cd} (h : c.w = d.w) : d = c := by
  cases c <;> cases d <;> first | rfl | exact absurd h (by decide +kernel)
theorem way_feed {z : Str} (h : Way z) : ∃ f, feedF z = some f := by
  rcases h with rfl | rfl | rfl | rfl | rfl
  · exact ⟨[10], by decide +kernel⟩
  · exact ⟨[10], by decide +kernel⟩
  · exact ⟨[10], by decide +kernel⟩
  · exact ⟨[13], by decide +kernel⟩
  · exact ⟨[13, 10], by decide +kernel⟩
theorem bad_fuel {c : Cd} {row : List Int} {st : Bool} : ∀ (f f' p : Nat) (s : Int), row.length ≤ p + f → row.length ≤ p + f' → badF c row st (f + 1) p s = badF c row st (f' + 1) p s := by
  intro f
  induction f with
  | zero =>
    intro f' p s h h'
    cases e : rdF c row p s with
    | fin => rw [bad_fin e, bad_fin e]
    | sg g p' s' => have := rd_sg e; omega
    | wr p' s' => have := rd_wr e; omega
  | succ f ih =>
    intro f' p s h h'
    cases e : rdF c row p s with
    | fin => rw [bad_fin e, bad_fin e]
    | sg g p' s' =>
      have := rd_sg e
      obtain ⟨k, rfl⟩ : ∃ k, f' = k + 1 := ⟨f' - 1, by omega⟩
      rw [bad_sg e, bad_sg e, ih k p' s' (by omega) (by omega)]
    | wr p' s' =>
      have := rd_wr e
      obtain ⟨k, rfl⟩ : ∃ k, f' = k + 1 := ⟨f' - 1, by omega⟩
      cases st with
      | true => rw [bad_wrS e, bad_wrS e]
      | false => rw [bad_wrM e, bad_wrM e, ih k p' s' (by omega) (by omega)]
theorem scanB_bad {c : Cd} {row : List Int} {st : Bool} : ∀ (f p : Nat) (s : Int), scanB c row false st f p s = optV (badF c row st f p s)
  | 0, _, _ => rfl
  | f + 1, p, s => by
    cases e : rdF c row p s with
    | fin => rw [bad_fin e, (scan_none (by unfold oneF; rw [e])).2]; unfold oneB; rw [e]; rfl
    | sg g p' s' => rw [bad_sg e, (scan_some (x := (g, p', s')) (by unfold oneF; rw [e]; rfl)).2, scanB_bad f p' s']
    | wr p' s' =>
      cases st with
      | true => rw [bad_wrS e, (scan_none (by unfold oneF; rw [e]; rfl)).2]; unfold oneB; rw [e]; rfl
      | false => rw [bad_wrM e, (scan_some (x := (65533, p', s')) (by unfold oneF; rw [e]; rfl)).2, scanB_bad f p' s']
theorem scanB_any {c : Cd} {row : List Int} {st : Bool} : ∀ (f p : Nat) (s : Int), row.length ≤ p + f → scanB c row true st (f + 1) p s = optV (badF c row st (f + 1) p s) := by
  intro f
  induction f with
  | zero =>
    intro p s h
    cases e : rdF c row p s with
    | fin => rw [bad_fin e, (scan_none (by unfold oneF; rw [e])).2]; unfold oneB; rw [e]; rfl
    | sg g p' s' => have := rd_sg e; omega
    | wr p' s' => have := rd_wr e; omega
  | succ f ih =>
    intro p s h
    cases e : rdF c row p s with
    | fin => rw [bad_fin e, (scan_none (by unfold oneF; rw [e])).2]; unfold oneB; rw [e]; rfl
    | wr p' s' =>
      have := rd_wr e
      cases st with
      | true => rw [bad_wrS e, (scan_none (by unfold oneF; rw [e]; rfl)).2]; unfold oneB; rw [e]; rfl
      | false => rw [bad_wrM e, (scan_some (x := (65533, p', s')) (by unfold oneF; rw [e]; rfl)).2, ih p' s' (by omega)]
    | sg g p' s' =>
      have h1 := rd_sg e
      by_cases g13 : g = 13
      rotate_left
      · rw [bad_sg e, (scan_some (x := (g, p', s')) (by unfold oneF; rw [e]; dsimp only; rw [if_neg (by simp [g13])])).2, ih p' s' (by omega)]
      subst g13
      have lone : oneF c row true st p s = some (10, p', s') → scanB c row true st (f + 1 + 1) p s = optV (badF c row st (f + 1 + 1) p s) := fun ho => by
        rw [bad_sg e, (scan_some ho).2, ih p' s' (by omega)]
      cases e2 : rdF c row p' s' with
      | fin => exact lone (by unfold oneF; rw [e]; dsimp only; rw [if_pos (by rfl), e2])
      | wr p2 s2 => exact lone (by unfold oneF; rw [e]; dsimp only; rw [if_pos (by rfl), e2])
      | sg g2 p2 s2 =>
        have h2 := rd_sg e2
        by_cases g10 : g2 = 10
        · subst g10
          obtain ⟨k, rfl⟩ : ∃ k, f = k + 1 := ⟨f - 1, by omega⟩
          rw [bad_sg e, bad_sg e2, (scan_some (x := (10, p2, s2)) (by unfold oneF; rw [e]; dsimp only; rw [if_pos (by rfl), e2]; exact if_pos rfl)).2, ih p2 s2 (by omega), bad_fuel (k + 1) k p2 s2 (by omega) (by omega)]
        · exact lone (by unfold oneF; rw [e]; dsimp only; rw [if_pos (by rfl), e2]; exact if_neg g10)
theorem scanB_all (c : Cd) (row : List Int) (any st : Bool) : scanB c row any st (row.length + 1) 0 0 = optV (badF c row st (row.length + 1) 0 0) := by
  cases any with
  | true => exact scanB_any _ _ _ (by omega)
  | false => exact scanB_bad _ _ _
def sgn (xs : List Item) : List Int := xs.map (·.1)
def spSofC : Sp := fun vs H Q _ => ∃ (l : Addr) (ts : List Addr) (xs : List Item), vs = [.ref l] ∧ ItL H l ts xs ∧ xs.length ≤ 1000 ∧ ∀ (H' : Hp) (q : Addr), H q = none → H' q = some (.lst ((sgn xs).map V.int)) → Same H H' → Q (.ref q) H'
def spDec53 (C : Addr) : Sp := fun vs H Q E => ∃ (a : Addr) (c : Cd) (z : Str) (st : Bool) (row : List Int), vs = [.ref a, .str c.w, .str z, .str (wrW st)] ∧ Way z ∧ row.length ≤ 900 ∧ H a = some (.lst (row.map V.int)) ∧
  (badF c row st (row.length + 1) 0 0 = none → ∀ (H' : Hp) (q : Addr), H q = none → H' q = some (.lst ((sgn (itemsF c row (decide (z = wA)) st 0 0)).map V.int)) → Same H H' → Q (.ref q) H') ∧ (∀ b, badF c row st (row.length + 1) 0 0 = some b → errQ H E C "at" (.int b))
def spEnc53 (C : Addr) : Sp := fun vs H Q E => ∃ (a : Addr) (c : Cd) (z : Str) (f gs : List Int), vs = [.ref a, .str c.w, .str z] ∧ Way z ∧ feedF z = some f ∧ gs.length ≤ 90 ∧ H a = some (.lst (gs.map V.int)) ∧
  (Good c (endsF f gs) → ∀ (H' : Hp) (q : Addr), H q = none → H' q = some (.lst ((writeF c (endsF f gs) 0).1.map V.int)) → Same H H' → Q (.ref q) H') ∧
  (∀ (i : Nat) (g : Int), (endsF f gs)[i]? = some g → ¬ (0 ≤ g ∧ g < sizeF c) → (∀ x ∈ (endsF f gs).take i, 0 ≤ x ∧ x < sizeF c) → errQ H E C "sign" (.int g))
def spLIt53 (K : PySem.W.Frag) : Sp := fun vs H Q _ => ∃ (a : Addr) (p : Nat) (s : Int) (c : Cd) (z : Str) (st : Bool) (row : List Int), vs = [.ref a, .int p, .int s, .str c.w, .str z, .str (wrW st)] ∧ SqL K H a (row.map V.int) ∧ BB row ∧ RT c s ∧ row.length ≤ 900 ∧
  ∀ (H' : Hp) (t l : Addr) (ts : List Addr), H' t = some (.tup [.ref l, optV (badF c row st (row.length + 1) p s)]) → ItL H' l ts (itemsF c row (decide (z = wA)) st p s) → H l = none → (∀ t ∈ ts, H t = none) → Same H H' → Q (.ref t) H'

/-- what reading a row tells: the signs, or where it is bad -/
def Told (K : PySem.W.Frag) (H : Hp) (q : Addr) (c : Cd) (z : Str) (st : Bool) (row : List Int) : Prop := (badF c row st (row.length + 1) 0 0 = none ∧ ∃ r, H q = some (.tup [.str (Str.ofString "told"), .ref r]) ∧ H r = some (.lst ((sgn (itemsF c row (decide (z = wA)) st 0 0)).map V.int))) ∨ ∃ b : Nat, badF c row st (row.length + 1) 0 0 = some b ∧ H q = some (.tup [.str (Str.ofString "bad"), .int b])
def codO : Option Cd → Cd
  | none => .steps
  | some c => c
def strO (o : Option Str) (d : Str) : Str := o.getD d
def optS : Option Str → V
  | none => .non
  | some s => .str s
def spRead53 (K : PySem.W.Frag) : Sp := fun vs H Q _ => ∃ (a : Addr) (oc : Option Cd) (oz : Option Str) (ow : Option Bool) (row : List Int), vs = [.ref a, optS (oc.map Cd.w), optS oz, optS (ow.map wrW)] ∧ (oc = none → oz = none → ow = none) ∧ (oc = none ∧ oz ≠ none → ow ≠ none) ∧ (oc ≠ none ∧ oz = none → ow ≠ none) ∧ Way (strO oz wA) ∧ row.length ≤ 900 ∧ H a = some (.lst (row.map V.int)) ∧
  ∀ (H' : Hp) (q : Addr), Told K H' q (codO oc) (strO oz wA) (ow.getD true) row → Same H H' → Q (.ref q) H'
def spRdue53 (K : PySem.W.Frag) : Sp := fun vs H Q _ => ∃ (a : Addr) (oc : Option Cd) (oz : Option Str) (ow : Option Bool) (row : List Int), vs = [.ref a, optS (oc.map Cd.w), optS oz, optS (ow.map wrW)] ∧ Way (strO oz wA) ∧ BB row ∧ row.length ≤ 900 ∧ H a = some (.lst (row.map V.int)) ∧
  ∀ (H' : Hp) (q : Addr), Told K H' q (codO oc) (strO oz wA) (ow.getD true) row → Same H H' → Q (.ref q) H'
theorem told_ok {K : PySem.W.Frag} {H : Hp} {q r : Addr} {c : Cd} {z : Str} {st : Bool} {row : List Int} (e : badF c row st (row.length + 1) 0 0 = none) (h : H q = some (.tup [.str (Str.ofString "told"), .ref r])) (hr : H r = some (.lst ((sgn (itemsF c row (decide (z = wA)) st 0 0)).map V.int))) : Told K H q c z st row := .inl ⟨e, r, h, hr⟩
theorem told_bad {K : PySem.W.Frag} {H : Hp} {q : Addr} {c : Cd} {z : Str} {st : Bool} {row : List Int} {b : Nat} (e : badF c row st (row.length + 1) 0 0 = some b) (h : H q = some (.tup [.str (Str.ofString "bad"), .int b])) : Told K H q c z st row := .inr ⟨b, e, h⟩

theorem or_tr {K : PySem.W.Frag} {ta : TE} {d : Str} {σ : L2.St} {H : Hp} {Q : VK} (o : Option Str) (hta : ∀ Q' : VK, Q' (optS o) H → ta σ H Q') (h : ∀ s, o = some s → s.length ≤ sizeLine ∧ s.length ≠ 0) (q : Q (.str (strO o d)) H) : tOrT K ta (tC (.str d)) σ H Q := by
  refine hta _ ?_
  cases o with
  | none => exact ⟨false, rfl, q⟩
  | some s =>
    obtain ⟨h1, h2⟩ := h s rfl
    exact ⟨true, ⟨h1, by simpa using h2⟩, q⟩
theorem len_w (c : Cd) : c.w.length ≤ sizeLine ∧ c.w.length ≠ 0 := by
  rw [sizeLine_eq]
  cases c <;> exact ⟨by decide +kernel, by decide +kernel⟩
theorem len_way {z : Str} (h : Way z) : z.length ≤ sizeLine ∧ z.length ≠ 0 := by
  rw [sizeLine_eq]
  rcases h with rfl | rfl | rfl | rfl | rfl <;> exact ⟨by decide +kernel, by decide +kernel⟩
theorem len_wr (b : Bool) : (wrW b).length ≤ sizeLine ∧ (wrW b).length ≠ 0 := by
  rw [sizeLine_eq]
  cases b <;> exact ⟨by decide +kernel, by decide +kernel⟩

def spWr53 (K : PySem.W.Frag) : Sp := fun vs H Q _ => ∃ (a : Addr) (c : Cd) (z : Str) (f gs : List Int), vs = [.ref a, .str c.w, .str z] ∧ Way z ∧ feedF z = some f ∧ gs.length ≤ 90 ∧ H a = some (.lst (gs.map V.int)) ∧
  (Good c (endsF f gs) → ∀ (H' : Hp) (u q : Addr), H' u = some (.tup [.str (Str.ofString "told"), .ref q]) → H' q = some (.lst ((writeF c (endsF f gs) 0).1.map V.int)) → Same H H' → Q (.ref u) H') ∧
  (∀ (i : Nat) (g : Int), (endsF f gs)[i]? = some g → ¬ (0 ≤ g ∧ g < sizeF c) → (∀ x ∈ (endsF f gs).take i, 0 ≤ x ∧ x < sizeF c) → ∀ (H' : Hp) (u : Addr), H' u = some (.tup [.str (Str.ofString "none"), .int g]) → Same H H' → Q (.ref u) H')

theorem ints_depth : ∀ xs : List Int, PyData.depthAll (xs.map PyData.int) = 0
  | [] => rfl
  | x :: xs => by
    show max (PyData.depth (.int x)) (PyData.depthAll (xs.map PyData.int)) = 0
    rw [ints_depth xs]; rfl
theorem pair_shape {w : Str} {d : PyData} (hw : PyData.strOk w = true) (h : d.canLay0 = true) (l : d.depth ≤ 3) : SeqAt.shaped (.tuple [.str w, d]) = true := by
  unfold SeqAt.shaped
  simp [PyData.canLay0, PyData.canLayAll0, PyData.depth, PyData.depthAll, h, hw]
  omega
theorem ints_lay (xs : List Int) : (PyData.list (xs.map .int)).canLay0 = true ∧ (PyData.list (xs.map .int)).depth ≤ 3 := ⟨lay_ints xs, by show PyData.depthAll (xs.map PyData.int) + 1 ≤ 3; rw [ints_depth]; decide⟩
theorem ok_told : PyData.strOk (Str.ofString "told") = true := by decide +kernel
theorem ok_bad : PyData.strOk (Str.ofString "bad") = true := by decide +kernel
theorem ok_none : PyData.strOk (Str.ofString "none") = true := by decide +kernel
theorem Told.same {K : PySem.W.Frag} {H H' : Hp} {q : Addr} {c : Cd} {z : Str} {st : Bool} {row : List Int} (h : Told K H q c z st row) (s : Same H H') : Told K H' q c z st row := by
  rcases h with ⟨e, r, h1, h2⟩ | ⟨b, e, h1⟩
  · exact .inl ⟨e, r, s _ _ h1, s _ _ h2⟩
  · exact .inr ⟨b, e, s _ _ h1⟩
theorem Told.two {K : PySem.W.Frag} {H : Hp} {q q' : Addr} {c : Cd} {z : Str} {st : Bool} {row : List Int} (h : Told K H q c z st row) (h' : Told K H q' c z st row) : ∃ d, Dp K H (.ref q) d ∧ Dp K H (.ref q') d ∧ SeqAt.shaped d = true := by
  rcases h with ⟨e, r, h1, h2⟩ | ⟨b, e, h1⟩ <;> rcases h' with ⟨e', r', h1', h2'⟩ | ⟨b', e', h1'⟩
  · exact ⟨_, .tup (.inl (.inl h1)) (.cons (.str _) (.cons (dp_lst (sq_at h2)) .nil)), .tup (.inl (.inl h1')) (.cons (.str _) (.cons (dp_lst (sq_at h2')) .nil)), pair_shape ok_told (ints_lay _).1 (ints_lay _).2⟩
  · rw [e] at e'; cases e'
  · rw [e] at e'; cases e'
  · rw [e] at e'; cases e'
    exact ⟨_, .tup (.inl (.inl h1)) (.cons (.str _) (.cons (.int _) .nil)), .tup (.inl (.inl h1')) (.cons (.str _) (.cons (.int _) .nil)), pair_shape ok_bad rfl (Nat.zero_le _)⟩
theorem writeF_bb {c : Cd} : ∀ {gs : List Int} {s : Int}, Good c gs → BB (writeF c gs s).1
  | [], s, _ => fun b h => nomatch h
  | g :: r, s, h => by
    show BB ((signW c g s).1 ++ (writeF c r (signW c g s).2).1)
    exact bb_app (signW_bb (h g (by simp)).1 (h g (by simp)).2) (writeF_bb (fun x hx => h x (List.mem_cons_of_mem _ hx)))
theorem rd_of_read {c : Cd} {row : List Int} {p p' : Nat} {s g s' : Int} (h : readF c row p s = fourV (Str.ofString "sign") g p' s') : rdF c row p s = .sg g p' s' := by
  rw [readF_rd] at h
  cases e : rdF c row p s with
  | fin => rw [e] at h; exact absurd (V.str.inj (List.cons.inj h).1) (by decide +kernel)
  | wr p2 s2 => rw [e] at h; exact absurd (V.str.inj (List.cons.inj h).1) (by decide +kernel)
  | sg g2 p2 s2 =>
    rw [e] at h
    have h1 := V.int.inj (List.cons.inj (List.cons.inj h).2).1
    have h2 := V.int.inj (List.cons.inj (List.cons.inj (List.cons.inj h).2).2).1
    have h3 := V.int.inj (List.cons.inj (List.cons.inj (List.cons.inj (List.cons.inj h).2).2).2).1
    rw [h1, h3, show p2 = p' from Int.ofNat.inj h2]
theorem bad_written {c : Cd} {gs : List Int} {st : Bool} (hg : Good c gs) : ∀ (f i : Nat), i ≤ gs.length → badF c (writeF c gs 0).1 st f (writeF c (gs.take i) 0).1.length (writeF c (gs.take i) 0).2 = none
  | 0, _, _ => rfl
  | f + 1, i, hi => by
    by_cases l : i < gs.length
    · have h := rd_of_read (read_at hg (vs_zero c) (List.getElem?_eq_getElem l)).1
      rw [bad_sg h]
      exact bad_written hg f (i + 1) (by omega)
    · have e : gs.take i = gs := List.take_of_length_le (by omega)
      rw [e]
      cases h : rdF c (writeF c gs 0).1 (writeF c gs 0).1.length (writeF c gs 0).2 with
      | fin => exact bad_fin h
      | sg g p' s' => have := rd_sg h; omega
      | wr p' s' => have := rd_wr h; omega
theorem endsF_app (f : List Int) : ∀ a b : List Int, endsF f (a ++ b) = endsF f a ++ endsF f b
  | [], b => rfl
  | g :: a, b => by
    show (if g = 10 then f else [g]) ++ endsF f (a ++ b) = (if g = 10 then f else [g]) ++ endsF f a ++ endsF f b
    rw [endsF_app f a b, List.append_assoc]
theorem endsF_good {c : Cd} {f : List Int} (hf : Good c f) : ∀ {gs : List Int}, Good c gs → Good c (endsF f gs)
  | [], _ => fun x h => nomatch h
  | g :: r, h => by
    show Good c ((if g = 10 then f else [g]) ++ endsF f r)
    refine good_app ?_ (endsF_good hf (fun x hx => h x (List.mem_cons_of_mem _ hx)))
    split
    · exact hf
    · exact good_one (h g (by simp)).1 (h g (by simp)).2
theorem feed_good {c : Cd} {z : Str} {f : List Int} (hz : Way z) (h : feedF z = some f) : Good c f := by
  have hs := (sizeF_b c).1
  have e : f = [10] ∨ f = [13] ∨ f = [13, 10] := by
    rcases hz with rfl | rfl | rfl | rfl | rfl
    · left; exact (Option.some.inj (h.symm.trans (by decide +kernel : feedF wA = some [10])))
    · left; exact (Option.some.inj (h.symm.trans (by decide +kernel : feedF wK = some [10])))
    · left; exact (Option.some.inj (h.symm.trans (by decide +kernel : feedF wF = some [10])))
    · right; left; exact (Option.some.inj (h.symm.trans (by decide +kernel : feedF wR = some [13])))
    · right; right; exact (Option.some.inj (h.symm.trans (by decide +kernel : feedF wB = some [13, 10])))
  rcases e with rfl | rfl | rfl <;> intro x hx <;> simp at hx <;> omega
theorem feed_any : feedF wA = some [10] := by decide +kernel
theorem ends_mid {f a b : List Int} {g : Int} (h : g ≠ 10) : endsF f (a ++ [g] ++ b ++ [-7]) = endsF f a ++ g :: (endsF f b ++ endsF f [-7]) := by
  rw [endsF_app, endsF_app, endsF_app]
  have e : endsF f [g] = [g] := by
    show (if g = 10 then f else [g]) ++ [] = [g]
    rw [if_neg h]; rfl
  rw [e]; simp
theorem first_bad {c : Cd} {A B : List Int} {g g' : Int} {i : Nat} (hA : Good c A) (hg : ¬ (0 ≤ g ∧ g < sizeF c)) (hi : (A ++ g :: B)[i]? = some g') (hb : ¬ (0 ≤ g' ∧ g' < sizeF c)) (ht : ∀ x ∈ (A ++ g :: B).take i, 0 ≤ x ∧ x < sizeF c) : g' = g := by
  rcases Nat.lt_trichotomy i A.length with l | l | l
  · rw [List.getElem?_append_left l] at hi
    exact absurd (hA g' (List.mem_of_getElem? hi)) hb
  · subst l
    rw [List.getElem?_append_right (Nat.le_refl _), Nat.sub_self] at hi
    exact (Option.some.inj hi).symm
  · refine absurd (ht g (List.mem_of_getElem? (i := A.length) ?_)) hg
    rw [List.getElem?_take_of_lt l, List.getElem?_append_right (Nat.le_refl _), Nat.sub_self]; rfl
theorem amiss_at {w : Int} (w0 : 0 ≤ w) (w1 : w < 2) : ∃ st : Bool, atI [V.str (Str.ofString "strict"), .str (Str.ofString "mark")] w = some (.str (wrW st)) := by
  rcases (show w = 0 ∨ w = 1 by omega) with rfl | rfl
  · exact ⟨true, rfl⟩
  · exact ⟨false, rfl⟩
theorem cpow_10_30 : CPow 10 30 := by unfold CPow; decide +kernel
theorem other_at {w : Int} (w0 : 0 ≤ w) (w1 : w < 3) : ∃ g : Int, atI [V.int (-1), .int 2097152, .int (10 ^ 30)] w = some (.int g) ∧ g ≠ 10 ∧ ¬ (0 ≤ g ∧ g < 2097152) := by
  rcases (show w = 0 ∨ w = 1 ∨ w = 2 by omega) with rfl | rfl | rfl
  · exact ⟨-1, rfl, by decide, by omega⟩
  · exact ⟨2097152, rfl, by decide, by omega⟩
  · exact ⟨10 ^ 30, rfl, by decide, by omega⟩
structure Tx (K : PySem.W.Frag) (mg : Str → Option Value) where
  C_Scan : Addr
  C_SipError : Addr
  C_BadCode : Addr
  C_NoSign : Addr
  C_NoCode : Addr
  C_NoEnds : Addr
  C_NoWay : Addr
  f_iBadCode : Addr
  fd_iBadCode : FuncData
  D_iBadCode : FunA K "__init__" "BadCode.__init__" s_iBadCode f_iBadCode fd_iBadCode
  f_iNoSign : Addr
  fd_iNoSign : FuncData
  D_iNoSign : FunA K "__init__" "NoSign.__init__" s_iNoSign f_iNoSign fd_iNoSign
  f_iNoCode : Addr
  fd_iNoCode : FuncData
  D_iNoCode : FunA K "__init__" "NoCode.__init__" s_iNoCode f_iNoCode fd_iNoCode
  f_iNoEnds : Addr
  fd_iNoEnds : FuncData
  D_iNoEnds : FunA K "__init__" "NoEnds.__init__" s_iNoEnds f_iNoEnds fd_iNoEnds
  f_iNoWay : Addr
  fd_iNoWay : FuncData
  D_iNoWay : FunA K "__init__" "NoWay.__init__" s_iNoWay f_iNoWay fd_iNoWay
  f_chk : Addr
  fd_chk : FuncData
  D_chk : Dg K mg "check_code" s_chk f_chk fd_chk
  f_gone : Addr
  fd_gone : FuncData
  D_gone : Dg K mg "gone_through" s_gone f_gone fd_gone
  f_bturn : Addr
  fd_bturn : FuncData
  D_bturn : Dg K mg "behind_turning" s_bturn f_bturn fd_bturn
  f_bmark : Addr
  fd_bmark : FuncData
  D_bmark : Dg K mg "behind_mark" s_bmark f_bmark fd_bmark
  f_sat : Addr
  fd_sat : FuncData
  D_sat : Dg K mg "sign_at" s_sat f_sat fd_sat
  f_wat : Addr
  fd_wat : FuncData
  D_wat : Dg K mg "wide_sign_at" s_wat f_wat fd_wat
  f_stat : Addr
  fd_stat : FuncData
  D_stat : Dg K mg "steps_sign_at" s_stat f_stat fd_stat
  f_lead : Addr
  fd_lead : FuncData
  D_lead : Dg K mg "steps_lead" s_lead f_lead fd_lead
  f_stw : Addr
  fd_stw : FuncData
  D_stw : Dg K mg "steps_writing" s_stw f_stw fd_stw
  f_rsign : Addr
  fd_rsign : FuncData
  D_rsign : Dg K mg "read_sign" s_rsign f_rsign fd_rsign
  f_whole : Addr
  fd_whole : FuncData
  D_whole : Dg K mg "is_whole" s_whole f_whole fd_whole
  f_lasts : Addr
  fd_lasts : FuncData
  D_lasts : Dg K mg "last_sign" s_lasts f_lasts fd_lasts
  f_swr : Addr
  fd_swr : FuncData
  D_swr : Dg K mg "sign_writing" s_swr f_swr fd_swr
  f_ww : Addr
  fd_ww : FuncData
  D_ww : Dg K mg "wide_writing" s_ww f_ww fd_ww
  f_tw : Addr
  fd_tw : FuncData
  D_tw : Dg K mg "turn_writing" s_tw f_tw fd_tw
  f_wsigns : Addr
  fd_wsigns : FuncData
  D_wsigns : Dg K mg "write_signs" s_wsigns f_wsigns fd_wsigns
  f_fstate : Addr
  fd_fstate : FuncData
  D_fstate : Dg K mg "first_state" s_fstate f_fstate fd_fstate
  f_wends : Addr
  fd_wends : FuncData
  D_wends : Dg K mg "written_ends" s_wends f_wends fd_wends
  f_wfeed : Addr
  fd_wfeed : FuncData
  D_wfeed : Dg K mg "written_feed" s_wfeed f_wfeed fd_wfeed
  f_cends : Addr
  fd_cends : FuncData
  D_cends : Dg K mg "check_ends" s_cends f_cends fd_cends
  f_eline : Addr
  fd_eline : FuncData
  D_eline : Dg K mg "ends_line" s_eline f_eline fd_eline
  f_cways : Addr
  fd_cways : FuncData
  D_cways : Dg K mg "check_ways" s_cways f_cways fd_cways
  f_mgo : Addr
  fd_mgo : FuncData
  D_mgo : Dg K mg "may_go_on" s_mgo f_mgo fd_mgo
  f_sure : Addr
  fd_sure : FuncData
  D_sure : Dg K mg "sure_sign" s_sure f_sure fd_sure
  f_sinit : Addr
  fd_sinit : FuncData
  D_sinit : Mf K C_Scan "__init__" "Scan.__init__" s_sinit f_sinit fd_sinit
  f_goon : Addr
  fd_goon : FuncData
  D_goon : Mf K C_Scan "go_on" "Scan.go_on" s_goon f_goon fd_goon
  f_fone : Addr
  fd_fone : FuncData
  D_fone : Mf K C_Scan "find_one" "Scan.find_one" s_fone f_fone fd_fone
  f_pwrong : Addr
  fd_pwrong : FuncData
  D_pwrong : Mf K C_Scan "pass_wrong" "Scan.pass_wrong" s_pwrong f_pwrong fd_pwrong
  f_looks : Addr
  fd_looks : FuncData
  D_looks : Mf K C_Scan "looks_behind_return" "Scan.looks_behind_return" s_looks f_looks fd_looks
  f_note : Addr
  fd_note : FuncData
  D_note : Mf K C_Scan "note_item" "Scan.note_item" s_note f_note fd_note
  f_sof : Addr
  fd_sof : FuncData
  D_sof : Dg K mg "signs_of" s_sof f_sof fd_sof
  f_decod : Addr
  fd_decod : FuncData
  D_decod : Dg K mg "decoded" s_decod f_decod fd_decod
  f_encod : Addr
  fd_encod : FuncData
  D_encod : Dg K mg "encoded" s_encod f_encod fd_encod
  f_pool : Addr
  fd_pool : FuncData
  D_pool : Dg K mg "_law_pool" s_pool f_pool fd_pool
  f_take : Addr
  fd_take : FuncData
  D_take : Dg K mg "_law_take" s_take f_take fd_take
  f_lcodes : Addr
  fd_lcodes : FuncData
  D_lcodes : Dg K mg "_law_codes" s_lcodes f_lcodes fd_lcodes
  f_lsign : Addr
  fd_lsign : FuncData
  D_lsign : Dg K mg "_law_sign" s_lsign f_lsign fd_lsign
  f_lsteps : Addr
  fd_lsteps : FuncData
  D_lsteps : Dg K mg "_law_steps" s_lsteps f_lsteps fd_lsteps
  f_lbytes : Addr
  fd_lbytes : FuncData
  D_lbytes : Dg K mg "_law_bytes" s_lbytes f_lbytes fd_lbytes
  f_lsread : Addr
  fd_lsread : FuncData
  D_lsread : Dg K mg "_law_steps_read" s_lsread f_lsread fd_lsread
  f_lwide : Addr
  fd_lwide : FuncData
  D_lwide : Dg K mg "_law_wide_read" s_lwide f_lwide fd_lwide
  f_lturn : Addr
  fd_lturn : FuncData
  D_lturn : Dg K mg "_law_turn_read" s_lturn f_lturn fd_lturn
  f_lstep : Addr
  fd_lstep : FuncData
  D_lstep : Dg K mg "_law_step" s_lstep f_lstep fd_lstep
  f_lany : Addr
  fd_lany : FuncData
  D_lany : Dg K mg "_law_any" s_lany f_lany fd_lany
  f_litems : Addr
  fd_litems : FuncData
  D_litems : Dg K mg "_law_items" s_litems f_litems fd_litems
  f_lways : Addr
  fd_lways : FuncData
  D_lways : Dg K mg "_law_ways" s_lways f_lways fd_lways
  f_lends : Addr
  fd_lends : FuncData
  D_lends : Dg K mg "_law_ends" s_lends f_lends fd_lends
  f_lrow : Addr
  fd_lrow : FuncData
  D_lrow : Dg K mg "_law_row" s_lrow f_lrow fd_lrow
  f_lread : Addr
  fd_lread : FuncData
  D_lread : Dg K mg "_law_read" s_lread f_lread fd_lread
  f_lrdue : Addr
  fd_lrdue : FuncData
  D_lrdue : Dg K mg "_law_read_due" s_lrdue f_lrdue fd_lrdue
  f_lwritten : Addr
  fd_lwritten : FuncData
  D_lwritten : Dg K mg "_law_written" s_lwritten f_lwritten fd_lwritten
  f_law : Addr
  fd_law : FuncData
  D_law : Dg K mg "law" s_law f_law fd_law
  cl_Scan : Cls K C_Scan
  g_Scan : mg "Scan" = some (.ref C_Scan)
  mk_Scan : Mk K C_Scan f_sinit
  n_Scan_spot : NoAttr K C_Scan "spot"
  n_Scan_state : NoAttr K C_Scan "state"
  n_Scan_code : NoAttr K C_Scan "code"
  n_Scan_ends : NoAttr K C_Scan "ends"
  n_Scan_wrong : NoAttr K C_Scan "wrong"
  n_Scan_most : NoAttr K C_Scan "most"
  n_Scan_by_line : NoAttr K C_Scan "by_line"
  n_Scan_found : NoAttr K C_Scan "found"
  n_Scan_bad : NoAttr K C_Scan "bad"
  n_Scan_full : NoAttr K C_Scan "full"
  g_SipError : mg "SipError" = some (.ref C_SipError)
  g_BadCode : mg "BadCode" = some (.ref C_BadCode)
  g_NoSign : mg "NoSign" = some (.ref C_NoSign)
  g_NoCode : mg "NoCode" = some (.ref C_NoCode)
  g_NoEnds : mg "NoEnds" = some (.ref C_NoEnds)
  g_NoWay : mg "NoWay" = some (.ref C_NoWay)
  o_BadCode : OexC K C_BadCode
  e_BadCode : ExcC K C_BadCode
  n_BadCode : PySem.W.findIn K (.ref C_BadCode) "at" = some none
  ini_BadCode : PySem.W.findIn K (.ref C_BadCode) "__init__" = some (some (.ref f_iBadCode))
  tI_BadCode : PySem.W.typeIn K (.ref f_iBadCode) = some (.type "function")
  te_BadCode : PySem.W.exmOne K (.ref C_BadCode) (.ref C_SipError) = some true
  o_NoSign : OexC K C_NoSign
  e_NoSign : ExcC K C_NoSign
  n_NoSign : PySem.W.findIn K (.ref C_NoSign) "sign" = some none
  ini_NoSign : PySem.W.findIn K (.ref C_NoSign) "__init__" = some (some (.ref f_iNoSign))
  tI_NoSign : PySem.W.typeIn K (.ref f_iNoSign) = some (.type "function")
  te_NoSign : PySem.W.exmOne K (.ref C_NoSign) (.ref C_SipError) = some true
  o_NoCode : OexC K C_NoCode
  e_NoCode : ExcC K C_NoCode
  n_NoCode : PySem.W.findIn K (.ref C_NoCode) "word" = some none
  ini_NoCode : PySem.W.findIn K (.ref C_NoCode) "__init__" = some (some (.ref f_iNoCode))
  tI_NoCode : PySem.W.typeIn K (.ref f_iNoCode) = some (.type "function")
  te_NoCode : PySem.W.exmOne K (.ref C_NoCode) (.ref C_SipError) = some true
  o_NoEnds : OexC K C_NoEnds
  e_NoEnds : ExcC K C_NoEnds
  n_NoEnds : PySem.W.findIn K (.ref C_NoEnds) "word" = some none
  ini_NoEnds : PySem.W.findIn K (.ref C_NoEnds) "__init__" = some (some (.ref f_iNoEnds))
  tI_NoEnds : PySem.W.typeIn K (.ref f_iNoEnds) = some (.type "function")
  te_NoEnds : PySem.W.exmOne K (.ref C_NoEnds) (.ref C_SipError) = some true
  o_NoWay : OexC K C_NoWay
  e_NoWay : ExcC K C_NoWay
  n_NoWay : PySem.W.findIn K (.ref C_NoWay) "word" = some none
  ini_NoWay : PySem.W.findIn K (.ref C_NoWay) "__init__" = some (some (.ref f_iNoWay))
  tI_NoWay : PySem.W.typeIn K (.ref f_iNoWay) = some (.type "function")
  te_NoWay : PySem.W.exmOne K (.ref C_NoWay) (.ref C_SipError) = some true
  te_BadCode_BadCode : PySem.W.exmOne K (.ref C_BadCode) (.ref C_BadCode) = some true
  te_BadCode_NoSign : PySem.W.exmOne K (.ref C_BadCode) (.ref C_NoSign) = some false
  te_BadCode_SipError : PySem.W.exmOne K (.ref C_BadCode) (.ref C_SipError) = some true
  te_NoSign_BadCode : PySem.W.exmOne K (.ref C_NoSign) (.ref C_BadCode) = some false
  te_NoSign_NoSign : PySem.W.exmOne K (.ref C_NoSign) (.ref C_NoSign) = some true
  te_NoSign_SipError : PySem.W.exmOne K (.ref C_NoSign) (.ref C_SipError) = some true
  te_NoCode_BadCode : PySem.W.exmOne K (.ref C_NoCode) (.ref C_BadCode) = some false
  te_NoCode_NoSign : PySem.W.exmOne K (.ref C_NoCode) (.ref C_NoSign) = some false
  te_NoCode_SipError : PySem.W.exmOne K (.ref C_NoCode) (.ref C_SipError) = some true
  te_NoEnds_BadCode : PySem.W.exmOne K (.ref C_NoEnds) (.ref C_BadCode) = some false
  te_NoEnds_NoSign : PySem.W.exmOne K (.ref C_NoEnds) (.ref C_NoSign) = some false
  te_NoEnds_SipError : PySem.W.exmOne K (.ref C_NoEnds) (.ref C_SipError) = some true
  te_NoWay_BadCode : PySem.W.exmOne K (.ref C_NoWay) (.ref C_BadCode) = some false
  te_NoWay_NoSign : PySem.W.exmOne K (.ref C_NoWay) (.ref C_NoSign) = some false
  te_NoWay_SipError : PySem.W.exmOne K (.ref C_NoWay) (.ref C_SipError) = some true
  bb_bmark : Binds K fd_bmark P_bmark []
  bb_bturn : Binds K fd_bturn P_bturn []
  bb_cends : Binds K fd_cends P_cends []
  bb_chk : Binds K fd_chk P_chk []
  bb_cways : Binds K fd_cways P_cways []
  bb_eline : Binds K fd_eline P_eline []
  bb_fone : Binds K fd_fone P_fone []
  bb_fstate : Binds K fd_fstate P_fstate []
  bb_gone : Binds K fd_gone P_gone []
  bb_goon : Binds K fd_goon P_goon []
  bb_iBadCode : Binds K fd_iBadCode P_iBadCode []
  bb_iNoCode : Binds K fd_iNoCode P_iNoCode []
  bb_iNoEnds : Binds K fd_iNoEnds P_iNoEnds []
  bb_iNoSign : Binds K fd_iNoSign P_iNoSign []
  bb_lany : Binds K fd_lany P_lany []
  bb_lasts : Binds K fd_lasts P_lasts []
  bb_lbytes : Binds K fd_lbytes P_lbytes []
  bb_lcodes : Binds K fd_lcodes P_lcodes []
  bb_lead : Binds K fd_lead P_lead []
  bb_lends : Binds K fd_lends P_lends []
  bb_litems : Binds K fd_litems P_litems []
  bb_looks : Binds K fd_looks P_looks []
  bb_lrdue : Binds K fd_lrdue P_lrdue []
  bb_lread : Binds K fd_lread P_lread []
  bb_lrow : Binds K fd_lrow P_lrow []
  bb_lsign : Binds K fd_lsign P_lsign []
  bb_lsread : Binds K fd_lsread P_lsread []
  bb_lstep : Binds K fd_lstep P_lstep []
  bb_lsteps : Binds K fd_lsteps P_lsteps []
  bb_lturn : Binds K fd_lturn P_lturn []
  bb_lways : Binds K fd_lways P_lways []
  bb_lwide : Binds K fd_lwide P_lwide []
  bb_lwritten : Binds K fd_lwritten P_lwritten []
  bb_mgo : Binds K fd_mgo P_mgo []
  bb_note : Binds K fd_note P_note []
  bb_pool : Binds K fd_pool P_pool []
  bb_pwrong : Binds K fd_pwrong P_pwrong []
  bb_sat : Binds K fd_sat P_sat []
  bb_sof : Binds K fd_sof P_sof []
  bb_stat : Binds K fd_stat P_stat []
  bb_stw : Binds K fd_stw P_stw []
  bb_sure : Binds K fd_sure P_sure []
  bb_swr : Binds K fd_swr P_swr []
  bb_take : Binds K fd_take P_take []
  bb_tw : Binds K fd_tw P_tw []
  bb_wat : Binds K fd_wat P_wat []
  bb_wfeed : Binds K fd_wfeed P_wfeed []
  bb_whole : Binds K fd_whole P_whole []
  bb_ww : Binds K fd_ww P_ww []
  ds_decod_1 : List Value
  v_decod_1 : Vals [.str (Str.ofString "steps"), .str (Str.ofString "any"), .str (Str.ofString "strict")] ds_decod_1
  b_decod_1 : Binds K fd_decod P_decod ds_decod_1
  ds_encod_1 : List Value
  v_encod_1 : Vals [.str (Str.ofString "steps"), .str (Str.ofString "any")] ds_encod_1
  b_encod_1 : Binds K fd_encod P_encod ds_encod_1
  kv_decod_1_code_ends : List Value
  kb_decod_1_code_ends : KBn K fd_decod P_decod 1 ["code", "ends"] (fun us ws => us ++ ws ++ kv_decod_1_code_ends) (fun vs zs => vs ++ zs ++ [.str (Str.ofString "strict")])
  kb_decod_1_code_ends_wrong : KBn K fd_decod P_decod 1 ["code", "ends", "wrong"] (fun us ws => us ++ ws) (fun vs zs => vs ++ zs)
  kv_decod_1_code_wrong : List Value
  kb_decod_1_code_wrong : KBn K fd_decod P_decod 1 ["code", "wrong"] (fun us ws => us ++ ((ws).drop 0).take 1 ++ ((kv_decod_1_code_wrong).drop 0).take 1 ++ ((ws).drop 1).take 1) (fun vs zs => vs ++ ((zs).drop 0).take 1 ++ (([.str (Str.ofString "any")]).drop 0).take 1 ++ ((zs).drop 1).take 1)
  kv_decod_1_ends_wrong : List Value
  kb_decod_1_ends_wrong : KBn K fd_decod P_decod 1 ["ends", "wrong"] (fun us ws => us ++ ((kv_decod_1_ends_wrong).drop 0).take 1 ++ ((ws).drop 0).take 2) (fun vs zs => vs ++ (([.str (Str.ofString "steps")]).drop 0).take 1 ++ ((zs).drop 0).take 2)
  kv_encod_1_code : List Value
  kb_encod_1_code : KBn K fd_encod P_encod 1 ["code"] (fun us ws => us ++ ws ++ kv_encod_1_code) (fun vs zs => vs ++ zs ++ [.str (Str.ofString "any")])
  kb_encod_1_code_ends : KBn K fd_encod P_encod 1 ["code", "ends"] (fun us ws => us ++ ws) (fun vs zs => vs ++ zs)
  kv_encod_1_ends : List Value
  kb_encod_1_ends : KBn K fd_encod P_encod 1 ["ends"] (fun us ws => us ++ ((kv_encod_1_ends).drop 0).take 1 ++ ((ws).drop 0).take 1) (fun vs zs => vs ++ (([.str (Str.ofString "steps")]).drop 0).take 1 ++ ((zs).drop 0).take 1)
  kb_rsign_3_code : KBn K fd_rsign P_rsign 3 ["code"] (fun us ws => us ++ ws) (fun vs zs => vs ++ zs)
  kv_sinit_2_code_ends_wrong : List Value
  kb_sinit_2_code_ends_wrong : KBn K fd_sinit P_sinit 3 ["code", "ends", "wrong"] (fun us ws => us ++ ws ++ kv_sinit_2_code_ends_wrong) (fun vs zs => vs ++ zs ++ [.non, .bl false])
  kb_wends_1_ends : KBn K fd_wends P_wends 1 ["ends"] (fun us ws => us ++ ws) (fun vs zs => vs ++ zs)
  kb_wsigns_2_code : KBn K fd_wsigns P_wsigns 2 ["code"] (fun us ws => us ++ ws) (fun vs zs => vs ++ zs)
  t_PLAIN : Tok
  c_PLAIN : mg "PLAIN" = some (.str (Str.ofString "plain") t_PLAIN)
  t_STEPS : Tok
  c_STEPS : mg "STEPS" = some (.str (Str.ofString "steps") t_STEPS)
  t_WIDE : Tok
  c_WIDE : mg "WIDE" = some (.str (Str.ofString "wide") t_WIDE)
  t_TURN : Tok
  c_TURN : mg "TURN" = some (.str (Str.ofString "turn") t_TURN)
  t_LOW_FIRST : Tok
  c_LOW_FIRST : mg "LOW_FIRST" = some (.int 1 t_LOW_FIRST)
  t_HIGH_FIRST : Tok
  c_HIGH_FIRST : mg "HIGH_FIRST" = some (.int 2 t_HIGH_FIRST)
  t_TURNING : Tok
  c_TURNING : mg "TURNING" = some (.int 128 t_TURNING)
  t_ANY : Tok
  c_ANY : mg "ANY" = some (.str (Str.ofString "any") t_ANY)
  t_KEPT : Tok
  c_KEPT : mg "KEPT" = some (.str (Str.ofString "kept") t_KEPT)
  t_FEED : Tok
  c_FEED : mg "FEED" = some (.str (Str.ofString "feed") t_FEED)
  t_RETURN : Tok
  c_RETURN : mg "RETURN" = some (.str (Str.ofString "return") t_RETURN)
  t_BOTH : Tok
  c_BOTH : mg "BOTH" = some (.str (Str.ofString "both") t_BOTH)
  t_STRICT : Tok
  c_STRICT : mg "STRICT" = some (.str (Str.ofString "strict") t_STRICT)
  t_MARK : Tok
  c_MARK : mg "MARK" = some (.str (Str.ofString "mark") t_MARK)
  t_LINE_FEED : Tok
  c_LINE_FEED : mg "LINE_FEED" = some (.int 10 t_LINE_FEED)
  t_LINE_RETURN : Tok
  c_LINE_RETURN : mg "LINE_RETURN" = some (.int 13 t_LINE_RETURN)
  t_WRONG_SIGN : Tok
  c_WRONG_SIGN : mg "WRONG_SIGN" = some (.int 65533 t_WRONG_SIGN)
  a_HIGH_MARK : Addr
  c_HIGH_MARK : mg "HIGH_MARK" = some (.ref a_HIGH_MARK)
  q_HIGH_MARK : ∀ H : Hp, SqT K H a_HIGH_MARK [.int 254, .int 255]
  a_LOW_MARK : Addr
  c_LOW_MARK : mg "LOW_MARK" = some (.ref a_LOW_MARK)
  q_LOW_MARK : ∀ H : Hp, SqT K H a_LOW_MARK [.int 255, .int 254]
  m_list : mg "list" = none
  m_len : mg "len" = none
  m_range : mg "range" = none
  m_int : mg "int" = none
  m_tuple : mg "tuple" = none
  m_bool : mg "bool" = none
  m_isinstance : mg "isinstance" = none
  m_min : mg "min" = none
section
variable {P : Program} {w : World} {K : PySem.W.Frag} {mg : Str → Option Value} {base : Heap}

theorem ok_pool (T : Tx K mg) : FnOk P w K mg base CX0 1 T.f_pool T.fd_pool P_pool (spPool K) := by
  have sz : sizeLine = 16777216 := sizeLine_eq
  refine T.D_pool.F.ok sc_pool (fun vs H Q E h => ?_) (fun cdv A outer s H vs Q E hr h => ?_)
  · obtain ⟨a, ns, i, rfl, _⟩ := h
    rfl
  · obtain ⟨a, ns, i, rfl, hS, h63, i0, i1, q⟩ := h
    refine ⟨_, (pss_cons (ps_set (i := 2) sc_pool.nd rfl (.inl rfl) pe_int)
      (C8.pss_cut (ps_if (pt_cmpR op_gt (pe_callB call_len_seq (by rfl) T.m_len PySem.boot_len (pa_cons (pv 0) pa_nil)) pe_int (nomark _)) (pss_one (ps_set (i := 2) sc_pool.nd rfl (.inl rfl) (pe_ix ix_list (pv 0) (pe_op op_mod (pv 1) (pe_callB call_len_seq (by rfl) T.m_len PySem.boot_len (pa_cons (pv 0) pa_nil))) (fun _ _ => rfl)))) pss_nil)
      (pss_cons (ps_set (i := 3) sc_pool.nd rfl (.inl rfl) pe_int)
      (C8.pss_cut (ps_if (PW.pt (pw_and (pt_cmpR op_ge (pv 2) (pe_op op_pow pe_int pe_int) (nomark _)) (pw_and1 (pt_cmpR op_lt (pv 1) (pe_callB call_len_seq (by rfl) T.m_len PySem.boot_len (pa_cons (pv 0) pa_nil)) (nomark _))))) (pss_one (ps_set (i := 3) sc_pool.nd rfl (.inl rfl) (pv 2))) pss_nil)
      (pss_one (ps_ret (pe_lst (pa_cons (pv 3) (pa_cons (pe_op op_mul pe_int (pv 1)) (pa_cons (pv 2) pa_nil)))))))))), ?_⟩
    refine ⟨fun σ' H' => H' = H ∧ ∃ c : Int, σ' = [some (.ref a), some (.int i), some (.int c), none], ?_, fun σ' H' hm => ?_⟩
    · refine ⟨.ref a, rfl, a, ns.map V.int, rfl, .inl hS, _, _, rfl, rfl, _, rfl, ite2 (fun e => ?_) (fun e => ?_)⟩
      · have e1 : (0 : Int) < ((ns.map V.int).length : Int) := of_decide_eq_true e
        rw [List.length_map] at e1
        obtain ⟨m, _, em, _⟩ := atI_int (ms := ns) (i := i % (ns.length : Int)) (Int.emod_nonneg _ (by omega)) (Int.emod_lt_of_pos _ e1)
        refine ⟨.ref a, rfl, .int i, rfl, .ref a, rfl, a, ns.map V.int, rfl, .inl hS, _, _, rfl, rfl, ?_, a, _, _, .int m, rfl, rfl, hS, ?_, rfl, m, rfl⟩
        · rw [List.length_map]; exact e1
        · rw [List.length_map]; exact em
      · exact ⟨rfl, 0, rfl⟩
    · obtain ⟨rfl, c, rfl⟩ := hm
      refine ⟨fun σ' H'' => H'' = H' ∧ ∃ d : Int, 0 ≤ d ∧ σ' = [some (.ref a), some (.int i), some (.int c), some (.int d)], ?_, fun σ' H'' hm => ?_⟩
      · refine ⟨.int c, rfl, _, _, rfl, rfl, ⟨by decide, by decide, by decide⟩, _, _, rfl, rfl, _, rfl, ite2 (fun e => ?_) (fun e => iteF ⟨rfl, 0, by decide, rfl⟩)⟩
        have e1 : ((10 : Int) ^ (18 : Int).toNat) ≤ c := of_decide_eq_true e
        refine ⟨.int i, rfl, .ref a, rfl, a, ns.map V.int, rfl, .inl hS, _, _, rfl, rfl, _, rfl, ite2 (fun e => ?_) (fun e => ⟨rfl, 0, by decide, rfl⟩)⟩
        exact ⟨.int c, rfl, rfl, c, Int.le_trans (by decide) e1, rfl⟩
      · obtain ⟨rfl, d, d0, rfl⟩ := hm
        refine ⟨.int d, rfl, .int i, rfl, _, _, rfl, rfl, .inl ⟨by decide, by decide⟩, .int c, rfl, by show (3 : Nat) ≤ sizeLine; decide, fun p np => q p _ np ⟨d, 1000 * i, c, rfl, d0, by omega, by omega⟩⟩


theorem ok_take (T : Tx K mg) : FnOk P w K mg base CX0 1 T.f_take T.fd_take P_take (spTake) := by
  have sz : sizeLine = 16777216 := sizeLine_eq
  refine T.D_take.F.ok sc_take (fun vs H Q E h => ?_) (fun cdv A outer s H vs Q E hr h => ?_)
  · obtain ⟨p, n, wd, o, rfl, _⟩ := h
    rfl
  · obtain ⟨p, n, wd, o, rfl, hp, ⟨d, c, x, rfl, d0, c0, cn⟩, n9, w0, w1, q⟩ := h
    refine ⟨_, (pss_cons (ps_if (pt_cmpR op_gt (pe_ix ix_list (pv 0) pe_int (fun _ _ => rfl)) pe_int (nomark _)) (pss_cons (ps_set (i := 2) sc_take.nd rfl (.inl rfl) (pe_op op_mod (pe_ix ix_list (pv 0) pe_int (fun _ _ => rfl)) (pv 1)))
      (pss_cons (ps_asg (pe_op op_fdiv (pe_ix ix_list (pv 0) pe_int (fun _ _ => rfl)) (pv 1)) (pg_sub (pv 0) pe_int set_list))
      (pss_one (ps_ret (pv 2))))) pss_nil)
      (pss_cons (ps_asg (pe_op op_add (pe_ix ix_list (pv 0) pe_int (fun _ _ => rfl)) pe_int) (pg_sub (pv 0) pe_int set_list))
      (pss_cons (ps_set (i := 3) sc_take.nd rfl (.inl rfl) (pe_op op_mod (pe_op op_pow (pe_op op_add (pe_op op_mod (pe_ix ix_list (pv 0) pe_int (fun _ _ => rfl)) pe_int) (pe_op op_mul pe_int (pe_ix ix_list (pv 0) pe_int (fun _ _ => rfl)))) pe_int) pe_int))
      (pss_cons (ps_set (i := 3) sc_take.nd rfl (.inl rfl) (pe_op op_add (pe_op op_mul (pv 3) pe_int) (pe_op op_mul (pe_op op_mul (pe_ix ix_list (pv 0) pe_int (fun _ _ => rfl)) (pe_ix ix_list (pv 0) pe_int (fun _ _ => rfl))) pe_int)))
      (pss_one (ps_ret (pe_op op_mod (pe_op op_fdiv (pe_op op_mod (pe_op op_add (pv 3) (pe_op op_fdivW (pe_ix ix_list (pv 0) pe_int (fun _ _ => rfl)) pe_int)) pe_int) pe_int) (pv 1)))))))), ?_⟩
    have S0 : SqL K H p [.int d, .int c, .int x] := sq_at hp
    refine ⟨.ref p, rfl, p, _, 0, .int d, rfl, rfl, S0, rfl, d, 0, rfl, rfl, _, rfl, ite2 (fun e => ?_) (fun e => ?_)⟩
    · refine ⟨.ref p, rfl, p, _, 0, .int d, rfl, rfl, S0, rfl, .int wd, rfl, d, wd, rfl, rfl, w0, ?_⟩
      refine ⟨.ref p, rfl, p, _, 0, .int d, rfl, rfl, S0, rfl, .int wd, rfl, d, wd, rfl, rfl, ⟨w0, w1⟩, ?_⟩
      refine ⟨.ref p, rfl, p, _, 0, 0, rfl, rfl, hp, rfl, .int (d % wd), rfl, ?_⟩
      exact q _ _ (Int.emod_nonneg _ (by omega)) (Int.emod_lt_of_pos _ w0) ⟨d / wd, c, x, rfl, Int.ediv_nonneg d0 (by omega), c0, by omega⟩
    · refine ⟨.ref p, rfl, p, _, 1, .int c, rfl, rfl, S0, rfl, c, 1, rfl, rfl, .ref p, rfl, p, _, 1, 1, rfl, rfl, hp, rfl, ?_⟩
      have S1 : SqL K (upd H p (.lst [.int d, .int (c + 1), .int x])) p [.int d, .int (c + 1), .int x] := sq_new
      have y0 : 0 ≤ x % 2147483647 := Int.emod_nonneg _ (by decide)
      have y1 : x % 2147483647 < 2147483647 := Int.emod_lt_of_pos _ (by decide)
      refine ⟨.ref p, rfl, p, _, 2, .int x, rfl, rfl, S1, rfl, x, _, rfl, rfl, by show (0 : Int) < 2147483647; decide, .ref p, rfl, p, _, 1, .int (c + 1), rfl, rfl, S1, rfl, 40503, c + 1, rfl, rfl, .inl ⟨by decide, by decide⟩, _, _, rfl, rfl, _, 5, rfl, rfl, ⟨by decide, by decide, ?_⟩, _, 2147483647, rfl, rfl, by show (0 : Int) < 2147483647; decide, ?_⟩
      · show (x % 2147483647 + 40503 * (c + 1)).natAbs < 18446744073709551616
        omega
      · refine ⟨_, rfl, _, 48271, rfl, rfl, .inr ⟨by decide, by decide⟩, .ref p, rfl, p, _, 1, .int (c + 1), rfl, rfl, S1, rfl, .ref p, rfl, p, _, 1, .int (c + 1), rfl, rfl, S1, rfl, c + 1, c + 1, rfl, rfl, .inl ⟨by omega, by omega⟩, _, 39373, rfl, rfl, .inr ⟨by decide, by decide⟩, _, _, rfl, rfl, ?_⟩
        refine ⟨_, rfl, .ref p, rfl, p, _, 2, .int x, rfl, rfl, S1, rfl, x, _, rfl, rfl, wide_div (b := 32) (by decide) (by decide) (by decide) (by decide), _, _, rfl, rfl, _, _, rfl, rfl, by show (0 : Int) < 1000000007; decide, _, 16, rfl, rfl, ⟨by decide, by decide⟩, .int wd, rfl, _, wd, rfl, rfl, w0, ?_⟩
        exact q _ _ (Int.emod_nonneg _ (by omega)) (Int.emod_lt_of_pos _ w0) ⟨d, c + 1, x, rfl, d0, by omega, by omega⟩


theorem ok_iNoCode (T : Tx K mg) : FnOk P w K mg base CX0 1 T.f_iNoCode T.fd_iNoCode P_iNoCode (spErr1 T.C_NoCode "word") := by
  have sz : sizeLine = 16777216 := sizeLine_eq
  refine T.D_iNoCode.ok sc_iNoCode (fun vs H Q E h => ?_) (fun cdv A outer s H vs Q E hr h => ?_)
  · obtain ⟨a, v, rfl, _⟩ := h
    rfl
  · obtain ⟨a, v, rfl, hA, q⟩ := h
    refine ⟨_, (pss_one (ps_ost (pv 0) (pv 1))), ?_⟩
    exact ⟨v, rfl, .ref a, rfl, a, T.C_NoCode, rfl, T.o_NoCode, T.n_NoCode, .inl ⟨hA, q⟩⟩

theorem ok_iNoSign (T : Tx K mg) : FnOk P w K mg base CX0 1 T.f_iNoSign T.fd_iNoSign P_iNoSign (spErr1 T.C_NoSign "sign") := by
  have sz : sizeLine = 16777216 := sizeLine_eq
  refine T.D_iNoSign.ok sc_iNoSign (fun vs H Q E h => ?_) (fun cdv A outer s H vs Q E hr h => ?_)
  · obtain ⟨a, v, rfl, _⟩ := h
    rfl
  · obtain ⟨a, v, rfl, hA, q⟩ := h
    refine ⟨_, (pss_one (ps_ost (pv 0) (pv 1))), ?_⟩
    exact ⟨v, rfl, .ref a, rfl, a, T.C_NoSign, rfl, T.o_NoSign, T.n_NoSign, .inl ⟨hA, q⟩⟩

theorem ok_chk (T : Tx K mg) : FnOk P w K mg base (L2.CX P w) 3 T.f_chk T.fd_chk P_chk (spChkX T.C_NoCode) := by
  have G_iNoCode := ok_iNoCode (P := P) (w := w) (base := base) T
  have sz : sizeLine = 16777216 := sizeLine_eq
  refine T.D_chk.F.okX sc_chk (fun vs H Q E h => ?_) (fun cdv A outer s H vs Q E hr h => ?_)
  · obtain ⟨z, rfl, _⟩ := h
    rfl
  · obtain ⟨z, rfl, q, qe⟩ := h
    refine ⟨_, (pss_one (ps_if (pt_cmpR op_notIn_seq (pv 0) (pe_tup (pa_cons (pe_glob (v := .str (Str.ofString "plain")) (by rfl) T.c_PLAIN ⟨_, rfl⟩) (pa_cons (pe_glob (v := .str (Str.ofString "steps")) (by rfl) T.c_STEPS ⟨_, rfl⟩) (pa_cons (pe_glob (v := .str (Str.ofString "wide")) (by rfl) T.c_WIDE ⟨_, rfl⟩) (pa_cons (pe_glob (v := .str (Str.ofString "turn")) (by rfl) T.c_TURN ⟨_, rfl⟩) pa_nil))))) rfl) (pss_one (ps_raise rfl (takes_of rfl rfl rfl rfl) (pmk_oex T.o_NoCode T.ini_NoCode T.tI_NoCode G_iNoCode (hr.mono (by decide)) T.bb_iNoCode .nil pass0 (by rfl) T.g_NoCode (pa_cons (pv 0) pa_nil)))) pss_nil)), ?_⟩
    refine ⟨_, rfl, by show (4 : Nat) ≤ sizeLine; omega, fun t nt => ?_⟩
    have s1 := (Kp.new (ps := []) (o := HO.tup [.str (Str.ofString "plain"), .str (Str.ofString "steps"), .str (Str.ofString "wide"), .str (Str.ofString "turn")]) nt).same
    refine ⟨t, _, rfl, .inr (.inl (.inl upd_same)), rfl, rfl, _, rfl, ?_⟩
    show if (!inV (.str z) [.str (Str.ofString "plain"), .str (Str.ofString "steps"), .str (Str.ofString "wide"), .str (Str.ofString "turn")]) = true then _ else _
    cases hin : inV (.str z) [.str (Str.ofString "plain"), .str (Str.ofString "steps"), .str (Str.ofString "wide"), .str (Str.ofString "turn")] with
    | true =>
      obtain ⟨c, ec⟩ := (inC z).mp hin
      exact iteF (q c ec _ s1)
    | false =>
      have nc : ¬ isCode z := fun h => by rw [(inC z).mpr h] at hin; cases hin
      exact iteT ⟨.str z, rfl, mk1_fin ((qe nc).mono s1).raise⟩

theorem ok_fstate (T : Tx K mg) : FnOk P w K mg base (L2.CX P w) 4 T.f_fstate T.fd_fstate P_fstate (spFState T.C_NoCode) := by
  have G_chk := ok_chk (P := P) (w := w) (base := base) T
  have sz : sizeLine = 16777216 := sizeLine_eq
  refine T.D_fstate.F.okX sc_fstate (fun vs H Q E h => ?_) (fun cdv A outer s H vs Q E hr h => ?_)
  · obtain ⟨z, rfl, _⟩ := h
    rfl
  · obtain ⟨z, rfl, q, qe⟩ := h
    refine ⟨_, (pss_cons (ps_expr (pe_call G_chk (hr.mono (by decide)) (by rfl) T.D_chk.g T.D_chk.F.kp T.bb_chk .nil (Sip.passX (takes_of rfl rfl rfl rfl)) (pa_cons (pv 0) pa_nil)))
      (pss_one (ps_ret pe_int))), ?_⟩
    exact ⟨.str z, rfl, z, rfl, q, qe⟩

theorem ok_bturn (T : Tx K mg) : FnOk P w K mg base CX0 1 T.f_bturn T.fd_bturn P_bturn (spBT K) := by
  have sz : sizeLine = 16777216 := sizeLine_eq
  refine T.D_bturn.F.ok sc_bturn (fun vs H Q E h => ?_) (fun cdv A outer s H vs Q E hr h => ?_)
  · obtain ⟨a, row, p, s0, rfl, _⟩ := h
    rfl
  · obtain ⟨a, row, p, s0, rfl, hA, q⟩ := h
    refine ⟨_, (pss_cons (ps_while PassesOwn.never (PW.pt (pw_and (pt_cmpR op_lt (pv 1) (pe_callB call_len_seq (by rfl) T.m_len PySem.boot_len (pa_cons (pv 0) pa_nil)) (nomark _)) (pw_and1 (pt_cmpR op_ge (pe_ix ix_list (pv 0) (pv 1) (fun _ _ => rfl)) (pe_glob (v := .int 128) (by rfl) T.c_TURNING ⟨_, rfl⟩) (nomark _))))) (pss_cons (ps_set (i := 2) sc_bturn.nd rfl (.inl rfl) (pe_op op_sub (pe_ix ix_list (pv 0) (pv 1) (fun _ _ => rfl)) (pe_glob (v := .int 128) (by rfl) T.c_TURNING ⟨_, rfl⟩)))
      (pss_one (ps_aug (i := 1) sc_bturn.nd rfl (.inl rfl) pe_int ip_add))))
      (pss_one (ps_ret (pe_tup (pa_cons (pv 1) (pa_cons (pv 2) pa_nil)))))), ?_⟩
    refine while_by (fun σ H' => H' = H ∧ ∃ (p' : Nat) (s' : Int), σ = [some (.ref a), some (.int p'), some (.int s')] ∧ skipT (row.drop p') p' s' = skipT (row.drop p) p s0) (fun (σ : L2.St) (_ : Hp) => row.length - (match (σ[1]? : Option (Option V)) with | some (some (V.int i)) => i.toNat | _ => 0)) ⟨rfl, p, s0, rfl, rfl⟩ (fun σ H' hW => ?_) ?_
    · obtain ⟨rfl, p', s', rfl, inv⟩ := hW
      refine ⟨.int p', rfl, .ref a, rfl, a, _, rfl, .inl hA, _, _, rfl, rfl, _, rfl, ?_⟩
      rw [List.length_map]
      by_cases h : p' < row.length
      · rw [decide_eq_true (by omega : (p' : Int) < (row.length : Int))]
        refine iteT ?_
        have ea : atI (row.map V.int) (p' : Int) = some (.int (row[p'])) := atI_nat (by rw [List.getElem?_map, List.getElem?_eq_getElem h]; rfl)
        have ed : row.drop p' = row[p'] :: row.drop (p' + 1) := List.drop_eq_getElem_cons h
        refine ⟨.ref a, rfl, .int p', rfl, a, _, _, .int (row[p']), rfl, rfl, hA, ea, _, _, rfl, rfl, _, rfl, ?_⟩
        by_cases g : 128 ≤ row[p']
        · rw [show decide (row[p'] ≥ 128) = true from decide_eq_true g]
          refine iteT ?_
          refine ⟨.ref a, rfl, .int p', rfl, a, _, _, .int (row[p']), rfl, rfl, hA, ea, _, _, rfl, rfl, _, rfl, _, _, rfl, rfl, ?_⟩
          refine ⟨⟨rfl, p' + 1, row[p'] - 128, rfl, ?_⟩, ?_⟩
          · rw [← inv, ed]
            show _ = if 128 ≤ row[p'] then _ else _
            rw [if_pos g]
          · show row.length - ((p' : Int) + 1).toNat < row.length - ((p' : Int)).toNat
            omega
        · rw [show decide (row[p'] ≥ 128) = false from decide_eq_false g]
          refine iteF ?_
          refine ⟨.int p', rfl, .int s', rfl, by show (2 : Nat) ≤ sizeLine; omega, fun t nt => ?_⟩
          have e2 : skipT (row.drop p) p s0 = (p', s') := by
            rw [← inv, ed]
            show (if 128 ≤ row[p'] then _ else _) = _
            rw [if_neg g]
          exact q _ t nt (by rw [upd_same, e2]) (Kp.new (ps := []) nt).same
      · rw [decide_eq_false (by omega : ¬ ((p' : Int) < (row.length : Int)))]
        refine iteF ?_
        refine ⟨.int p', rfl, .int s', rfl, by show (2 : Nat) ≤ sizeLine; omega, fun t nt => ?_⟩
        have e2 : skipT (row.drop p) p s0 = (p', s') := by
          rw [← inv, List.drop_of_length_le (by omega)]; rfl
        exact q _ t nt (by rw [upd_same, e2]) (Kp.new (ps := []) nt).same
    · rintro σ H' Q1 Q2 hq ⟨x, e1, y, e2, b, ys, e3, h3, i, j, e4, e5, k, e6, h⟩
      refine ⟨x, e1, y, e2, b, ys, e3, h3, i, j, e4, e5, k, e6, ?_⟩
      cases k with
      | true =>
        have h' := h
        rw [if_pos rfl] at h'
        obtain ⟨x, e1, y, e2, a, xs, i, v, e3, e4, h4, h5, i2, j2, e6, e7, k2, e8, h⟩ := h'
        exact iteT ⟨x, e1, y, e2, a, xs, i, v, e3, e4, h4, h5, i2, j2, e6, e7, k2, e8, hq _ _ h⟩
      | false =>
        rw [if_neg (by decide)] at h
        exact iteF (hq _ _ h)

theorem ok_bmark (T : Tx K mg) : FnOk P w K mg base CX0 1 T.f_bmark T.fd_bmark P_bmark (spBM K) := by
  have sz : sizeLine = 16777216 := sizeLine_eq
  refine T.D_bmark.F.ok sc_bmark (fun vs H Q E h => ?_) (fun cdv A outer s H vs Q E hr h => ?_)
  · obtain ⟨a, row, p, rfl, _⟩ := h
    rfl
  · obtain ⟨a, row, p, rfl, hA, q⟩ := h
    refine ⟨_, (pss_cons (ps_set (i := 2) sc_bmark.nd rfl (.inl rfl) (pe_tupleOf (by rfl) T.m_tuple (pe_slice sl_list (pv 0) (po_some (pv 1)) (po_some (pe_op op_add (pv 1) pe_int)))))
      (pss_cons (ps_if (pt_cmpR (Sip.op_eqTI hr.units) (pv 2) (pe_glob (v := .ref T.a_HIGH_MARK) (by rfl) T.c_HIGH_MARK rfl) (nomark _)) (pss_one (ps_ret (pe_tup (pa_cons (pe_op op_add (pv 1) pe_int) (pa_cons (pe_glob (v := .int 2) (by rfl) T.c_HIGH_FIRST ⟨_, rfl⟩) pa_nil))))) pss_nil)
      (pss_cons (ps_if (pt_cmpR (Sip.op_eqTI hr.units) (pv 2) (pe_glob (v := .ref T.a_LOW_MARK) (by rfl) T.c_LOW_MARK rfl) (nomark _)) (pss_one (ps_ret (pe_tup (pa_cons (pe_op op_add (pv 1) pe_int) (pa_cons (pe_glob (v := .int 1) (by rfl) T.c_LOW_FIRST ⟨_, rfl⟩) pa_nil))))) pss_nil)
      (pss_one (ps_ret (pe_tup (pa_cons (pv 1) (pa_cons (pe_glob (v := .int 2) (by rfl) T.c_HIGH_FIRST ⟨_, rfl⟩) pa_nil)))))))), ?_⟩
    refine ⟨.ref a, rfl, .int p, rfl, _, rfl, .int p, rfl, _, _, rfl, rfl, _, rfl, a, _, rfl, hA, fun t nt => ?_⟩
    rw [show ((p : Int) + 2) = ((p + 2 : Nat) : Int) by omega, mid_cut]
    have s1 := (Kp.new (ps := []) (o := HO.lst (((row.drop p).take 2).map V.int)) nt).same
    refine .inl ⟨t, _, rfl, sq_new, fun u nu => ?_⟩
    have s2 := s1.trans (Kp.new (ps := []) (o := HO.tup (((row.drop p).take 2).map V.int)) nu).same
    refine ⟨.ref u, rfl, u, _, _, [254, 255], rfl, rfl, .inl (.inl upd_same), T.q_HIGH_MARK _, _, rfl, ite2 (fun e => ?_) (fun e => ?_)⟩
    · have e1 := of_decide_eq_true e
      refine ⟨.int p, rfl, _, _, rfl, rfl, by show (2 : Nat) ≤ sizeLine; omega, fun z nz => ?_⟩
      exact q _ z (s2.free nz) (by rw [upd_same]; unfold markW; rw [if_pos e1]; rfl) (s2.trans (Kp.new (ps := []) nz).same)
    · have e1 : ¬ _ := fun z => e (decide_eq_true z)
      refine ⟨.ref u, rfl, u, _, _, [255, 254], rfl, rfl, .inl (.inl upd_same), T.q_LOW_MARK _, _, rfl, ite2 (fun e => ?_) (fun e => ?_)⟩
      · have e2 := of_decide_eq_true e
        refine ⟨.int p, rfl, _, _, rfl, rfl, by show (2 : Nat) ≤ sizeLine; omega, fun z nz => ?_⟩
        exact q _ z (s2.free nz) (by rw [upd_same]; unfold markW; rw [if_neg e1, if_pos e2]; rfl) (s2.trans (Kp.new (ps := []) nz).same)
      · have e2 : ¬ _ := fun z => e (decide_eq_true z)
        refine ⟨.int p, rfl, by show (2 : Nat) ≤ sizeLine; omega, fun z nz => ?_⟩
        exact q _ z (s2.free nz) (by rw [upd_same]; unfold markW; rw [if_neg e1, if_neg e2]) (s2.trans (Kp.new (ps := []) nz).same)

theorem ok_gone (T : Tx K mg) : FnOk P w K mg base CX0 2 T.f_gone T.fd_gone P_gone (spGone K) := by
  have G_bturn := ok_bturn (P := P) (w := w) (base := base) T
  have G_bmark := ok_bmark (P := P) (w := w) (base := base) T
  have sz : sizeLine = 16777216 := sizeLine_eq
  refine T.D_gone.F.ok sc_gone (fun vs H Q E h => ?_) (fun cdv A outer s H vs Q E hr h => ?_)
  · obtain ⟨a, row, p, s0, c, rfl, _⟩ := h
    rfl
  · obtain ⟨a, row, p, s0, c, rfl, hA, q⟩ := h
    refine ⟨_, (pss_cons (ps_if (pt_cmpR op_eq (pv 3) (pe_glob (v := .str (Str.ofString "turn")) (by rfl) T.c_TURN ⟨_, rfl⟩) (nomark _)) (pss_one (ps_ret (pe_call G_bturn (hr.mono (by decide)) (by rfl) T.D_bturn.g T.D_bturn.F.kp T.bb_bturn .nil pass0 (pa_cons (pv 0) (pa_cons (pv 1) (pa_cons (pv 2) pa_nil)))))) pss_nil)
      (pss_cons (ps_if (PW.pt (pw_and (pt_cmpR op_eq (pv 3) (pe_glob (v := .str (Str.ofString "wide")) (by rfl) T.c_WIDE ⟨_, rfl⟩) (nomark _)) (pw_and1 (pt_cmpR op_eq (pv 2) pe_int (nomark _))))) (pss_one (ps_ret (pe_call G_bmark (hr.mono (by decide)) (by rfl) T.D_bmark.g T.D_bmark.F.kp T.bb_bmark .nil pass0 (pa_cons (pv 0) (pa_cons (pv 1) pa_nil))))) pss_nil)
      (pss_one (ps_ret (pe_tup (pa_cons (pv 1) (pa_cons (pv 2) pa_nil))))))), ?_⟩
    cases c with
    | turn =>
      refine ⟨_, rfl, rfl, _, rfl, iteTc (by decide +kernel) ?_⟩
      exact ⟨.ref a, rfl, .int p, rfl, .int s0, rfl, a, row, p, s0, rfl, hA, q⟩
    | wide =>
      refine ⟨_, rfl, rfl, _, rfl, iteFc (by decide +kernel) ?_⟩
      refine ⟨_, rfl, rfl, _, rfl, iteTc (by decide +kernel) ?_⟩
      refine ⟨.int s0, rfl, rfl, _, rfl, ite2 (fun e => ?_) (fun e => ?_)⟩
      · have e1 : s0 = 0 := V.int.inj (of_decide_eq_true e)
        have eg : goneF .wide row p s0 = markW row p := if_pos e1
        rw [eg] at q
        exact ⟨.ref a, rfl, .int p, rfl, a, row, p, rfl, hA, q⟩
      · have e1 : s0 ≠ 0 := fun z => e (decide_eq_true (by rw [z]))
        have eg : goneF .wide row p s0 = (p, s0) := if_neg e1
        rw [eg] at q
        exact ⟨.int p, rfl, .int s0, rfl, by show (2 : Nat) ≤ sizeLine; omega, fun z nz => q _ z nz upd_same (Kp.new (ps := []) nz).same⟩
    | plain =>
      refine ⟨_, rfl, rfl, _, rfl, iteFc (by decide +kernel) ?_⟩
      refine ⟨_, rfl, rfl, _, rfl, iteFc (by decide +kernel) ?_⟩
      exact ⟨.int p, rfl, .int s0, rfl, by show (2 : Nat) ≤ sizeLine; omega, fun z nz => q _ z nz upd_same (Kp.new (ps := []) nz).same⟩
    | steps =>
      refine ⟨_, rfl, rfl, _, rfl, iteFc (by decide +kernel) ?_⟩
      refine ⟨_, rfl, rfl, _, rfl, iteFc (by decide +kernel) ?_⟩
      exact ⟨.int p, rfl, .int s0, rfl, by show (2 : Nat) ≤ sizeLine; omega, fun z nz => q _ z nz upd_same (Kp.new (ps := []) nz).same⟩

theorem ok_wat (T : Tx K mg) : FnOk P w K mg base CX0 1 T.f_wat T.fd_wat P_wat (spWideAt K) := by
  have sz : sizeLine = 16777216 := sizeLine_eq
  refine T.D_wat.F.ok sc_wat (fun vs H Q E h => ?_) (fun cdv A outer s H vs Q E hr h => ?_)
  · obtain ⟨a, row, b, s0, rfl, _⟩ := h
    rfl
  · obtain ⟨a, row, b, s0, rfl, hA, hb, q⟩ := h
    refine ⟨_, (pss_cons (ps_if (pt_cmpR op_gt (pe_op op_add (pv 1) pe_int) (pe_callB call_len_seq (by rfl) T.m_len PySem.boot_len (pa_cons (pv 0) pa_nil)) (nomark _)) (pss_one (ps_ret (pe_tup (pa_cons pe_int (pa_cons pe_int pa_nil))))) pss_nil)
      (pss_cons (ps_if (pt_cmpR op_eq (pv 2) (pe_glob (v := .int 1) (by rfl) T.c_LOW_FIRST ⟨_, rfl⟩) (nomark _)) (pss_one (ps_ret (pe_tup (pa_cons (pe_op op_add (pe_ix ix_list (pv 0) (pv 1) (fun _ _ => rfl)) (pe_op op_mul pe_int (pe_ix ix_list (pv 0) (pe_op op_add (pv 1) pe_int) (fun _ _ => rfl)))) (pa_cons pe_int pa_nil))))) pss_nil)
      (pss_one (ps_ret (pe_tup (pa_cons (pe_op op_add (pe_op op_mul pe_int (pe_ix ix_list (pv 0) (pv 1) (fun _ _ => rfl))) (pe_ix ix_list (pv 0) (pe_op op_add (pv 1) pe_int) (fun _ _ => rfl))) (pa_cons pe_int pa_nil))))))), ?_⟩
    refine ⟨.int b, rfl, _, _, rfl, rfl, .ref a, rfl, a, _, rfl, .inl hA, _, _, rfl, rfl, _, rfl, ?_⟩
    rw [List.length_map]
    by_cases h : row.length < b + 2
    · rw [show decide ((b : Int) + 2 > (row.length : Int)) = true from decide_eq_true (by omega)]
      have eg : signF .wide row b s0 = (0, 0) := if_pos h
      rw [eg] at q
      exact iteT ⟨by show (2 : Nat) ≤ sizeLine; omega, fun z nz => q _ z nz upd_same (Kp.new (ps := []) nz).same⟩
    · rw [show decide ((b : Int) + 2 > (row.length : Int)) = false from decide_eq_false (by omega)]
      refine iteF ?_
      have e0 := atI_intV (ms := row) (i := (b : Int)) (by omega) (by omega)
      have e1 := atI_intV (ms := row) (i := (b : Int) + 1) (by omega) (by omega)
      rw [Int.toNat_natCast] at e0
      rw [show ((b : Int) + 1).toNat = b + 1 by omega] at e1
      refine ⟨.int s0, rfl, rfl, _, rfl, ite2 (fun e => ?_) (fun e => ?_)⟩
      · have e2 : s0 = 1 := V.int.inj (of_decide_eq_true e)
        have eg : signF .wide row b s0 = (row.getD b 0 + 256 * row.getD (b + 1) 0, 2) := (if_neg h).trans (if_pos e2)
        rw [eg] at q
        refine ⟨.ref a, rfl, .int b, rfl, a, _, _, _, rfl, rfl, hA, e0, ?_⟩
        refine ⟨.ref a, rfl, .int b, rfl, _, _, rfl, rfl, a, _, _, _, rfl, rfl, hA, e1, _, _, rfl, rfl, .inl (by decide), _, _, rfl, rfl, by show (2 : Nat) ≤ sizeLine; omega, fun z nz => q _ z nz upd_same (Kp.new (ps := []) nz).same⟩
      · have e2 : s0 ≠ 1 := fun z => e (decide_eq_true (by rw [z]))
        have eg : signF .wide row b s0 = (256 * row.getD b 0 + row.getD (b + 1) 0, 2) := (if_neg h).trans (if_neg e2)
        rw [eg] at q
        refine ⟨.ref a, rfl, .int b, rfl, a, _, _, _, rfl, rfl, hA, e0, _, _, rfl, rfl, .inl (by decide), ?_⟩
        refine ⟨.ref a, rfl, .int b, rfl, _, _, rfl, rfl, a, _, _, _, rfl, rfl, hA, e1, _, _, rfl, rfl, by show (2 : Nat) ≤ sizeLine; omega, fun z nz => q _ z nz upd_same (Kp.new (ps := []) nz).same⟩

theorem ok_lead (T : Tx K mg) : FnOk P w K mg base CX0 1 T.f_lead T.fd_lead P_lead (spLead) := by
  have sz : sizeLine = 16777216 := sizeLine_eq
  refine T.D_lead.F.ok sc_lead (fun vs H Q E h => ?_) (fun cdv A outer s H vs Q E hr h => ?_)
  · obtain ⟨x, rfl, _⟩ := h
    rfl
  · obtain ⟨x, rfl, q⟩ := h
    refine ⟨_, (pss_cons (ps_if (pt_cmpR op_lt (pv 0) pe_int (nomark _)) (pss_one (ps_ret (pe_tup (pa_cons pe_int (pa_cons pe_int pa_nil))))) pss_nil)
      (pss_cons (ps_if (pt_cmpR op_lt (pv 0) pe_int (nomark _)) (pss_one (ps_ret (pe_tup (pa_cons pe_int (pa_cons pe_int pa_nil))))) pss_nil)
      (pss_cons (ps_if (pt_cmpR op_lt (pv 0) pe_int (nomark _)) (pss_one (ps_ret (pe_tup (pa_cons pe_int (pa_cons pe_int pa_nil))))) pss_nil)
      (pss_cons (ps_if (pt_cmpR op_lt (pv 0) pe_int (nomark _)) (pss_one (ps_ret (pe_tup (pa_cons pe_int (pa_cons pe_int pa_nil))))) pss_nil)
      (pss_cons (ps_if (pt_cmpR op_lt (pv 0) pe_int (nomark _)) (pss_one (ps_ret (pe_tup (pa_cons pe_int (pa_cons pe_int pa_nil))))) pss_nil)
      (pss_one (ps_ret (pe_tup (pa_cons pe_int (pa_cons pe_int pa_nil)))))))))), ?_⟩
    unfold leadF at q
    refine ⟨.int x, rfl, _, _, rfl, rfl, _, rfl, ite2 (fun e => ?_) (fun e => ?_)⟩
    · rw [if_pos (of_decide_eq_true e)] at q
      exact ⟨by show (2 : Nat) ≤ sizeLine; omega, fun z nz => q _ z nz upd_same (Kp.new (ps := []) nz).same⟩
    rw [if_neg (fun z => e (decide_eq_true z))] at q
    refine ⟨.int x, rfl, _, _, rfl, rfl, _, rfl, ite2 (fun e => ?_) (fun e => ?_)⟩
    · rw [if_pos (of_decide_eq_true e)] at q
      exact ⟨by show (2 : Nat) ≤ sizeLine; omega, fun z nz => q _ z nz upd_same (Kp.new (ps := []) nz).same⟩
    rw [if_neg (fun z => e (decide_eq_true z))] at q
    refine ⟨.int x, rfl, _, _, rfl, rfl, _, rfl, ite2 (fun e => ?_) (fun e => ?_)⟩
    · rw [if_pos (of_decide_eq_true e)] at q
      exact ⟨by show (2 : Nat) ≤ sizeLine; omega, fun z nz => q _ z nz upd_same (Kp.new (ps := []) nz).same⟩
    rw [if_neg (fun z => e (decide_eq_true z))] at q
    refine ⟨.int x, rfl, _, _, rfl, rfl, _, rfl, ite2 (fun e => ?_) (fun e => ?_)⟩
    · rw [if_pos (of_decide_eq_true e)] at q
      exact ⟨by show (2 : Nat) ≤ sizeLine; omega, fun z nz => q _ z nz upd_same (Kp.new (ps := []) nz).same⟩
    rw [if_neg (fun z => e (decide_eq_true z))] at q
    refine ⟨.int x, rfl, _, _, rfl, rfl, _, rfl, ite2 (fun e => ?_) (fun e => ?_)⟩
    · rw [if_pos (of_decide_eq_true e)] at q
      exact ⟨by show (2 : Nat) ≤ sizeLine; omega, fun z nz => q _ z nz upd_same (Kp.new (ps := []) nz).same⟩
    rw [if_neg (fun z => e (decide_eq_true z))] at q
    exact ⟨by show (2 : Nat) ≤ sizeLine; omega, fun z nz => q _ z nz upd_same (Kp.new (ps := []) nz).same⟩

theorem ok_stw (T : Tx K mg) : FnOk P w K mg base CX0 1 T.f_stw T.fd_stw P_stw (spStepsW) := by
  have sz : sizeLine = 16777216 := sizeLine_eq
  refine T.D_stw.F.ok sc_stw (fun vs H Q E h => ?_) (fun cdv A outer s H vs Q E hr h => ?_)
  · obtain ⟨n, rfl, _⟩ := h
    rfl
  · obtain ⟨n, rfl, q⟩ := h
    refine ⟨_, (pss_cons (ps_if (pt_cmpR op_lt (pv 0) pe_int (nomark _)) (pss_one (ps_ret (pe_lst (pa_cons (pv 0) pa_nil)))) pss_nil)
      (pss_cons (ps_if (pt_cmpR op_lt (pv 0) pe_int (nomark _)) (pss_one (ps_ret (pe_lst (pa_cons (pe_op op_add pe_int (pe_op op_fdiv (pv 0) pe_int)) (pa_cons (pe_op op_add pe_int (pe_op op_mod (pv 0) pe_int)) pa_nil))))) pss_nil)
      (pss_cons (ps_if (pt_cmpR op_lt (pv 0) pe_int (nomark _)) (pss_one (ps_ret (pe_lst (pa_cons (pe_op op_add pe_int (pe_op op_fdiv (pv 0) pe_int)) (pa_cons (pe_op op_add pe_int (pe_op op_mod (pe_op op_fdiv (pv 0) pe_int) pe_int)) (pa_cons (pe_op op_add pe_int (pe_op op_mod (pv 0) pe_int)) pa_nil)))))) pss_nil)
      (pss_one (ps_ret (pe_lst (pa_cons (pe_op op_add pe_int (pe_op op_fdiv (pv 0) pe_int)) (pa_cons (pe_op op_add pe_int (pe_op op_mod (pe_op op_fdiv (pv 0) pe_int) pe_int)) (pa_cons (pe_op op_add pe_int (pe_op op_mod (pe_op op_fdiv (pv 0) pe_int) pe_int)) (pa_cons (pe_op op_add pe_int (pe_op op_mod (pv 0) pe_int)) pa_nil)))))))))), ?_⟩
    unfold stepsW at q
    refine ⟨.int n, rfl, _, _, rfl, rfl, _, rfl, ite2 (fun e => ?_) (fun e => ?_)⟩
    · rw [if_pos (of_decide_eq_true e)] at q
      exact ⟨.int n, rfl, by show (1 : Nat) ≤ sizeLine; omega, fun z nz => q _ z nz upd_same (Kp.new (ps := []) nz).same⟩
    rw [if_neg (fun z => e (decide_eq_true z))] at q
    refine ⟨.int n, rfl, _, _, rfl, rfl, _, rfl, ite2 (fun e => ?_) (fun e => ?_)⟩
    · rw [if_pos (of_decide_eq_true e)] at q
      exact ⟨.int n, rfl, _, _, rfl, rfl, ⟨by decide, by decide⟩, _, _, rfl, rfl, .int n, rfl, _, _, rfl, rfl, (show (0 : Int) < 64 by decide), _, _, rfl, rfl, by show (2 : Nat) ≤ sizeLine; omega, fun z nz => q _ z nz upd_same (Kp.new (ps := []) nz).same⟩
    rw [if_neg (fun z => e (decide_eq_true z))] at q
    refine ⟨.int n, rfl, _, _, rfl, rfl, _, rfl, ite2 (fun e => ?_) (fun e => ?_)⟩
    · rw [if_pos (of_decide_eq_true e)] at q
      exact ⟨.int n, rfl, _, _, rfl, rfl, ⟨by decide, by decide⟩, _, _, rfl, rfl, .int n, rfl, _, _, rfl, rfl, ⟨by decide, by decide⟩, _, _, rfl, rfl, (show (0 : Int) < 64 by decide), _, _, rfl, rfl, .int n, rfl, _, _, rfl, rfl, (show (0 : Int) < 64 by decide), _, _, rfl, rfl, by show (3 : Nat) ≤ sizeLine; omega, fun z nz => q _ z nz upd_same (Kp.new (ps := []) nz).same⟩
    rw [if_neg (fun z => e (decide_eq_true z))] at q
    exact ⟨.int n, rfl, _, _, rfl, rfl, ⟨by decide, by decide⟩, _, _, rfl, rfl, .int n, rfl, _, _, rfl, rfl, ⟨by decide, by decide⟩, _, _, rfl, rfl, (show (0 : Int) < 64 by decide), _, _, rfl, rfl, .int n, rfl, _, _, rfl, rfl, ⟨by decide, by decide⟩, _, _, rfl, rfl, (show (0 : Int) < 64 by decide), _, _, rfl, rfl, .int n, rfl, _, _, rfl, rfl, (show (0 : Int) < 64 by decide), _, _, rfl, rfl, by show (4 : Nat) ≤ sizeLine; omega, fun z nz => q _ z nz upd_same (Kp.new (ps := []) nz).same⟩

theorem ok_stat (T : Tx K mg) : FnOk P w K mg base CX0 2 T.f_stat T.fd_stat P_stat (spStepsAt K) := by
  have G_lead := ok_lead (P := P) (w := w) (base := base) T
  have G_stw := ok_stw (P := P) (w := w) (base := base) T
  have sz : sizeLine = 16777216 := sizeLine_eq
  refine T.D_stat.F.ok sc_stat (fun vs H Q E h => ?_) (fun cdv A outer s H vs Q E hr h => ?_)
  · obtain ⟨a, row, b, rfl, _⟩ := h
    rfl
  · obtain ⟨a, row, b, rfl, hA, hb, q⟩ := h
    refine ⟨_, (pss_cons (ps_asg (pe_call G_lead (hr.mono (by decide)) (by rfl) T.D_lead.g T.D_lead.F.kp T.bb_lead .nil pass0 (pa_cons (pe_ix ix_list (pv 0) (pv 1) (fun _ _ => rfl)) pa_nil)) (pg_tup rfl (pgs_cons (pg_name (i := 2) sc_stat.nd rfl (.inl rfl)) (pgs_cons (pg_name (i := 3) sc_stat.nd rfl (.inl rfl)) pgs_nil))))
      (pss_cons (ps_set (i := 4) sc_stat.nd rfl (.inl rfl) (pe_slice sl_list (pv 0) (po_some (pv 1)) (po_some (pe_op op_add (pv 1) (pv 2)))))
      (pss_cons (ps_set (i := 5) sc_stat.nd rfl (.inl rfl) (pe_op op_sub (pe_ix ix_list (pv 0) (pv 1) (fun _ _ => rfl)) (pv 3)))
      (pss_cons (ps_for PassesOwn.never rfl (pi_list (pe_slice sl_list (pv 4) (po_some pe_int) po_none)) (pg_name (i := 6) sc_stat.nd rfl (.inl rfl)) (pss_one (ps_set (i := 5) sc_stat.nd rfl (.inl rfl) (pe_op op_sub (pe_op op_add (pe_op op_mul pe_int (pv 5)) (pv 6)) pe_int))))
      (pss_cons (ps_if (pt_cmpR (op_neI hr.units) (pe_call G_stw (hr.mono (by decide)) (by rfl) T.D_stw.g T.D_stw.F.kp T.bb_stw .nil pass0 (pa_cons (pv 5) pa_nil)) (pv 4) (nomark _)) (pss_one (ps_ret (pe_tup (pa_cons pe_int (pa_cons pe_int pa_nil))))) pss_nil)
      (pss_one (ps_ret (pe_tup (pa_cons (pv 5) (pa_cons (pv 2) pa_nil)))))))))), ?_⟩
    have e0 := atI_intV (ms := row) (i := (b : Int)) (by omega) (by omega)
    rw [Int.toNat_natCast] at e0
    have eh : (row.drop b).headD 0 = row.getD b 0 := by
      rw [List.drop_eq_getElem_cons hb, List.getD_eq_getElem?_getD, List.getElem?_eq_getElem hb]; rfl
    unfold stepsAt at q
    rw [eh] at q
    dsimp only at q
    generalize eX : row.getD b 0 = x at *
    refine ⟨.ref a, rfl, .int b, rfl, a, _, _, .int x, rfl, rfl, hA, e0, x, rfl, fun H1 t nt et s1 => ?_⟩
    refine ⟨t, _, rfl, .inl (.inl et), rfl, _, _, rfl, _, _, rfl, rfl, ?_⟩
    generalize leadF x = l at *
    obtain ⟨m, bs⟩ := l
    dsimp only at q
    refine ⟨.ref a, rfl, .int b, rfl, _, rfl, .int b, rfl, .int m, rfl, _, _, rfl, rfl, _, rfl, a, _, rfl, s1.seq hA, fun w nw => ?_⟩
    rw [show ((b : Int) + (m : Int)) = ((b + m : Nat) : Int) by omega, mid_cut]
    have s2 := s1.trans (Kp.new (ps := []) (o := HO.lst (((row.drop b).take m).map V.int)) nw).same
    have ew : (upd H1 w (.lst (((row.drop b).take m).map V.int))) w = some (.lst (((row.drop b).take m).map V.int)) := upd_same
    generalize (row.drop b).take m = wr at *
    generalize upd H1 w (.lst (wr.map V.int)) = H2 at s2 ew ⊢
    refine ⟨.ref a, rfl, .int b, rfl, a, _, _, .int x, rfl, rfl, s2.seq hA, e0, .int bs, rfl, _, _, rfl, rfl, ?_⟩
    refine ⟨.ref w, rfl, _, rfl, w, _, rfl, sq_at ew, fun v nv => ?_⟩
    rw [show (1 : Int) = ((1 : Nat) : Int) from rfl, drop_cut]
    have s3 := (Kp.new (ps := []) (o := HO.lst ((wr.drop 1).map V.int)) nv).same
    have ev : (upd H2 v (.lst ((wr.drop 1).map V.int))) v = some (.lst ((wr.drop 1).map V.int)) := upd_same
    have ew3 := s3 _ _ ew
    have s23 := s2.trans s3
    generalize upd H2 v (.lst ((wr.drop 1).map V.int)) = H3 at s23 ev ew3 ⊢
    refine ⟨v, rfl, ⟨_, sq_at ev⟩, ?_⟩
    refine for_list (xs := (wr.drop 1).map V.int) (fun i σ H' => H' = H3 ∧ ∃ y : Option V, σ = [some (.ref a), some (.int b), some (.int m), some (.int bs), some (.ref w), some (.int (foldS (x - bs) ((wr.drop 1).take i))), y]) ⟨rfl, none, rfl⟩ (fun i σ H' _ hW => ?_) (fun i z σ H' hz hW => ?_) (fun σ H' hW => ?_)
    · obtain ⟨rfl, _⟩ := hW
      exact sq_at ev
    · obtain ⟨rfl, y, rfl⟩ := hW
      rw [List.getElem?_map] at hz
      obtain ⟨u, hu, rfl⟩ := Option.map_eq_some_iff.mp hz
      refine ⟨.int (foldS (x - bs) ((wr.drop 1).take i)), rfl, _, _, rfl, rfl, .inl (by decide), .int u, rfl, _, _, rfl, rfl, _, _, rfl, rfl, rfl, some (.int u), ?_⟩
      rw [List.take_add_one, hu]
      show _ = [_, _, _, _, _, some (V.int (foldS (x - bs) ((wr.drop 1).take i ++ [u]))), _]
      rw [foldS_snoc]
      rfl
    · obtain ⟨rfl, y, rfl⟩ := hW
      rw [List.length_map, List.take_of_length_le (Nat.le_refl _)]
      generalize foldS (x - bs) (wr.drop 1) = sg at *
      refine ⟨.int sg, rfl, sg, rfl, fun H4 u nu eu s4 => ?_⟩
      refine ⟨.ref w, rfl, u, w, stepsW sg, wr, rfl, rfl, sq_at eu, sq_at (s4 _ _ ew3), _, rfl, ?_⟩
      have s5 := s23.trans s4
      by_cases h : stepsW sg = wr
      · rw [decide_eq_true h]
        rw [if_pos h] at q
        exact iteF ⟨.int sg, rfl, .int m, rfl, by show (2 : Nat) ≤ sizeLine; omega, fun z nz => q _ z (s5.free nz) upd_same (s5.trans (Kp.new (ps := []) nz).same)⟩
      · rw [decide_eq_false h]
        rw [if_neg h] at q
        exact iteT ⟨by show (2 : Nat) ≤ sizeLine; omega, fun z nz => q _ z (s5.free nz) upd_same (s5.trans (Kp.new (ps := []) nz).same)⟩

theorem ok_sat (T : Tx K mg) : FnOk P w K mg base CX0 3 T.f_sat T.fd_sat P_sat (spSignAt K (fun _ => True)) := by
  have G_stat := ok_stat (P := P) (w := w) (base := base) T
  have G_wat := ok_wat (P := P) (w := w) (base := base) T
  have sz : sizeLine = 16777216 := sizeLine_eq
  refine T.D_sat.F.ok sc_sat (fun vs H Q E h => ?_) (fun cdv A outer s H vs Q E hr h => ?_)
  · obtain ⟨a, row, b, s0, c, rfl, _⟩ := h
    rfl
  · obtain ⟨a, row, b, s0, c, rfl, hok, hA, hb, q⟩ := h
    refine ⟨_, (pss_cons (ps_if (pt_cmpR op_eq (pv 3) (pe_glob (v := .str (Str.ofString "steps")) (by rfl) T.c_STEPS ⟨_, rfl⟩) (nomark _)) (pss_one (ps_ret (pe_call G_stat (hr.mono (by decide)) (by rfl) T.D_stat.g T.D_stat.F.kp T.bb_stat .nil pass0 (pa_cons (pv 0) (pa_cons (pv 1) pa_nil))))) pss_nil)
      (pss_cons (ps_if (pt_cmpR op_eq (pv 3) (pe_glob (v := .str (Str.ofString "wide")) (by rfl) T.c_WIDE ⟨_, rfl⟩) (nomark _)) (pss_one (ps_ret (pe_call G_wat (hr.mono (by decide)) (by rfl) T.D_wat.g T.D_wat.F.kp T.bb_wat .nil pass0 (pa_cons (pv 0) (pa_cons (pv 1) (pa_cons (pv 2) pa_nil)))))) pss_nil)
      (pss_cons (ps_if (pt_cmpR op_eq (pv 3) (pe_glob (v := .str (Str.ofString "turn")) (by rfl) T.c_TURN ⟨_, rfl⟩) (nomark _)) (pss_one (ps_ret (pe_tup (pa_cons (pe_op op_add (pe_op op_mul pe_int (pv 2)) (pe_ix ix_list (pv 0) (pv 1) (fun _ _ => rfl))) (pa_cons pe_int pa_nil))))) pss_nil)
      (pss_one (ps_ret (pe_tup (pa_cons (pe_ix ix_list (pv 0) (pv 1) (fun _ _ => rfl)) (pa_cons pe_int pa_nil)))))))), ?_⟩
    have e0 := atI_intV (ms := row) (i := (b : Int)) (by omega) (by omega)
    rw [Int.toNat_natCast] at e0
    cases c with
    | steps =>
      refine ⟨_, rfl, rfl, _, rfl, iteTc (by decide +kernel) ?_⟩
      exact ⟨.ref a, rfl, .int b, rfl, a, row, b, rfl, hA, hb, q⟩
    | wide =>
      refine ⟨_, rfl, rfl, _, rfl, iteFc (by decide +kernel) ?_⟩
      refine ⟨_, rfl, rfl, _, rfl, iteTc (by decide +kernel) ?_⟩
      exact ⟨.ref a, rfl, .int b, rfl, .int s0, rfl, a, row, b, s0, rfl, hA, hb, q⟩
    | turn =>
      refine ⟨_, rfl, rfl, _, rfl, iteFc (by decide +kernel) ?_⟩
      refine ⟨_, rfl, rfl, _, rfl, iteFc (by decide +kernel) ?_⟩
      refine ⟨_, rfl, rfl, _, rfl, iteTc (by decide +kernel) ?_⟩
      exact ⟨.int s0, rfl, _, _, rfl, rfl, .inl (by decide), .ref a, rfl, .int b, rfl, a, _, _, _, rfl, rfl, hA, e0, _, _, rfl, rfl, by show (2 : Nat) ≤ sizeLine; omega, fun z nz => q _ z nz upd_same (Kp.new (ps := []) nz).same⟩
    | plain =>
      refine ⟨_, rfl, rfl, _, rfl, iteFc (by decide +kernel) ?_⟩
      refine ⟨_, rfl, rfl, _, rfl, iteFc (by decide +kernel) ?_⟩
      refine ⟨_, rfl, rfl, _, rfl, iteFc (by decide +kernel) ?_⟩
      exact ⟨.ref a, rfl, .int b, rfl, a, _, _, _, rfl, rfl, hA, e0, by show (2 : Nat) ≤ sizeLine; omega, fun z nz => q _ z nz upd_same (Kp.new (ps := []) nz).same⟩

theorem ok_rsign (T : Tx K mg) : FnOk P w K mg base (L2.CX P w) 5 T.f_rsign T.fd_rsign P_rsign (spRdX K T.C_NoCode) := by
  have G_chk := ok_chk (P := P) (w := w) (base := base) T
  have G_gone := ok_gone (P := P) (w := w) (base := base) T
  have G_sat := ok_sat (P := P) (w := w) (base := base) T
  have sz : sizeLine = 16777216 := sizeLine_eq
  refine T.D_rsign.F.okX sc_rsign (fun vs H Q E h => ?_) (fun cdv A outer s H vs Q E hr h => ?_)
  · obtain ⟨a, row, p, s0, z, rfl, _⟩ := h
    rfl
  · obtain ⟨a, row, p, s0, z, rfl, hA, q, qe⟩ := h
    refine ⟨_, (pss_cons (ps_expr (pe_call G_chk (hr.mono (by decide)) (by rfl) T.D_chk.g T.D_chk.F.kp T.bb_chk .nil (Sip.passX (takes_of rfl rfl rfl rfl)) (pa_cons (pv 3) pa_nil)))
      (pss_cons (ps_asg (pe_call G_gone (hr.mono (by decide)) (by rfl) T.D_gone.g T.D_gone.F.kp T.bb_gone .nil pass0 (pa_cons (pv 0) (pa_cons (pv 1) (pa_cons (pv 2) (pa_cons (pv 3) pa_nil))))) (pg_tup rfl (pgs_cons (pg_name (i := 4) sc_rsign.nd rfl (.inl rfl)) (pgs_cons (pg_name (i := 5) sc_rsign.nd rfl (.inl rfl)) pgs_nil))))
      (pss_cons (ps_if (pt_cmpR op_ge (pv 4) (pe_callB call_len_seq (by rfl) T.m_len PySem.boot_len (pa_cons (pv 0) pa_nil)) (nomark _)) (pss_one (ps_ret (pe_tup (pa_cons pe_str (pa_cons pe_int (pa_cons (pv 1) (pa_cons (pv 2) pa_nil))))))) pss_nil)
      (pss_cons (ps_asg (pe_call G_sat (hr.mono (by decide)) (by rfl) T.D_sat.g T.D_sat.F.kp T.bb_sat .nil pass0 (pa_cons (pv 0) (pa_cons (pv 4) (pa_cons (pv 5) (pa_cons (pv 3) pa_nil))))) (pg_tup rfl (pgs_cons (pg_name (i := 6) sc_rsign.nd rfl (.inl rfl)) (pgs_cons (pg_name (i := 7) sc_rsign.nd rfl (.inl rfl)) pgs_nil))))
      (pss_cons (ps_if (pt_cmpR op_eq (pv 7) pe_int (nomark _)) (pss_one (ps_ret (pe_tup (pa_cons pe_str (pa_cons pe_int (pa_cons (pe_op op_add (pv 4) pe_int) (pa_cons (pv 5) pa_nil))))))) pss_nil)
      (pss_one (ps_ret (pe_tup (pa_cons pe_str (pa_cons (pv 6) (pa_cons (pe_op op_add (pv 4) (pv 7)) (pa_cons (pv 5) pa_nil)))))))))))), ?_⟩
    refine ⟨_, rfl, z, rfl, fun c ez H1 s1 => ?_, qe⟩
    subst ez
    have q := q c rfl
    have hok : True := trivial
    refine ⟨.ref a, rfl, .int p, rfl, .int s0, rfl, _, rfl, a, row, p, s0, c, rfl, s1.seq hA, fun H2 t nt et s2 => ?_⟩
    refine ⟨t, _, rfl, .inl (.inl et), rfl, ?_⟩
    unfold readF at q
    generalize goneF c row p s0 = g at *
    obtain ⟨b, sb⟩ := g
    have s12 := s1.trans s2
    refine ⟨_, _, rfl, _, _, rfl, rfl, .int b, rfl, .ref a, rfl, a, _, rfl, .inl (s12.seq hA), _, _, rfl, rfl, _, rfl, ?_⟩
    rw [List.length_map]
    by_cases h : row.length ≤ b
    · rw [show decide ((b : Int) ≥ (row.length : Int)) = true from decide_eq_true (by omega)]
      refine iteT ⟨.int p, rfl, .int s0, rfl, by show (4 : Nat) ≤ sizeLine; omega, fun z nz => ?_⟩
      exact q _ z (s12.free nz) (by rw [upd_same]; unfold tellF; rw [if_pos h]; rfl) (s12.trans (Kp.new (ps := []) nz).same)
    · rw [show decide ((b : Int) ≥ (row.length : Int)) = false from decide_eq_false (by omega)]
      refine iteF ⟨.ref a, rfl, .int b, rfl, .int sb, rfl, _, rfl, a, row, b, sb, c, rfl, hok, s12.seq hA, by omega, fun H3 u nu eu s3 => ?_⟩
      refine ⟨u, _, rfl, .inl (.inl eu), rfl, ?_⟩
      have s13 := s12.trans s3
      dsimp only at q
      generalize signF c row b sb = t2 at *
      obtain ⟨sg, n⟩ := t2
      refine ⟨_, _, rfl, _, _, rfl, rfl, .int n, rfl, rfl, _, rfl, ite2 (fun e => ?_) (fun e => ?_)⟩
      · have n0 : n = 0 := by have := V.int.inj (of_decide_eq_true e); omega
        refine ⟨.int b, rfl, _, _, rfl, rfl, .int sb, rfl, by show (4 : Nat) ≤ sizeLine; omega, fun z nz => ?_⟩
        exact q _ z (s13.free nz) (by rw [upd_same]; unfold tellF; rw [if_neg h, if_pos n0]; rfl) (s13.trans (Kp.new (ps := []) nz).same)
      · have n0 : n ≠ 0 := fun z => e (decide_eq_true (by rw [z]; rfl))
        refine ⟨.int sg, rfl, .int b, rfl, .int n, rfl, _, _, rfl, rfl, .int sb, rfl, by show (4 : Nat) ≤ sizeLine; omega, fun z nz => ?_⟩
        exact q _ z (s13.free nz) (by rw [upd_same]; unfold tellF; rw [if_neg h, if_neg n0]; rfl) (s13.trans (Kp.new (ps := []) nz).same)

theorem ok_whole (T : Tx K mg) : FnOk P w K mg base CX0 1 T.f_whole T.fd_whole P_whole (spWholeI) := by
  have sz : sizeLine = 16777216 := sizeLine_eq
  refine T.D_whole.F.ok sc_whole (fun vs H Q E h => ?_) (fun cdv A outer s H vs Q E hr h => ?_)
  · obtain ⟨v, rfl, _⟩ := h
    rfl
  · obtain ⟨v, rfl, q⟩ := h
    refine ⟨_, (pss_one (ps_ret (pe_and (pe_callB (id := "isinstance") (r := rIsi K) call_isi (by rfl) T.m_isinstance (by decide +kernel) (pa_cons (pv 0) (pa_cons (pe_bltn (v := .ty "int") (by rfl) T.m_int (by decide +kernel) rfl) pa_nil))) (pe_one (pe_not (pe_callB (id := "isinstance") (r := rIsi K) call_isi (by rfl) T.m_isinstance (by decide +kernel) (pa_cons (pv 0) (pa_cons (pe_bltn (v := .ty "bool") (by rfl) T.m_bool (by decide +kernel) rfl) pa_nil)))))))), ?_⟩
    refine ⟨.int v, rfl, .int v, .ty "int", _, _, true, rfl, .ty "int", .base (.int v), kit_ty (by decide +kernel), true, rfl, ?_⟩
    exact ⟨.int v, rfl, .int v, .ty "bool", _, _, false, rfl, .ty "bool", .base (.int v), kit_ty (by decide +kernel), false, rfl, q⟩

theorem ok_lasts (T : Tx K mg) : FnOk P w K mg base CX0 1 T.f_lasts T.fd_lasts P_lasts (spLastS) := by
  have sz : sizeLine = 16777216 := sizeLine_eq
  refine T.D_lasts.F.ok sc_lasts (fun vs H Q E h => ?_) (fun cdv A outer s H vs Q E hr h => ?_)
  · obtain ⟨c, rfl, _⟩ := h
    rfl
  · obtain ⟨c, rfl, q⟩ := h
    refine ⟨_, (pss_cons (ps_if (pt_cmpR op_eq (pv 0) (pe_glob (v := .str (Str.ofString "steps")) (by rfl) T.c_STEPS ⟨_, rfl⟩) (nomark _)) (pss_one (ps_ret pe_int)) pss_nil)
      (pss_cons (ps_if (pt_cmpR op_eq (pv 0) (pe_glob (v := .str (Str.ofString "wide")) (by rfl) T.c_WIDE ⟨_, rfl⟩) (nomark _)) (pss_one (ps_ret pe_int)) pss_nil)
      (pss_cons (ps_if (pt_cmpR op_eq (pv 0) (pe_glob (v := .str (Str.ofString "turn")) (by rfl) T.c_TURN ⟨_, rfl⟩) (nomark _)) (pss_one (ps_ret pe_int)) pss_nil)
      (pss_one (ps_ret pe_int))))), ?_⟩
    cases c with
    | steps =>
      refine ⟨_, rfl, rfl, _, rfl, iteTc (by decide +kernel) ?_⟩
      exact q
    | wide =>
      refine ⟨_, rfl, rfl, _, rfl, iteFc (by decide +kernel) ?_⟩
      refine ⟨_, rfl, rfl, _, rfl, iteTc (by decide +kernel) ?_⟩
      exact q
    | turn =>
      refine ⟨_, rfl, rfl, _, rfl, iteFc (by decide +kernel) ?_⟩
      refine ⟨_, rfl, rfl, _, rfl, iteFc (by decide +kernel) ?_⟩
      refine ⟨_, rfl, rfl, _, rfl, iteTc (by decide +kernel) ?_⟩
      exact q
    | plain =>
      refine ⟨_, rfl, rfl, _, rfl, iteFc (by decide +kernel) ?_⟩
      refine ⟨_, rfl, rfl, _, rfl, iteFc (by decide +kernel) ?_⟩
      refine ⟨_, rfl, rfl, _, rfl, iteFc (by decide +kernel) ?_⟩
      exact q

theorem ok_ww (T : Tx K mg) : FnOk P w K mg base CX0 1 T.f_ww T.fd_ww P_ww (spWW) := by
  have sz : sizeLine = 16777216 := sizeLine_eq
  refine T.D_ww.F.ok sc_ww (fun vs H Q E h => ?_) (fun cdv A outer s H vs Q E hr h => ?_)
  · obtain ⟨g, s0, rfl, _⟩ := h
    rfl
  · obtain ⟨g, s0, rfl, vs, q⟩ := h
    refine ⟨_, (pss_cons (ps_if (pt_cmpR op_eq (pv 1) (pe_glob (v := .int 1) (by rfl) T.c_LOW_FIRST ⟨_, rfl⟩) (nomark _)) (pss_one (ps_ret (pe_tup (pa_cons (pe_lst (pa_cons (pe_op op_mod (pv 0) pe_int) (pa_cons (pe_op op_fdiv (pv 0) pe_int) pa_nil))) (pa_cons (pe_glob (v := .int 1) (by rfl) T.c_LOW_FIRST ⟨_, rfl⟩) pa_nil))))) pss_nil)
      (pss_cons (ps_set (i := 2) sc_ww.nd rfl (.inl rfl) (pe_lst (pa_cons (pe_op op_fdiv (pv 0) pe_int) (pa_cons (pe_op op_mod (pv 0) pe_int) pa_nil))))
      (pss_cons (ps_if (pt_cmpR op_eq (pv 1) (pe_glob (v := .int 2) (by rfl) T.c_HIGH_FIRST ⟨_, rfl⟩) (nomark _)) (pss_one (ps_ret (pe_tup (pa_cons (pv 2) (pa_cons (pe_glob (v := .int 2) (by rfl) T.c_HIGH_FIRST ⟨_, rfl⟩) pa_nil))))) pss_nil)
      (pss_one (ps_ret (pe_tup (pa_cons (pe_lst (StX.pa_star (pe_glob (v := .ref T.a_HIGH_MARK) (by rfl) T.c_HIGH_MARK rfl) (StX.pa_star (pv 2) pa_nil))) (pa_cons (pe_glob (v := .int 2) (by rfl) T.c_HIGH_FIRST ⟨_, rfl⟩) pa_nil)))))))), ?_⟩
    obtain ⟨v0, v2⟩ := (show 0 ≤ s0 ∧ s0 ≤ 2 from vs)
    refine ⟨.int s0, rfl, rfl, _, rfl, ite2 (fun e => ?_) (fun e => ?_)⟩
    · have e1 : s0 = 1 := V.int.inj (of_decide_eq_true e)
      subst e1
      refine ⟨.int g, rfl, _, _, rfl, rfl, (show (0 : Int) < 256 by decide), .int g, rfl, _, _, rfl, rfl, ⟨by decide, by decide⟩, by show (2 : Nat) ≤ sizeLine; omega, fun l nl => ?_⟩
      have s1 := (Kp.new (ps := []) (o := HO.lst [.int (g % 256), .int (g / 256)]) nl).same
      refine ⟨by show (2 : Nat) ≤ sizeLine; omega, fun z nz => ?_⟩
      have lz : l ≠ z := ne_of_none (upd_same : upd H l (.lst [.int (g % 256), .int (g / 256)]) l = some (.lst [.int (g % 256), .int (g / 256)])) nz
      exact q _ z l (s1.free nz) nl lz.symm upd_same (by rw [upd_ne lz]; exact upd_same) (s1.trans (Kp.new (ps := []) nz).same)
    have e1 : s0 ≠ 1 := fun z => e (decide_eq_true (by rw [z]))
    refine ⟨.int g, rfl, _, _, rfl, rfl, ⟨by decide, by decide⟩, .int g, rfl, _, _, rfl, rfl, (show (0 : Int) < 256 by decide), by show (2 : Nat) ≤ sizeLine; omega, fun l nl => ?_⟩
    have s1 := (Kp.new (ps := []) (o := HO.lst [.int (g / 256), .int (g % 256)]) nl).same
    refine ⟨.int s0, rfl, rfl, _, rfl, ite2 (fun e => ?_) (fun e => ?_)⟩
    · have e2 : s0 = 2 := V.int.inj (of_decide_eq_true e)
      subst e2
      refine ⟨.ref l, rfl, by show (2 : Nat) ≤ sizeLine; omega, fun z nz => ?_⟩
      have lz : l ≠ z := ne_of_none (upd_same : upd H l (.lst [.int (g / 256), .int (g % 256)]) l = some (.lst [.int (g / 256), .int (g % 256)])) nz
      exact q _ z l (s1.free nz) nl lz.symm upd_same (by rw [upd_ne lz]; exact upd_same) (s1.trans (Kp.new (ps := []) nz).same)
    have e2 : s0 ≠ 2 := fun z => e (decide_eq_true (by rw [z]))
    have e0 : s0 = 0 := by omega
    subst e0
    refine ⟨T.a_HIGH_MARK, _, rfl, .inl (T.q_HIGH_MARK _), .ref l, rfl, l, _, rfl, .inr (.inl (.inl upd_same)), by show (4 : Nat) ≤ sizeLine; omega, fun m nm => ?_⟩
    have s2 := s1.trans (Kp.new (ps := []) (o := HO.lst [.int 254, .int 255, .int (g / 256), .int (g % 256)]) nm).same
    refine ⟨by show (2 : Nat) ≤ sizeLine; omega, fun z nz => ?_⟩
    have lz : m ≠ z := ne_of_none (upd_same : upd (upd H l (.lst [.int (g / 256), .int (g % 256)])) m (.lst [.int 254, .int 255, .int (g / 256), .int (g % 256)]) m = _) nz
    exact q _ z m (s2.free nz) (s1.free nm) lz.symm upd_same (by rw [upd_ne lz]; exact upd_same) (s2.trans (Kp.new (ps := []) nz).same)

theorem ok_tw (T : Tx K mg) : FnOk P w K mg base CX0 1 T.f_tw T.fd_tw P_tw (spTW) := by
  have sz : sizeLine = 16777216 := sizeLine_eq
  refine T.D_tw.F.ok sc_tw (fun vs H Q E h => ?_) (fun cdv A outer s H vs Q E hr h => ?_)
  · obtain ⟨g, s0, rfl, _⟩ := h
    rfl
  · obtain ⟨g, s0, rfl, q⟩ := h
    refine ⟨_, (pss_cons (ps_set (i := 2) sc_tw.nd rfl (.inl rfl) (pe_op op_fdiv (pv 0) pe_int))
      (pss_cons (ps_if (pt_cmpR op_eq (pv 2) (pv 1) (nomark _)) (pss_one (ps_ret (pe_tup (pa_cons (pe_lst (pa_cons (pe_op op_mod (pv 0) pe_int) pa_nil)) (pa_cons (pv 2) pa_nil))))) pss_nil)
      (pss_one (ps_ret (pe_tup (pa_cons (pe_lst (pa_cons (pe_op op_add (pe_glob (v := .int 128) (by rfl) T.c_TURNING ⟨_, rfl⟩) (pv 2)) (pa_cons (pe_op op_mod (pv 0) pe_int) pa_nil))) (pa_cons (pv 2) pa_nil))))))), ?_⟩
    refine ⟨.int g, rfl, _, _, rfl, rfl, ⟨by decide, by decide⟩, ?_⟩
    refine ⟨.int (g / 128), rfl, .int s0, rfl, rfl, _, rfl, ite2 (fun e => ?_) (fun e => ?_)⟩
    · have e1 : g / 128 = s0 := V.int.inj (of_decide_eq_true e)
      have eg : signW .turn g s0 = ([g % 128], g / 128) := if_pos e1
      rw [eg] at q
      refine ⟨.int g, rfl, _, _, rfl, rfl, (show (0 : Int) < 128 by decide), by show (1 : Nat) ≤ sizeLine; omega, fun l nl => ?_⟩
      have s1 := (Kp.new (ps := []) (o := HO.lst [.int (g % 128)]) nl).same
      refine ⟨.int (g / 128), rfl, by show (2 : Nat) ≤ sizeLine; omega, fun z nz => ?_⟩
      have lz : l ≠ z := ne_of_none (upd_same : upd H l (.lst [.int (g % 128)]) l = some (.lst [.int (g % 128)])) nz
      exact q _ z l (s1.free nz) nl lz.symm upd_same (by rw [upd_ne lz]; exact upd_same) (s1.trans (Kp.new (ps := []) nz).same)
    · have e1 : g / 128 ≠ s0 := fun z => e (decide_eq_true (by rw [z]))
      have eg : signW .turn g s0 = ([128 + g / 128, g % 128], g / 128) := if_neg e1
      rw [eg] at q
      refine ⟨.int (g / 128), rfl, _, _, rfl, rfl, .int g, rfl, _, _, rfl, rfl, (show (0 : Int) < 128 by decide), by show (2 : Nat) ≤ sizeLine; omega, fun l nl => ?_⟩
      have s1 := (Kp.new (ps := []) (o := HO.lst [.int (128 + g / 128), .int (g % 128)]) nl).same
      refine ⟨.int (g / 128), rfl, by show (2 : Nat) ≤ sizeLine; omega, fun z nz => ?_⟩
      have lz : l ≠ z := ne_of_none (upd_same : upd H l (.lst [.int (128 + g / 128), .int (g % 128)]) l = some (.lst [.int (128 + g / 128), .int (g % 128)])) nz
      exact q _ z l (s1.free nz) nl lz.symm upd_same (by rw [upd_ne lz]; exact upd_same) (s1.trans (Kp.new (ps := []) nz).same)

theorem ok_swr (T : Tx K mg) : FnOk P w K mg base CX0 2 T.f_swr T.fd_swr P_swr (spSWr) := by
  have G_ww := ok_ww (P := P) (w := w) (base := base) T
  have G_tw := ok_tw (P := P) (w := w) (base := base) T
  have G_stw := ok_stw (P := P) (w := w) (base := base) T
  have sz : sizeLine = 16777216 := sizeLine_eq
  refine T.D_swr.F.ok sc_swr (fun vs H Q E h => ?_) (fun cdv A outer s H vs Q E hr h => ?_)
  · obtain ⟨g, s0, c, rfl, _⟩ := h
    rfl
  · obtain ⟨g, s0, c, rfl, vs, q⟩ := h
    refine ⟨_, (pss_cons (ps_if (pt_cmpR op_eq (pv 2) (pe_glob (v := .str (Str.ofString "steps")) (by rfl) T.c_STEPS ⟨_, rfl⟩) (nomark _)) (pss_one (ps_ret (pe_tup (pa_cons (pe_call G_stw (hr.mono (by decide)) (by rfl) T.D_stw.g T.D_stw.F.kp T.bb_stw .nil pass0 (pa_cons (pv 0) pa_nil)) (pa_cons (pv 1) pa_nil))))) pss_nil)
      (pss_cons (ps_if (pt_cmpR op_eq (pv 2) (pe_glob (v := .str (Str.ofString "wide")) (by rfl) T.c_WIDE ⟨_, rfl⟩) (nomark _)) (pss_one (ps_ret (pe_call G_ww (hr.mono (by decide)) (by rfl) T.D_ww.g T.D_ww.F.kp T.bb_ww .nil pass0 (pa_cons (pv 0) (pa_cons (pv 1) pa_nil))))) pss_nil)
      (pss_cons (ps_if (pt_cmpR op_eq (pv 2) (pe_glob (v := .str (Str.ofString "turn")) (by rfl) T.c_TURN ⟨_, rfl⟩) (nomark _)) (pss_one (ps_ret (pe_call G_tw (hr.mono (by decide)) (by rfl) T.D_tw.g T.D_tw.F.kp T.bb_tw .nil pass0 (pa_cons (pv 0) (pa_cons (pv 1) pa_nil))))) pss_nil)
      (pss_one (ps_ret (pe_tup (pa_cons (pe_lst (pa_cons (pv 0) pa_nil)) (pa_cons (pv 1) pa_nil)))))))), ?_⟩
    cases c with
    | steps =>
      refine ⟨_, rfl, rfl, _, rfl, iteTc (by decide +kernel) ?_⟩
      refine ⟨.int g, rfl, g, rfl, fun H1 l nl el s1 => ?_⟩
      refine ⟨.int s0, rfl, by show (2 : Nat) ≤ sizeLine; omega, fun z nz => ?_⟩
      have lz : l ≠ z := ne_of_none el nz
      exact q _ z l (s1.free nz) nl lz.symm upd_same (by rw [upd_ne lz]; exact el) (s1.trans (Kp.new (ps := []) nz).same)
    | wide =>
      refine ⟨_, rfl, rfl, _, rfl, iteFc (by decide +kernel) ?_⟩
      refine ⟨_, rfl, rfl, _, rfl, iteTc (by decide +kernel) ?_⟩
      exact ⟨.int g, rfl, .int s0, rfl, g, s0, rfl, vs, q⟩
    | turn =>
      refine ⟨_, rfl, rfl, _, rfl, iteFc (by decide +kernel) ?_⟩
      refine ⟨_, rfl, rfl, _, rfl, iteFc (by decide +kernel) ?_⟩
      refine ⟨_, rfl, rfl, _, rfl, iteTc (by decide +kernel) ?_⟩
      exact ⟨.int g, rfl, .int s0, rfl, g, s0, rfl, q⟩
    | plain =>
      refine ⟨_, rfl, rfl, _, rfl, iteFc (by decide +kernel) ?_⟩
      refine ⟨_, rfl, rfl, _, rfl, iteFc (by decide +kernel) ?_⟩
      refine ⟨_, rfl, rfl, _, rfl, iteFc (by decide +kernel) ?_⟩
      refine ⟨.int g, rfl, by show (1 : Nat) ≤ sizeLine; omega, fun l nl => ?_⟩
      have s1 := (Kp.new (ps := []) (o := HO.lst [.int g]) nl).same
      refine ⟨.int s0, rfl, by show (2 : Nat) ≤ sizeLine; omega, fun z nz => ?_⟩
      have lz : l ≠ z := ne_of_none (upd_same : upd H l (.lst [.int g]) l = some (.lst [.int g])) nz
      exact q _ z l (s1.free nz) nl lz.symm upd_same (by rw [upd_ne lz]; exact upd_same) (s1.trans (Kp.new (ps := []) nz).same)

theorem ok_wsigns (T : Tx K mg) : FnOk P w K mg base (L2.CX P w) 5 T.f_wsigns T.fd_wsigns P_wsigns (spWriteX K T.C_NoCode T.C_NoSign) := by
  have G_chk := ok_chk (P := P) (w := w) (base := base) T
  have G_lasts := ok_lasts (P := P) (w := w) (base := base) T
  have G_whole := ok_whole (P := P) (w := w) (base := base) T
  have G_swr := ok_swr (P := P) (w := w) (base := base) T
  have G_iNoSign := ok_iNoSign (P := P) (w := w) (base := base) T
  have sz : sizeLine = 16777216 := sizeLine_eq
  refine T.D_wsigns.F.okX sc_wsigns (fun vs H Q E h => ?_) (fun cdv A outer s H vs Q E hr h => ?_)
  · obtain ⟨a, gs, s0, z, rfl, _⟩ := h
    rfl
  · obtain ⟨a, gs, s0, z, rfl, hA, lg, q, qe⟩ := h
    refine ⟨_, (pss_cons (ps_expr (pe_call G_chk (hr.mono (by decide)) (by rfl) T.D_chk.g T.D_chk.F.kp T.bb_chk .nil (Sip.passX (takes_of rfl rfl rfl rfl)) (pa_cons (pv 2) pa_nil)))
      (pss_cons (ps_set (i := 3) sc_wsigns.nd rfl (.inl rfl) (pe_call G_lasts (hr.mono (by decide)) (by rfl) T.D_lasts.g T.D_lasts.F.kp T.bb_lasts .nil pass0 (pa_cons (pv 2) pa_nil)))
      (pss_cons (ps_set (i := 4) sc_wsigns.nd rfl (.inl rfl) (pe_lst pa_nil))
      (pss_cons (ps_for (passes_of rfl) rfl (pi_list (pv 0)) (pg_name (i := 5) sc_wsigns.nd rfl (.inl rfl)) (pss_cons (ps_if (PW.pt (pw_or (pt_not (pt_val (pe_call G_whole (hr.mono (by decide)) (by rfl) T.D_whole.g T.D_whole.F.kp T.bb_whole .nil pass0 (pa_cons (pv 5) pa_nil)))) (pw_or1 (pt_not (pt_chain op_le op_le pe_int (pv 5) (pv 3)))))) (pss_one (ps_raise rfl (takes_of rfl rfl rfl rfl) (pmk_oex T.o_NoSign T.ini_NoSign T.tI_NoSign G_iNoSign (hr.mono (by decide)) T.bb_iNoSign .nil pass0 (by rfl) T.g_NoSign (pa_cons (pv 5) pa_nil)))) pss_nil)
      (pss_cons (ps_asg (pe_call G_swr (hr.mono (by decide)) (by rfl) T.D_swr.g T.D_swr.F.kp T.bb_swr .nil pass0 (pa_cons (pv 5) (pa_cons (pv 1) (pa_cons (pv 2) pa_nil)))) (pg_tup rfl (pgs_cons (pg_name (i := 6) sc_wsigns.nd rfl (.inl rfl)) (pgs_cons (pg_name (i := 1) sc_wsigns.nd rfl (.inl rfl)) pgs_nil))))
      (pss_one (ps_expr (pe_bm PySem.F.plainAttrs_list PySem.F.slot_list_extend PySem.F.type_list_extend mt_extend (pv 4) (pa_cons (pv 6) pa_nil)))))))
      (pss_one (ps_ret (pe_tup (pa_cons (pv 4) (pa_cons (pv 1) pa_nil))))))))), ?_⟩
    refine ⟨_, rfl, z, rfl, fun c ez H1 s1 => ?_, qe⟩
    subst ez
    obtain ⟨vs0, q, qs⟩ := q c rfl
    refine ⟨_, rfl, c, rfl, ?_⟩
    refine ⟨Nat.zero_le _, fun w nw => ?_⟩
    have s2 := s1.trans (Kp.new (ps := []) (o := HO.lst []) nw).same
    refine ⟨.ref a, rfl, a, rfl, ⟨_, s2.seq hA⟩, ?_⟩
    refine for_list (xs := gs.map V.int) (fun i σ H' => ∃ (y z : Option V), σ = [some (.ref a), some (.int (writeF c (gs.take i) s0).2), some (.str c.w), some (.int (sizeF c - 1)), some (.ref w), y, z] ∧ H' w = some (.lst ((writeF c (gs.take i) s0).1.map V.int)) ∧ (writeF c (gs.take i) s0).1.length ≤ 4 * i ∧ Same H H' ∧ ∀ x ∈ gs.take i, 0 ≤ x ∧ x < sizeF c) ⟨none, none, rfl, upd_same, Nat.le_refl _, s2, (fun x hx => nomatch hx)⟩ (fun i σ H' _ hW => ?_) (fun i x σ H' hx hW => ?_) (fun σ H' hW => ?_)
    · obtain ⟨_, _, _, _, _, s, _⟩ := hW
      exact s.seq hA
    · obtain ⟨y, z, rfl, ew, lw, sm, gd⟩ := hW
      rw [List.getElem?_map] at hx
      obtain ⟨g, hgx, rfl⟩ := Option.map_eq_some_iff.mp hx
      have hi : i < gs.length := (List.getElem?_eq_some_iff.mp hgx).1
      by_cases hg01 : 0 ≤ g ∧ g < sizeF c
      rotate_left
      · have eq := qs i g hgx hg01 gd
        refine ⟨.int g, rfl, g, rfl, _, rfl, iteF ?_⟩
        refine ⟨.int g, rfl, _, _, rfl, rfl, _, rfl, ?_⟩
        by_cases h0 : 0 ≤ g
        · rw [if_pos (decide_eq_true h0)]
          refine ⟨.int (sizeF c - 1), rfl, _, _, rfl, rfl, _, rfl, ?_⟩
          rw [show decide (g ≤ sizeF c - 1) = false from decide_eq_false (by omega)]
          exact iteT ⟨.int g, rfl, mk1_fin (eq.mono sm).raise⟩
        · rw [if_neg (by simpa using h0)]
          exact ⟨_, rfl, iteT ⟨.int g, rfl, mk1_fin (eq.mono sm).raise⟩⟩
      obtain ⟨g0, g1⟩ := hg01
      have gd' : ∀ x ∈ gs.take (i + 1), 0 ≤ x ∧ x < sizeF c := fun x hx => by
        rw [List.take_add_one, hgx] at hx
        rcases List.mem_append.mp hx with hx | hx
        · exact gd x hx
        · have e : x = g := by simpa using hx
          rw [e]; exact ⟨g0, g1⟩
      have vs1 : VS c (writeF c (gs.take i) s0).2 := writeF_vs vs0
      have et : gs.take (i + 1) = gs.take i ++ [g] := by rw [List.take_add_one, hgx]; rfl
      have lw' := (signW_len (c := c) (s := (writeF c (gs.take i) s0).2) g0 g1).2
      rw [et, writeF_snoc]
      dsimp only
      generalize writeF c (gs.take i) s0 = RS at *
      obtain ⟨R, st⟩ := RS
      dsimp only at lw lw' vs1 ew ⊢
      refine ⟨.int g, rfl, g, rfl, _, rfl, iteF ?_⟩
      refine ⟨.int g, rfl, _, _, rfl, rfl, _, rfl, ?_⟩
      rw [if_pos (decide_eq_true g0)]
      refine ⟨.int (sizeF c - 1), rfl, _, _, rfl, rfl, _, rfl, ?_⟩
      rw [show decide (g ≤ sizeF c - 1) = true from decide_eq_true (by omega)]
      refine iteF ⟨.int g, rfl, .int st, rfl, .str c.w, rfl, g, st, c, rfl, vs1, fun H2 tq u ntq nu qu etq eu s3 => ?_⟩
      generalize signW c g st = W at *
      obtain ⟨WR, st'⟩ := W
      dsimp only at etq eu lw' ⊢
      refine ⟨tq, _, rfl, .inl (.inl etq), rfl, _, _, rfl, _, _, rfl, rfl, ?_⟩
      refine ⟨.ref w, rfl, .inl ⟨rfl, _, sq_at (s3 _ _ ew)⟩, .ref u, rfl, w, u, _, _, rfl, rfl, s3 _ _ ew, eu, by rw [List.length_map, List.length_map]; omega, ?_⟩
      exact ⟨_, _, rfl, by rw [upd_same, List.map_append], by rw [List.length_append]; omega, put_same (sm.trans s3) (s1.free nw), et ▸ gd'⟩
    · obtain ⟨y, z, rfl, ew, lw, sm, gd⟩ := hW
      rw [List.length_map, List.take_of_length_le (Nat.le_refl _)] at *
      have q := q gd
      refine ⟨.ref w, rfl, .int _, rfl, by show (2 : Nat) ≤ sizeLine; omega, fun z nz => ?_⟩
      have wz : w ≠ z := ne_of_none ew nz
      exact q _ z w (sm.free nz) (s1.free nw) wz.symm upd_same (by rw [upd_ne wz]; exact ew) (sm.trans (Kp.new (ps := []) nz).same)

theorem ok_lsteps (T : Tx K mg) : FnOk P w K mg base CX0 1 T.f_lsteps T.fd_lsteps P_lsteps (spStepsL) := by
  have sz : sizeLine = 16777216 := sizeLine_eq
  refine T.D_lsteps.F.ok sc_lsteps (fun vs H Q E h => ?_) (fun cdv A outer s H vs Q E hr h => ?_)
  · obtain ⟨n, rfl, _⟩ := h
    rfl
  · obtain ⟨n, rfl, n0, n1, q⟩ := h
    refine ⟨_, (pss_cons (ps_if (pt_cmpR op_lt (pv 0) pe_int (nomark _)) (pss_one (ps_ret (pe_lst (pa_cons (pv 0) pa_nil)))) pss_nil)
      (pss_cons (ps_set (i := 1) sc_lsteps.nd rfl (.inl rfl) (pe_op op_add (pe_op op_add pe_int (pe_callTy call_int1 (by rfl) T.m_int (by decide +kernel) (pa_cons (pe_cmpR op_gt (pv 0) pe_int (nomark _)) pa_nil))) (pe_callTy call_int1 (by rfl) T.m_int (by decide +kernel) (pa_cons (pe_cmpR op_gt (pv 0) pe_int (nomark _)) pa_nil))))
      (pss_cons (ps_set (i := 2) sc_lsteps.nd rfl (.inl rfl) (pe_lst pa_nil))
      (pss_cons (ps_for PassesOwn.never rfl (pi_range1 (by rfl) T.m_range (pa_cons (pv 1) pa_nil)) (pg_name (i := 3) sc_lsteps.nd rfl (.inl rfl)) (pss_cons (ps_set (i := 2) sc_lsteps.nd rfl (.inl rfl) (pe_op op_cat (pe_lst (pa_cons (pe_op op_add pe_int (pe_op op_mod (pv 0) pe_int)) pa_nil)) (pv 2)))
      (pss_one (ps_set (i := 0) sc_lsteps.nd rfl (.inl rfl) (pe_op op_fdiv (pv 0) pe_int)))))
      (pss_one (ps_ret (pe_op op_cat (pe_lst (pa_cons (pe_op op_add (pe_ix ix_list (pe_lst (pa_cons pe_int (pa_cons pe_int (pa_cons pe_int pa_nil)))) (pe_op op_sub (pv 1) pe_int) (fun _ _ => rfl)) (pv 0)) pa_nil)) (pv 2)))))))), ?_⟩
    refine ⟨.int n, rfl, _, _, rfl, rfl, _, rfl, ite2 (fun e => ?_) (fun e => ?_)⟩
    · have e1 : n < 128 := of_decide_eq_true e
      refine ⟨.int n, rfl, by show (1 : Nat) ≤ sizeLine; omega, fun z nz => q _ z nz ?_ (Kp.new (ps := []) nz).same⟩
      rw [upd_same]; unfold stepsW; rw [if_pos e1]; rfl
    have n128 : 128 ≤ n := by
      have : ¬ (n < 128) := fun z => e (decide_eq_true z)
      omega
    rw [stepsW_rest n128] at q
    obtain ⟨m1, m3⟩ := manyF_b n
    refine ⟨.int n, rfl, _, _, rfl, rfl, .inr ⟨_, rfl, _, _, rfl, rfl, .int n, rfl, _, _, rfl, rfl, .inr ⟨_, rfl, _, _, rfl, rfl, ?_⟩⟩⟩
    rw [show (fun i j : Int => V.int (i + j)) ((1 : Int) + (if decide (n > 2047) = true then 1 else 0)) (if decide (n > 65535) = true then 1 else 0) = V.int (manyF n : Nat) from congrArg V.int (many_val n)]
    generalize manyF n = m at *
    refine ⟨Nat.zero_le _, fun a na => ?_⟩
    refine ⟨.int m, rfl, m, rfl, by omega, by omega, ?_⟩
    rw [Int.toNat_natCast]
    refine for_range (lo := 0) (n := m) (fun i σ H' => ∃ (r : Addr) (y : Option V), σ = [some (.int (n / 64 ^ i)), some (.int m), some (.ref r), y] ∧ H r = none ∧ H' r = some (.lst ((restF n i).map V.int)) ∧ Same H H') ⟨a, none, ?_, na, upd_same, (Kp.new (ps := []) na).same⟩ (fun i σ H' hi hW => ?_) (fun σ H' hW => ?_)
    · show _ = [some (V.int (n / 1)), _, _, _]
      rw [Int.ediv_one]; rfl
    · obtain ⟨r, y, rfl, nr, er, s1⟩ := hW
      refine ⟨.int (n / 64 ^ i), rfl, _, _, rfl, rfl, (show (0 : Int) < 64 by decide), _, _, rfl, rfl, by show (1 : Nat) ≤ sizeLine; omega, fun l nl => ?_⟩
      have s2 := (Kp.new (ps := []) (o := HO.lst [.int (128 + n / 64 ^ i % 64)]) nl).same
      refine ⟨.ref r, rfl, l, r, _, _, rfl, rfl, upd_same, s2 _ _ er, ?_, fun z nz => ?_⟩
      · rw [List.length_map, restF_len]; show 1 + i ≤ _; omega
      · refine ⟨.int (n / 64 ^ i), rfl, _, _, rfl, rfl, ⟨by decide, by decide⟩, ?_⟩
        have s12 := s1.trans s2
        refine ⟨z, some (.int (0 + (i : Int))), ?_, s12.free nz, by rw [upd_same]; rfl, s12.trans (Kp.new (ps := []) nz).same⟩
        rw [← div_next]; rfl
    · obtain ⟨r, y, rfl, nr, er, s1⟩ := hW
      refine ⟨by show (3 : Nat) ≤ sizeLine; omega, fun l nl => ?_⟩
      have s2 := (Kp.new (ps := []) (o := HO.lst [.int 192, .int 224, .int 240]) nl).same
      refine ⟨.int m, rfl, _, _, rfl, rfl, l, _, _, .int (baseF m), rfl, rfl, .inl (.inl upd_same), base_at m1 m3, .int (n / 64 ^ m), rfl, _, _, rfl, rfl, by show (1 : Nat) ≤ sizeLine; omega, fun l2 nl2 => ?_⟩
      have s3 := (Kp.new (ps := []) (o := HO.lst [.int (baseF m + n / 64 ^ m)]) nl2).same
      refine ⟨.ref r, rfl, l2, r, _, _, rfl, rfl, upd_same, s3 _ _ (s2 _ _ er), ?_, fun z nz => ?_⟩
      · rw [List.length_map, restF_len]; show 1 + m ≤ _; omega
      · have s13 := (s1.trans s2).trans s3
        exact q _ z (s13.free nz) (by rw [upd_same]; rfl) (s13.trans (Kp.new (ps := []) nz).same)

theorem ok_lsign (T : Tx K mg) : FnOk P w K mg base CX0 2 T.f_lsign T.fd_lsign P_lsign (spSignL) := by
  have G_take := ok_take (P := P) (w := w) (base := base) T
  have sz : sizeLine = 16777216 := sizeLine_eq
  refine T.D_lsign.F.ok sc_lsign (fun vs H Q E h => ?_) (fun cdv A outer s H vs Q E hr h => ?_)
  · obtain ⟨p, n, o, c, rfl, _⟩ := h
    rfl
  · obtain ⟨p, n, o, c, rfl, hp, hP, n9, q⟩ := h
    refine ⟨_, (pss_cons (ps_set (i := 2) sc_lsign.nd rfl (.inl rfl) (pe_dget (hu_of hr) (pe_disp (pps_cons pe_str pe_int (pps_cons pe_str pe_int (pps_cons pe_str pe_int (pps_cons pe_str pe_int pps_nil)))) (by rfl) (by rfl) (fun z => by cases z) (by decide)) (pv 1) (fun _ _ => rfl)))
      (pss_cons (ps_set (i := 3) sc_lsign.nd rfl (.inl rfl) (pe_lst (pa_cons pe_int (pa_cons pe_int (pa_cons pe_int (pa_cons pe_int (pa_cons pe_int (pa_cons pe_int (pa_cons pe_int (pa_cons pe_int (pa_cons pe_int (pa_cons pe_int (pa_cons pe_int (pa_cons pe_int (pa_cons pe_int pa_nil)))))))))))))))
      (pss_cons (ps_set (i := 4) sc_lsign.nd rfl (.inl rfl) (pe_call G_take (hr.mono (by decide)) (by rfl) T.D_take.g T.D_take.F.kp T.bb_take .nil pass0 (pa_cons (pv 0) (pa_cons pe_int pa_nil))))
      (pss_cons (ps_if (pt_cmpR op_lt (pv 4) pe_int (nomark _)) (pss_one (ps_ret (pe_ix ix_list (pe_lst (pa_cons pe_int (pa_cons pe_int (pa_cons (pe_op op_mod (pe_ix ix_list (pv 3) (pe_call G_take (hr.mono (by decide)) (by rfl) T.D_take.g T.D_take.F.kp T.bb_take .nil pass0 (pa_cons (pv 0) (pa_cons pe_int pa_nil))) (fun _ _ => rfl)) (pv 2)) pa_nil)))) (pv 4) (fun _ _ => rfl)))) pss_nil)
      (pss_one (ps_ret (pe_call G_take (hr.mono (by decide)) (by rfl) T.D_take.g T.D_take.F.kp T.bb_take .nil pass0 (pa_cons (pv 0) (pa_cons (pe_ix ix_list (pe_lst (pa_cons pe_int (pa_cons (pv 2) pa_nil))) (pe_callTy call_int1 (by rfl) T.m_int (by decide +kernel) (pa_cons (pe_cmpR op_gt (pv 4) pe_int (nomark _)) pa_nil)) (fun _ _ => rfl)) pa_nil))))))))), ?_⟩
    obtain ⟨z256, zmax⟩ := sizeF_b c
    intro d nd
    have s1 := (Kp.new (ps := []) (o := HO.dK []) nd).same
    refine ⟨upd_same, sizesK, rfl, by decide, ?_⟩
    rw [L2.upd_upd]
    have s1 := (Kp.new (ps := []) (o := HO.dK (mergeK [] sizesK)) nd).same
    refine ⟨.str c.w, rfl, d, .int (sizeF c), rfl, ?_, ?_⟩
    · rw [← sizes_at c]
      exact DGet.k (k := Sum.inr c.w) upd_same
    generalize upd H d (.dK (mergeK [] sizesK)) = H1 at s1 ⊢
    refine ⟨by show (13 : Nat) ≤ sizeLine; omega, fun e ne => ?_⟩
    have s2 := (Kp.new (ps := []) (o := HO.lst [V.int 0, V.int 127, V.int 128, V.int 255, V.int 2047, V.int 2048, V.int 65535, V.int 65536, V.int 2097151, V.int 65279, V.int 65534, V.int 65533, V.int 16383]) ne).same
    have ee : (upd H1 e (.lst [V.int 0, V.int 127, V.int 128, V.int 255, V.int 2047, V.int 2048, V.int 65535, V.int 65536, V.int 2097151, V.int 65279, V.int 65534, V.int 65533, V.int 16383])) e = some (.lst ([0, 127, 128, 255, 2047, 2048, 65535, 65536, 2097151, 65279, 65534, 65533, 16383].map V.int)) := upd_same
    have pe : p ≠ e := ne_of_none (s1 _ _ hp) ne
    have s12 := s1.trans s2
    revert ee s12
    generalize upd H1 e (.lst [V.int 0, V.int 127, V.int 128, V.int 255, V.int 2047, V.int 2048, V.int 65535, V.int 65536, V.int 2097151, V.int 65279, V.int 65534, V.int 65533, V.int 16383]) = H2
    intro ee s12
    refine ⟨.ref p, rfl, p, n, 6, o, rfl, s12 _ _ hp, hP, by omega, by decide, by decide, fun w o1 w0 w1 hP1 => ?_⟩
    have k1 : Kp [p] H (upd H2 p o1) := (Kp.of s12).trans (Kp.at (by simp))
    refine ⟨.int w, rfl, _, _, rfl, rfl, _, rfl, ite2 (fun h => ?_) (fun h => ?_)⟩
    · have w3 : w < 3 := of_decide_eq_true h
      refine ⟨.ref e, rfl, .ref p, rfl, p, _, 13, o1, rfl, upd_same, hP1, by omega, by decide, by decide, fun r o2 r0 r1 hP2 => ?_⟩
      obtain ⟨z, zm, ez, _⟩ := atI_int (ms := [0, 127, 128, 255, 2047, 2048, 65535, 65536, 2097151, 65279, 65534, 65533, 16383]) (i := r) r0 r1
      have z0 := edges_nn z zm
      rw [upd_upd]
      have k2 : Kp [p] H (upd H2 p o2) := (Kp.of s12).trans (Kp.at (by simp))
      refine ⟨e, _, r, .int z, rfl, rfl, sq_at (by rw [upd_ne pe.symm]; exact ee), ez, .int (sizeF c), rfl, _, _, rfl, rfl, (show (0 : Int) < sizeF c by omega), by show (3 : Nat) ≤ sizeLine; omega, fun l nl => ?_⟩
      obtain ⟨g, gm, eg, _⟩ := atI_int (ms := [10, 13, z % sizeF c]) (i := w) w0 (by show w < 3; exact w3)
      have gb : 0 ≤ g ∧ g < sizeF c := by
        have a1 := Int.emod_nonneg z (show sizeF c ≠ 0 by omega)
        have a2 := Int.emod_lt_of_pos z (show 0 < sizeF c by omega)
        simp only [List.mem_cons, List.mem_nil_iff, or_false] at gm
        rcases gm with rfl | rfl | rfl <;> omega
      have pl : p ≠ l := ne_of_none (upd_same : (upd H2 p o2) p = some o2) nl
      exact ⟨.int w, rfl, l, _, _, .int g, rfl, rfl, .inl (.inl (by rw [upd_same]; rfl)), eg, q _ g o2 gb.1 gb.2 (by rw [upd_ne pl]; exact upd_same) (hP2.up (by omega)) (k2.trans (Kp.new nl))⟩
    · refine ⟨.ref p, rfl, .int (sizeF c), rfl, by show (2 : Nat) ≤ sizeLine; omega, fun l nl => ?_⟩
      have pl : p ≠ l := ne_of_none (upd_same : (upd H2 p o1) p = some o1) nl
      have ez : ∃ z : Int, 0 < z ∧ z ≤ sizeF c ∧ atI [V.int 140, .int (sizeF c)] (if decide (w > 3) = true then 1 else 0) = some (.int z) := by
        by_cases g : w > 3
        · rw [if_pos (decide_eq_true g)]; exact ⟨sizeF c, by omega, by omega, rfl⟩
        · rw [if_neg (by simpa using g)]; exact ⟨140, by omega, by omega, rfl⟩
      obtain ⟨z, z0, z1, ez⟩ := ez
      refine ⟨.int w, rfl, _, _, rfl, rfl, .inr ⟨_, rfl, l, _, _, .int z, rfl, rfl, .inl (.inl upd_same), ez, p, _, z, o1, rfl, by rw [upd_ne pl]; exact upd_same, hP1, by omega, z0, by omega, fun g o2 g0 g1 hP2 => ?_⟩⟩
      exact q _ g o2 g0 (by omega) upd_same (hP2.up (by omega)) ((k1.trans (Kp.new nl)).trans (Kp.at (by simp)))

theorem ok_lsread (T : Tx K mg) : FnOk P w K mg base CX0 2 T.f_lsread T.fd_lsread P_lsread (spStepsRd K) := by
  have G_lsteps := ok_lsteps (P := P) (w := w) (base := base) T
  have sz : sizeLine = 16777216 := sizeLine_eq
  refine T.D_lsread.F.ok sc_lsread (fun vs H Q E h => ?_) (fun cdv A outer s H vs Q E hr h => ?_)
  · obtain ⟨x, row, p, rfl, _⟩ := h
    rfl
  · obtain ⟨x, row, p, rfl, hx, hp, nn, lr, q⟩ := h
    refine ⟨_, (pss_cons (ps_for PassesOwn.never rfl (pi_range1 (by rfl) T.m_range (pa_cons pe_int pa_nil)) (pg_name (i := 2) sc_lsread.nd rfl (.inl rfl)) (pss_cons (ps_set (i := 3) sc_lsread.nd rfl (.inl rfl) (pe_slice sl_list (pv 0) (po_some (pv 1)) (po_some (pe_op op_add (pe_op op_add (pv 1) (pv 2)) pe_int))))
      (pss_cons (ps_set (i := 4) sc_lsread.nd rfl (.inl rfl) (pe_op op_sub (pe_ix ix_list (pv 3) pe_int (fun _ _ => rfl)) (pe_ix ix_list (pe_lst (pa_cons pe_int (pa_cons pe_int (pa_cons pe_int (pa_cons pe_int pa_nil))))) (pv 2) (fun _ _ => rfl))))
      (pss_cons (ps_for PassesOwn.never rfl (pi_list (pe_slice sl_list (pv 3) (po_some pe_int) po_none)) (pg_name (i := 5) sc_lsread.nd rfl (.inl rfl)) (pss_one (ps_set (i := 4) sc_lsread.nd rfl (.inl rfl) (pe_op op_sub (pe_op op_add (pe_op op_mul (pv 4) pe_int) (pv 5)) pe_int))))
      (pss_one (ps_if (PW.pt (pw_and (pt_chain op_le op_lt pe_int (pv 4) pe_int) (pw_and1 (pt_cmpR (op_eqI hr.units) (pe_call G_lsteps (hr.mono (by decide)) (by rfl) T.D_lsteps.g T.D_lsteps.F.kp T.bb_lsteps .nil pass0 (pa_cons (pv 4) pa_nil)) (pv 3) (nomark _))))) (pss_one (ps_ret (pe_tup (pa_cons pe_str (pa_cons (pv 4) (pa_cons (pe_op op_add (pv 1) (pe_callB call_len_seq (by rfl) T.m_len PySem.boot_len (pa_cons (pv 3) pa_nil))) (pa_cons pe_int pa_nil))))))) pss_nil))))))
      (pss_one (ps_ret (pe_tup (pa_cons pe_str (pa_cons pe_int (pa_cons (pe_op op_add (pv 1) pe_int) (pa_cons pe_int pa_nil)))))))), ?_⟩
    have hn : row.drop p ≠ [] := by
      intro z
      have := congrArg List.length z
      rw [List.length_drop] at this
      simp at this; omega
    have nn' : ∀ b ∈ row.drop p, 0 ≤ b := fun b hb => nn b (List.mem_of_mem_drop hb)
    have lx : (row.drop p).length = row.length - p := List.length_drop
    have eR : readF .steps row p 0 = tellF row p 0 (p, 0) (stepsAt (row.drop p)) := rfl
    rw [eR] at q
    unfold tellF at q
    rw [if_neg (show ¬ row.length ≤ p by omega)] at q
    generalize eX : row.drop p = xs at *
    refine ⟨_, rfl, by decide, by decide, ?_⟩
    refine for_range (lo := 0) (n := 4) (fun i σ H' => ∃ y2 y3 y4 y5 : Option V, σ = [some (.ref x), some (.int p), y2, y3, y4, y5] ∧ Same H H' ∧ ∀ m, m < i → ¬ condM xs m) ⟨none, none, none, none, rfl, Same.refl _, by omega⟩ (fun i σ H1 hi hW => ?_) (fun σ H1 hW => ?_)
    · obtain ⟨y2, y3, y4, y5, rfl, s1, no⟩ := hW
      rw [show (0 : Int) + (i : Int) = (i : Int) from Int.zero_add _]
      refine ⟨.ref x, rfl, .int p, rfl, _, rfl, .int p, rfl, .int i, rfl, _, _, rfl, rfl, _, _, rfl, rfl, _, rfl, x, _, rfl, s1.seq hx, fun t nt => ?_⟩
      rw [show ((p : Int) + (i : Int) + 1) = ((p + (i + 1) : Nat) : Int) by omega, mid_cut, eX]
      have s2 := s1.trans (Kp.new (ps := []) (o := HO.lst ((xs.take (i + 1)).map V.int)) nt).same
      have et : (upd H1 t (.lst ((xs.take (i + 1)).map V.int))) t = some (.lst ((xs.take (i + 1)).map V.int)) := upd_same
      generalize upd H1 t (.lst ((xs.take (i + 1)).map V.int)) = H2 at s2 et ⊢
      have lp : 0 < (xs.take (i + 1)).length := by rw [List.length_take]; omega
      have eh : atI ((xs.take (i + 1)).map V.int) 0 = some (.int (xs.headD 0)) := by
        cases xs with
        | nil => exact absurd rfl hn
        | cons a b => rw [List.take_succ_cons]; exact atI_nat (j := 0) rfl
      refine ⟨.ref t, rfl, t, _, _, .int (xs.headD 0), rfl, rfl, sq_at et, eh, by show (4 : Nat) ≤ sizeLine; omega, fun l nl => ?_⟩
      have s3 := (Kp.new (ps := []) (o := HO.lst [.int 0, .int 192, .int 224, .int 240]) nl).same
      refine ⟨.int i, rfl, l, _, _, .int (baseF i), rfl, rfl, .inl (.inl upd_same), base_at0 (by omega), _, _, rfl, rfl, ?_⟩
      have et3 := s3 _ _ et
      refine ⟨.ref t, rfl, _, rfl, t, _, rfl, sq_at et3, fun v nv => ?_⟩
      rw [show (1 : Int) = ((1 : Nat) : Int) from rfl, drop_cut]
      have s4 := (Kp.new (ps := []) (o := HO.lst (((xs.take (i + 1)).drop 1).map V.int)) nv).same
      have et4 := s4 _ _ et3
      have s14 := (s2.trans s3).trans s4
      refine ⟨v, rfl, ⟨_, sq_new⟩, ?_⟩
      have ev : (upd (upd H2 l (.lst [.int 0, .int 192, .int 224, .int 240])) v (.lst (((xs.take (i + 1)).drop 1).map V.int))) v = some (.lst (((xs.take (i + 1)).drop 1).map V.int)) := upd_same
      generalize upd (upd H2 l (.lst [.int 0, .int 192, .int 224, .int 240])) v (.lst (((xs.take (i + 1)).drop 1).map V.int)) = H3 at ev et4 s14 ⊢
      generalize eP : xs.take (i + 1) = pc at *
      have eS : sgM xs i = foldS (xs.headD 0 - baseF i) (pc.drop 1) := by rw [← eP]; rfl
      refine for_list (xs := (pc.drop 1).map V.int) (fun j σ H' => H' = H3 ∧ ∃ y : Option V, σ = [some (.ref x), some (.int p), some (.int i), some (.ref t), some (.int (foldS (xs.headD 0 - baseF i) ((pc.drop 1).take j))), y]) ⟨rfl, y5, rfl⟩ (fun j σ H' _ hW => ?_) (fun j z σ H' hz hW => ?_) (fun σ H' hW => ?_)
      · obtain ⟨rfl, _⟩ := hW
        exact sq_at ev
      · obtain ⟨rfl, y, rfl⟩ := hW
        rw [List.getElem?_map] at hz
        obtain ⟨u, hu, rfl⟩ := Option.map_eq_some_iff.mp hz
        refine ⟨.int (foldS (xs.headD 0 - baseF i) ((pc.drop 1).take j)), rfl, _, _, rfl, rfl, .inr (by decide), .int u, rfl, _, _, rfl, rfl, _, _, rfl, rfl, rfl, some (.int u), ?_⟩
        rw [List.take_add_one, hu]
        show _ = [_, _, _, _, some (V.int (foldS (xs.headD 0 - baseF i) ((pc.drop 1).take j ++ [u]))), _]
        rw [foldS_snoc, Int.mul_comm]
        rfl
      · obtain ⟨rfl, y, rfl⟩ := hW
        rw [List.length_map, List.take_of_length_le (Nat.le_refl _), ← eS]
        have next : ¬ condM xs i → ∀ H4, Same H H4 → ∀ y2 y3 y4 y5 : Option V, ∃ z2 z3 z4 z5 : Option V, [some (V.ref x), some (V.int p), y2, y3, y4, y5] = [some (V.ref x), some (V.int p), z2, z3, z4, z5] ∧ Same H H4 ∧ ∀ m, m < i + 1 → ¬ condM xs m := fun hc H4 s y2 y3 y4 y5 => ⟨y2, y3, y4, y5, rfl, s, fun m hm => by
          by_cases e : m = i
          · rw [e]; exact hc
          · exact no m (by omega)⟩
        refine ⟨.int (sgM xs i), rfl, _, _, rfl, rfl, _, rfl, ?_⟩
        by_cases h0 : 0 ≤ sgM xs i
        rotate_left
        · rw [if_neg (by simpa using h0)]
          exact ⟨_, rfl, iteF (next (fun z => h0 z.1) _ s14 _ _ _ _)⟩
        rw [if_pos (decide_eq_true h0)]
        refine ⟨_, _, rfl, rfl, _, rfl, ?_⟩
        by_cases h1 : sgM xs i < 2097152
        rotate_left
        · rw [decide_eq_false h1]
          exact iteF (iteF (next (fun z => h1 z.2.1) _ s14 _ _ _ _))
        rw [decide_eq_true h1]
        refine iteT ⟨.int (sgM xs i), rfl, sgM xs i, rfl, h0, h1, fun H4 u nu eu s5 => ?_⟩
        have s15 := s14.trans s5
        refine ⟨.ref t, rfl, u, t, stepsW (sgM xs i), pc, rfl, rfl, sq_at eu, sq_at (s5 _ _ et4), _, rfl, ?_⟩
        by_cases h2 : stepsW (sgM xs i) = pc
        · rw [decide_eq_true h2]
          have hc : condM xs i := ⟨h0, h1, by rw [eP]; exact h2⟩
          obtain ⟨ea, ne⟩ := cond_at hc
          rw [eP] at ea ne
          rw [ea] at q
          dsimp only at q
          rw [if_neg ne] at q
          refine iteT ⟨.int (sgM xs i), rfl, .int p, rfl, .ref t, rfl, t, _, rfl, .inl (sq_at (s5 _ _ et4)), _, _, rfl, rfl, by show (4 : Nat) ≤ sizeLine; omega, fun z nz => ?_⟩
          refine q _ z (s15.free nz) ?_ (s15.trans (Kp.new (ps := []) nz).same)
          rw [upd_same, List.length_map]
          rfl
        · rw [decide_eq_false h2]
          exact iteF (next (fun z => h2 (by rw [← eP]; exact z.2.2)) _ s15 _ _ _ _)
    · obtain ⟨y2, y3, y4, y5, rfl, s1, no⟩ := hW
      rw [at_cond hn nn' no] at q
      dsimp only at q
      rw [if_pos rfl] at q
      refine ⟨.int p, rfl, _, _, rfl, rfl, by show (4 : Nat) ≤ sizeLine; omega, fun z nz => ?_⟩
      exact q _ z (s1.free nz) (by rw [upd_same]; rfl) (s1.trans (Kp.new (ps := []) nz).same)

theorem ok_lcodes (T : Tx K mg) : FnOk P w K mg base CX0 1 T.f_lcodes T.fd_lcodes P_lcodes (spCodes) := by
  have sz : sizeLine = 16777216 := sizeLine_eq
  refine T.D_lcodes.F.ok sc_lcodes (fun vs H Q E h => ?_) (fun cdv A outer s H vs Q E hr h => ?_)
  · obtain ⟨u, rfl, _⟩ := h
    rfl
  · obtain ⟨u, rfl, q⟩ := h
    refine ⟨_, (pss_one (ps_ret (pe_lst (pa_cons pe_str (pa_cons pe_str (pa_cons pe_str (pa_cons pe_str pa_nil))))))), ?_⟩
    exact ⟨by show (4 : Nat) ≤ sizeLine; omega, fun z nz => q z nz⟩

theorem ok_lbytes (T : Tx K mg) : FnOk P w K mg base CX0 2 T.f_lbytes T.fd_lbytes P_lbytes (spWriteL K) := by
  have G_lsteps := ok_lsteps (P := P) (w := w) (base := base) T
  have sz : sizeLine = 16777216 := sizeLine_eq
  refine T.D_lbytes.F.ok sc_lbytes (fun vs H Q E h => ?_) (fun cdv A outer s H vs Q E hr h => ?_)
  · obtain ⟨a, gs, s0, c, rfl, _⟩ := h
    rfl
  · obtain ⟨a, gs, s0, c, rfl, hA, lg, vs0, hg, q⟩ := h
    refine ⟨_, (pss_cons (ps_set (i := 3) sc_lbytes.nd rfl (.inl rfl) (pe_lst pa_nil))
      (pss_cons (ps_for PassesOwn.never rfl (pi_list (pv 0)) (pg_name (i := 4) sc_lbytes.nd rfl (.inl rfl)) (pss_one (ps_if (pt_cmpR op_eq (pv 2) pe_str (nomark _)) (pss_one (ps_expr (pe_bm PySem.F.plainAttrs_list PySem.F.slot_list_append PySem.F.type_list_append mt_append (pv 3) (pa_cons (pv 4) pa_nil)))) (pss_one (ps_if (pt_cmpR op_eq (pv 2) pe_str (nomark _)) (pss_one (ps_set (i := 3) sc_lbytes.nd rfl (.inl rfl) (pe_op op_cat (pv 3) (pe_call G_lsteps (hr.mono (by decide)) (by rfl) T.D_lsteps.g T.D_lsteps.F.kp T.bb_lsteps .nil pass0 (pa_cons (pv 4) pa_nil))))) (pss_one (ps_if (pt_cmpR op_eq (pv 2) pe_str (nomark _)) (C8.pss_cut (ps_if (pt_cmpR op_eq (pv 1) pe_int (nomark _)) (pss_cons (ps_set (i := 3) sc_lbytes.nd rfl (.inl rfl) (pe_op op_cat (pv 3) (pe_lst (pa_cons pe_int (pa_cons pe_int pa_nil)))))
      (pss_one (ps_set (i := 1) sc_lbytes.nd rfl (.inl rfl) pe_int))) pss_nil)
      (pss_one (ps_set (i := 3) sc_lbytes.nd rfl (.inl rfl) (pe_op op_cat (pv 3) (pe_ix ix_list (pe_lst (pa_cons (pe_lst (pa_cons (pe_op op_mod (pv 4) pe_int) (pa_cons (pe_op op_fdiv (pv 4) pe_int) pa_nil))) (pa_cons (pe_lst (pa_cons (pe_op op_fdiv (pv 4) pe_int) (pa_cons (pe_op op_mod (pv 4) pe_int) pa_nil))) pa_nil))) (pe_op op_sub (pv 1) pe_int) (fun _ _ => rfl)))))) (C8.pss_cut (ps_if (pt_cmpR op_ne (pe_op op_fdiv (pv 4) pe_int) (pv 1) (nomark _)) (pss_one (ps_expr (pe_bm PySem.F.plainAttrs_list PySem.F.slot_list_append PySem.F.type_list_append mt_append (pv 3) (pa_cons (pe_op op_add pe_int (pe_op op_fdiv (pv 4) pe_int)) pa_nil)))) pss_nil)
      (pss_cons (ps_set (i := 1) sc_lbytes.nd rfl (.inl rfl) (pe_op op_fdiv (pv 4) pe_int))
      (pss_one (ps_expr (pe_bm PySem.F.plainAttrs_list PySem.F.slot_list_append PySem.F.type_list_append mt_append (pv 3) (pa_cons (pe_op op_mod (pv 4) pe_int) pa_nil)))))))))))))
      (pss_one (ps_ret (pe_tup (pa_cons (pv 3) (pa_cons (pv 1) pa_nil))))))), ?_⟩
    refine ⟨Nat.zero_le _, fun w nw => ?_⟩
    have s1 := (Kp.new (ps := []) (o := HO.lst []) nw).same
    refine ⟨.ref a, rfl, a, rfl, ⟨_, s1.seq hA⟩, ?_⟩
    refine for_list (xs := gs.map V.int) (fun i σ H' => ∃ (w : Addr) (y : Option V), σ = [some (.ref a), some (.int (writeF c (gs.take i) s0).2), some (.str c.w), some (.ref w), y] ∧ H w = none ∧ H' w = some (.lst ((writeF c (gs.take i) s0).1.map V.int)) ∧ (writeF c (gs.take i) s0).1.length ≤ 4 * i ∧ Same H H') ⟨w, none, rfl, nw, upd_same, Nat.le_refl _, s1⟩ (fun i σ H' _ hW => ?_) (fun i x σ H' hx hW => ?_) (fun σ H' hW => ?_)
    · obtain ⟨_, _, _, _, _, _, s⟩ := hW
      exact s.seq hA
    · obtain ⟨w, y, rfl, nw, ew, lw, s1⟩ := hW
      rw [List.getElem?_map] at hx
      obtain ⟨g, hgx, rfl⟩ := Option.map_eq_some_iff.mp hx
      have hi : i < gs.length := (List.getElem?_eq_some_iff.mp hgx).1
      obtain ⟨g0, g1⟩ := hg g (List.mem_of_getElem? hgx)
      have vs1 : VS c (writeF c (gs.take i) s0).2 := writeF_vs vs0
      have et : gs.take (i + 1) = gs.take i ++ [g] := by rw [List.take_add_one, hgx]; rfl
      have lw' := (signW_len (c := c) (s := (writeF c (gs.take i) s0).2) g0 g1).2
      rw [et, writeF_snoc]
      dsimp only
      generalize writeF c (gs.take i) s0 = RS at *
      obtain ⟨R, st⟩ := RS
      dsimp only at lw lw' vs1 ew ⊢
      have fit : (R.map V.int).length + 10 < sizeLine := by rw [List.length_map]; omega
      -- how a turn ends
      have fin : ∀ (H2 : Hp) (z : Addr) (ys : List Int) (st' : Int) (y' : Option V), signW c g st = (ys, st') → H z = none → H2 z = some (.lst ((R ++ ys).map V.int)) → Same H H2 → ∃ (w : Addr) (y : Option V), [some (V.ref a), some (.int st'), some (.str c.w), some (.ref z), y'] = [some (V.ref a), some (.int (signW c g st).2), some (.str c.w), some (.ref w), y] ∧ H w = none ∧ H2 w = some (.lst ((R ++ (signW c g st).1).map V.int)) ∧ (R ++ (signW c g st).1).length ≤ 4 * (i + 1) ∧ Same H H2 := by
        intro H2 z ys st' y' e nz ez s
        rw [e] at lw' ⊢
        exact ⟨z, y', rfl, nz, ez, by rw [List.length_append]; dsimp only at lw' ⊢; omega, s⟩
      cases c with
      | plain =>
        refine ⟨_, rfl, rfl, _, rfl, iteTc (by decide +kernel) ?_⟩
        refine ⟨.ref w, rfl, .inl ⟨rfl, _, sq_at ew⟩, .int g, rfl, w, _, _, rfl, rfl, ew, by omega, ?_⟩
        exact fin _ w [g] st _ rfl nw (by rw [upd_same, List.map_append]; rfl) (put_same s1 nw)
      | steps =>
        refine ⟨_, rfl, rfl, _, rfl, iteFc (by decide +kernel) ?_⟩
        refine ⟨_, rfl, rfl, _, rfl, iteTc (by decide +kernel) ?_⟩
        refine ⟨.ref w, rfl, .int g, rfl, g, rfl, g0, g1, fun H2 u nu eu s2 => ?_⟩
        have lu : (stepsW g).length ≤ 4 := lw'
        refine ⟨w, u, _, _, rfl, rfl, s2 _ _ ew, eu, by rw [List.length_map (as := stepsW g)]; omega, fun z nz => ?_⟩
        have s12 := s1.trans s2
        exact fin _ z (stepsW g) st _ rfl (s12.free nz) (by rw [upd_same, List.map_append]) (s12.trans (Kp.new (ps := []) nz).same)
      | wide =>
        refine ⟨_, rfl, rfl, _, rfl, iteFc (by decide +kernel) ?_⟩
        refine ⟨_, rfl, rfl, _, rfl, iteFc (by decide +kernel) ?_⟩
        refine ⟨_, rfl, rfl, _, rfl, iteTc (by decide +kernel) ?_⟩
        obtain ⟨v0, v2⟩ := (show 0 ≤ st ∧ st ≤ 2 from vs1)
        refine ⟨fun σ' H2 => ∃ (w' : Addr) (pre : List Int) (t : Int), σ' = [some (V.ref a), some (.int t), some (.str Cd.wide.w), some (.ref w'), some (.int g)] ∧ H w' = none ∧ H2 w' = some (.lst ((R ++ pre).map V.int)) ∧ pre.length ≤ 2 ∧ (t = 1 ∨ t = 2) ∧ signW .wide g st = (pre ++ (if t = 1 then [g % 256, g / 256] else [g / 256, g % 256]), t) ∧ Same H H2, ?_, fun σ' H2 hm => ?_⟩
        · refine ⟨.int st, rfl, rfl, _, rfl, ite2 (fun e => ?_) (fun e => ?_)⟩
          · have e0 : st = 0 := V.int.inj (of_decide_eq_true e)
            subst e0
            refine ⟨.ref w, rfl, by show (2 : Nat) ≤ sizeLine; omega, fun l nl => ?_⟩
            have t1 := (Kp.new (ps := []) (o := HO.lst [.int 254, .int 255]) nl).same
            refine ⟨w, l, _, _, rfl, rfl, t1 _ _ ew, upd_same, by show _ + 2 ≤ _; omega, fun z nz => ?_⟩
            have s12 := s1.trans t1
            exact ⟨z, [254, 255], 2, rfl, s12.free nz, by rw [upd_same, List.map_append]; rfl, by decide, .inr rfl, rfl, s12.trans (Kp.new (ps := []) nz).same⟩
          · have e0 : st ≠ 0 := fun z => e (decide_eq_true (by rw [z]))
            refine ⟨w, [], st, rfl, nw, by rw [List.append_nil]; exact ew, by decide, by omega, ?_, s1⟩
            rcases (show st = 1 ∨ st = 2 by omega) with rfl | rfl <;> rfl
        · obtain ⟨w', pre, t, rfl, nw', ew', lp, t12, esw, s2⟩ := hm
          refine ⟨.ref w', rfl, .int g, rfl, _, _, rfl, rfl, (show (0 : Int) < 256 by decide), .int g, rfl, _, _, rfl, rfl, ⟨by decide, by decide⟩, by show (2 : Nat) ≤ sizeLine; omega, fun l1 nl1 => ?_⟩
          have t1 := (Kp.new (ps := []) (o := HO.lst [.int (g % 256), .int (g / 256)]) nl1).same
          refine ⟨.int g, rfl, _, _, rfl, rfl, ⟨by decide, by decide⟩, .int g, rfl, _, _, rfl, rfl, (show (0 : Int) < 256 by decide), by show (2 : Nat) ≤ sizeLine; omega, fun l2 nl2 => ?_⟩
          have t2 := (Kp.new (ps := []) (o := HO.lst [.int (g / 256), .int (g % 256)]) nl2).same
          refine ⟨by show (2 : Nat) ≤ sizeLine; omega, fun l3 nl3 => ?_⟩
          have t3 := (Kp.new (ps := []) (o := HO.lst [.ref l1, .ref l2]) nl3).same
          have pick : ∃ l : Addr, atI [V.ref l1, .ref l2] (t - 1) = some (.ref l) ∧ upd (upd (upd H2 l1 (.lst [.int (g % 256), .int (g / 256)])) l2 (.lst [.int (g / 256), .int (g % 256)])) l3 (.lst [.ref l1, .ref l2]) l = some (.lst ((if t = 1 then [g % 256, g / 256] else [g / 256, g % 256]).map V.int)) := by
            rcases t12 with rfl | rfl
            · exact ⟨l1, rfl, t3 _ _ (t2 _ _ upd_same)⟩
            · exact ⟨l2, rfl, t3 _ _ upd_same⟩
          obtain ⟨l, el, eL⟩ := pick
          have l2' : ((if t = 1 then [g % 256, g / 256] else [g / 256, g % 256]) : List Int).length = 2 := by split <;> rfl
          refine ⟨.int t, rfl, _, _, rfl, rfl, l3, _, _, .ref l, rfl, rfl, .inl (.inl upd_same), el, w', l, _, _, rfl, rfl, t3 _ _ (t2 _ _ (t1 _ _ ew')), eL, ?_, fun z nz => ?_⟩
          · rw [List.length_map, List.length_append, List.length_map, l2']; rw [List.length_map] at fit; omega
          · have s23 := ((s2.trans t1).trans t2).trans t3
            exact fin _ z _ t _ esw (s23.free nz) (by rw [upd_same, ← List.map_append, List.append_assoc]) (s23.trans (Kp.new (ps := []) nz).same)
      | turn =>
        refine ⟨_, rfl, rfl, _, rfl, iteFc (by decide +kernel) ?_⟩
        refine ⟨_, rfl, rfl, _, rfl, iteFc (by decide +kernel) ?_⟩
        refine ⟨_, rfl, rfl, _, rfl, iteFc (by decide +kernel) ?_⟩
        refine ⟨fun σ' H2 => ∃ (pre : List Int), σ' = [some (V.ref a), some (.int st), some (.str Cd.turn.w), some (.ref w), some (.int g)] ∧ H2 w = some (.lst ((R ++ pre).map V.int)) ∧ pre.length ≤ 1 ∧ signW .turn g st = (pre ++ [g % 128], g / 128) ∧ Same H H2, ?_, fun σ' H2 hm => ?_⟩
        · refine ⟨.int g, rfl, _, _, rfl, rfl, ⟨by decide, by decide⟩, .int st, rfl, rfl, _, rfl, ?_⟩
          by_cases h : g / 128 = st
          · refine iteNS (show V.int (g / 128) = V.int st by rw [h]) ⟨[], rfl, by rw [List.append_nil]; exact ew, by decide, if_pos h, s1⟩
          · refine iteTc (by rw [show decide (V.int (g / 128) = V.int st) = false from decide_eq_false (fun z => h (V.int.inj z))]; rfl) ?_
            refine ⟨.ref w, rfl, .inl ⟨rfl, _, sq_at ew⟩, .int g, rfl, _, _, rfl, rfl, ⟨by decide, by decide⟩, _, _, rfl, rfl, w, _, _, rfl, rfl, ew, by omega, ?_⟩
            exact ⟨[128 + g / 128], rfl, by rw [upd_same, List.map_append]; rfl, by show 1 ≤ 1; omega, if_neg h, put_same s1 nw⟩
        · obtain ⟨pre, rfl, ew2, lp, esw, s2⟩ := hm
          refine ⟨.int g, rfl, _, _, rfl, rfl, ⟨by decide, by decide⟩, .ref w, rfl, .inl ⟨rfl, _, sq_at ew2⟩, .int g, rfl, _, _, rfl, rfl, (show (0 : Int) < 128 by decide), w, _, _, rfl, rfl, ew2, by rw [List.length_map, List.length_append]; rw [List.length_map] at fit; omega, ?_⟩
          exact fin _ w _ (g / 128) _ esw nw (by rw [upd_same, ← List.append_assoc, List.map_append (l₁ := R ++ pre)]; rfl) (put_same s2 nw)
    · obtain ⟨w, y, rfl, nw, ew, lw, s1⟩ := hW
      rw [List.length_map, List.take_of_length_le (Nat.le_refl _)] at *
      refine ⟨.ref w, rfl, .int _, rfl, by show (2 : Nat) ≤ sizeLine; omega, fun z nz => ?_⟩
      have wz : w ≠ z := ne_of_none ew nz
      exact q _ z w (s1.free nz) nw wz.symm upd_same (by rw [upd_ne wz]; exact ew) (s1.trans (Kp.new (ps := []) nz).same)

theorem ok_lwide (T : Tx K mg) : FnOk P w K mg base CX0 1 T.f_lwide T.fd_lwide P_lwide (spWideL K) := by
  have sz : sizeLine = 16777216 := sizeLine_eq
  refine T.D_lwide.F.ok sc_lwide (fun vs H Q E h => ?_) (fun cdv A outer s H vs Q E hr h => ?_)
  · obtain ⟨x, row, p, s0, rfl, _⟩ := h
    rfl
  · obtain ⟨x, row, p, s0, rfl, hx, hp, s00, s02, q⟩ := h
    refine ⟨_, (pss_cons (ps_set (i := 3) sc_lwide.nd rfl (.inl rfl) (pv 1))
      (pss_cons (ps_set (i := 4) sc_lwide.nd rfl (.inl rfl) (pv 2))
      (C8.pss_cut (ps_if (pt_cmpR op_eq (pv 2) pe_int (nomark _)) (pss_cons (ps_set (i := 5) sc_lwide.nd rfl (.inl rfl) (pe_slice sl_list (pv 0) (po_some (pv 1)) (po_some (pe_op op_add (pv 1) pe_int))))
      (pss_cons (ps_set (i := 4) sc_lwide.nd rfl (.inl rfl) (pe_op op_sub pe_int (pe_callTy call_int1 (by rfl) T.m_int (by decide +kernel) (pa_cons (pe_cmpR (op_eqI hr.units) (pv 5) (pe_lst (pa_cons pe_int (pa_cons pe_int pa_nil))) (nomark _)) pa_nil))))
      (pss_one (ps_set (i := 3) sc_lwide.nd rfl (.inl rfl) (pe_op op_add (pv 1) (pe_op op_mul pe_int (pe_callTy call_int1 (by rfl) T.m_int (by decide +kernel) (pa_cons (pe_or (pe_cmpR (op_eqI hr.units) (pv 5) (pe_lst (pa_cons pe_int (pa_cons pe_int pa_nil))) (nomark _)) (pe_one (pe_cmpR (op_eqI hr.units) (pv 5) (pe_lst (pa_cons pe_int (pa_cons pe_int pa_nil))) (nomark _)))) pa_nil)))))))) pss_nil)
      (pss_cons (ps_set (i := 6) sc_lwide.nd rfl (.inl rfl) (pe_slice sl_list (pv 0) (po_some (pv 3)) (po_some (pe_op op_add (pv 3) pe_int))))
      (pss_cons (ps_if (pt_cmpR op_eq (pe_callB call_len_seq (by rfl) T.m_len PySem.boot_len (pa_cons (pv 6) pa_nil)) pe_int (nomark _)) (pss_one (ps_ret (pe_tup (pa_cons pe_str (pa_cons pe_int (pa_cons (pv 1) (pa_cons (pv 2) pa_nil))))))) pss_nil)
      (pss_cons (ps_if (pt_cmpR op_eq (pe_callB call_len_seq (by rfl) T.m_len PySem.boot_len (pa_cons (pv 6) pa_nil)) pe_int (nomark _)) (pss_one (ps_ret (pe_tup (pa_cons pe_str (pa_cons pe_int (pa_cons (pe_op op_add (pv 3) pe_int) (pa_cons (pv 4) pa_nil))))))) pss_nil)
      (pss_one (ps_ret (pe_tup (pa_cons pe_str (pa_cons (pe_op op_add (pe_op op_mul pe_int (pe_ix ix_list (pv 6) (pe_op op_sub pe_int (pv 4)) (fun _ _ => rfl))) (pe_ix ix_list (pv 6) (pe_op op_sub (pv 4) pe_int) (fun _ _ => rfl))) (pa_cons (pe_op op_add (pv 3) pe_int) (pa_cons (pv 4) pa_nil))))))))))))), ?_⟩
    refine ⟨.int p, rfl, .int s0, rfl, ?_⟩
    have o12 := order12 (row := row) (p := p) s00 s02
    refine ⟨fun σ' H' => ∃ y : Option V, σ' = [some (.ref x), some (.int p), some (.int s0), some (.int ((goneF .wide row p s0).1 : Nat)), some (.int (goneF .wide row p s0).2), y, none] ∧ Same H H', ?_, fun σ' H' hm => ?_⟩
    · refine ⟨.int s0, rfl, rfl, _, rfl, ite2 (fun e => ?_) (fun e => ?_)⟩
      · have e0 : s0 = 0 := V.int.inj (of_decide_eq_true e)
        have eg : goneF .wide row p s0 = markW row p := if_pos e0
        rw [eg]
        refine ⟨.ref x, rfl, .int p, rfl, _, rfl, .int p, rfl, _, _, rfl, rfl, _, rfl, x, _, rfl, hx, fun t nt => ?_⟩
        rw [show ((p : Int) + 2) = ((p + 2 : Nat) : Int) by omega, mid_cut]
        unfold markW
        generalize (row.drop p).take 2 = two at *
        have s1 := (Kp.new (ps := []) (o := HO.lst (two.map V.int)) nt).same
        refine ⟨.ref t, rfl, by show (2 : Nat) ≤ sizeLine; omega, fun u nu => ?_⟩
        have su := (Kp.new (ps := []) (o := HO.lst [.int 255, .int 254]) nu).same
        have s2 := s1.trans su
        refine ⟨t, u, two, [255, 254], rfl, rfl, sq_at (su _ _ upd_same), sq_at upd_same, .inr ⟨_, rfl, _, _, rfl, rfl, ?_⟩⟩
        refine ⟨.int p, rfl, .ref t, rfl, by show (2 : Nat) ≤ sizeLine; omega, fun u2 nu2 => ?_⟩
        have su2 := (Kp.new (ps := []) (o := HO.lst [.int 254, .int 255]) nu2).same
        have s3 := s2.trans su2
        refine ⟨t, u2, two, [254, 255], rfl, rfl, sq_at (su2 _ _ (su _ _ upd_same)), sq_at upd_same, _, rfl, ?_⟩
        by_cases A : two = [254, 255]
        · rw [decide_eq_true A]
          refine iteT (.inr ⟨_, rfl, _, _, rfl, rfl, .inl (by decide), _, _, rfl, rfl, ?_⟩)
          rw [if_pos A]
          subst A
          exact ⟨_, rfl, s3⟩
        · rw [decide_eq_false A]
          refine iteF ⟨.ref t, rfl, by show (2 : Nat) ≤ sizeLine; omega, fun u3 nu3 => ?_⟩
          have su3 := (Kp.new (ps := []) (o := HO.lst [.int 255, .int 254]) nu3).same
          refine ⟨t, u3, two, [255, 254], rfl, rfl, sq_at (su3 _ _ (su2 _ _ (su _ _ upd_same))), sq_at upd_same, .inr ⟨_, rfl, _, _, rfl, rfl, .inl (by decide), _, _, rfl, rfl, ?_⟩⟩
          rw [if_neg A]
          by_cases B : two = [255, 254]
          · rw [if_pos B]
            subst B
            exact ⟨_, rfl, s3.trans su3⟩
          · rw [if_neg B, decide_eq_false B]
            refine ⟨some (.ref t), ?_, s3.trans su3⟩
            show [some (V.ref x), some (V.int p), some (V.int s0), some (V.int ((p : Int) + 2 * 0)), some (V.int (2 - 0)), some (V.ref t), none] = [some (V.ref x), some (V.int p), some (V.int s0), some (V.int (p : Int)), some (V.int 2), some (V.ref t), none]
            rw [Int.mul_zero, Int.add_zero]
            rfl
      · have e0 : s0 ≠ 0 := fun z => e (decide_eq_true (by rw [z]))
        have eg : goneF .wide row p s0 = (p, s0) := if_neg e0
        rw [eg]
        exact ⟨_, rfl, Same.refl _⟩
    · obtain ⟨y, rfl, s1⟩ := hm
      unfold readF at q
      generalize goneF .wide row p s0 = g at *
      obtain ⟨b, sb⟩ := g
      dsimp only at o12 q
      refine ⟨.ref x, rfl, .int b, rfl, _, rfl, .int b, rfl, _, _, rfl, rfl, _, rfl, x, _, rfl, s1.seq hx, fun v nv => ?_⟩
      rw [show ((b : Int) + 2) = ((b + 2 : Nat) : Int) by omega, mid_cut]
      have s2 := s1.trans (Kp.new (ps := []) (o := HO.lst (((row.drop b).take 2).map V.int)) nv).same
      have lp : ((row.drop b).take 2).length = min 2 (row.length - b) := by rw [List.length_take, List.length_drop]
      refine ⟨.ref v, rfl, v, _, rfl, .inl sq_new, rfl, _, rfl, ite2 (fun e => ?_) (fun e => ?_)⟩
      · have e0 : ((((row.drop b).take 2).map V.int).length : Int) = 0 := V.int.inj (of_decide_eq_true e)
        rw [List.length_map, lp] at e0
        refine ⟨.int p, rfl, .int s0, rfl, by show (4 : Nat) ≤ sizeLine; omega, fun z nz => ?_⟩
        exact q _ z (s2.free nz) (by rw [upd_same]; unfold tellF; rw [if_pos (show row.length ≤ b by omega)]; rfl) (s2.trans (Kp.new (ps := []) nz).same)
      · have e0 : ¬ (((((row.drop b).take 2).map V.int).length : Int) = 0) := fun z => e (decide_eq_true (by rw [z]))
        rw [List.length_map, lp] at e0
        refine ⟨.ref v, rfl, v, _, rfl, .inl sq_new, rfl, _, rfl, ite2 (fun e => ?_) (fun e => ?_)⟩
        · have e1 : ((((row.drop b).take 2).map V.int).length : Int) = 1 := V.int.inj (of_decide_eq_true e)
          rw [List.length_map, lp] at e1
          have eg : signF .wide row b sb = (0, 0) := if_pos (by omega)
          refine ⟨.int b, rfl, _, _, rfl, rfl, .int sb, rfl, by show (4 : Nat) ≤ sizeLine; omega, fun z nz => ?_⟩
          exact q _ z (s2.free nz) (by rw [upd_same, eg]; unfold tellF; rw [if_neg (show ¬ row.length ≤ b by omega), if_pos rfl]; rfl) (s2.trans (Kp.new (ps := []) nz).same)
        · have e1 : ¬ (((((row.drop b).take 2).map V.int).length : Int) = 1) := fun z => e (decide_eq_true (by rw [z]))
          rw [List.length_map, lp] at e1
          have b2 : b + 2 ≤ row.length := by omega
          rw [two_of b2] at *
          have qq : ∀ (H' : Hp) (z : Addr), H z = none → H' z = some (.tup [.str (Str.ofString "sign"), .int (if sb = 1 then row.getD b 0 + 256 * row.getD (b + 1) 0 else 256 * row.getD b 0 + row.getD (b + 1) 0), .int ((b : Int) + 2), .int sb]) → Same H H' → Q (.ref z) H' := by
            intro H' z nz ez sz'
            refine q H' z nz ?_ sz'
            rw [ez]
            unfold tellF
            rw [if_neg (show ¬ row.length ≤ b by omega)]
            by_cases h1 : sb = 1
            · rw [if_pos h1, show signF .wide row b sb = (row.getD b 0 + 256 * row.getD (b + 1) 0, 2) from (if_neg (by omega)).trans (if_pos h1)]
              rfl
            · rw [if_neg h1, show signF .wide row b sb = (256 * row.getD b 0 + row.getD (b + 1) 0, 2) from (if_neg (by omega)).trans (if_neg h1)]
              rfl
          generalize row.getD b 0 = A at *
          generalize row.getD (b + 1) 0 = B at *
          rcases o12 with rfl | rfl
          · refine ⟨.ref v, rfl, .int 1, rfl, _, _, rfl, rfl, v, _, _, .int B, rfl, rfl, sq_new, rfl, _, _, rfl, rfl, .inl (by decide), ?_⟩
            refine ⟨.ref v, rfl, .int 1, rfl, _, _, rfl, rfl, v, _, _, .int A, rfl, rfl, sq_new, rfl, _, _, rfl, rfl, ?_⟩
            refine ⟨.int b, rfl, _, _, rfl, rfl, .int 1, rfl, by show (4 : Nat) ≤ sizeLine; omega, fun z nz => ?_⟩
            exact qq _ z (s2.free nz) (by rw [upd_same, if_pos rfl, Int.add_comm A]) (s2.trans (Kp.new (ps := []) nz).same)
          · refine ⟨.ref v, rfl, .int 2, rfl, _, _, rfl, rfl, v, _, _, .int A, rfl, rfl, sq_new, rfl, _, _, rfl, rfl, .inl (by decide), ?_⟩
            refine ⟨.ref v, rfl, .int 2, rfl, _, _, rfl, rfl, v, _, _, .int B, rfl, rfl, sq_new, rfl, _, _, rfl, rfl, ?_⟩
            refine ⟨.int b, rfl, _, _, rfl, rfl, .int 2, rfl, by show (4 : Nat) ≤ sizeLine; omega, fun z nz => ?_⟩
            exact qq _ z (s2.free nz) (by rw [upd_same, if_neg (by decide)]) (s2.trans (Kp.new (ps := []) nz).same)

theorem ok_lturn (T : Tx K mg) : FnOk P w K mg base CX0 1 T.f_lturn T.fd_lturn P_lturn (spTurnL K) := by
  have sz : sizeLine = 16777216 := sizeLine_eq
  refine T.D_lturn.F.ok sc_lturn (fun vs H Q E h => ?_) (fun cdv A outer s H vs Q E hr h => ?_)
  · obtain ⟨x, row, p, s0, rfl, _⟩ := h
    rfl
  · obtain ⟨x, row, p, s0, rfl, hx, hp, lr, q⟩ := h
    refine ⟨_, (pss_cons (ps_set (i := 3) sc_lturn.nd rfl (.inl rfl) (pv 2))
      (pss_cons (ps_for PassesOwn.never rfl (pi_range2 (by rfl) T.m_range (pa_cons (pv 1) (pa_cons (pe_callB call_len_seq (by rfl) T.m_len PySem.boot_len (pa_cons (pv 0) pa_nil)) pa_nil))) (pg_name (i := 4) sc_lturn.nd rfl (.inl rfl)) (pss_cons (ps_if (pt_cmpR op_lt (pe_ix ix_list (pv 0) (pv 4) (fun _ _ => rfl)) pe_int (nomark _)) (pss_one (ps_ret (pe_tup (pa_cons pe_str (pa_cons (pe_op op_add (pe_op op_mul pe_int (pv 3)) (pe_ix ix_list (pv 0) (pv 4) (fun _ _ => rfl))) (pa_cons (pe_op op_add (pv 4) pe_int) (pa_cons (pv 3) pa_nil))))))) pss_nil)
      (pss_one (ps_set (i := 3) sc_lturn.nd rfl (.inl rfl) (pe_op op_sub (pe_ix ix_list (pv 0) (pv 4) (fun _ _ => rfl)) pe_int)))))
      (pss_one (ps_ret (pe_tup (pa_cons pe_str (pa_cons pe_int (pa_cons (pv 1) (pa_cons (pv 2) pa_nil))))))))), ?_⟩
    refine ⟨.int s0, rfl, ?_⟩
    refine ⟨.int p, rfl, .ref x, rfl, x, _, rfl, .inl hx, _, _, rfl, ⟨by omega, by omega, by rw [List.length_map]; omega, by rw [List.length_map]; omega⟩, ?_⟩
    rw [show (((row.map V.int).length : Int) - (p : Int)).toNat = row.length - p by rw [List.length_map]; omega]
    refine for_range (lo := (p : Int)) (n := row.length - p) (fun i σ H' => H' = H ∧ ∃ (pg : Int) (y : Option V), σ = [some (.ref x), some (.int p), some (.int s0), some (.int pg), y] ∧ skipT (row.drop (p + i)) (p + i) pg = skipT (row.drop p) p s0) ⟨rfl, s0, none, rfl, rfl⟩ (fun i σ H' hi hW => ?_) (fun σ H' hW => ?_)
    · obtain ⟨rfl, pg, y, rfl, inv⟩ := hW
      have hj : p + i < row.length := by omega
      have ea : atI (row.map V.int) ((p : Int) + (i : Int)) = some (.int (row[p + i])) := by
        rw [show (p : Int) + (i : Int) = ((p + i : Nat) : Int) by omega]
        exact atI_nat (by rw [List.getElem?_map, List.getElem?_eq_getElem hj]; rfl)
      have ed : row.drop (p + i) = row[p + i] :: row.drop (p + i + 1) := List.drop_eq_getElem_cons hj
      refine ⟨.ref x, rfl, _, rfl, x, _, _, .int (row[p + i]), rfl, rfl, hx, ea, _, _, rfl, rfl, _, rfl, ite2 (fun e => ?_) (fun e => ?_)⟩
      · have e1 : row[p + i] < 128 := of_decide_eq_true e
        refine ⟨.int pg, rfl, _, _, rfl, rfl, .inl (by decide), .ref x, rfl, _, rfl, x, _, _, .int (row[p + i]), rfl, rfl, hx, ea, _, _, rfl, rfl, _, rfl, _, _, rfl, rfl, .int pg, rfl, by show (4 : Nat) ≤ sizeLine; omega, fun z nz => ?_⟩
        refine q _ z nz ?_ (Kp.new (ps := []) nz).same
        have e2 : skipT (row.drop p) p s0 = (p + i, pg) := by
          rw [← inv, ed]
          show (if 128 ≤ row[p + i] then _ else _) = _
          rw [if_neg (by omega)]
        rw [upd_same]
        unfold readF
        rw [show goneF .turn row p s0 = (p + i, pg) from e2]
        unfold tellF
        rw [if_neg (show ¬ row.length ≤ p + i by omega), show signF .turn row (p + i) pg = (128 * pg + row.getD (p + i) 0, 1) from rfl, if_neg (show ¬ ((1 : Nat) = 0) by decide)]
        rw [List.getD_eq_getElem?_getD, List.getElem?_eq_getElem hj]
        rfl
      · have e1 : ¬ (row[p + i] < 128) := fun z => e (decide_eq_true z)
        refine ⟨.ref x, rfl, _, rfl, x, _, _, .int (row[p + i]), rfl, rfl, hx, ea, _, _, rfl, rfl, ?_⟩
        refine ⟨rfl, row[p + i] - 128, _, rfl, ?_⟩
        rw [← inv, ed]
        show _ = if 128 ≤ row[p + i] then _ else _
        rw [if_pos (by omega)]
        rfl
    · obtain ⟨rfl, pg, y, rfl, inv⟩ := hW
      refine ⟨.int p, rfl, .int s0, rfl, by show (4 : Nat) ≤ sizeLine; omega, fun z nz => ?_⟩
      refine q _ z nz ?_ (Kp.new (ps := []) nz).same
      rw [upd_same]
      unfold readF
      have e2 : skipT (row.drop p) p s0 = (row.length, pg) := by
        rw [← inv, show p + (row.length - p) = row.length by omega, List.drop_length]; rfl
      rw [show goneF .turn row p s0 = (row.length, pg) from e2]
      unfold tellF
      rw [if_pos (Nat.le_refl _)]
      rfl

theorem ok_lstep (T : Tx K mg) : FnOk P w K mg base CX0 3 T.f_lstep T.fd_lstep P_lstep (spStepL K) := by
  have G_lturn := ok_lturn (P := P) (w := w) (base := base) T
  have G_lsread := ok_lsread (P := P) (w := w) (base := base) T
  have G_lwide := ok_lwide (P := P) (w := w) (base := base) T
  have sz : sizeLine = 16777216 := sizeLine_eq
  refine T.D_lstep.F.ok sc_lstep (fun vs H Q E h => ?_) (fun cdv A outer s H vs Q E hr h => ?_)
  · obtain ⟨x, row, p, s0, c, rfl, _⟩ := h
    rfl
  · obtain ⟨x, row, p, s0, c, rfl, hx, nn, rs, lr, q⟩ := h
    refine ⟨_, (pss_cons (ps_if (pt_cmpR op_ge (pv 1) (pe_callB call_len_seq (by rfl) T.m_len PySem.boot_len (pa_cons (pv 0) pa_nil)) (nomark _)) (pss_one (ps_ret (pe_tup (pa_cons pe_str (pa_cons pe_int (pa_cons (pv 1) (pa_cons (pv 2) pa_nil))))))) pss_nil)
      (pss_cons (ps_if (pt_cmpR op_eq (pv 3) pe_str (nomark _)) (pss_one (ps_ret (pe_tup (pa_cons pe_str (pa_cons (pe_ix ix_list (pv 0) (pv 1) (fun _ _ => rfl)) (pa_cons (pe_op op_add (pv 1) pe_int) (pa_cons pe_int pa_nil))))))) pss_nil)
      (pss_cons (ps_if (pt_cmpR op_eq (pv 3) pe_str (nomark _)) (pss_one (ps_ret (pe_call G_lsread (hr.mono (by decide)) (by rfl) T.D_lsread.g T.D_lsread.F.kp T.bb_lsread .nil pass0 (pa_cons (pv 0) (pa_cons (pv 1) pa_nil))))) pss_nil)
      (pss_cons (ps_if (pt_cmpR op_eq (pv 3) pe_str (nomark _)) (pss_one (ps_ret (pe_call G_lwide (hr.mono (by decide)) (by rfl) T.D_lwide.g T.D_lwide.F.kp T.bb_lwide .nil pass0 (pa_cons (pv 0) (pa_cons (pv 1) (pa_cons (pv 2) pa_nil)))))) pss_nil)
      (pss_one (ps_ret (pe_call G_lturn (hr.mono (by decide)) (by rfl) T.D_lturn.g T.D_lturn.F.kp T.bb_lturn .nil pass0 (pa_cons (pv 0) (pa_cons (pv 1) (pa_cons (pv 2) pa_nil)))))))))), ?_⟩
    refine ⟨.int p, rfl, .ref x, rfl, x, _, rfl, .inl hx, _, _, rfl, rfl, _, rfl, ?_⟩
    rw [List.length_map]
    by_cases h : row.length ≤ p
    · rw [show decide ((p : Int) ≥ (row.length : Int)) = true from decide_eq_true (by omega)]
      rw [readF_end h] at q
      exact iteT ⟨.int p, rfl, .int s0, rfl, by show (4 : Nat) ≤ sizeLine; omega, fun z nz => q _ z nz upd_same (Kp.new (ps := []) nz).same⟩
    rw [show decide ((p : Int) ≥ (row.length : Int)) = false from decide_eq_false (by omega)]
    refine iteF ?_
    cases c with
    | plain =>
      have e0 : s0 = 0 := rs
      subst e0
      have ea := atI_intV (ms := row) (i := (p : Int)) (by omega) (by omega)
      rw [Int.toNat_natCast] at ea
      have er : readF .plain row p 0 = fourV (Str.ofString "sign") (row.getD p 0) (p + 1) 0 := tell_sign (by omega) (by decide)
      rw [er] at q
      refine ⟨_, rfl, rfl, _, rfl, iteTc (by decide +kernel) ?_⟩
      exact ⟨.ref x, rfl, .int p, rfl, x, _, _, _, rfl, rfl, hx, ea, .int p, rfl, _, _, rfl, rfl, by show (4 : Nat) ≤ sizeLine; omega, fun z nz => q _ z nz upd_same (Kp.new (ps := []) nz).same⟩
    | steps =>
      have e0 : s0 = 0 := rs
      subst e0
      refine ⟨_, rfl, rfl, _, rfl, iteFc (by decide +kernel) ?_⟩
      refine ⟨_, rfl, rfl, _, rfl, iteTc (by decide +kernel) ?_⟩
      exact ⟨.ref x, rfl, .int p, rfl, x, row, p, rfl, hx, by omega, nn, lr, q⟩
    | wide =>
      obtain ⟨v0, v2⟩ := (show 0 ≤ s0 ∧ s0 ≤ 2 from rs)
      refine ⟨_, rfl, rfl, _, rfl, iteFc (by decide +kernel) ?_⟩
      refine ⟨_, rfl, rfl, _, rfl, iteFc (by decide +kernel) ?_⟩
      refine ⟨_, rfl, rfl, _, rfl, iteTc (by decide +kernel) ?_⟩
      exact ⟨.ref x, rfl, .int p, rfl, .int s0, rfl, x, row, p, s0, rfl, hx, by omega, v0, v2, q⟩
    | turn =>
      refine ⟨_, rfl, rfl, _, rfl, iteFc (by decide +kernel) ?_⟩
      refine ⟨_, rfl, rfl, _, rfl, iteFc (by decide +kernel) ?_⟩
      refine ⟨_, rfl, rfl, _, rfl, iteFc (by decide +kernel) ?_⟩
      exact ⟨.ref x, rfl, .int p, rfl, .int s0, rfl, x, row, p, s0, rfl, hx, by omega, lr, q⟩

theorem ok_mgo (T : Tx K mg) : FnOk P w K mg base CX0 5 T.f_mgo T.fd_mgo P_mgo (spNo3) := by
  have G_lead := ok_lead (P := P) (w := w) (base := base) T
  have G_stat := ok_stat (P := P) (w := w) (base := base) T
  have sz : sizeLine = 16777216 := sizeLine_eq
  refine T.D_mgo.F.ok sc_mgo (fun vs H Q E h => ?_) (fun cdv A outer s H vs Q E hr h => ?_)
  · obtain ⟨a, b, c, rfl, _⟩ := h
    rfl
  · obtain ⟨a, b, c, rfl, h⟩ := h
    refine ⟨_, (pss_cons (ps_if (pt_cmpR op_eq (pv 2) (pe_glob (v := .str (Str.ofString "wide")) (by rfl) T.c_WIDE ⟨_, rfl⟩) (nomark _)) (pss_one (ps_ret pe_bl)) pss_nil)
      (pss_cons (ps_if (pt_cmpR op_ne (pv 2) (pe_glob (v := .str (Str.ofString "steps")) (by rfl) T.c_STEPS ⟨_, rfl⟩) (nomark _)) (pss_one (ps_ret pe_bl)) pss_nil)
      (pss_cons (ps_set (i := 3) sc_mgo.nd rfl (.inl rfl) (pe_ix ix_tup (pe_call G_lead (hr.mono (by decide)) (by rfl) T.D_lead.g T.D_lead.F.kp T.bb_lead .nil pass0 (pa_cons (pe_ix ix_list (pv 0) (pv 1) (fun _ _ => rfl)) pa_nil)) pe_int (fun _ _ => rfl)))
      (pss_cons (ps_set (i := 4) sc_mgo.nd rfl (.inl rfl) (pe_op op_sub (pv 3) (pe_op op_sub (pe_callB call_len_seq (by rfl) T.m_len PySem.boot_len (pa_cons (pv 0) pa_nil)) (pv 1))))
      (pss_cons (ps_if (pt_cmpR op_le (pv 4) pe_int (nomark _)) (pss_one (ps_ret pe_bl)) pss_nil)
      (pss_one (ps_ret (pe_cmpR op_gt (pe_ix ix_tup (pe_call G_stat (hr.mono (by decide)) (by rfl) T.D_stat.g T.D_stat.F.kp T.bb_stat .nil pass0 (pa_cons (pe_op op_cat (pe_slice sl_list (pv 0) (po_some (pv 1)) po_none) (pe_op op_rep (pe_lst (pa_cons pe_int pa_nil)) (pv 4))) (pa_cons pe_int pa_nil))) pe_int (fun _ _ => rfl)) pe_int (nomark _))))))))), ?_⟩
    exact h.elim

theorem ok_eline (T : Tx K mg) : FnOk P w K mg base CX0 1 T.f_eline T.fd_eline P_eline (spNo4) := by
  have sz : sizeLine = 16777216 := sizeLine_eq
  refine T.D_eline.F.ok sc_eline (fun vs H Q E h => ?_) (fun cdv A outer s H vs Q E hr h => ?_)
  · obtain ⟨a, b, c, d, rfl, _⟩ := h
    rfl
  · obtain ⟨a, b, c, d, rfl, h⟩ := h
    refine ⟨_, (pss_cons (ps_if (pt_cmpR op_eq (pv 3) (pe_glob (v := .str (Str.ofString "return")) (by rfl) T.c_RETURN ⟨_, rfl⟩) (nomark _)) (pss_one (ps_ret (pe_cmpR op_eq (pv 0) (pe_glob (v := .int 13) (by rfl) T.c_LINE_RETURN ⟨_, rfl⟩) (nomark _)))) pss_nil)
      (pss_cons (ps_if (pt_cmpR op_eq (pv 3) (pe_glob (v := .str (Str.ofString "both")) (by rfl) T.c_BOTH ⟨_, rfl⟩) (nomark _)) (pss_one (ps_ret (pe_and (pe_cmpR op_eq (pv 0) (pe_glob (v := .int 10) (by rfl) T.c_LINE_FEED ⟨_, rfl⟩) (nomark _)) (pe_one (pe_cmpR op_eq (pv 1) (pe_glob (v := .int 13) (by rfl) T.c_LINE_RETURN ⟨_, rfl⟩) (nomark _)))))) pss_nil)
      (pss_cons (ps_if (PW.pt (pw_and (pt_cmpR op_eq (pv 3) (pe_glob (v := .str (Str.ofString "kept")) (by rfl) T.c_KEPT ⟨_, rfl⟩) (nomark _)) (pw_and1 (pt_cmpR op_eq (pv 0) (pe_glob (v := .int 13) (by rfl) T.c_LINE_RETURN ⟨_, rfl⟩) (nomark _))))) (pss_one (ps_ret (pe_not (pv 2)))) pss_nil)
      (pss_one (ps_ret (pe_cmpR op_eq (pv 0) (pe_glob (v := .int 10) (by rfl) T.c_LINE_FEED ⟨_, rfl⟩) (nomark _))))))), ?_⟩
    exact h.elim

theorem ok_sinit (T : Tx K mg) : FnOk P w K mg base CX0 1 T.f_sinit T.fd_sinit P_sinit (spSInit T.C_Scan) := by
  have sz : sizeLine = 16777216 := sizeLine_eq
  refine T.D_sinit.F.ok sc_sinit (fun vs H Q E h => ?_) (fun cdv A outer s H vs Q E hr h => ?_)
  · obtain ⟨o, dx, p, s0, c, z, st, rfl, _⟩ := h
    rfl
  · obtain ⟨o, dx, p, s0, c, z, st, rfl, ho, q⟩ := h
    refine ⟨_, (pss_cons (ps_fld (pv 0) (pv 1) rfl)
      (pss_cons (ps_fld (pv 0) (pv 2) rfl)
      (pss_cons (ps_fld (pv 0) (pv 3) rfl)
      (pss_cons (ps_fld (pv 0) (pv 4) rfl)
      (pss_cons (ps_fld (pv 0) (pv 5) rfl)
      (pss_cons (ps_fld (pv 0) (pv 6) rfl)
      (pss_cons (ps_fld (pv 0) (pv 7) rfl)
      (pss_cons (ps_fld (pv 0) (pe_lst pa_nil) rfl)
      (pss_cons (ps_fld (pv 0) pe_non rfl)
      (pss_one (ps_fld (pv 0) pe_bl rfl))))))))))), ?_⟩
    refine ⟨.int p, rfl, .ref o, rfl, o, T.C_Scan, dx, _, rfl, ho, T.cl_Scan, T.n_Scan_spot, by show 0 < 1000; decide, ?_⟩
    refine ⟨.int s0, rfl, .ref o, rfl, o, T.C_Scan, dx, _, rfl, upd_same, T.cl_Scan, T.n_Scan_state, by show 1 < 1000; decide, ?_⟩
    rw [Sip.upd_upd]
    refine ⟨.str c.w, rfl, .ref o, rfl, o, T.C_Scan, dx, _, rfl, upd_same, T.cl_Scan, T.n_Scan_code, by show 2 < 1000; decide, ?_⟩
    rw [Sip.upd_upd]
    refine ⟨.str z, rfl, .ref o, rfl, o, T.C_Scan, dx, _, rfl, upd_same, T.cl_Scan, T.n_Scan_ends, by show 3 < 1000; decide, ?_⟩
    rw [Sip.upd_upd]
    refine ⟨.str (wrW st), rfl, .ref o, rfl, o, T.C_Scan, dx, _, rfl, upd_same, T.cl_Scan, T.n_Scan_wrong, by show 4 < 1000; decide, ?_⟩
    rw [Sip.upd_upd]
    refine ⟨.non, rfl, .ref o, rfl, o, T.C_Scan, dx, _, rfl, upd_same, T.cl_Scan, T.n_Scan_most, by show 5 < 1000; decide, ?_⟩
    rw [Sip.upd_upd]
    refine ⟨.bl false, rfl, .ref o, rfl, o, T.C_Scan, dx, _, rfl, upd_same, T.cl_Scan, T.n_Scan_by_line, by show 6 < 1000; decide, ?_⟩
    rw [Sip.upd_upd]
    refine ⟨Nat.zero_le _, fun l nl => ?_⟩
    have ol : o ≠ l := ne_of_none upd_same nl
    have nlH : H l = none := by rw [upd_ne ol.symm] at nl; exact nl
    refine ⟨.ref o, rfl, o, T.C_Scan, dx, _, rfl, by rw [upd_ne ol]; exact upd_same, T.cl_Scan, T.n_Scan_found, by show 7 < 1000; decide, ?_⟩
    refine ⟨.ref o, rfl, o, T.C_Scan, dx, _, rfl, upd_same, T.cl_Scan, T.n_Scan_bad, by show 8 < 1000; decide, ?_⟩
    rw [Sip.upd_upd]
    refine ⟨.ref o, rfl, o, T.C_Scan, dx, _, rfl, upd_same, T.cl_Scan, T.n_Scan_full, by show 9 < 1000; decide, ?_⟩
    rw [Sip.upd_upd]
    refine q _ l nlH ⟨?_, by rw [upd_ne ol.symm]; exact upd_same, trivial, Nat.zero_le _⟩ (((Kp.at (by simp)).trans (Kp.new nl)).trans (Kp.at (by simp)))
    rw [upd_same]
    congr 2

theorem ok_note (T : Tx K mg) : FnOk P w K mg base CX0 2 T.f_note T.fd_note P_note (spNote T.C_Scan) := by
  have G_eline := ok_eline (P := P) (w := w) (base := base) T
  have sz : sizeLine = 16777216 := sizeLine_eq
  refine T.D_note.F.ok sc_note (fun vs H Q E h => ?_) (fun cdv A outer s H vs Q E hr h => ?_)
  · obtain ⟨o, dx, l, p, s0, c, z, st, b, ts, xs, x, ff, rfl, _⟩ := h
    rfl
  · obtain ⟨o, dx, l, p, s0, c, z, st, b, ts, xs, x, ff, rfl, hs, lx, q⟩ := h
    refine ⟨_, (C8.pss_cut (ps_set (i := 5) sc_note.nd rfl (.inl rfl) (pe_ifExp (pt_truth (pe_fld (pv 0) rfl) (by intro _; rfl)) (pe_ix ix_tup (pe_ix ix_list (pe_fld (pv 0) rfl) (pe_un un_neg pe_int) (fun _ _ => rfl)) pe_int (fun _ _ => rfl)) pe_non))
      (pss_cons (ps_expr (pe_bm PySem.F.plainAttrs_list PySem.F.slot_list_append PySem.F.type_list_append mt_append (pe_fld (pv 0) rfl) (pa_cons (pe_tup (pa_cons (pv 1) (pa_cons (pv 2) (pa_cons (pv 3) pa_nil)))) pa_nil)))
      (pss_cons (ps_fld (pv 0) (pv 2) rfl)
      (pss_cons (ps_fld (pv 0) (pv 3) rfl)
      (pss_cons (ps_set (i := 6) sc_note.nd rfl (.inl rfl) (pe_and (pe_fld (pv 0) rfl) (pe_one (pe_call G_eline (hr.mono (by decide)) (by rfl) T.D_eline.g T.D_eline.F.kp T.bb_eline .nil pass0 (pa_cons (pv 1) (pa_cons (pv 5) (pa_cons (pv 4) (pa_cons (pe_fld (pv 0) rfl) pa_nil))))))))
      (pss_one (ps_fld (pv 0) (pe_or (pv 6) (pe_one (pe_cmpR op_eq (pe_callB call_len_seq (by rfl) T.m_len PySem.boot_len (pa_cons (pe_fld (pv 0) rfl) pa_nil)) (pe_fld (pv 0) rfl) (nomark _)))) rfl))))))), ?_⟩
    have ol := hs.ol
    have tl : ts.length = xs.length := hs.its.len
    refine ⟨fun σ' H' => H' = H ∧ ∃ y : V, σ' = [some (.ref o), some (.int x.1), some (.int x.2.1), some (.int x.2.2), some (.bl ff), some y, none], ?_, fun σ' H' hm => ?_⟩
    · refine ⟨.ref o, rfl, o, T.C_Scan, dx, _, _, rfl, hs.ins, T.cl_Scan, T.n_Scan_found, sfs_found _ _ _ _ _ _ _, _, .inl ⟨_, sq_at hs.lst, rfl⟩, ite2 (fun e => ?_) (fun e => ⟨rfl, _, rfl⟩)⟩
      have ne : ts ≠ [] := fun z => by subst z; cases e
      obtain ⟨t, m, ea⟩ := at_last ne
      obtain ⟨r, er⟩ := hs.its.mem m
      exact ⟨.ref o, rfl, o, T.C_Scan, dx, _, _, rfl, hs.ins, T.cl_Scan, T.n_Scan_found, sfs_found _ _ _ _ _ _ _, _, rfl, l, _, _, .ref t, rfl, rfl, sq_at hs.lst, ea, t, _, _, .int r.1, rfl, rfl, .inl (.inl er), rfl, rfl, _, rfl⟩
    obtain ⟨rfl, y, rfl⟩ := hm
    refine ⟨.ref o, rfl, o, T.C_Scan, dx, _, _, rfl, hs.ins, T.cl_Scan, T.n_Scan_found, sfs_found _ _ _ _ _ _ _, .inl ⟨rfl, _, sq_at hs.lst⟩, .int x.1, rfl, .int x.2.1, rfl, .int x.2.2, rfl, by show (3 : Nat) ≤ sizeLine; omega, fun t nt => ?_⟩
    have lt : l ≠ t := ne_of_none hs.lst nt
    have ot : o ≠ t := ne_of_none hs.ins nt
    refine ⟨l, _, _, rfl, rfl, by rw [upd_ne lt]; exact hs.lst, by rw [List.length_map]; omega, ?_⟩
    refine ⟨.int x.2.1, rfl, .ref o, rfl, o, T.C_Scan, dx, _, rfl, by rw [upd_ne ol, upd_ne ot]; exact hs.ins, T.cl_Scan, T.n_Scan_spot, sfs_few _ _ _ _ _ _ _, ?_⟩
    rw [sfs_put_spot]
    refine ⟨.int x.2.2, rfl, .ref o, rfl, o, T.C_Scan, dx, _, rfl, upd_same, T.cl_Scan, T.n_Scan_state, sfs_few _ _ _ _ _ _ _, ?_⟩
    rw [sfs_put_state, Sip.upd_upd]
    refine ⟨.ref o, rfl, o, T.C_Scan, dx, _, _, rfl, upd_same, T.cl_Scan, T.n_Scan_by_line, sfs_by_line _ _ _ _ _ _ _, false, rfl, iteF ⟨.bl false, rfl, false, rfl, iteF ⟨.ref o, rfl, o, T.C_Scan, dx, _, _, rfl, upd_same, T.cl_Scan, T.n_Scan_found, sfs_found _ _ _ _ _ _ _, l, _, rfl, .inl (sq_at (by rw [upd_ne ol.symm]; exact upd_same)), .ref o, rfl, o, T.C_Scan, dx, _, _, rfl, upd_same, T.cl_Scan, T.n_Scan_most, sfs_most _ _ _ _ _ _ _, rfl, .ref o, rfl, o, T.C_Scan, dx, _, rfl, upd_same, T.cl_Scan, T.n_Scan_full, sfs_few _ _ _ _ _ _ _, ?_⟩⟩⟩
    rw [show decide (V.int ((List.map V.ref ts ++ [V.ref t]).length : Nat) = V.non) = false from decide_eq_false (fun z => nomatch z), sfs_put_full, Sip.upd_upd]
    have nt' : t ∉ ts := hs.its.notin (fun vs e => by rw [nt] at e; cases e)
    have nl' : l ∉ ts := hs.its.notin (fun vs e => by rw [hs.lst] at e; cases e)
    have no' : o ∉ ts := hs.its.notin (fun vs e => by rw [hs.ins] at e; cases e)
    refine q _ t nt ⟨upd_same, by rw [upd_ne ol.symm, upd_same, List.map_append]; rfl, Its.snoc (by rw [upd_ne ot.symm, upd_ne lt.symm]; exact upd_same) (Its.put no' (Its.put nl' (Its.put nt' hs.its))), by rw [List.length_append]; exact lx⟩ ?_
    exact ((Kp.new nt).trans (Kp.at (by simp))).trans (Kp.at (by simp))

theorem ok_looks (T : Tx K mg) : FnOk P w K mg base CX0 1 T.f_looks T.fd_looks P_looks (spLooks T.C_Scan) := by
  have sz : sizeLine = 16777216 := sizeLine_eq
  refine T.D_looks.F.ok sc_looks (fun vs H Q E h => ?_) (fun cdv A outer s H vs Q E hr h => ?_)
  · obtain ⟨o, dx, l, p, s0, c, z, st, b, ts, xs, rfl, _⟩ := h
    rfl
  · obtain ⟨o, dx, l, p, s0, c, z, st, b, ts, xs, rfl, hs, q⟩ := h
    refine ⟨_, (pss_cons (ps_if (pt_cmpR op_eq (pe_fld (pv 0) rfl) (pe_glob (v := .str (Str.ofString "any")) (by rfl) T.c_ANY ⟨_, rfl⟩) (nomark _)) (pss_one (ps_ret pe_bl)) pss_nil)
      (pss_cons (ps_set (i := 1) sc_looks.nd rfl (.inl rfl) (pe_and (pe_cmpR op_notN (pe_fld (pv 0) rfl) pe_non (nomark _)) (pe_one (pe_cmpR op_eq (pe_op op_add (pe_callB call_len_seq (by rfl) T.m_len PySem.boot_len (pa_cons (pe_fld (pv 0) rfl) pa_nil)) pe_int) (pe_fld (pv 0) rfl) (nomark _)))))
      (pss_one (ps_ret (pe_and (pe_fld (pv 0) rfl) (pe_and (pe_cmpR op_in_seq (pe_fld (pv 0) rfl) (pe_tup (pa_cons (pe_glob (v := .str (Str.ofString "kept")) (by rfl) T.c_KEPT ⟨_, rfl⟩) (pa_cons (pe_glob (v := .str (Str.ofString "both")) (by rfl) T.c_BOTH ⟨_, rfl⟩) pa_nil))) rfl) (pe_one (pe_not (pv 1))))))))), ?_⟩
    refine ⟨.ref o, rfl, o, T.C_Scan, dx, _, _, rfl, hs.ins, T.cl_Scan, T.n_Scan_ends, sfs_ends _ _ _ _ _ _ _, rfl, _, rfl, ite2 (fun e => ?_) (fun e => ?_)⟩
    · have e1 : z = wA := V.str.inj (of_decide_eq_true e)
      rw [decide_eq_true e1] at q
      exact q _ (Same.refl _)
    have e1 : z ≠ wA := fun y => e (decide_eq_true (congrArg V.str y))
    rw [decide_eq_false e1] at q
    refine ⟨.ref o, rfl, o, T.C_Scan, dx, _, _, rfl, hs.ins, T.cl_Scan, T.n_Scan_most, sfs_most _ _ _ _ _ _ _, rfl, _, rfl, iteF ?_⟩
    exact ⟨.ref o, rfl, o, T.C_Scan, dx, _, _, rfl, hs.ins, T.cl_Scan, T.n_Scan_by_line, sfs_by_line _ _ _ _ _ _ _, false, rfl, iteF (q _ (Same.refl _))⟩

theorem ok_pwrong (T : Tx K mg) : FnOk P w K mg base CX0 3 T.f_pwrong T.fd_pwrong P_pwrong (spPWrong T.C_Scan) := by
  have G_note := ok_note (P := P) (w := w) (base := base) T
  have sz : sizeLine = 16777216 := sizeLine_eq
  refine T.D_pwrong.F.ok sc_pwrong (fun vs H Q E h => ?_) (fun cdv A outer s H vs Q E hr h => ?_)
  · obtain ⟨o, dx, l, p, s0, c, z, st, b, ts, xs, p', s', rfl, _⟩ := h
    rfl
  · obtain ⟨o, dx, l, p, s0, c, z, st, b, ts, xs, p', s', rfl, hs, lx, p0, q1, q2⟩ := h
    refine ⟨_, (pss_cons (ps_if (pt_cmpR op_eq (pe_fld (pv 0) rfl) (pe_glob (v := .str (Str.ofString "strict")) (by rfl) T.c_STRICT ⟨_, rfl⟩) (nomark _)) (pss_cons (ps_fld (pv 0) (pe_op op_sub (pv 1) pe_int) rfl)
      (pss_one (ps_ret pe_bl))) pss_nil)
      (pss_cons (ps_expr (pe_meth (pv 0) T.cl_Scan T.D_note.m G_note (hr.mono (by decide)) T.bb_note .nil pass0 (pa_cons (pe_glob (v := .int 65533) (by rfl) T.c_WRONG_SIGN ⟨_, rfl⟩) (pa_cons (pv 1) (pa_cons (pv 2) (pa_cons pe_bl pa_nil))))))
      (pss_one (ps_ret pe_bl)))), ?_⟩
    have ol := hs.ol
    cases st with
    | true =>
      refine ⟨.ref o, rfl, o, T.C_Scan, dx, _, _, rfl, hs.ins, T.cl_Scan, T.n_Scan_wrong, sfs_wrong _ _ _ _ _ _ _, rfl, _, rfl, iteTc (by decide +kernel) ?_⟩
      refine ⟨.int p', rfl, _, _, rfl, rfl, .ref o, rfl, o, T.C_Scan, dx, _, rfl, hs.ins, T.cl_Scan, T.n_Scan_bad, sfs_few _ _ _ _ _ _ _, ?_⟩
      rw [show ((fun i j : Int => V.int (i - j)) (p' : Int) 1) = V.int ((p' - 1 : Nat) : Int) from congrArg V.int (by omega), sfs_put_bad]
      have no' : o ∉ ts := hs.its.notin (fun vs e => by rw [hs.ins] at e; cases e)
      exact q1 rfl _ ⟨upd_same, by rw [upd_ne ol.symm]; exact hs.lst, Its.put no' hs.its, hs.len⟩ (Kp.at (by simp))
    | false =>
      refine ⟨.ref o, rfl, o, T.C_Scan, dx, _, _, rfl, hs.ins, T.cl_Scan, T.n_Scan_wrong, sfs_wrong _ _ _ _ _ _ _, rfl, _, rfl, iteFc (by decide +kernel) ?_⟩
      exact ⟨.ref o, rfl, o, dx, _, rfl, hs.ins, sfs_no _ _ _ _ _ _ _ "note_item" (by decide +kernel), .int p', rfl, .int s', rfl, o, dx, l, p, s0, c, z, false, b, ts, xs, (65533, p', s'), false, rfl, hs, lx, fun H' t nt h k => q2 rfl H' t nt h k⟩

theorem ok_sure (T : Tx K mg) : FnOk P w K mg base CX0 6 T.f_sure T.fd_sure P_sure (spSure K) := by
  have G_rsign := ok_rsign (P := P) (w := w) (base := base) T
  have G_mgo := ok_mgo (P := P) (w := w) (base := base) T
  have sz : sizeLine = 16777216 := sizeLine_eq
  refine T.D_sure.F.ok sc_sure (fun vs H Q E h => ?_) (fun cdv A outer s H vs Q E hr h => ?_)
  · obtain ⟨a, row, p, s0, c, rfl, _⟩ := h
    rfl
  · obtain ⟨a, row, p, s0, c, rfl, hA, q⟩ := h
    refine ⟨_, (pss_cons (ps_asg (pe_callN G_rsign (hr.mono (by decide)) (by rfl) T.D_rsign.g T.D_rsign.F.kp T.kb_rsign_3_code passL (pa_cons (pv 0) (pa_cons (pv 1) (pa_cons (pv 2) pa_nil))) (pk_cons (pv 3) pk_nil)) (pg_tup rfl (pgs_cons (pg_name (i := 5) sc_sure.nd rfl (.inl rfl)) (pgs_cons (pg_name (i := 6) sc_sure.nd rfl (.inl rfl)) (pgs_cons (pg_name (i := 7) sc_sure.nd rfl (.inl rfl)) (pgs_cons (pg_name (i := 8) sc_sure.nd rfl (.inl rfl)) pgs_nil))))))
      (pss_cons (ps_if (PW.pt (pw_and (pt_not (pt_val (pv 4))) (pw_and1 (PW.pt (pw_or (pt_cmpR op_eq (pv 5) pe_str (nomark _)) (pw_or1 (PW.pt (pw_and (pt_cmpR op_eq (pv 5) pe_str (nomark _)) (pw_and1 (pt_val (pe_call G_mgo (hr.mono (by decide)) (by rfl) T.D_mgo.g T.D_mgo.F.kp T.bb_mgo .nil pass0 (pa_cons (pv 0) (pa_cons (pe_op op_sub (pv 7) pe_int) (pa_cons (pv 3) pa_nil)))))))))))))) (pss_one (ps_ret (pe_tup (pa_cons pe_str (pa_cons pe_int (pa_cons (pv 1) (pa_cons (pv 2) pa_nil))))))) pss_nil)
      (pss_one (ps_ret (pe_tup (pa_cons (pv 5) (pa_cons (pv 6) (pa_cons (pv 7) (pa_cons (pv 8) pa_nil))))))))), ?_⟩
    refine ⟨.ref a, rfl, .int p, rfl, .int s0, rfl, .str c.w, rfl, rfl, rfl, a, row, p, s0, c.w, rfl, hA, fun c' ez H1 t nt et s1 => ?_, fun nc => absurd ⟨c, rfl⟩ nc⟩
    obtain rfl := w_inj ez
    rw [readF_rd] at et
    have e4 : ∃ w g p' s', rdV p s0 (rdF c' row p s0) = fourV w g p' s' := by
      cases rdF c' row p s0 with
      | fin => exact ⟨_, _, _, _, rfl⟩
      | sg g p' s' => exact ⟨_, _, _, _, rfl⟩
      | wr p' s' => exact ⟨_, _, _, _, rfl⟩
    obtain ⟨w, g, p', s', e4⟩ := e4
    rw [e4] at et q
    refine ⟨t, _, rfl, .inl (.inl et), rfl, ?_⟩
    refine ⟨_, _, rfl, _, _, rfl, _, _, rfl, _, _, rfl, rfl, ?_⟩
    refine ⟨_, rfl, _, rfl, iteF (iteF ?_)⟩
    refine ⟨.str w, rfl, .int g, rfl, .int p', rfl, .int s', rfl, by show (4 : Nat) ≤ sizeLine; omega, fun z nz => ?_⟩
    exact q _ z (s1.free nz) upd_same (s1.trans (Kp.new (ps := []) nz).same)

theorem ok_fone (T : Tx K mg) : FnOk P w K mg base CX0 7 T.f_fone T.fd_fone P_fone (spFone K T.C_Scan) := by
  have G_sure := ok_sure (P := P) (w := w) (base := base) T
  have G_pwrong := ok_pwrong (P := P) (w := w) (base := base) T
  have G_note := ok_note (P := P) (w := w) (base := base) T
  have G_looks := ok_looks (P := P) (w := w) (base := base) T
  have sz : sizeLine = 16777216 := sizeLine_eq
  refine T.D_fone.F.ok sc_fone (fun vs H Q E h => ?_) (fun cdv A outer s H vs Q E hr h => ?_)
  · obtain ⟨o, dx, l, a, p, s0, c, z, st, b, ts, xs, row, rfl, _⟩ := h
    rfl
  · obtain ⟨o, dx, l, a, p, s0, c, z, st, b, ts, xs, row, rfl, hs, lx, hA, q1, q2⟩ := h
    refine ⟨_, (pss_cons (ps_asg (pe_call G_sure (hr.mono (by decide)) (by rfl) T.D_sure.g T.D_sure.F.kp T.bb_sure .nil pass0 (pa_cons (pv 1) (pa_cons (pe_fld (pv 0) rfl) (pa_cons (pe_fld (pv 0) rfl) (pa_cons (pe_fld (pv 0) rfl) (pa_cons (pv 2) pa_nil)))))) (pg_tup rfl (pgs_cons (pg_name (i := 3) sc_fone.nd rfl (.inl rfl)) (pgs_cons (pg_name (i := 4) sc_fone.nd rfl (.inl rfl)) (pgs_cons (pg_name (i := 5) sc_fone.nd rfl (.inl rfl)) (pgs_cons (pg_name (i := 6) sc_fone.nd rfl (.inl rfl)) pgs_nil))))))
      (pss_cons (ps_if (pt_cmpR op_eq (pv 3) pe_str (nomark _)) (pss_one (ps_ret (pe_meth (pv 0) T.cl_Scan T.D_pwrong.m G_pwrong (hr.mono (by decide)) T.bb_pwrong .nil pass0 (pa_cons (pv 5) (pa_cons (pv 6) pa_nil))))) pss_nil)
      (pss_cons (ps_if (pt_cmpR op_ne (pv 3) pe_str (nomark _)) (pss_one (ps_ret pe_bl)) pss_nil)
      (pss_cons (ps_if (PW.pt (pw_or (pt_cmpR op_ne (pv 4) (pe_glob (v := .int 13) (by rfl) T.c_LINE_RETURN ⟨_, rfl⟩) (nomark _)) (pw_or1 (pt_not (pt_val (pe_meth0 (pv 0) T.cl_Scan T.D_looks.m G_looks (hr.mono (by decide)) T.bb_looks .nil pass0)))))) (pss_cons (ps_expr (pe_meth (pv 0) T.cl_Scan T.D_note.m G_note (hr.mono (by decide)) T.bb_note .nil pass0 (pa_cons (pv 4) (pa_cons (pv 5) (pa_cons (pv 6) (pa_cons pe_bl pa_nil))))))
      (pss_one (ps_ret pe_bl))) pss_nil)
      (pss_cons (ps_asg (pe_call G_sure (hr.mono (by decide)) (by rfl) T.D_sure.g T.D_sure.F.kp T.bb_sure .nil pass0 (pa_cons (pv 1) (pa_cons (pv 5) (pa_cons (pv 6) (pa_cons (pe_fld (pv 0) rfl) (pa_cons (pv 2) pa_nil)))))) (pg_tup rfl (pgs_cons (pg_name (i := 3) sc_fone.nd rfl (.inl rfl)) (pgs_cons (pg_name (i := 7) sc_fone.nd rfl (.inl rfl)) (pgs_cons (pg_name (i := 8) sc_fone.nd rfl (.inl rfl)) (pgs_cons (pg_name (i := 9) sc_fone.nd rfl (.inl rfl)) pgs_nil))))))
      (pss_cons (ps_if (pt_cmpR op_eq (pv 3) pe_str (nomark _)) (pss_one (ps_ret pe_bl)) pss_nil)
      (C8.pss_cut (ps_set (i := 10) sc_fone.nd rfl (.inl rfl) (pe_and (pe_cmpR op_eq (pv 3) pe_str (nomark _)) (pe_one (pe_cmpR op_eq (pv 7) (pe_glob (v := .int 10) (by rfl) T.c_LINE_FEED ⟨_, rfl⟩) (nomark _)))))
      (C8.pss_cut (ps_if (pt_cmpR op_ne (pe_fld (pv 0) rfl) (pe_glob (v := .str (Str.ofString "any")) (by rfl) T.c_ANY ⟨_, rfl⟩) (nomark _)) (pss_one (ps_expr (pe_meth (pv 0) T.cl_Scan T.D_note.m G_note (hr.mono (by decide)) T.bb_note .nil pass0 (pa_cons (pv 4) (pa_cons (pv 5) (pa_cons (pv 6) (pa_cons (pv 10) pa_nil))))))) (pss_one (ps_if (pt_val (pv 10)) (pss_one (ps_expr (pe_meth (pv 0) T.cl_Scan T.D_note.m G_note (hr.mono (by decide)) T.bb_note .nil pass0 (pa_cons (pe_glob (v := .int 10) (by rfl) T.c_LINE_FEED ⟨_, rfl⟩) (pa_cons (pv 8) (pa_cons (pv 9) (pa_cons pe_bl pa_nil))))))) (pss_one (ps_expr (pe_meth (pv 0) T.cl_Scan T.D_note.m G_note (hr.mono (by decide)) T.bb_note .nil pass0 (pa_cons (pe_glob (v := .int 10) (by rfl) T.c_LINE_FEED ⟨_, rfl⟩) (pa_cons (pv 5) (pa_cons (pv 6) (pa_cons pe_bl pa_nil))))))))))
      (pss_one (ps_ret pe_bl)))))))))), ?_⟩
    refine ⟨.ref a, rfl, .ref o, rfl, o, T.C_Scan, dx, _, _, rfl, hs.ins, T.cl_Scan, T.n_Scan_spot, sfs_spot _ _ _ _ _ _ _, .ref o, rfl, o, T.C_Scan, dx, _, _, rfl, hs.ins, T.cl_Scan, T.n_Scan_state, sfs_state _ _ _ _ _ _ _, .ref o, rfl, o, T.C_Scan, dx, _, _, rfl, hs.ins, T.cl_Scan, T.n_Scan_code, sfs_code _ _ _ _ _ _ _, .bl true, rfl, a, row, p, s0, c, rfl, hA, fun H1 t nt et s1 => ?_⟩
    have hs1 := hs.same s1
    have four : ∀ (w : Str) (g : Int) (p' : Nat) (s' : Int), rdV p s0 (rdF c row p s0) = fourV w g p' s' → H1 t = some (.tup (fourV w g p' s')) := fun w g p' s' e => by rw [← e]; exact et
    cases e : rdF c row p s0 with
    | fin =>
      refine ⟨t, _, rfl, .inl (.inl (four wEnd 0 p s0 (by rw [e]; rfl))), rfl, _, _, rfl, _, _, rfl, _, _, rfl, _, _, rfl, rfl, ?_⟩
      refine ⟨_, rfl, rfl, _, rfl, iteFc (by decide +kernel) ?_⟩
      refine ⟨_, rfl, rfl, _, rfl, iteTc (by decide +kernel) ?_⟩
      refine q1 (by unfold oneF; rw [e]) _ ?_ (Kp.of s1)
      rw [show oneB c row st p s0 b = b by unfold oneB; rw [e]]
      exact hs1
    | wr p' s' =>
      obtain ⟨_, pp, _⟩ := rd_wr e
      refine ⟨t, _, rfl, .inl (.inl (four wWrong 0 p' s' (by rw [e]; rfl))), rfl, _, _, rfl, _, _, rfl, _, _, rfl, _, _, rfl, rfl, ?_⟩
      refine ⟨_, rfl, rfl, _, rfl, iteTc (by decide +kernel) ?_⟩
      refine ⟨.ref o, rfl, o, dx, _, rfl, hs1.ins, sfs_no _ _ _ _ _ _ _ "pass_wrong" (by decide +kernel), .int p', rfl, .int s', rfl, o, dx, l, p, s0, c, z, st, b, ts, xs, p', s', rfl, hs1, lx, by omega, fun es H2 h2 k2 => ?_, fun es H2 t2 nt2 h2 k2 => ?_⟩
      · subst es
        refine q1 (by unfold oneF; rw [e]; rfl) _ ?_ ((Kp.of s1).trans k2)
        rw [show oneB c row true p s0 b = .int (p' - 1 : Nat) by unfold oneB; rw [e]; rfl]
        exact h2
      · subst es
        exact q2 (65533, p', s') (by unfold oneF; rw [e]; rfl) _ t2 (s1.free nt2) h2 ((Kp.of s1).trans k2)
    | sg g p' s' =>
      refine ⟨t, _, rfl, .inl (.inl (four wSign g p' s' (by rw [e]; rfl))), rfl, _, _, rfl, _, _, rfl, _, _, rfl, _, _, rfl, rfl, ?_⟩
      refine ⟨_, rfl, rfl, _, rfl, iteFc (by decide +kernel) ?_⟩
      refine ⟨_, rfl, rfl, _, rfl, iteFc (by decide +kernel) ?_⟩
      have plain : ∀ (H2 : Hp), Same H H2 → ScanAt T.C_Scan H2 o dx l p s0 c z st b ts xs → oneF c row (decide (z = wA)) st p s0 = some (g, p', s') → ∀ (H3 : Hp) (t3 : Addr), H2 t3 = none → ScanAt T.C_Scan H3 o dx l p' s' c z st b (ts ++ [t3]) (xs ++ [(g, p', s')]) → Kp [o, l] H2 H3 → Q (.bl true) H3 := fun H2 s2 h2 eo H3 t3 nt3 h3 k3 =>
        q2 (g, p', s') eo H3 t3 (s2.free nt3) h3 ((Kp.of s2).trans k3)
      refine ⟨_, rfl, rfl, _, rfl, ite2 (fun e1 => ?_) (fun e1 => ?_)⟩
      · have g13 : g ≠ 13 := fun z => by subst z; cases e1
        refine iteT ⟨.ref o, rfl, o, dx, _, rfl, hs1.ins, sfs_no _ _ _ _ _ _ _ "note_item" (by decide +kernel), .int g, rfl, .int p', rfl, .int s', rfl, o, dx, l, p, s0, c, z, st, b, ts, xs, (g, p', s'), false, rfl, hs1, lx, plain H1 s1 hs1 ?_⟩
        unfold oneF
        rw [e]
        dsimp only
        rw [if_neg (by simp [g13])]
      have g13 : g = 13 := Classical.byContradiction fun n => e1 (by rw [decide_eq_false (fun z => n (V.int.inj z))]; rfl)
      subst g13
      refine ⟨.ref o, rfl, o, dx, _, rfl, hs1.ins, sfs_no _ _ _ _ _ _ _ "looks_behind_return" (by decide +kernel), o, dx, l, p, s0, c, z, st, b, ts, xs, rfl, hs1, fun H2 s2 => ⟨_, rfl, ?_⟩⟩
      have s12 := s1.trans s2
      have hs2 := hs1.same s2
      by_cases ez : z = wA
      rotate_left
      · refine iteTc (by rw [decide_eq_false ez]; rfl) ?_
        refine ⟨.ref o, rfl, o, dx, _, rfl, hs2.ins, sfs_no _ _ _ _ _ _ _ "note_item" (by decide +kernel), .int 13, rfl, .int p', rfl, .int s', rfl, o, dx, l, p, s0, c, z, st, b, ts, xs, (13, p', s'), false, rfl, hs2, lx, plain H2 s12 hs2 ?_⟩
        unfold oneF
        rw [e]
        dsimp only
        rw [if_neg (by simp [ez])]
      refine iteFc (by rw [decide_eq_true ez]; rfl) ?_
      refine ⟨.ref a, rfl, .int p', rfl, .int s', rfl, .ref o, rfl, o, T.C_Scan, dx, _, _, rfl, hs2.ins, T.cl_Scan, T.n_Scan_code, sfs_code _ _ _ _ _ _ _, .bl true, rfl, a, row, p', s', c, rfl, s12.seq hA, fun H3 u nu eu s3 => ?_⟩
      have s13 := s12.trans s3
      have hs3 := hs2.same s3
      have tail : ∀ (w : Str) (g2 : Int) (p2 : Nat) (s2 : Int), rdV p' s' (rdF c row p' s') = fourV w g2 p2 s2 → w ≠ Str.ofString "open" → True := fun _ _ _ _ _ _ => trivial
      have e4 : ∃ (w : Str) (g2 : Int) (p2 : Nat) (s2 : Int), rdV p' s' (rdF c row p' s') = fourV w g2 p2 s2 ∧ decide (V.str w = V.str (Str.ofString "open")) = false ∧ oneF c row (decide (z = wA)) st p s0 = some (if w = wSign ∧ g2 = 10 then (10, p2, s2) else (10, p', s')) := by
        have eo : oneF c row (decide (z = wA)) st p s0 = (match rdF c row p' s' with | .sg g2 p'' s'' => if g2 = 10 then some (10, p'', s'') else some (10, p', s') | _ => some (10, p', s')) := by
          unfold oneF
          rw [e, decide_eq_true ez]
          rfl
        rw [eo]
        cases e2 : rdF c row p' s' with
        | fin => exact ⟨_, _, _, _, rfl, by decide +kernel, by rw [if_neg (fun z => absurd z.1 (by decide +kernel))]⟩
        | wr p2 s2 => exact ⟨_, _, _, _, rfl, by decide +kernel, by rw [if_neg (fun z => absurd z.1 (by decide +kernel))]⟩
        | sg g2 p2 s2 =>
          refine ⟨_, _, _, _, rfl, by decide +kernel, ?_⟩
          by_cases k : g2 = 10
          · subst k; rw [if_pos ⟨rfl, rfl⟩]; exact if_pos rfl
          · rw [if_neg (fun z => k z.2)]; exact if_neg k
      obtain ⟨w, g2, p2, s2', e4, nop, eo⟩ := e4
      rw [e4] at eu
      refine ⟨u, _, rfl, .inl (.inl eu), rfl, _, _, rfl, _, _, rfl, _, _, rfl, _, _, rfl, rfl, ?_⟩
      refine ⟨_, rfl, rfl, _, rfl, iteFc nop ?_⟩
      refine ⟨fun σ' H' => H' = H3 ∧ σ' = [some (.ref o), some (.ref a), some (.bl true), some (.str w), some (.int 13), some (.int p'), some (.int s'), some (.int g2), some (.int p2), some (.int s2'), some (.bl (decide (w = wSign ∧ g2 = 10)))], ?_, fun σ' H' hm => ?_⟩
      · refine ⟨_, rfl, rfl, _, rfl, ?_⟩
        by_cases hw : w = wSign
        · refine iteTc (decide_eq_true (congrArg V.str hw)) ⟨.int g2, rfl, rfl, rfl, ?_⟩
          rw [show decide (w = wSign ∧ g2 = 10) = decide (V.int g2 = V.int 10) from decide_eq_decide.mpr ⟨fun z => by rw [z.2], fun z => ⟨hw, V.int.inj z⟩⟩]
          rfl
        · have d : decide (V.str w = V.str (Str.ofString "sign")) = false := decide_eq_false (fun z => hw (V.str.inj z))
          refine iteFc d ⟨rfl, ?_⟩
          rw [show decide (w = wSign ∧ g2 = 10) = false from decide_eq_false (fun z => hw z.1)]
          rfl
      obtain ⟨rfl, rfl⟩ := hm
      refine ⟨fun _ H' => Q (.bl true) H', ?_, fun σ' H' hq => hq⟩
      refine ⟨.ref o, rfl, o, T.C_Scan, dx, _, _, rfl, hs3.ins, T.cl_Scan, T.n_Scan_ends, sfs_ends _ _ _ _ _ _ _, rfl, _, rfl, iteFc (by rw [ez]; decide +kernel) ?_⟩
      refine ⟨_, rfl, _, rfl, ite2 (fun ef => ?_) (fun ef => ?_)⟩
      · have ef := of_decide_eq_true ef
        rw [if_pos ef] at eo
        exact ⟨.ref o, rfl, o, dx, _, rfl, hs3.ins, sfs_no _ _ _ _ _ _ _ "note_item" (by decide +kernel), .int p2, rfl, .int s2', rfl, o, dx, l, p, s0, c, z, st, b, ts, xs, (10, p2, s2'), false, rfl, hs3, lx, fun H4 t4 nt4 h4 k4 => q2 _ eo H4 t4 (s13.free nt4) h4 ((Kp.of s13).trans k4)⟩
      · have ef : ¬ _ := fun z => ef (decide_eq_true z)
        rw [if_neg ef] at eo
        exact ⟨.ref o, rfl, o, dx, _, rfl, hs3.ins, sfs_no _ _ _ _ _ _ _ "note_item" (by decide +kernel), .int p', rfl, .int s', rfl, o, dx, l, p, s0, c, z, st, b, ts, xs, (10, p', s'), false, rfl, hs3, lx, fun H4 t4 nt4 h4 k4 => q2 _ eo H4 t4 (s13.free nt4) h4 ((Kp.of s13).trans k4)⟩

theorem ok_goon (T : Tx K mg) : FnOk P w K mg base CX0 8 T.f_goon T.fd_goon P_goon (spGoOn K T.C_Scan) := by
  have G_fone := ok_fone (P := P) (w := w) (base := base) T
  have sz : sizeLine = 16777216 := sizeLine_eq
  refine T.D_goon.F.ok sc_goon (fun vs H Q E h => ?_) (fun cdv A outer s H vs Q E hr h => ?_)
  · obtain ⟨o, dx, l, a, p, s0, c, z, st, row, rfl, _⟩ := h
    rfl
  · obtain ⟨o, dx, l, a, p, s0, c, z, st, row, rfl, hs, lr, hA, al, q⟩ := h
    refine ⟨_, (pss_one (ps_while PassesOwn.never (PW.pt (pw_and (pt_not (pt_val (pe_fld (pv 0) rfl))) (pw_and1 (pt_val (pe_meth (pv 0) T.cl_Scan T.D_fone.m G_fone (hr.mono (by decide)) T.bb_fone .nil pass0 (pa_cons (pv 1) (pa_cons (pv 2) pa_nil))))))) (pss_one ps_pass))), ?_⟩
    refine while_by (fun σ H' => σ = [some (.ref o), some (.ref a), some (.bl true)] ∧ ∃ (p' f : Nat) (s' : Int) (ts : List Addr) (xs : List Item), ScanAt T.C_Scan H' o dx l p' s' c z st .non ts xs ∧ row.length + 1 ≤ p' + f + 0 ∧ scanF c row (decide (z = wA)) st (row.length + 1) p s0 = xs ++ scanF c row (decide (z = wA)) st f p' s' ∧ scanB c row (decide (z = wA)) st (row.length + 1) p s0 = scanB c row (decide (z = wA)) st f p' s' ∧ 0 < f ∧ xs.length + p ≤ p' ∧ xs.length ≤ row.length ∧ (∀ t ∈ ts, H t = none) ∧ Kp [o, l] H H') (fun _ H' => row.length - spotO (H' o)) ⟨rfl, p, row.length + 1, s0, [], [], hs, by omega, rfl, rfl, by omega, by show 0 + p ≤ p; omega, Nat.zero_le _, (fun t h => nomatch h), Kp.refl _ _⟩ (fun σ H' hW => ?_) ?_
    · obtain ⟨rfl, p', f, s', ts, xs, hs', hf, e1, e2, f0, l1, l2, nw, kk⟩ := hW
      obtain ⟨f, rfl⟩ : ∃ g, f = g + 1 := ⟨f - 1, by omega⟩
      refine ⟨.ref o, rfl, o, T.C_Scan, dx, _, _, rfl, hs'.ins, T.cl_Scan, T.n_Scan_full, sfs_full _ _ _ _ _ _ _, _, rfl, iteT ?_⟩
      refine ⟨.ref o, rfl, o, dx, _, rfl, hs'.ins, sfs_no _ _ _ _ _ _ _ "find_one" (by decide +kernel), .ref a, rfl, .bl true, rfl, o, dx, l, a, p', s', c, z, st, .non, ts, xs, row, rfl, hs', by omega, sq_kp kk hs.ins al hA, fun en H2 h2 k2 => ?_, fun x ex H2 t nt h2 k2 => ?_⟩
      · obtain ⟨a1, a2⟩ := scan_none (f := f) en
        rw [a1, List.append_nil] at e1
        rw [a2] at e2
        rw [e1, e2] at q
        exact ⟨_, rfl, iteF (q H2 p' s' ts h2 nw (kk.trans k2))⟩
      · obtain ⟨a1, a2⟩ := scan_some (f := f) ex
        obtain ⟨g1, g2⟩ := one_go ex
        have nH : H t = none := by
          refine kk.free ?_ nt
          have to : t ≠ o := fun e => by rw [e, hs'.ins] at nt; cases nt
          have tl : t ≠ l := fun e => by rw [e, hs'.lst] at nt; cases nt
          simp [to, tl]
        refine ⟨_, rfl, iteT ⟨⟨rfl, x.2.1, f, x.2.2, ts ++ [t], xs ++ [x], h2, by omega, by rw [e1, a1, List.append_assoc]; rfl, by rw [e2, a2], by omega, by rw [List.length_append]; show xs.length + 1 + p ≤ _; omega, by rw [List.length_append]; show xs.length + 1 ≤ _; omega, fun u hu => ?_, kk.trans k2⟩, ?_⟩⟩
        · rcases List.mem_append.mp hu with hu | hu
          · exact nw u hu
          · rw [List.mem_singleton.mp hu]; exact nH
        · rw [spot_of h2, spot_of hs']; omega
    · rintro σ H' Q1 Q2 hq ⟨x, e1, y1, y2, y3, y4, y5, e2, e3, e4, e5, e6, k, e7, h⟩
      refine ⟨x, e1, y1, y2, y3, y4, y5, e2, e3, e4, e5, e6, k, e7, ?_⟩
      cases k with
      | true => exact hq _ _ h
      | false =>
        obtain ⟨x, e1, a1, dx1, fs1, e2, e3, e4, v1, e5, v2, e6, o', dx', l', a', p', s', c', z', st', b', ts', xs', row', f1, f2, f3, f4, f5, f6⟩ := h
        exact ⟨x, e1, a1, dx1, fs1, e2, e3, e4, v1, e5, v2, e6, o', dx', l', a', p', s', c', z', st', b', ts', xs', row', f1, f2, f3, f4, fun en H2 h2 k2 => (f5 en H2 h2 k2).imp (fun b hb => ⟨hb.1, hq _ _ hb.2⟩), fun y ey H2 t nt h2 k2 => (f6 y ey H2 t nt h2 k2).imp (fun b hb => ⟨hb.1, hq _ _ hb.2⟩)⟩

theorem ok_lways (T : Tx K mg) : FnOk P w K mg base CX0 1 T.f_lways T.fd_lways P_lways (spWays) := by
  have sz : sizeLine = 16777216 := sizeLine_eq
  refine T.D_lways.F.ok sc_lways (fun vs H Q E h => ?_) (fun cdv A outer s H vs Q E hr h => ?_)
  · obtain ⟨u, rfl, _⟩ := h
    rfl
  · obtain ⟨u, rfl, q⟩ := h
    refine ⟨_, (pss_one (ps_ret (pe_lst (pa_cons pe_str (pa_cons pe_str (pa_cons pe_str (pa_cons pe_str (pa_cons pe_str pa_nil)))))))), ?_⟩
    exact ⟨by show (5 : Nat) ≤ sizeLine; omega, fun z nz => q z nz⟩

theorem ok_lany (T : Tx K mg) : FnOk P w K mg base CX0 1 T.f_lany T.fd_lany P_lany (spAnyL) := by
  have sz : sizeLine = 16777216 := sizeLine_eq
  refine T.D_lany.F.ok sc_lany (fun vs H Q E h => ?_) (fun cdv A outer s H vs Q E hr h => ?_)
  · obtain ⟨l, ts, xs, rfl, _⟩ := h
    rfl
  · obtain ⟨l, ts, xs, rfl, ⟨hl, hi⟩, lx, q⟩ := h
    refine ⟨_, (pss_cons (ps_set (i := 1) sc_lany.nd rfl (.inl rfl) (pe_lst pa_nil))
      (pss_cons (ps_for PassesOwn.never rfl (pi_range1 (by rfl) T.m_range (pa_cons (pe_callB call_len_seq (by rfl) T.m_len PySem.boot_len (pa_cons (pv 0) pa_nil)) pa_nil)) (pg_name (i := 2) sc_lany.nd rfl (.inl rfl)) (pss_cons (ps_asg (pe_ix ix_list (pv 0) (pv 2) (fun _ _ => rfl)) (pg_tup rfl (pgs_cons (pg_name (i := 3) sc_lany.nd rfl (.inl rfl)) (pgs_cons (pg_name (i := 4) sc_lany.nd rfl (.inl rfl)) (pgs_cons (pg_name (i := 5) sc_lany.nd rfl (.inl rfl)) pgs_nil)))))
      (C8.pss_cut (ps_if (PW.pt (pw_and (pt_cmpR op_eq (pv 3) pe_int (nomark _)) (pw_and (pt_cmpR op_gt (pv 2) pe_int (nomark _)) (pw_and1 (pt_cmpR op_eq (pe_ix ix_tup (pe_ix ix_list (pv 0) (pe_op op_sub (pv 2) pe_int) (fun _ _ => rfl)) pe_int (fun _ _ => rfl)) pe_int (nomark _)))))) (pss_one (ps_expr (pe_bm0 PySem.F.plainAttrs_list PySem.F.slot_list_pop PySem.F.type_list_pop mt_pop (pv 1)))) pss_nil)
      (pss_one (ps_expr (pe_bm PySem.F.plainAttrs_list PySem.F.slot_list_append PySem.F.type_list_append mt_append (pv 1) (pa_cons (pe_tup (pa_cons (pe_ix ix_list (pe_lst (pa_cons (pv 3) (pa_cons pe_int pa_nil))) (pe_callTy call_int1 (by rfl) T.m_int (by decide +kernel) (pa_cons (pe_cmpR op_eq (pv 3) pe_int (nomark _)) pa_nil)) (fun _ _ => rfl)) (pa_cons (pv 4) (pa_cons (pv 5) pa_nil)))) pa_nil)))))))
      (pss_one (ps_ret (pv 1))))), ?_⟩
    have tl := hi.len
    refine ⟨Nat.zero_le _, fun m nm => ?_⟩
    have lm : l ≠ m := ne_of_none hl nm
    have s0 := (Kp.new (ps := []) (o := HO.lst []) nm).same
    refine ⟨.ref l, rfl, l, _, rfl, .inl (sq_at (s0 _ _ hl)), _, rfl, by rw [List.length_map]; omega, by rw [List.length_map]; omega, ?_⟩
    rw [List.length_map, Int.toNat_natCast]
    refine for_range (lo := 0) (n := ts.length) (fun i σ H' => ∃ (us : List Addr) (y2 y3 y4 y5 : Option V), σ = [some (.ref l), some (.ref m), y2, y3, y4, y5] ∧ ItL H' m us (anyF (xs.take i)) ∧ (∀ u ∈ us, H u = none) ∧ Same H H') ⟨[], none, none, none, none, rfl, ⟨upd_same, trivial⟩, (fun u h => nomatch h), s0⟩ (fun i σ H' hi2 hW => ?_) (fun σ H' hW => ?_)
    · obtain ⟨us, y2, y3, y4, y5, rfl, ⟨em, iu⟩, nu, sm⟩ := hW
      have hl' := sm _ _ hl
      have eb : ts[i]? = some ts[i] := List.getElem?_eq_getElem hi2
      have ea : atI (ts.map V.ref) (0 + (i : Int)) = some (.ref ts[i]) := by rw [Int.zero_add]; exact atI_nat (by rw [List.getElem?_map, eb]; rfl)
      obtain ⟨x, hx, et⟩ := (hi.same sm).at eb
      refine ⟨.ref l, rfl, _, rfl, l, _, _, .ref ts[i], rfl, rfl, sq_at hl', ea, ts[i], _, rfl, .inl (.inl et), rfl, _, _, rfl, _, _, rfl, _, _, rfl, rfl, ?_⟩
      have es := any_snoc x (xs.take i)
      rw [← take_last hx] at es
      have go : ∀ (H2 : Hp) (us2 : List Addr) (B : List Item), anyF (xs.take (i + 1)) = B ++ [mapS x] → H2 m = some (.lst (us2.map V.ref)) → Its H2 us2 B → (∀ u ∈ us2, H u = none) → Same H H2 → ∃ (us2 : List Addr) (B : List Item), [some (V.ref l), some (.ref m), some (.int (0 + (i : Int))), some (.int x.1), some (.int x.2.1), some (.int x.2.2)] = [some (V.ref l), some (.ref m), some (.int (0 + (i : Int))), some (.int x.1), some (.int x.2.1), some (.int x.2.2)] ∧ anyF (xs.take (i + 1)) = B ++ [mapS x] ∧ H2 m = some (.lst (us2.map V.ref)) ∧ Its H2 us2 B ∧ (∀ u ∈ us2, H u = none) ∧ Same H H2 := fun H2 us2 B a b c d e => ⟨us2, B, rfl, a, b, c, d, e⟩
      refine ⟨fun σ' H2 => ∃ (us2 : List Addr) (B : List Item), σ' = [some (V.ref l), some (.ref m), some (.int (0 + (i : Int))), some (.int x.1), some (.int x.2.1), some (.int x.2.2)] ∧ anyF (xs.take (i + 1)) = B ++ [mapS x] ∧ H2 m = some (.lst (us2.map V.ref)) ∧ Its H2 us2 B ∧ (∀ u ∈ us2, H u = none) ∧ Same H H2, ?_, fun σ' H2 hm => ?_⟩
      · refine ⟨_, rfl, rfl, _, rfl, ite2 (fun e1 => ?_) (fun e1 => ?_)⟩
        rotate_left
        · refine iteF (go _ us _ (es.trans (snoc_add fun z => e1 (decide_eq_true (by rw [z.1])))) em iu nu sm)
        have e1 : x.1 = 10 := V.int.inj (of_decide_eq_true e1)
        refine ⟨_, rfl, _, _, rfl, rfl, _, rfl, ite2 (fun e2 => ?_) (fun e2 => ?_)⟩
        rotate_left
        · have i0 : i = 0 := by simp at e2; omega
          subst i0
          exact iteF (go _ us _ (es.trans (snoc_add fun z => nomatch z.2)) em iu nu sm)
        have i0 : 0 < i := by simp at e2; omega
        obtain ⟨j, rfl⟩ : ∃ j, i = j + 1 := ⟨i - 1, by omega⟩
        have eb2 : ts[j]? = some ts[j] := List.getElem?_eq_getElem (by omega)
        have ea2 : atI (ts.map V.ref) ((0 + ((j + 1 : Nat) : Int)) - 1) = some (.ref ts[j]) := by rw [show (0 + ((j + 1 : Nat) : Int)) - 1 = (j : Int) by omega]; exact atI_nat (by rw [List.getElem?_map, eb2]; rfl)
        obtain ⟨w, hw, ew⟩ := (hi.same sm).at eb2
        rw [lastS_take hw] at es
        refine ⟨.ref l, rfl, _, rfl, _, _, rfl, rfl, l, _, _, .ref ts[j], rfl, rfl, sq_at hl', ea2, ts[j], _, _, .int w.1, rfl, rfl, .inl (.inl ew), rfl, rfl, _, rfl, ite2 (fun e3 => ?_) (fun e3 => ?_)⟩
        · have e3 : w.1 = 13 := V.int.inj (of_decide_eq_true e3)
          rw [e3] at es
          have une : us ≠ [] := fun z => by
            subst z
            have := iu.len
            have h1 : anyF (xs.take (j + 1)) ≠ [] := any_ne (by rw [take_last hw]; simp)
            exact h1 (List.length_eq_zero_iff.mp this.symm)
          have hlast : (us.map V.ref)[(us.map V.ref).length - 1]? = some (.ref (us.getLast une)) := by
            rw [List.length_map, List.getElem?_map, ← List.getLast?_eq_getElem?, List.getLast?_eq_some_getLast une]; rfl
          have mu : m ∉ us := iu.notin (fun vs e => by rw [em] at e; cases e)
          refine ⟨.ref m, rfl, .inl ⟨rfl, _, sq_at em⟩, m, _, _, rfl, rfl, em, hlast, ?_⟩
          exact go _ us.dropLast _ (es.trans (snoc_pop e1)) (by rw [upd_same, List.map_dropLast]) (Its.put (fun z => mu (List.dropLast_subset _ z)) iu.pop) (fun u hu => nu u (List.dropLast_subset _ hu)) (put_same sm nm)
        · have e3 : w.1 ≠ 13 := fun z => e3 (decide_eq_true (by rw [z]))
          exact go _ us _ (es.trans (snoc_add fun z => e3 (Option.some.inj z.2))) em iu nu sm
      obtain ⟨us2, B, rfl, ea3, em2, iu2, nu2, sm2⟩ := hm
      refine ⟨.ref m, rfl, .inl ⟨rfl, _, sq_at em2⟩, _, rfl, by show (2 : Nat) ≤ sizeLine; omega, fun g ng => ?_⟩
      have mg' : m ≠ g := ne_of_none em2 ng
      have pick : atI [V.int x.1, .int 10] (if decide (V.int x.1 = V.int 13) = true then 1 else 0) = some (.int (mapS x).1) := by
        by_cases h : x.1 = 13
        · rw [if_pos (decide_eq_true (by rw [h]))]
          show some (V.int 10) = _
          unfold mapS
          rw [if_pos h]
        · rw [if_neg (fun z => h (V.int.inj (of_decide_eq_true z)))]
          show some (V.int x.1) = _
          unfold mapS
          rw [if_neg h]
      refine ⟨_, rfl, rfl, .inr ⟨_, rfl, g, _, _, .int (mapS x).1, rfl, rfl, .inl (.inl upd_same), pick, _, rfl, _, rfl, by show (3 : Nat) ≤ sizeLine; omega, fun t nt => ?_⟩⟩
      have s3 := (Kp.new (ps := []) (o := HO.lst [.int x.1, .int 10]) ng).same
      have s4 := s3.trans (Kp.new (ps := []) (o := HO.tup [.int (mapS x).1, .int x.2.1, .int x.2.2]) nt).same
      have mt : m ≠ t := ne_of_none (s3 _ _ em2) nt
      have tu : t ∉ us2 := iu2.notin (fun vs e => by rw [s3 _ _ e] at nt; cases nt)
      have mu : m ∉ us2 := iu2.notin (fun vs e => by rw [em2] at e; cases e)
      refine ⟨m, _, _, rfl, rfl, s4 _ _ em2, by rw [List.length_map, iu2.len]; have := any_len (xs.take (i + 1)); rw [ea3, List.length_append, List.length_take] at this; have h1 : ([mapS x] : List Item).length = 1 := rfl; omega, ?_⟩
      refine ⟨us2 ++ [t], _, _, _, _, rfl, ⟨by rw [upd_same, List.map_append]; rfl, ?_⟩, fun u hu => ?_, put_same (sm2.trans s4) nm⟩
      · rw [ea3]
        exact Its.snoc (r := mapS x) (by rw [upd_ne mt.symm]; exact upd_same) (Its.put mu (iu2.same s4))
      · rcases List.mem_append.mp hu with hu | hu
        · exact nu2 u hu
        · rw [List.mem_singleton.mp hu]; exact (sm2.trans s3).free nt
    · obtain ⟨us, y2, y3, y4, y5, rfl, h, nu, sm⟩ := hW
      rw [tl, List.take_of_length_le (Nat.le_refl _)] at h
      exact ⟨.ref m, rfl, q _ m us h nm nu sm⟩

theorem ok_lrow (T : Tx K mg) : FnOk P w K mg base CX0 3 T.f_lrow T.fd_lrow P_lrow (spRowR) := by
  have G_take := ok_take (P := P) (w := w) (base := base) T
  have G_lsign := ok_lsign (P := P) (w := w) (base := base) T
  have G_lbytes := ok_lbytes (P := P) (w := w) (base := base) T
  have sz : sizeLine = 16777216 := sizeLine_eq
  refine T.D_lrow.F.ok sc_lrow (fun vs H Q E h => ?_) (fun cdv A outer s H vs Q E hr h => ?_)
  · obtain ⟨p, n, m, o, c, rfl, _⟩ := h
    rfl
  · obtain ⟨p, n, m, o, c, rfl, hp, hP, n9, m0, m1, q⟩ := h
    refine ⟨_, (pss_cons (ps_set (i := 3) sc_lrow.nd rfl (.inl rfl) (pe_call G_take (hr.mono (by decide)) (by rfl) T.D_take.g T.D_take.F.kp T.bb_take .nil pass0 (pa_cons (pv 0) (pa_cons (pe_op op_add (pv 2) pe_int) pa_nil))))
      (pss_cons (ps_set (i := 4) sc_lrow.nd rfl (.inl rfl) (pe_op op_mul (pe_call G_take (hr.mono (by decide)) (by rfl) T.D_take.g T.D_take.F.kp T.bb_take .nil pass0 (pa_cons (pv 0) (pa_cons pe_int pa_nil))) (pe_callTy call_int1 (by rfl) T.m_int (by decide +kernel) (pa_cons (pe_cmpR op_eq (pv 1) pe_str (nomark _)) pa_nil))))
      (pss_cons (ps_asg (pe_ix ix_list (pe_lst (pa_cons (pe_tup (pa_cons (pe_lst pa_nil) (pa_cons pe_int pa_nil))) (pa_cons (pe_tup (pa_cons (pe_lst pa_nil) (pa_cons pe_int pa_nil))) (pa_cons (pe_tup (pa_cons (pe_lst (pa_cons pe_int (pa_cons pe_int pa_nil))) (pa_cons pe_int pa_nil))) (pa_cons (pe_tup (pa_cons (pe_lst (pa_cons pe_int (pa_cons pe_int pa_nil))) (pa_cons pe_int pa_nil))) pa_nil))))) (pe_callB (call_min2 rfl) (by rfl) T.m_min (by decide +kernel) (pa_cons (pv 4) (pa_cons pe_int pa_nil))) (fun _ _ => rfl)) (pg_tup rfl (pgs_cons (pg_name (i := 5) sc_lrow.nd rfl (.inl rfl)) (pgs_cons (pg_name (i := 6) sc_lrow.nd rfl (.inl rfl)) pgs_nil))))
      (pss_cons (ps_for PassesOwn.never rfl (pi_range1 (by rfl) T.m_range (pa_cons (pe_op op_mul (pv 3) (pe_callTy call_int1 (by rfl) T.m_int (by decide +kernel) (pa_cons (pe_cmpR op_notIn_seq (pv 4) (pe_lst (pa_cons pe_int (pa_cons pe_int pa_nil))) rfl) pa_nil))) pa_nil)) (pg_name (i := 7) sc_lrow.nd rfl (.inl rfl)) (pss_cons (ps_set (i := 8) sc_lrow.nd rfl (.inl rfl) (pe_call G_take (hr.mono (by decide)) (by rfl) T.D_take.g T.D_take.F.kp T.bb_take .nil pass0 (pa_cons (pv 0) (pa_cons pe_int pa_nil))))
      (pss_cons (ps_set (i := 9) sc_lrow.nd rfl (.inl rfl) (pe_call G_lsign (hr.mono (by decide)) (by rfl) T.D_lsign.g T.D_lsign.F.kp T.bb_lsign .nil pass0 (pa_cons (pv 0) (pa_cons (pv 1) pa_nil))))
      (C8.pss_cut (ps_if (pt_cmpR op_lt (pv 8) pe_int (nomark _)) (pss_one (ps_set (i := 9) sc_lrow.nd rfl (.inl rfl) (pe_ix ix_list (pe_lst (pa_cons pe_int (pa_cons pe_int (pa_cons pe_int pa_nil)))) (pv 8) (fun _ _ => rfl)))) pss_nil)
      (pss_cons (ps_asg (pe_call G_lbytes (hr.mono (by decide)) (by rfl) T.D_lbytes.g T.D_lbytes.F.kp T.bb_lbytes .nil pass0 (pa_cons (pe_lst (pa_cons (pv 9) pa_nil)) (pa_cons (pv 6) (pa_cons (pv 1) pa_nil)))) (pg_tup rfl (pgs_cons (pg_name (i := 10) sc_lrow.nd rfl (.inl rfl)) (pgs_cons (pg_name (i := 11) sc_lrow.nd rfl (.inl rfl)) pgs_nil))))
      (C8.pss_cut (ps_if (pt_cmpR op_eq (pv 8) pe_int (nomark _)) (pss_one (ps_set (i := 10) sc_lrow.nd rfl (.inl rfl) (pe_ix ix_list (pe_lst (pa_cons (pe_lst (pa_cons (pe_call G_take (hr.mono (by decide)) (by rfl) T.D_take.g T.D_take.F.kp T.bb_take .nil pass0 (pa_cons (pv 0) (pa_cons pe_int pa_nil))) pa_nil)) (pa_cons (pe_slice sl_list (pv 10) po_none (po_some (pe_call G_take (hr.mono (by decide)) (by rfl) T.D_take.g T.D_take.F.kp T.bb_take .nil pass0 (pa_cons (pv 0) (pa_cons (pe_callB call_len_seq (by rfl) T.m_len PySem.boot_len (pa_cons (pv 10) pa_nil)) pa_nil))))) pa_nil))) (pe_call G_take (hr.mono (by decide)) (by rfl) T.D_take.g T.D_take.F.kp T.bb_take .nil pass0 (pa_cons (pv 0) (pa_cons pe_int pa_nil))) (fun _ _ => rfl)))) (pss_one (ps_set (i := 6) sc_lrow.nd rfl (.inl rfl) (pv 11))))
      (pss_one (ps_set (i := 5) sc_lrow.nd rfl (.inl rfl) (pe_op op_cat (pv 5) (pv 10))))))))))
      (pss_one (ps_ret (pv 5))))))), ?_⟩
    refine ⟨.ref p, rfl, .int m, rfl, _, _, rfl, rfl, p, n, _, o, rfl, hp, hP, by omega, by omega, by omega, fun y o1 y0 y1 hP1 => ?_⟩
    refine ⟨.ref p, rfl, p, _, 6, o1, rfl, upd_same, hP1, by omega, by decide, by decide, fun w0' o2 w00 w01 hP2 => ?_⟩
    rw [L2.upd_upd]
    have ep : (upd H p o2) p = some o2 := upd_same
    have k0 : Kp [p] H (upd H p o2) := Kp.at (by simp)
    generalize upd H p o2 = H1 at ep k0 ⊢
    refine ⟨_, rfl, rfl, .inr ⟨_, rfl, _, _, rfl, rfl, ?_⟩⟩
    have eS : ∃ S : Int, w0' * (if decide (V.str c.w = V.str (Str.ofString "wide")) = true then 1 else 0) = S ∧ 0 ≤ S ∧ S ≤ 5 ∧ (c ≠ .wide → S = 0) := by
      cases c with
      | wide => exact ⟨w0', by rw [if_pos (by decide +kernel)]; omega, by omega, by omega, fun z => absurd rfl z⟩
      | plain => exact ⟨0, by rw [if_neg (by decide +kernel)]; omega, by omega, by omega, fun _ => rfl⟩
      | steps => exact ⟨0, by rw [if_neg (by decide +kernel)]; omega, by omega, by omega, fun _ => rfl⟩
      | turn => exact ⟨0, by rw [if_neg (by decide +kernel)]; omega, by omega, by omega, fun _ => rfl⟩
    obtain ⟨S, eS, S0, S5, SW⟩ := eS
    refine ⟨.inr (by split <;> decide), ?_⟩
    rw [show (fun i j : Int => V.int (i * j)) w0' (if decide (V.str c.w = V.str (Str.ofString "wide")) = true then 1 else 0) = V.int S from congrArg V.int eS]
    refine ⟨Nat.zero_le _, fun l1 nl1 => ?_⟩
    have q1 := (Kp.new (ps := []) (o := HO.lst []) nl1).same
    have s1 := q1
    have e_l1 : (upd H1 l1 (HO.lst [])) l1 = some (HO.lst (([] : List Int).map V.int)) := upd_same
    generalize upd H1 l1 (HO.lst []) = G1 at q1 s1 e_l1 ⊢
    refine ⟨by show (2 : Nat) ≤ sizeLine; omega, fun t1 nt1 => ?_⟩
    have q2 := (Kp.new (ps := []) (o := HO.tup [V.ref l1, V.int 0]) nt1).same
    have s2 := s1.trans q2
    have e_l1 := q2 _ _ e_l1
    have e_t1 : (upd G1 t1 (HO.tup [V.ref l1, V.int 0])) t1 = some (HO.tup [V.ref l1, V.int 0]) := upd_same
    generalize upd G1 t1 (HO.tup [V.ref l1, V.int 0]) = G2 at q2 s2 e_l1 e_t1 ⊢
    refine ⟨Nat.zero_le _, fun l2 nl2 => ?_⟩
    have q3 := (Kp.new (ps := []) (o := HO.lst []) nl2).same
    have s3 := s2.trans q3
    have e_l1 := q3 _ _ e_l1
    have e_t1 := q3 _ _ e_t1
    have e_l2 : (upd G2 l2 (HO.lst [])) l2 = some (HO.lst (([] : List Int).map V.int)) := upd_same
    generalize upd G2 l2 (HO.lst []) = G3 at q3 s3 e_l1 e_t1 e_l2 ⊢
    refine ⟨by show (2 : Nat) ≤ sizeLine; omega, fun t2 nt2 => ?_⟩
    have q4 := (Kp.new (ps := []) (o := HO.tup [V.ref l2, V.int 0]) nt2).same
    have s4 := s3.trans q4
    have e_l1 := q4 _ _ e_l1
    have e_t1 := q4 _ _ e_t1
    have e_l2 := q4 _ _ e_l2
    have e_t2 : (upd G3 t2 (HO.tup [V.ref l2, V.int 0])) t2 = some (HO.tup [V.ref l2, V.int 0]) := upd_same
    generalize upd G3 t2 (HO.tup [V.ref l2, V.int 0]) = G4 at q4 s4 e_l1 e_t1 e_l2 e_t2 ⊢
    refine ⟨by show (2 : Nat) ≤ sizeLine; omega, fun l3 nl3 => ?_⟩
    have q5 := (Kp.new (ps := []) (o := HO.lst [V.int 254, V.int 255]) nl3).same
    have s5 := s4.trans q5
    have e_l1 := q5 _ _ e_l1
    have e_t1 := q5 _ _ e_t1
    have e_l2 := q5 _ _ e_l2
    have e_t2 := q5 _ _ e_t2
    have e_l3 : (upd G4 l3 (HO.lst [V.int 254, V.int 255])) l3 = some (HO.lst (([254, 255] : List Int).map V.int)) := upd_same
    generalize upd G4 l3 (HO.lst [V.int 254, V.int 255]) = G5 at q5 s5 e_l1 e_t1 e_l2 e_t2 e_l3 ⊢
    refine ⟨by show (2 : Nat) ≤ sizeLine; omega, fun t3 nt3 => ?_⟩
    have q6 := (Kp.new (ps := []) (o := HO.tup [V.ref l3, V.int 2]) nt3).same
    have s6 := s5.trans q6
    have e_l1 := q6 _ _ e_l1
    have e_t1 := q6 _ _ e_t1
    have e_l2 := q6 _ _ e_l2
    have e_t2 := q6 _ _ e_t2
    have e_l3 := q6 _ _ e_l3
    have e_t3 : (upd G5 t3 (HO.tup [V.ref l3, V.int 2])) t3 = some (HO.tup [V.ref l3, V.int 2]) := upd_same
    generalize upd G5 t3 (HO.tup [V.ref l3, V.int 2]) = G6 at q6 s6 e_l1 e_t1 e_l2 e_t2 e_l3 e_t3 ⊢
    refine ⟨by show (2 : Nat) ≤ sizeLine; omega, fun l4 nl4 => ?_⟩
    have q7 := (Kp.new (ps := []) (o := HO.lst [V.int 255, V.int 254]) nl4).same
    have s7 := s6.trans q7
    have e_l1 := q7 _ _ e_l1
    have e_t1 := q7 _ _ e_t1
    have e_l2 := q7 _ _ e_l2
    have e_t2 := q7 _ _ e_t2
    have e_l3 := q7 _ _ e_l3
    have e_t3 := q7 _ _ e_t3
    have e_l4 : (upd G6 l4 (HO.lst [V.int 255, V.int 254])) l4 = some (HO.lst (([255, 254] : List Int).map V.int)) := upd_same
    generalize upd G6 l4 (HO.lst [V.int 255, V.int 254]) = G7 at q7 s7 e_l1 e_t1 e_l2 e_t2 e_l3 e_t3 e_l4 ⊢
    refine ⟨by show (2 : Nat) ≤ sizeLine; omega, fun t4 nt4 => ?_⟩
    have q8 := (Kp.new (ps := []) (o := HO.tup [V.ref l4, V.int 1]) nt4).same
    have s8 := s7.trans q8
    have e_l1 := q8 _ _ e_l1
    have e_t1 := q8 _ _ e_t1
    have e_l2 := q8 _ _ e_l2
    have e_t2 := q8 _ _ e_t2
    have e_l3 := q8 _ _ e_l3
    have e_t3 := q8 _ _ e_t3
    have e_l4 := q8 _ _ e_l4
    have e_t4 : (upd G7 t4 (HO.tup [V.ref l4, V.int 1])) t4 = some (HO.tup [V.ref l4, V.int 1]) := upd_same
    generalize upd G7 t4 (HO.tup [V.ref l4, V.int 1]) = G8 at q8 s8 e_l1 e_t1 e_l2 e_t2 e_l3 e_t3 e_l4 e_t4 ⊢
    refine ⟨by show (4 : Nat) ≤ sizeLine; omega, fun L nL => ?_⟩
    have q9 := (Kp.new (ps := []) (o := HO.lst [V.ref t1, V.ref t2, V.ref t3, V.ref t4]) nL).same
    have s9 := s8.trans q9
    have e_l1 := q9 _ _ e_l1
    have e_t1 := q9 _ _ e_t1
    have e_l2 := q9 _ _ e_l2
    have e_t2 := q9 _ _ e_t2
    have e_l3 := q9 _ _ e_l3
    have e_t3 := q9 _ _ e_t3
    have e_l4 := q9 _ _ e_l4
    have e_t4 := q9 _ _ e_t4
    have e_L : (upd G8 L (HO.lst [V.ref t1, V.ref t2, V.ref t3, V.ref t4])) L = some (HO.lst [V.ref t1, V.ref t2, V.ref t3, V.ref t4]) := upd_same
    generalize upd G8 L (HO.lst [V.ref t1, V.ref t2, V.ref t3, V.ref t4]) = G9 at q9 s9 e_l1 e_t1 e_l2 e_t2 e_l3 e_t3 e_l4 e_t4 e_L ⊢
    have nn : H1 l1 = none ∧ H1 l2 = none ∧ H1 l3 = none ∧ H1 l4 = none := ⟨nl1, s2.free nl2, s4.free nl3, s6.free nl4⟩
    have pick : ∃ (t l : Addr) (bs : List Int) (st : Int), atI [V.ref t1, .ref t2, .ref t3, .ref t4] (if 3 < S then 3 else S) = some (.ref t) ∧ G9 t = some (.tup [.ref l, .int st]) ∧ G9 l = some (.lst (bs.map V.int)) ∧ H1 l = none ∧ BB bs ∧ bs.length ≤ 2 ∧ VS c st := by
      have v0 : VS c 0 := by cases c <;> first | trivial | exact ⟨by decide, by decide⟩
      have nb : BB [] := fun b h => nomatch h
      have two : ∀ {a b : Int}, 0 ≤ a → a ≤ 255 → 0 ≤ b → b ≤ 255 → BB [a, b] := fun {a b} h1 h2 h3 h4 => bb_app (a := [a]) (bb_one h1 h2) (bb_one h3 h4)
      by_cases hc : c = .wide
      · subst hc
        rcases (show S = 0 ∨ S = 1 ∨ S = 2 ∨ S = 3 ∨ S = 4 ∨ S = 5 by omega) with rfl | rfl | rfl | rfl | rfl | rfl
        · exact ⟨t1, l1, [], 0, rfl, e_t1, e_l1, nn.1, nb, by decide, v0⟩
        · exact ⟨t2, l2, [], 0, rfl, e_t2, e_l2, nn.2.1, nb, by decide, v0⟩
        · exact ⟨t3, l3, [254, 255], 2, rfl, e_t3, e_l3, nn.2.2.1, two (by decide) (by decide) (by decide) (by decide), by decide, ⟨by decide, by decide⟩⟩
        · exact ⟨t4, l4, [255, 254], 1, rfl, e_t4, e_l4, nn.2.2.2, two (by decide) (by decide) (by decide) (by decide), by decide, ⟨by decide, by decide⟩⟩
        · exact ⟨t4, l4, [255, 254], 1, rfl, e_t4, e_l4, nn.2.2.2, two (by decide) (by decide) (by decide) (by decide), by decide, ⟨by decide, by decide⟩⟩
        · exact ⟨t4, l4, [255, 254], 1, rfl, e_t4, e_l4, nn.2.2.2, two (by decide) (by decide) (by decide) (by decide), by decide, ⟨by decide, by decide⟩⟩
      · have := SW hc
        subst this
        exact ⟨t1, l1, [], 0, rfl, e_t1, e_l1, nn.1, nb, by decide, v0⟩
    obtain ⟨t, x, bs, st, et, ft, ex, nx, nb, lb, vst⟩ := pick
    refine ⟨.int S, rfl, _, _, rfl, L, _, _, .ref t, rfl, rfl, sq_at e_L, et, t, _, rfl, .inl (.inl ft), rfl, _, _, rfl, _, _, rfl, rfl, ?_⟩
    clear e_t1 e_l1 e_t2 e_l2 e_t3 e_l3 e_t4 e_l4 e_L q1 q2 q3 q4 q5 q6 q7 q8 q9 s1 s2 s3 s4 s5 s6 s7 s8
    have k9 : Kp [p] H G9 := k0.trans (Kp.of s9)
    have ep9 := s9 _ _ ep
    have xp : x ≠ p := fun z => by rw [z, ep] at nx; cases nx
    have nxH : H x = none := k0.free (by simpa using xp) nx
    obtain ⟨z256, zmax⟩ := sizeF_b c
    refine ⟨.int y, rfl, .int S, rfl, by show (2 : Nat) ≤ sizeLine; omega, fun l5 nl5 => ?_⟩
    have q5 := (Kp.new (ps := []) (o := HO.lst [.int 2, .int 3]) nl5).same
    refine ⟨l5, _, rfl, .inl sq_new, rfl, rfl, .inr ⟨_, rfl, _, _, rfl, rfl, small01 _, ?_⟩⟩
    have eN : ∃ N : Int, (fun i j : Int => V.int (i * j)) y (if (if true = true then !inV (V.int S) [V.int 2, V.int 3] else inV (V.int S) [V.int 2, V.int 3]) = true then 1 else 0) = V.int N ∧ 0 ≤ N ∧ N ≤ 40 := by
      obtain ⟨N, h, a, b⟩ := mul01 (y := y) (by omega) (by omega) (if true = true then !inV (V.int S) [V.int 2, V.int 3] else inV (V.int S) [V.int 2, V.int 3])
      exact ⟨N, congrArg V.int h, a, b⟩
    obtain ⟨N, eN, N0, N4⟩ := eN
    refine ⟨N, congrArg (fun v => [v]) eN, by omega, by omega, for_range (lo := 0) (n := N.toNat) (fun i σ H' => ∃ (x : Addr) (bs : List Int) (o : HO) (st : Int) (y7 y8 y9 y10 y11 : Option V), σ = [some (.ref p), some (.str c.w), some (.int m), some (.int y), some (.int S), some (.ref x), some (.int st), y7, y8, y9, y10, y11] ∧ H x = none ∧ x ≠ p ∧ H' x = some (.lst (bs.map V.int)) ∧ BB bs ∧ bs.length ≤ 2 + 4 * i ∧ VS c st ∧ H' p = some o ∧ PoolO (n + 10 + 10 * i) o ∧ Kp [p] H H') ⟨x, bs, o2, st, none, none, none, none, none, rfl, nxH, xp, q5 _ _ ex, nb, by omega, vst, q5 _ _ ep9, hP2.up (by omega), k9.trans (Kp.of q5)⟩ (fun i σ H' hi hW => ?_) (fun σ H' hW => ?_)⟩
    rotate_left
    · obtain ⟨x, bs, o, st, _, _, _, _, _, rfl, nx, xp, ex, nb, lb, _, ep, hP, kk⟩ := hW
      exact ⟨.ref x, rfl, q _ x bs nx ex nb (by omega) kk⟩
    clear ep k0 k9 ep9 xp nxH ex nx nb lb vst hP2 hP1 s9 q5
    obtain ⟨x, bs, o, st, y7, y8, y9, y10, y11, rfl, nx, xp, ex, nb, lb, vst, ep, hP, kk⟩ := hW
    refine ⟨.ref p, rfl, p, _, 8, o, rfl, ep, hP, by omega, by decide, by decide, fun way ow w0 w1 hPw => ?_⟩
    have ex1 : (upd H' p ow) x = some (.lst (bs.map V.int)) := by rw [upd_ne xp]; exact ex
    refine ⟨.ref p, rfl, .str c.w, rfl, p, _, ow, c, rfl, upd_same, hPw, by omega, fun H3 g o4 g0 g1 ep4 hP4 k4 => ?_⟩
    have ex3 := k4 _ _ (by simpa using xp) ex1
    have k3 : Kp [p] H H3 := (kk.trans (Kp.at (by simp))).trans k4
    refine ⟨fun σ' H5 => ∃ g : Int, σ' = [some (.ref p), some (.str c.w), some (.int m), some (.int y), some (.int S), some (.ref x), some (.int st), some (.int (0 + (i : Int))), some (.int way), some (.int g), y10, y11] ∧ 0 ≤ g ∧ g < sizeF c ∧ H5 x = some (.lst (bs.map V.int)) ∧ H5 p = some o4 ∧ Kp [p] H H5, ?_, fun σ' H5 hm => ?_⟩
    · refine ⟨.int way, rfl, _, _, rfl, rfl, _, rfl, ite2 (fun e => ?_) (fun e => ⟨g, rfl, g0, g1, ex3, ep4, k3⟩)⟩
      have e1 : way < 3 := of_decide_eq_true e
      refine ⟨by show (3 : Nat) ≤ sizeLine; omega, fun l6 nl6 => ?_⟩
      have q6 := (Kp.new (ps := []) (o := HO.lst [.int 10, .int 13, .int 13]) nl6).same
      obtain ⟨v, vm, ev, _⟩ := atI_int (ms := [10, 13, 13]) (i := way) w0 (by show way < 3; omega)
      have vb : v = 10 ∨ v = 13 := by
        simp only [List.mem_cons, List.mem_nil_iff, or_false] at vm
        omega
      exact ⟨_, rfl, l6, _, _, .int v, rfl, rfl, .inl (.inl (by rw [upd_same]; rfl)), ev, v, rfl, by omega, by omega, q6 _ _ ex3, q6 _ _ ep4, k3.trans (Kp.of q6)⟩
    clear ex1 ex3 ep4 k4 k3 g0 g1 g kk ep ex
    obtain ⟨g, rfl, g0, g1, ex, ep, kk⟩ := hm
    refine ⟨_, rfl, by show (1 : Nat) ≤ sizeLine; omega, fun l nl => ?_⟩
    have t1 := (Kp.new (ps := []) (o := HO.lst [.int g]) nl).same
    refine ⟨_, rfl, _, rfl, l, [g], st, c, rfl, sq_new, by show 1 ≤ 200; decide, vst, (fun v hv => by rw [List.mem_singleton.mp hv]; exact ⟨g0, g1⟩), fun H6 tq w ntq nw qw etq ew s4 => ?_⟩
    rw [writeF_one] at etq ew
    refine ⟨tq, _, rfl, .inl (.inl etq), rfl, _, _, rfl, _, _, rfl, rfl, ?_⟩
    have lw := signW_len (s := st) g0 g1
    have nw' := signW_bb (s := st) g0 g1
    have vs' := signW_vs (g := g) vst
    have t14 := t1.trans s4
    have ex4 := t14 _ _ ex
    have ep4 := t14 _ _ ep
    have k4 := kk.trans (Kp.of t14)
    have pw : p ≠ w := ne_of_none (t1 _ _ ep) nw
    generalize signW c g st = WW at *
    obtain ⟨WR, af⟩ := WW
    dsimp only at etq ew lw nw' vs'
    clear kk ex ep t14 t1 s4
    refine ⟨fun σ' H5 => ∃ (pc : Addr) (PC : List Int) (st' : Int) (o5 : HO), σ' = [some (.ref p), some (.str c.w), some (.int m), some (.int y), some (.int S), some (.ref x), some (.int st'), some (.int (0 + (i : Int))), some (.int way), some (.int g), some (.ref pc), some (.int af)] ∧ H5 x = some (.lst (bs.map V.int)) ∧ H5 pc = some (.lst (PC.map V.int)) ∧ PC.length ≤ 4 ∧ BB PC ∧ VS c st' ∧ H5 p = some o5 ∧ PoolO (n + 10 + 10 * (i + 1 : Nat)) o5 ∧ Kp [p] H H5, ?_, fun σ' H5 hm => ?_⟩
    · refine ⟨.int way, rfl, rfl, _, rfl, ite2 (fun _ => ?_) (fun _ => ?_)⟩
      rotate_left
      · exact ⟨.int af, rfl, w, WR, af, o4, rfl, ex4, ew, lw.2, nw', vs', ep4, hP4.up (by omega), k4⟩
      refine ⟨.ref p, rfl, p, _, 256, o4, rfl, ep4, hP4, by omega, by decide, by decide, fun v o6 v0 v1 hP6 => ?_⟩
      have ex6 : (upd H6 p o6) x = some (.lst (bs.map V.int)) := by rw [upd_ne xp]; exact ex4
      have ew6 : (upd H6 p o6) w = some (.lst (WR.map V.int)) := by rw [upd_ne pw.symm]; exact ew
      have ep6 : (upd H6 p o6) p = some o6 := upd_same
      have k6 : Kp [p] H (upd H6 p o6) := k4.trans (Kp.at (by simp))
      generalize upd H6 p o6 = H7 at ex6 ew6 ep6 k6 ⊢
      refine ⟨by show (1 : Nat) ≤ sizeLine; omega, fun a1 na1 => ?_⟩
      have t2 := (Kp.new (ps := []) (o := HO.lst [.int v]) na1).same
      have pa1 : a1 ≠ p := (ne_of_none ep6 na1).symm
      refine ⟨.ref w, rfl, .ref p, rfl, .ref w, rfl, w, _, rfl, .inl (sq_at (t2 _ _ ew6)), p, _, _, o6, rfl, t2 _ _ ep6, hP6, by omega, by rw [List.length_map]; omega, by rw [List.length_map]; omega, fun r2 o7 r20 r21 hP7 => ?_⟩
      obtain ⟨r2, rfl⟩ := Int.eq_ofNat_of_zero_le r20
      have ea7 : (upd (upd H7 a1 (.lst [.int v])) p o7) a1 = some (.lst (([v] : List Int).map V.int)) := by rw [upd_ne pa1]; exact upd_same
      have ew7 : (upd (upd H7 a1 (.lst [.int v])) p o7) w = some (.lst (WR.map V.int)) := by rw [upd_ne pw.symm]; exact t2 _ _ ew6
      have ex7 : (upd (upd H7 a1 (.lst [.int v])) p o7) x = some (.lst (bs.map V.int)) := by rw [upd_ne xp]; exact t2 _ _ ex6
      have ep7 : (upd (upd H7 a1 (.lst [.int v])) p o7) p = some o7 := upd_same
      have k7 : Kp [p] H (upd (upd H7 a1 (.lst [.int v])) p o7) := (k6.trans (Kp.of t2)).trans (Kp.at (by simp))
      generalize upd (upd H7 a1 (.lst [.int v])) p o7 = H8 at ea7 ew7 ex7 ep7 k7 ⊢
      refine ⟨_, rfl, w, _, rfl, sq_at ew7, fun z nz => ?_⟩
      rw [take_cut]
      have t3 := (Kp.new (ps := []) (o := HO.lst ((WR.take r2).map V.int)) nz).same
      have ez : (upd H8 z (.lst ((WR.take r2).map V.int))) z = some (.lst ((WR.take r2).map V.int)) := upd_same
      refine ⟨by show (2 : Nat) ≤ sizeLine; omega, fun b nb2 => ?_⟩
      have t4 := (Kp.new (ps := []) (o := HO.lst [.ref a1, .ref z]) nb2).same
      have t34 := t3.trans t4
      have ez4 := t4 _ _ ez
      have eb4 : (upd (upd H8 z (.lst ((WR.take r2).map V.int))) b (.lst [.ref a1, .ref z])) b = some (.lst [.ref a1, .ref z]) := upd_same
      have pb : b ≠ p := (ne_of_none (t3 _ _ ep7) nb2).symm
      have pz : z ≠ p := (ne_of_none ep7 nz).symm
      generalize upd (upd H8 z (.lst ((WR.take r2).map V.int))) b (.lst [.ref a1, .ref z]) = H9 at t34 ez4 eb4 ⊢
      refine ⟨.ref p, rfl, p, _, 2, o7, rfl, t34 _ _ ep7, hP7, by omega, by decide, by decide, fun r3 o8 r30 r31 hP8 => ?_⟩
      have k8 : Kp [p] H (upd H9 p o8) := (k7.trans (Kp.of t34)).trans (Kp.at (by simp))
      have pk : ∃ (u : Addr) (PC : List Int), atI [V.ref a1, .ref z] r3 = some (.ref u) ∧ (upd H9 p o8) u = some (.lst (PC.map V.int)) ∧ PC.length ≤ 4 ∧ BB PC := by
        rcases (show r3 = 0 ∨ r3 = 1 by omega) with rfl | rfl
        · exact ⟨a1, [v], rfl, by rw [upd_ne pa1]; exact t34 _ _ ea7, by show 1 ≤ 4; omega, bb_one v0 (by omega)⟩
        · exact ⟨z, WR.take r2, rfl, by rw [upd_ne pz]; exact ez4, by rw [List.length_take]; omega, bb_take nw' r2⟩
      obtain ⟨u, PC, ea, eu, lp, bp⟩ := pk
      exact ⟨b, _, r3, .ref u, rfl, rfl, sq_at (by rw [upd_ne pb]; exact eb4), ea, u, PC, st, o8, rfl, by rw [upd_ne xp]; exact t34 _ _ ex7, eu, lp, bp, vst, upd_same, hP8.up (by omega), k8⟩
    obtain ⟨pc, PC, st', o5, rfl, ex5, epc, lpc, npc, vs5, ep5, hP5, k5⟩ := hm
    refine ⟨.ref x, rfl, .ref pc, rfl, x, pc, _, _, rfl, rfl, ex5, epc, by rw [List.length_map, List.length_map]; omega, fun u nu => ?_⟩
    have up : u ≠ p := (ne_of_none ep5 nu).symm
    exact ⟨u, bs ++ PC, o5, st', _, _, _, _, _, rfl, k5.free (by simpa using up) nu, up, by rw [upd_same, List.map_append], bb_app nb npc, by rw [List.length_append]; omega, vs5, by rw [upd_ne up.symm]; exact ep5, hP5, k5.trans (Kp.new nu)⟩

theorem ok_iBadCode (T : Tx K mg) : FnOk P w K mg base CX0 1 T.f_iBadCode T.fd_iBadCode P_iBadCode (spErr1 T.C_BadCode "at") := by
  have sz : sizeLine = 16777216 := sizeLine_eq
  refine T.D_iBadCode.ok sc_iBadCode (fun vs H Q E h => ?_) (fun cdv A outer s H vs Q E hr h => ?_)
  · obtain ⟨a, v, rfl, _⟩ := h
    rfl
  · obtain ⟨a, v, rfl, hA, q⟩ := h
    refine ⟨_, (pss_one (ps_ost (pv 0) (pv 1))), ?_⟩
    exact ⟨v, rfl, .ref a, rfl, a, T.C_BadCode, rfl, T.o_BadCode, T.n_BadCode, .inl ⟨hA, q⟩⟩

theorem ok_iNoEnds (T : Tx K mg) : FnOk P w K mg base CX0 1 T.f_iNoEnds T.fd_iNoEnds P_iNoEnds (spErr1 T.C_NoEnds "word") := by
  have sz : sizeLine = 16777216 := sizeLine_eq
  refine T.D_iNoEnds.ok sc_iNoEnds (fun vs H Q E h => ?_) (fun cdv A outer s H vs Q E hr h => ?_)
  · obtain ⟨a, v, rfl, _⟩ := h
    rfl
  · obtain ⟨a, v, rfl, hA, q⟩ := h
    refine ⟨_, (pss_one (ps_ost (pv 0) (pv 1))), ?_⟩
    exact ⟨v, rfl, .ref a, rfl, a, T.C_NoEnds, rfl, T.o_NoEnds, T.n_NoEnds, .inl ⟨hA, q⟩⟩

theorem ok_wfeed (T : Tx K mg) : FnOk P w K mg base (L2.CX P w) 3 T.f_wfeed T.fd_wfeed P_wfeed (spFeedX T.C_NoEnds) := by
  have G_iNoEnds := ok_iNoEnds (P := P) (w := w) (base := base) T
  have sz : sizeLine = 16777216 := sizeLine_eq
  refine T.D_wfeed.F.okX sc_wfeed (fun vs H Q E h => ?_) (fun cdv A outer s H vs Q E hr h => ?_)
  · obtain ⟨z, rfl, _⟩ := h
    rfl
  · obtain ⟨z, rfl, q, qe⟩ := h
    refine ⟨_, (pss_cons (ps_if (pt_cmpR op_eq (pv 0) (pe_glob (v := .str (Str.ofString "return")) (by rfl) T.c_RETURN ⟨_, rfl⟩) (nomark _)) (pss_one (ps_ret (pe_lst (pa_cons (pe_glob (v := .int 13) (by rfl) T.c_LINE_RETURN ⟨_, rfl⟩) pa_nil)))) pss_nil)
      (pss_cons (ps_if (pt_cmpR op_eq (pv 0) (pe_glob (v := .str (Str.ofString "both")) (by rfl) T.c_BOTH ⟨_, rfl⟩) (nomark _)) (pss_one (ps_ret (pe_lst (pa_cons (pe_glob (v := .int 13) (by rfl) T.c_LINE_RETURN ⟨_, rfl⟩) (pa_cons (pe_glob (v := .int 10) (by rfl) T.c_LINE_FEED ⟨_, rfl⟩) pa_nil))))) pss_nil)
      (pss_cons (ps_if (PW.pt (pw_or (pt_cmpR op_eq (pv 0) (pe_glob (v := .str (Str.ofString "any")) (by rfl) T.c_ANY ⟨_, rfl⟩) (nomark _)) (pw_or (pt_cmpR op_eq (pv 0) (pe_glob (v := .str (Str.ofString "kept")) (by rfl) T.c_KEPT ⟨_, rfl⟩) (nomark _)) (pw_or1 (pt_cmpR op_eq (pv 0) (pe_glob (v := .str (Str.ofString "feed")) (by rfl) T.c_FEED ⟨_, rfl⟩) (nomark _)))))) (pss_one (ps_ret (pe_lst (pa_cons (pe_glob (v := .int 10) (by rfl) T.c_LINE_FEED ⟨_, rfl⟩) pa_nil)))) pss_nil)
      (pss_one (ps_raise rfl (takes_of rfl rfl rfl rfl) (pmk_oex T.o_NoEnds T.ini_NoEnds T.tI_NoEnds G_iNoEnds (hr.mono (by decide)) T.bb_iNoEnds .nil pass0 (by rfl) T.g_NoEnds (pa_cons (pv 0) pa_nil))))))), ?_⟩
    unfold feedF at q qe
    refine ⟨_, rfl, rfl, _, rfl, ite2 (fun e => ?_) (fun e => ?_)⟩
    · have e1 : z = wR := V.str.inj (of_decide_eq_true e)
      rw [if_pos e1] at q
      exact ⟨by show (1 : Nat) ≤ sizeLine; omega, fun l nl => q _ rfl _ l nl upd_same (Kp.new (ps := []) nl).same⟩
    have e1 : z ≠ wR := fun y => e (decide_eq_true (congrArg V.str y))
    rw [if_neg e1] at q qe
    refine ⟨_, rfl, rfl, _, rfl, ite2 (fun e => ?_) (fun e => ?_)⟩
    · have e2 : z = wB := V.str.inj (of_decide_eq_true e)
      rw [if_pos e2] at q
      exact ⟨by show (2 : Nat) ≤ sizeLine; omega, fun l nl => q _ rfl _ l nl upd_same (Kp.new (ps := []) nl).same⟩
    have e2 : z ≠ wB := fun y => e (decide_eq_true (congrArg V.str y))
    rw [if_neg e2] at q qe
    have yes : z = wA ∨ z = wK ∨ z = wF → ∀ l, H l = none → Q (.ref l) (upd H l (.lst [.int 10])) := fun h l nl => by
      rw [if_pos h] at q
      exact q _ rfl _ l nl upd_same (Kp.new (ps := []) nl).same
    refine ⟨_, rfl, rfl, _, rfl, ite2 (fun e => ?_) (fun e => ?_)⟩
    · exact iteT ⟨by show (1 : Nat) ≤ sizeLine; omega, yes (.inl (V.str.inj (of_decide_eq_true e)))⟩
    refine ⟨_, rfl, rfl, _, rfl, ite2 (fun e' => ?_) (fun e' => ?_)⟩
    · exact iteT ⟨by show (1 : Nat) ≤ sizeLine; omega, yes (.inr (.inl (V.str.inj (of_decide_eq_true e'))))⟩
    refine ⟨_, rfl, rfl, _, rfl, ite2 (fun e'' => ?_) (fun e'' => ?_)⟩
    · exact ⟨by show (1 : Nat) ≤ sizeLine; omega, yes (.inr (.inr (V.str.inj (of_decide_eq_true e''))))⟩
    rw [if_neg (fun y => y.elim (fun y => e (decide_eq_true (congrArg V.str y))) (fun y => y.elim (fun y => e' (decide_eq_true (congrArg V.str y))) (fun y => e'' (decide_eq_true (congrArg V.str y)))))] at qe
    exact ⟨.str z, rfl, mk1_fin (fun d nd => qe rfl d nd)⟩

theorem ok_wends (T : Tx K mg) : FnOk P w K mg base (L2.CX P w) 4 T.f_wends T.fd_wends P_wends (spEndsX K T.C_NoEnds) := by
  have G_wfeed := ok_wfeed (P := P) (w := w) (base := base) T
  have sz : sizeLine = 16777216 := sizeLine_eq
  refine T.D_wends.F.okX sc_wends (fun vs H Q E h => ?_) (fun cdv A outer s H vs Q E hr h => ?_)
  · obtain ⟨a, gs, z, rfl, _⟩ := h
    rfl
  · obtain ⟨a, gs, z, rfl, hA, lg, q, qe⟩ := h
    refine ⟨_, (pss_cons (ps_set (i := 2) sc_wends.nd rfl (.inl rfl) (pe_call G_wfeed (hr.mono (by decide)) (by rfl) T.D_wfeed.g T.D_wfeed.F.kp T.bb_wfeed .nil (Sip.passX (takes_of rfl rfl rfl rfl)) (pa_cons (pv 1) pa_nil)))
      (pss_cons (ps_set (i := 3) sc_wends.nd rfl (.inl rfl) (pe_lst pa_nil))
      (pss_cons (ps_for (passes_of rfl) rfl (pi_list (pv 0)) (pg_name (i := 4) sc_wends.nd rfl (.inl rfl)) (pss_one (ps_if (pt_cmpR op_eq (pv 4) (pe_glob (v := .int 10) (by rfl) T.c_LINE_FEED ⟨_, rfl⟩) (nomark _)) (pss_one (ps_expr (pe_bm PySem.F.plainAttrs_list PySem.F.slot_list_extend PySem.F.type_list_extend mt_extend (pv 3) (pa_cons (pv 2) pa_nil)))) (pss_one (ps_expr (pe_bm PySem.F.plainAttrs_list PySem.F.slot_list_append PySem.F.type_list_append mt_append (pv 3) (pa_cons (pv 4) pa_nil)))))))
      (pss_one (ps_ret (pv 3)))))), ?_⟩
    refine ⟨.str z, rfl, z, rfl, fun f ef H1 u nu eu s1 => ?_, qe⟩
    have q := q f ef
    have lf := feed_len ef
    refine ⟨Nat.zero_le _, fun w nw => ?_⟩
    have s2 := s1.trans (Kp.new (ps := []) (o := HO.lst []) nw).same
    have uw : u ≠ w := ne_of_none eu nw
    have nwH := s1.free nw
    refine ⟨.ref a, rfl, a, rfl, ⟨_, s2.seq hA⟩, ?_⟩
    refine for_list (xs := gs.map V.int) (fun i σ H' => ∃ y : Option V, σ = [some (.ref a), some (.str z), some (.ref u), some (.ref w), y] ∧ H' w = some (.lst ((endsF f (gs.take i)).map V.int)) ∧ H' u = some (.lst (f.map V.int)) ∧ Same H H') ⟨none, rfl, upd_same, by rw [upd_ne uw]; exact eu, s2⟩ (fun i σ H' _ hW => ?_) (fun i x σ H' hx hW => ?_) (fun σ H' hW => ?_)
    · obtain ⟨_, _, _, _, s⟩ := hW
      exact s.seq hA
    · obtain ⟨y, rfl, ew, eu, sm⟩ := hW
      rw [List.getElem?_map] at hx
      obtain ⟨g, hgx, rfl⟩ := Option.map_eq_some_iff.mp hx
      have hi : i < gs.length := (List.getElem?_eq_some_iff.mp hgx).1
      have et : gs.take (i + 1) = gs.take i ++ [g] := by rw [List.take_add_one, hgx]; rfl
      have ll := endsF_len lf (gs.take i)
      rw [List.length_take] at ll
      rw [et, endsF_snoc]
      refine ⟨.int g, rfl, rfl, _, rfl, ite2 (fun e => ?_) (fun e => ?_)⟩
      · have e1 : g = 10 := V.int.inj (of_decide_eq_true e)
        rw [if_pos e1]
        refine ⟨.ref w, rfl, .inl ⟨rfl, _, sq_at ew⟩, .ref u, rfl, w, u, _, _, rfl, rfl, ew, eu, by rw [List.length_map, List.length_map]; omega, ?_⟩
        exact ⟨_, rfl, by rw [upd_same, List.map_append], by rw [upd_ne uw]; exact eu, put_same sm nwH⟩
      · have e1 : g ≠ 10 := fun z => e (decide_eq_true (by rw [z]))
        rw [if_neg e1]
        refine ⟨.ref w, rfl, .inl ⟨rfl, _, sq_at ew⟩, .int g, rfl, w, _, _, rfl, rfl, ew, by rw [List.length_map]; omega, ?_⟩
        exact ⟨_, rfl, by rw [upd_same, List.map_append]; rfl, by rw [upd_ne uw]; exact eu, put_same sm nwH⟩
    · obtain ⟨y, rfl, ew, eu, sm⟩ := hW
      rw [List.length_map, List.take_of_length_le (Nat.le_refl _)] at ew
      exact ⟨.ref w, rfl, q _ w nwH ew sm⟩

theorem ok_lends (T : Tx K mg) : FnOk P w K mg base CX0 1 T.f_lends T.fd_lends P_lends (spEndsL K) := by
  have sz : sizeLine = 16777216 := sizeLine_eq
  refine T.D_lends.F.ok sc_lends (fun vs H Q E h => ?_) (fun cdv A outer s H vs Q E hr h => ?_)
  · obtain ⟨a, gs, z, f, rfl, _⟩ := h
    rfl
  · obtain ⟨a, gs, z, f, rfl, hA, lg, ef, q⟩ := h
    refine ⟨_, (pss_cons (ps_set (i := 2) sc_lends.nd rfl (.inl rfl) (pe_lst pa_nil))
      (pss_cons (ps_for PassesOwn.never rfl (pi_list (pv 0)) (pg_name (i := 3) sc_lends.nd rfl (.inl rfl)) (C8.pss_cut (ps_if (PW.pt (pw_and (pt_cmpR op_eq (pv 3) pe_int (nomark _)) (pw_and1 (pt_cmpR op_eq (pv 1) pe_str (nomark _))))) (pss_one (ps_expr (pe_bm PySem.F.plainAttrs_list PySem.F.slot_list_append PySem.F.type_list_append mt_append (pv 2) (pa_cons pe_int pa_nil)))) pss_nil)
      (pss_one (ps_expr (pe_bm PySem.F.plainAttrs_list PySem.F.slot_list_append PySem.F.type_list_append mt_append (pv 2) (pa_cons (pe_ix ix_list (pe_lst (pa_cons (pv 3) (pa_cons pe_int pa_nil))) (pe_callTy call_int1 (by rfl) T.m_int (by decide +kernel) (pa_cons (pe_and (pe_cmpR op_eq (pv 3) pe_int (nomark _)) (pe_one (pe_cmpR op_eq (pv 1) pe_str (nomark _)))) pa_nil)) (fun _ _ => rfl)) pa_nil))))))
      (pss_one (ps_ret (pv 2))))), ?_⟩
    have lf := feed_len ef
    refine ⟨Nat.zero_le _, fun w nw => ?_⟩
    have s2 := (Kp.new (ps := []) (o := HO.lst []) nw).same
    refine ⟨.ref a, rfl, a, rfl, ⟨_, s2.seq hA⟩, ?_⟩
    refine for_list (xs := gs.map V.int) (fun i σ H' => ∃ y : Option V, σ = [some (.ref a), some (.str z), some (.ref w), y] ∧ H' w = some (.lst ((endsF f (gs.take i)).map V.int)) ∧ Same H H') ⟨none, rfl, upd_same, s2⟩ (fun i σ H' _ hW => ?_) (fun i x σ H' hx hW => ?_) (fun σ H' hW => ?_)
    · obtain ⟨_, _, _, s⟩ := hW
      exact s.seq hA
    · obtain ⟨y, rfl, ew, sm⟩ := hW
      rw [List.getElem?_map] at hx
      obtain ⟨g, hgx, rfl⟩ := Option.map_eq_some_iff.mp hx
      have hi : i < gs.length := (List.getElem?_eq_some_iff.mp hgx).1
      have et : gs.take (i + 1) = gs.take i ++ [g] := by rw [List.take_add_one, hgx]; rfl
      have ll := endsF_len lf (gs.take i)
      rw [List.length_take] at ll
      rw [et, endsF_snoc]
      refine ⟨fun σ' H2 => ∃ pre : List Int, σ' = [some (.ref a), some (.str z), some (.ref w), some (.int g)] ∧ H2 w = some (.lst ((endsF f (gs.take i) ++ pre).map V.int)) ∧ pre.length ≤ 1 ∧ (if g = 10 then f else [g]) = pre ++ [if g = 10 ∧ z = wR then 13 else g] ∧ Same H H2, ?_, fun σ' H2 hm => ?_⟩
      · have fz : f = (if z = wR then [13] else if z = wB then [13, 10] else [10]) := by
          unfold feedF at ef
          by_cases a1 : z = wR
          · rw [if_pos a1] at ef ⊢; exact (Option.some.inj ef).symm
          · rw [if_neg a1] at ef ⊢
            by_cases a2 : z = wB
            · rw [if_pos a2] at ef ⊢; exact (Option.some.inj ef).symm
            · rw [if_neg a2] at ef ⊢
              split at ef
              · exact (Option.some.inj ef).symm
              · cases ef
        refine ⟨.int g, rfl, rfl, _, rfl, ite2 (fun e => ?_) (fun e => ?_)⟩
        · have e1 : g = 10 := V.int.inj (of_decide_eq_true e)
          refine ⟨_, rfl, rfl, _, rfl, ite2 (fun e2 => ?_) (fun e2 => ?_)⟩
          · have e3 : z = wB := V.str.inj (of_decide_eq_true e2)
            refine ⟨.ref w, rfl, .inl ⟨rfl, _, sq_at ew⟩, w, _, _, rfl, rfl, ew, by rw [List.length_map]; omega, ?_⟩
            refine ⟨[13], rfl, by rw [upd_same, List.map_append]; rfl, by decide, ?_, put_same sm nw⟩
            have nR : z ≠ wR := by rw [e3]; decide +kernel
            rw [if_pos e1, if_neg (fun h => nR h.2), fz, if_neg nR, if_pos e3, e1]; rfl
          · have e3 : z ≠ wB := fun y => e2 (decide_eq_true (congrArg V.str y))
            refine ⟨[], rfl, by rw [List.append_nil]; exact ew, by decide, ?_, sm⟩
            rw [if_pos e1, fz, if_neg e3]
            by_cases h : z = wR
            · rw [if_pos h, if_pos ⟨e1, h⟩]; rfl
            · rw [if_neg h, if_neg (fun x => h x.2), e1]; rfl
        · have e1 : g ≠ 10 := fun z => e (decide_eq_true (by rw [z]))
          refine ⟨[], rfl, by rw [List.append_nil]; exact ew, by decide, ?_, sm⟩
          rw [if_neg e1, if_neg (fun x => e1 x.1)]; rfl
      · obtain ⟨pre, rfl, ew2, lp, ep, s2⟩ := hm
        rw [ep]
        refine ⟨.ref w, rfl, .inl ⟨rfl, _, sq_at ew2⟩, .int g, rfl, by show (2 : Nat) ≤ sizeLine; omega, fun l nl => ?_⟩
        have t1 := (Kp.new (ps := []) (o := HO.lst [.int g, .int 13]) nl).same
        have ew3 := t1 _ _ ew2
        have fin : ∀ v : Int, v = (if g = 10 ∧ z = wR then 13 else g) → ∃ y : Option V, [some (V.ref a), some (.str z), some (.ref w), some (.int g)] = [some (V.ref a), some (.str z), some (.ref w), y] ∧ upd (upd H2 l (.lst [.int g, .int 13])) w (.lst ((endsF f (gs.take i) ++ pre).map V.int ++ [.int v])) w = some (.lst ((endsF f (gs.take i) ++ (pre ++ [if g = 10 ∧ z = wR then 13 else g])).map V.int)) ∧ Same H (upd (upd H2 l (.lst [.int g, .int 13])) w (.lst ((endsF f (gs.take i) ++ pre).map V.int ++ [.int v]))) := fun v hv =>
          ⟨_, rfl, by rw [upd_same, ← hv, ← List.append_assoc, List.map_append (l₁ := endsF f (gs.take i) ++ pre)]; rfl, put_same (s2.trans t1) nw⟩
        have fit : ((endsF f (gs.take i) ++ pre).map V.int).length < sizeLine := by rw [List.length_map, List.length_append]; omega
        refine ⟨.int g, rfl, rfl, _, rfl, ite2 (fun e => ?_) (fun e => ?_)⟩
        · have e1 : g = 10 := V.int.inj (of_decide_eq_true e)
          refine ⟨_, rfl, rfl, .inr ⟨_, rfl, ?_⟩⟩
          by_cases h : z = wR
          · refine ⟨l, _, _, .int 13, rfl, rfl, .inl (.inl upd_same), ?_, w, _, .int 13, rfl, rfl, ew3, fit, fin 13 (by rw [if_pos ⟨e1, h⟩])⟩
            rw [show decide (V.str z = V.str (Str.ofString "return")) = true from decide_eq_true (congrArg V.str h)]; rfl
          · refine ⟨l, _, _, .int g, rfl, rfl, .inl (.inl upd_same), ?_, w, _, .int g, rfl, rfl, ew3, fit, fin g (by rw [if_neg (fun x => h x.2)])⟩
            rw [show decide (V.str z = V.str (Str.ofString "return")) = false from decide_eq_false (fun y => h (V.str.inj y))]; rfl
        · have e1 : g ≠ 10 := fun z => e (decide_eq_true (by rw [z]))
          refine .inr ⟨_, rfl, l, _, _, .int g, rfl, rfl, .inl (.inl upd_same), rfl, w, _, .int g, rfl, rfl, ew3, fit, fin g (by rw [if_neg (fun x => e1 x.1)])⟩
    · obtain ⟨y, rfl, ew, sm⟩ := hW
      rw [List.length_map, List.take_of_length_le (Nat.le_refl _)] at ew
      exact ⟨.ref w, rfl, q _ w nw ew sm⟩

theorem ok_cends (T : Tx K mg) : FnOk P w K mg base CX0 4 T.f_cends T.fd_cends P_cends (spCEnds) := by
  have G_wfeed := ok_wfeed (P := P) (w := w) (base := base) T
  have sz : sizeLine = 16777216 := sizeLine_eq
  refine T.D_cends.F.ok sc_cends (fun vs H Q E h => ?_) (fun cdv A outer s H vs Q E hr h => ?_)
  · obtain ⟨z, rfl, _⟩ := h
    rfl
  · obtain ⟨z, rfl, hz, q⟩ := h
    refine ⟨_, (pss_one (ps_expr (pe_call G_wfeed (hr.mono (by decide)) (by rfl) T.D_wfeed.g T.D_wfeed.F.kp T.bb_wfeed .nil passL (pa_cons (pv 0) pa_nil)))), ?_⟩
    obtain ⟨f, ef⟩ := way_feed hz
    exact ⟨.str z, rfl, z, rfl, fun f' _ H' l _ _ s => q _ s, fun e => by rw [ef] at e; cases e⟩

theorem ok_cways (T : Tx K mg) : FnOk P w K mg base CX0 5 T.f_cways T.fd_cways P_cways (spCWays) := by
  have G_chk := ok_chk (P := P) (w := w) (base := base) T
  have G_cends := ok_cends (P := P) (w := w) (base := base) T
  have sz : sizeLine = 16777216 := sizeLine_eq
  refine T.D_cways.F.ok sc_cways (fun vs H Q E h => ?_) (fun cdv A outer s H vs Q E hr h => ?_)
  · obtain ⟨c, z, st, rfl, _⟩ := h
    rfl
  · obtain ⟨c, z, st, rfl, hz, q⟩ := h
    refine ⟨_, (pss_cons (ps_expr (pe_call G_chk (hr.mono (by decide)) (by rfl) T.D_chk.g T.D_chk.F.kp T.bb_chk .nil passL (pa_cons (pv 0) pa_nil)))
      (pss_cons (ps_expr (pe_call G_cends (hr.mono (by decide)) (by rfl) T.D_cends.g T.D_cends.F.kp T.bb_cends .nil pass0 (pa_cons (pv 1) pa_nil)))
      (pss_one (ps_if (pt_cmpR op_notIn_seq (pv 2) (pe_tup (pa_cons (pe_glob (v := .str (Str.ofString "strict")) (by rfl) T.c_STRICT ⟨_, rfl⟩) (pa_cons (pe_glob (v := .str (Str.ofString "mark")) (by rfl) T.c_MARK ⟨_, rfl⟩) pa_nil))) rfl) (pss_one ps_never) pss_nil)))), ?_⟩
    refine ⟨_, rfl, c.w, rfl, fun c' ec H1 s1 => ?_, fun nc => absurd ⟨c, rfl⟩ nc⟩
    refine ⟨_, rfl, z, rfl, hz, fun H2 s2 => ?_⟩
    have s12 := s1.trans s2
    refine ⟨_, rfl, by show (2 : Nat) ≤ sizeLine; omega, fun t nt => ?_⟩
    have s13 := s12.trans (Kp.new (ps := []) (o := HO.tup [.str wS, .str wM]) nt).same
    refine ⟨t, _, rfl, .inr (.inl (.inl upd_same)), rfl, rfl, _, rfl, ?_⟩
    cases st with
    | true => exact iteFc (by decide +kernel) (q _ s13)
    | false => exact iteFc (by decide +kernel) (q _ s13)

theorem ok_sof (T : Tx K mg) : FnOk P w K mg base CX0 1 T.f_sof T.fd_sof P_sof (spSofC) := by
  have sz : sizeLine = 16777216 := sizeLine_eq
  refine T.D_sof.F.ok sc_sof (fun vs H Q E h => ?_) (fun cdv A outer s H vs Q E hr h => ?_)
  · obtain ⟨l, ts, xs, rfl, _⟩ := h
    rfl
  · obtain ⟨l, ts, xs, rfl, ⟨hl, hi⟩, lx, q⟩ := h
    refine ⟨_, (pss_one (ps_ret (pe_lc (own := [("sign", 1), ("place", 2), ("state", 3)]) (g := gTup K 3 (gCons (gName 1) (gCons (gName 2) (gCons (gName 3) (gNil))))) (tt := tYes) (by rfl) sc_sof.nd (pi_list (pv 0)) (blkOk_by (own := [("sign", 1), ("place", 2), ("state", 3)]) (N := N_sof) (sc := defScope s_sof) (by decide +kernel)) (fun _ _ _ _ _ => (show PG _ _ (gTup K 3 (gCons (gName 1) (gCons (gName 2) (gCons (gName 3) (gNil))))) from pg_tup rfl (pgs_cons (pg_name (i := 1) sc_sof.nd rfl (Or.inl rfl)) (pgs_cons (pg_name (i := 2) sc_sof.nd rfl (Or.inl rfl)) (pgs_cons (pg_name (i := 3) sc_sof.nd rfl (Or.inl rfl)) pgs_nil))))) (fun _ _ _ _ _ => pts_nil) (fun _ _ _ _ _ => (pv 1))))), ?_⟩
    refine ⟨.ref l, rfl, l, rfl, ⟨_, sq_at hl⟩, fun D nD => ?_⟩
    refine lc_list (K := K) (a := l) (xs := ts.map V.ref) (fun i H' => H' D = some (.lst ((sgn (xs.take i)).map V.int)) ∧ Same H H') ⟨upd_same, (Kp.new (ps := []) nD).same⟩ (fun i H' _ hP => sq_at (hP.2 _ _ hl)) (fun i x H' hx hP => ?_) (fun H' hP => ?_)
    · obtain ⟨eD, sm⟩ := hP
      rw [List.getElem?_map] at hx
      obtain ⟨t, ht, rfl⟩ := Option.map_eq_some_iff.mp hx
      have hi' : i < ts.length := (List.getElem?_eq_some_iff.mp ht).1
      have tl := hi.len
      obtain ⟨x, hx2, et⟩ := (hi.same sm).at ht
      refine ⟨t, _, rfl, .inl (.inl et), rfl, _, _, rfl, _, _, rfl, _, _, rfl, rfl, rfl, ?_⟩
      refine ⟨_, rfl, _, eD, ?_, ?_, put_same sm nD⟩
      · unfold sgn; rw [List.length_map, List.length_map, List.length_take]; omega
      · rw [upd_same, List.take_add_one, hx2]
        unfold sgn
        rw [List.map_append, List.map_append]; rfl
    · obtain ⟨eD, sm⟩ := hP
      rw [List.length_map, hi.len, List.take_length] at eD
      exact q _ D nD eD sm

theorem ok_decod (T : Tx K mg) : FnOk P w K mg base (L2.CX P w) 10 T.f_decod T.fd_decod P_decod (spDec53 T.C_BadCode) := by
  have G_cways := ok_cways (P := P) (w := w) (base := base) T
  have G_fstate := ok_fstate (P := P) (w := w) (base := base) T
  have G_sinit := ok_sinit (P := P) (w := w) (base := base) T
  have G_goon := ok_goon (P := P) (w := w) (base := base) T
  have G_sof := ok_sof (P := P) (w := w) (base := base) T
  have G_iBadCode := ok_iBadCode (P := P) (w := w) (base := base) T
  have sz : sizeLine = 16777216 := sizeLine_eq
  refine T.D_decod.F.okX sc_decod (fun vs H Q E h => ?_) (fun cdv A outer s H vs Q E hr h => ?_)
  · obtain ⟨a, c, z, st, row, rfl, _⟩ := h
    rfl
  · obtain ⟨a, c, z, st, row, rfl, hz, lr, hA, q, qe⟩ := h
    refine ⟨_, (pss_cons (ps_expr (pe_call G_cways (hr.mono (by decide)) (by rfl) T.D_cways.g T.D_cways.F.kp T.bb_cways .nil pass0 (pa_cons (pv 1) (pa_cons (pv 2) (pa_cons (pv 3) pa_nil)))))
      (pss_cons (ps_set (i := 4) sc_decod.nd rfl (.inl rfl) (pe_makeK T.mk_Scan G_sinit (hr.mono (by decide)) (by rfl) T.g_Scan T.kb_sinit_2_code_ends_wrong pass0 (pa_cons pe_int (pa_cons (pe_call G_fstate (hr.mono (by decide)) (by rfl) T.D_fstate.g T.D_fstate.F.kp T.bb_fstate .nil (Sip.passX (takes_of rfl rfl rfl rfl)) (pa_cons (pv 1) pa_nil)) pa_nil)) (pk_cons (pv 1) (pk_cons (pv 2) (pk_cons (pv 3) pk_nil)))))
      (pss_cons (ps_expr (pe_meth (pv 4) T.cl_Scan T.D_goon.m G_goon (hr.mono (by decide)) T.bb_goon .nil pass0 (pa_cons (pv 0) (pa_cons pe_bl pa_nil))))
      (pss_cons (ps_if (pt_cmpR op_notN (pe_fld (pv 4) rfl) pe_non (nomark _)) (pss_one (ps_raise rfl (takes_of rfl rfl rfl rfl) (pmk_oex T.o_BadCode T.ini_BadCode T.tI_BadCode G_iBadCode (hr.mono (by decide)) T.bb_iBadCode .nil pass0 (by rfl) T.g_BadCode (pa_cons (pe_fld (pv 4) rfl) pa_nil)))) pss_nil)
      (pss_one (ps_ret (pe_call G_sof (hr.mono (by decide)) (by rfl) T.D_sof.g T.D_sof.F.kp T.bb_sof .nil pass0 (pa_cons (pe_fld (pv 4) rfl) pa_nil)))))))), ?_⟩
    refine ⟨_, rfl, _, rfl, _, rfl, c, z, st, rfl, hz, fun H1 s1 => ?_⟩
    refine ⟨_, rfl, c.w, rfl, fun c' ec H0 s0 => ?_, fun nc => absurd ⟨c, rfl⟩ nc⟩
    clear ec c'
    have s1 := s1.trans s0
    refine ⟨.str c.w, rfl, .str z, rfl, .str (wrW st), rfl, rfl, rfl, fun o dx no nd nod => ?_⟩
    refine ⟨o, dx, 0, 0, c, z, st, rfl, upd_same, fun H2 l nl hs k2 => ?_⟩
    refine ⟨rfl, ?_⟩
    have s2 : Same H0 H2 := fun b u e => by
      have bo : b ≠ o := ne_of_none e no
      have bd : b ≠ dx := ne_of_none e nd
      exact k2 b u (by simpa using bo) (by rw [upd_ne bo, upd_ne bd]; exact e)
    have s12 := s1.trans s2
    have nl1 : H0 l = none := by
      cases e : H0 l with
      | none => rfl
      | some u =>
        rw [upd_ne (ne_of_none e no), upd_ne (ne_of_none e nd), e] at nl
        cases nl
    have al : a ≠ l := ne_of_none (s1 _ _ hA) nl1
    refine ⟨.ref o, rfl, o, dx, _, rfl, hs.ins, sfs_no _ _ _ _ _ _ _ "go_on" (by decide +kernel), .ref a, rfl, o, dx, l, a, 0, 0, c, z, st, row, rfl, hs, lr, sq_at (s12 _ _ hA), al, fun H3 p' s' ts hs3 nw k3 => ?_⟩
    have s3 : Same H H3 := fun b u e => by
      have e1 := s1 _ _ e
      exact k3 b u (by simp [ne_of_none e1 no, ne_of_none e1 nl1]) (s2 _ _ e1)
    rw [scanB_all, scan_items] at hs3
    have fl := hs3.len
    refine ⟨.ref o, rfl, o, T.C_Scan, dx, _, _, rfl, hs3.ins, T.cl_Scan, T.n_Scan_bad, sfs_bad _ _ _ _ _ _ _, rfl, _, rfl, ?_⟩
    cases eb : badF c row st (row.length + 1) 0 0 with
    | none =>
      rw [eb] at hs3
      refine iteFc (by rfl) ?_
      exact ⟨.ref o, rfl, o, T.C_Scan, dx, _, _, rfl, hs3.ins, T.cl_Scan, T.n_Scan_found, sfs_found _ _ _ _ _ _ _, l, ts, _, rfl, ⟨hs3.lst, hs3.its⟩, fl, fun H4 r nr er s4 => q eb H4 r (s3.free nr) er (s3.trans s4)⟩
    | some b =>
      rw [eb] at hs3
      refine iteTc (by rfl) ?_
      exact ⟨.ref o, rfl, o, T.C_Scan, dx, _, _, rfl, hs3.ins, T.cl_Scan, T.n_Scan_bad, sfs_bad _ _ _ _ _ _ _, mk1_fin ((qe b eb).mono s3).raise⟩

theorem ok_encod (T : Tx K mg) : FnOk P w K mg base (L2.CX P w) 6 T.f_encod T.fd_encod P_encod (spEnc53 T.C_NoSign) := by
  have G_chk := ok_chk (P := P) (w := w) (base := base) T
  have G_wends := ok_wends (P := P) (w := w) (base := base) T
  have G_fstate := ok_fstate (P := P) (w := w) (base := base) T
  have G_wsigns := ok_wsigns (P := P) (w := w) (base := base) T
  have sz : sizeLine = 16777216 := sizeLine_eq
  refine T.D_encod.F.okX sc_encod (fun vs H Q E h => ?_) (fun cdv A outer s H vs Q E hr h => ?_)
  · obtain ⟨a, c, z, f, gs, rfl, _⟩ := h
    rfl
  · obtain ⟨a, c, z, f, gs, rfl, hz, ef, lg, hA, q, qe⟩ := h
    refine ⟨_, (pss_cons (ps_expr (pe_call G_chk (hr.mono (by decide)) (by rfl) T.D_chk.g T.D_chk.F.kp T.bb_chk .nil (Sip.passX (takes_of rfl rfl rfl rfl)) (pa_cons (pv 1) pa_nil)))
      (pss_cons (ps_asg (pe_callN G_wsigns (hr.mono (by decide)) (by rfl) T.D_wsigns.g T.D_wsigns.F.kp T.kb_wsigns_2_code (Sip.passX (takes_of rfl rfl rfl rfl)) (pa_cons (pe_callN G_wends (hr.mono (by decide)) (by rfl) T.D_wends.g T.D_wends.F.kp T.kb_wends_1_ends (Sip.passX (takes_of rfl rfl rfl rfl)) (pa_cons (pv 0) pa_nil) (pk_cons (pv 2) pk_nil)) (pa_cons (pe_call G_fstate (hr.mono (by decide)) (by rfl) T.D_fstate.g T.D_fstate.F.kp T.bb_fstate .nil (Sip.passX (takes_of rfl rfl rfl rfl)) (pa_cons (pv 1) pa_nil)) pa_nil)) (pk_cons (pv 1) pk_nil)) (pg_tup rfl (pgs_cons (pg_name (i := 3) sc_encod.nd rfl (.inl rfl)) (pgs_cons (pg_name (i := 4) sc_encod.nd rfl (.inl rfl)) pgs_nil))))
      (pss_one (ps_ret (pv 3))))), ?_⟩
    refine ⟨_, rfl, c.w, rfl, fun c' ec H1 s1 => ?_, fun nc => absurd ⟨c, rfl⟩ nc⟩
    have lf := endsF_len (feed_len ef) gs
    refine ⟨_, rfl, _, rfl, rfl, rfl, a, gs, z, rfl, sq_at (s1 _ _ hA), by omega, fun f' ef' H2 u nu eu s2 => ?_, fun e => by rw [ef] at e; cases e⟩
    rw [ef] at ef'
    cases ef'
    refine ⟨_, rfl, c.w, rfl, fun c2 e2 H3 s3 => ?_, fun nc => absurd ⟨c, rfl⟩ nc⟩
    have s13 := (s1.trans s2).trans s3
    refine ⟨_, rfl, rfl, rfl, u, endsF f gs, 0, c.w, rfl, sq_at (s3 _ _ eu), by omega, fun c3 e3 => ?_, fun nc => absurd ⟨c, rfl⟩ nc⟩
    obtain rfl := w_inj e3
    refine ⟨(by cases c3 <;> first | trivial | exact ⟨by decide, by decide⟩), fun good H4 q4 w4 nq nw ne eq ew s4 => ?_, fun i g hg hb ht => (qe i g hg hb ht).mono s13⟩
    refine ⟨q4, _, rfl, .inl (.inl eq), rfl, _, _, rfl, _, _, rfl, rfl, ?_⟩
    exact ⟨_, rfl, q good _ w4 (s13.free nw) ew (s13.trans s4)⟩

theorem ok_litems (T : Tx K mg) : FnOk P w K mg base CX0 5 T.f_litems T.fd_litems P_litems (spLIt53 K) := by
  have G_lstep := ok_lstep (P := P) (w := w) (base := base) T
  have G_lany := ok_lany (P := P) (w := w) (base := base) T
  have sz : sizeLine = 16777216 := sizeLine_eq
  refine T.D_litems.F.ok sc_litems (fun vs H Q E h => ?_) (fun cdv A outer s H vs Q E hr h => ?_)
  · obtain ⟨a, p, s0, c, z, st, row, rfl, _⟩ := h
    rfl
  · obtain ⟨a, p, s0, c, z, st, row, rfl, hA, bb, rt, lr, q⟩ := h
    refine ⟨_, (pss_cons (ps_set (i := 6) sc_litems.nd rfl (.inl rfl) (pe_lst pa_nil))
      (pss_cons (ps_set (i := 7) sc_litems.nd rfl (.inl rfl) pe_non)
      (pss_cons (ps_set (i := 8) sc_litems.nd rfl (.inl rfl) pe_str)
      (C8.pss_cut (ps_while PassesOwn.never (PW.pt (pw_and (pt_cmpR op_ne (pv 8) pe_str (nomark _)) (pw_and1 (pt_cmpR op_isN (pv 7) pe_non (nomark _))))) (pss_cons (ps_asg (pe_call G_lstep (hr.mono (by decide)) (by rfl) T.D_lstep.g T.D_lstep.F.kp T.bb_lstep .nil pass0 (pa_cons (pv 0) (pa_cons (pv 1) (pa_cons (pv 2) (pa_cons (pv 3) pa_nil))))) (pg_tup rfl (pgs_cons (pg_name (i := 8) sc_litems.nd rfl (.inl rfl)) (pgs_cons (pg_name (i := 9) sc_litems.nd rfl (.inl rfl)) (pgs_cons (pg_name (i := 10) sc_litems.nd rfl (.inl rfl)) (pgs_cons (pg_name (i := 11) sc_litems.nd rfl (.inl rfl)) pgs_nil))))))
      (pss_one (ps_if (PW.pt (pw_and (pt_cmpR op_eq (pv 8) pe_str (nomark _)) (pw_and1 (pt_cmpR op_eq (pv 5) pe_str (nomark _))))) (pss_one (ps_set (i := 7) sc_litems.nd rfl (.inl rfl) (pe_op op_sub (pv 10) pe_int))) (pss_one (ps_if (pt_cmpR op_ne (pv 8) pe_str (nomark _)) (pss_cons (ps_expr (pe_bm PySem.F.plainAttrs_list PySem.F.slot_list_append PySem.F.type_list_append mt_append (pv 6) (pa_cons (pe_tup (pa_cons (pe_ix ix_list (pe_lst (pa_cons (pv 9) (pa_cons pe_int pa_nil))) (pe_callTy call_int1 (by rfl) T.m_int (by decide +kernel) (pa_cons (pe_cmpR op_eq (pv 8) pe_str (nomark _)) pa_nil)) (fun _ _ => rfl)) (pa_cons (pv 10) (pa_cons (pv 11) pa_nil)))) pa_nil)))
      (pss_cons (ps_set (i := 1) sc_litems.nd rfl (.inl rfl) (pv 10))
      (pss_one (ps_set (i := 2) sc_litems.nd rfl (.inl rfl) (pv 11))))) pss_nil))))))
      (C8.pss_cut (ps_if (pt_cmpR op_eq (pv 4) pe_str (nomark _)) (pss_one (ps_set (i := 6) sc_litems.nd rfl (.inl rfl) (pe_call G_lany (hr.mono (by decide)) (by rfl) T.D_lany.g T.D_lany.F.kp T.bb_lany .nil pass0 (pa_cons (pv 6) pa_nil)))) pss_nil)
      (pss_one (ps_ret (pe_tup (pa_cons (pv 6) (pa_cons (pv 7) pa_nil)))))))))), ?_⟩
    refine ⟨Nat.zero_le _, fun m nm => ?_⟩
    have s0' := (Kp.new (ps := []) (o := HO.lst []) nm).same
    have am : ∀ {H2 : Hp} {l : List V}, SqL K H2 a (row.map V.int) → H m = none → True := fun _ _ => trivial
    refine ⟨fun σ' H' => ∃ (ts : List Addr) (bV : V) (y1 y2 y8 y9 y10 y11 : Option V), σ' = [some (.ref a), y1, y2, some (.str c.w), some (.str z), some (.str (wrW st)), some (.ref m), some bV, y8, y9, y10, y11] ∧ ItL H' m ts (rawF c row st (row.length + 1) p s0) ∧ (∀ t ∈ ts, H t = none) ∧ Same H H' ∧ bV = optV (badF c row st (row.length + 1) p s0), ?_, fun σ' H' hm => ?_⟩
    · refine while_by (fun σ H' => ∃ (p' : Nat) (s' : Int) (ts : List Addr) (xs : List Item) (bV : V) (w : Str) (y9 y10 y11 : Option V), σ = [some (.ref a), some (.int p'), some (.int s'), some (.str c.w), some (.str z), some (.str (wrW st)), some (.ref m), some bV, some (.str w), y9, y10, y11] ∧ ItL H' m ts xs ∧ (∀ t ∈ ts, H t = none) ∧ Same H H' ∧
        ((bV = .non ∧ w ≠ wEnd ∧ ∃ f, rawF c row st (row.length + 1) p s0 = xs ++ rawF c row st f p' s' ∧ row.length + 1 ≤ p' + f ∧ 0 < f ∧ RT c s' ∧ xs.length + p ≤ p' ∧ xs.length ≤ row.length ∧ badF c row st (row.length + 1) p s0 = badF c row st f p' s') ∨ ((bV ≠ .non ∨ w = wEnd) ∧ rawF c row st (row.length + 1) p s0 = xs ∧ bV = optV (badF c row st (row.length + 1) p s0)))) (fun (σ : L2.St) (_ : Hp) => (match (σ[1]? : Option (Option V)), (σ[7]? : Option (Option V)), (σ[8]? : Option (Option V)) with | some (some (V.int i)), some (some V.non), some (some (V.str w)) => if w = wEnd then 0 else 1 + (row.length + 1 - i.toNat) | _, _, _ => 0))
        ⟨p, s0, [], [], .non, Str.ofString "", none, none, none, rfl, ⟨upd_same, trivial⟩, (fun t h => nomatch h), s0', .inl ⟨rfl, by decide +kernel, row.length + 1, rfl, by omega, by omega, rt, by show 0 + p ≤ p; omega, Nat.zero_le _, rfl⟩⟩ (fun σ H' hW => ?_) ?_
      · obtain ⟨p', s', ts, xs, bV, w, y9, y10, y11, rfl, ⟨em, it⟩, nt, sm, h⟩ := hW
        rcases h with ⟨rfl, hw, f, e1, hf, f0, rt', l1, l2, eB⟩ | ⟨hd, e1, eB⟩
        rotate_left
        · have fin : ∃ (ts : List Addr) (bV' : V) (y1 y2 y8 y9' y10' y11' : Option V), [some (V.ref a), some (.int p'), some (.int s'), some (.str c.w), some (.str z), some (.str (wrW st)), some (.ref m), some bV, some (.str w), y9, y10, y11] = [some (V.ref a), y1, y2, some (.str c.w), some (.str z), some (.str (wrW st)), some (.ref m), some bV', y8, y9', y10', y11'] ∧ ItL H' m ts (rawF c row st (row.length + 1) p s0) ∧ (∀ t ∈ ts, H t = none) ∧ Same H H' ∧ bV' = optV (badF c row st (row.length + 1) p s0) := ⟨ts, bV, _, _, _, _, _, _, rfl, ⟨em, by rw [e1]; exact it⟩, nt, sm, eB⟩
          refine ⟨_, rfl, rfl, _, rfl, ?_⟩
          by_cases hw : w = wEnd
          · subst hw
            exact iteFc (by decide +kernel) (iteF fin)
          · refine iteTc (by rw [show decide (V.str w = V.str (Str.ofString "end")) = false from decide_eq_false (fun z => hw (V.str.inj z))]; rfl) ?_
            have hb : bV ≠ .non := hd.elim id (fun z => absurd z hw)
            exact ⟨_, rfl, rfl, _, rfl, iteFc (decide_eq_false hb) fin⟩
        obtain ⟨f, rfl⟩ : ∃ g, f = g + 1 := ⟨f - 1, by omega⟩
        refine ⟨_, rfl, rfl, _, rfl, iteTc (by rw [show decide (V.str w = V.str (Str.ofString "end")) = false from decide_eq_false (fun z => hw (V.str.inj z))]; rfl) ⟨_, rfl, rfl, _, rfl, iteTc rfl ?_⟩⟩
        refine ⟨.ref a, rfl, .int p', rfl, .int s', rfl, .str c.w, rfl, a, row, p', s', c, rfl, sm.seq hA, (fun b hb => (bb b hb).1), rt_rs rt', by omega, fun H2 t ntt et s2 => ?_⟩
        rw [readF_rd] at et
        have sm2 := sm.trans s2
        have em2 := s2 _ _ em
        have it2 := it.same s2
        have mes : (match ([some (V.ref a), some (.int p'), some (.int s'), some (.str c.w), some (.str z), some (.str (wrW st)), some (.ref m), some V.non, some (.str w), y9, y10, y11][1]? : Option (Option V)), ([some (V.ref a), some (.int p'), some (.int s'), some (.str c.w), some (.str z), some (.str (wrW st)), some (.ref m), some V.non, some (.str w), y9, y10, y11][7]? : Option (Option V)), ([some (V.ref a), some (.int p'), some (.int s'), some (.str c.w), some (.str z), some (.str (wrW st)), some (.ref m), some V.non, some (.str w), y9, y10, y11][8]? : Option (Option V)) with | some (some (V.int i)), some (some V.non), some (some (V.str w)) => if w = wEnd then 0 else 1 + (row.length + 1 - i.toNat) | _, _, _ => 0) = 1 + (row.length + 1 - p') := by
          show (if w = wEnd then 0 else 1 + (row.length + 1 - ((p' : Nat) : Int).toNat)) = _
          rw [if_neg hw, Int.toNat_natCast]
        rw [mes]
        clear mes
        -- one more item
        have more : ∀ (ww : Str) (x : Item) (sg : Int) (H3 : Hp), True := fun _ _ _ _ => trivial
        cases e : rdF c row p' s' with
        | fin =>
          rw [e] at et
          rw [raw_fin e, List.append_nil] at e1
          rw [bad_fin e] at eB
          refine ⟨t, _, rfl, .inl (.inl et), rfl, _, _, rfl, _, _, rfl, _, _, rfl, _, _, rfl, rfl, ?_⟩
          refine ⟨_, rfl, rfl, _, rfl, iteFc (by decide +kernel) (iteF ?_)⟩
          refine ⟨_, rfl, rfl, _, rfl, iteFc (by decide +kernel) ?_⟩
          refine ⟨⟨p', s', ts, xs, .non, wEnd, _, _, _, rfl, ⟨em2, it2⟩, nt, sm2, .inr ⟨.inr rfl, e1, by rw [eB]; rfl⟩⟩, ?_⟩
          show (if wEnd = wEnd then 0 else _) < _
          rw [if_pos rfl]; omega
        | wr p2 s2' =>
          rw [e] at et
          obtain ⟨g1, g2, g3⟩ := rd_wr e
          refine ⟨t, _, rfl, .inl (.inl et), rfl, _, _, rfl, _, _, rfl, _, _, rfl, _, _, rfl, rfl, ?_⟩
          cases st with
          | true =>
            rw [raw_wrS e, List.append_nil] at e1
            rw [bad_wrS e] at eB
            refine ⟨_, rfl, rfl, _, rfl, iteTc (by decide +kernel) ⟨_, rfl, rfl, _, rfl, iteTc (by decide +kernel) ?_⟩⟩
            refine ⟨_, rfl, _, _, rfl, rfl, ⟨p', s', ts, xs, _, wWrong, _, _, _, rfl, ⟨em2, it2⟩, nt, sm2, .inr ⟨.inl (fun z => nomatch z), e1, by rw [eB]; show V.int ((p2 : Int) - 1) = V.int ((p2 - 1 : Nat) : Int); exact congrArg V.int (by omega)⟩⟩, ?_⟩
            show 0 < _
            omega
          | false =>
            rw [raw_wrM e] at e1
            rw [bad_wrM e] at eB
            refine ⟨_, rfl, rfl, _, rfl, iteTc (by decide +kernel) ⟨_, rfl, rfl, _, rfl, iteFc (by decide +kernel) ?_⟩⟩
            refine ⟨_, rfl, rfl, _, rfl, iteTc (by decide +kernel) ?_⟩
            refine ⟨.ref m, rfl, .inl ⟨rfl, _, sq_at em2⟩, _, rfl, by show (2 : Nat) ≤ sizeLine; omega, fun g ng => ?_⟩
            have q3 := (Kp.new (ps := []) (o := HO.lst [.int 0, .int 65533]) ng).same
            refine ⟨_, rfl, rfl, .inr ⟨_, rfl, g, _, _, .int 65533, rfl, rfl, .inl (.inl upd_same), by decide +kernel, _, rfl, _, rfl, by show (3 : Nat) ≤ sizeLine; omega, fun u nu => ?_⟩⟩
            have q4 := (Kp.new (ps := []) (o := HO.tup [.int (65533), .int p2, .int s2']) nu).same
            have s5 := (sm2.trans q3).trans q4
            have uts : u ∉ ts := it2.notin (fun vs ee => by rw [q3 _ _ ee] at nu; cases nu)
            have mts : m ∉ ts := it2.notin (fun vs ee => by rw [em2] at ee; cases ee)
            have mu : m ≠ u := ne_of_none (q3 _ _ em2) nu
            have tl := it2.len
            refine ⟨m, _, _, rfl, rfl, q4 _ _ (q3 _ _ em2), by rw [List.length_map]; omega, ?_⟩
            refine ⟨_, rfl, _, rfl, ⟨p2, s2', ts ++ [u], xs ++ [(65533, p2, s2')], .non, wWrong, _, _, _, rfl, ⟨by rw [upd_same, List.map_append]; rfl, Its.snoc (r := (65533, p2, s2')) (by rw [upd_ne mu.symm]; exact upd_same) (Its.put mts ((it2.same q3).same q4))⟩, fun x hx => ?_, put_same s5 nm, .inl ⟨rfl, by decide +kernel, f, by rw [e1, List.append_assoc]; rfl, by omega, by omega, rd_rt (g := 0) bb rt' (.inr e), by rw [List.length_append]; show xs.length + 1 + p ≤ _; omega, by rw [List.length_append]; show xs.length + 1 ≤ _; omega, eB⟩⟩, ?_⟩
            · rcases List.mem_append.mp hx with hx | hx
              · exact nt x hx
              · rw [List.mem_singleton.mp hx]; exact (sm2.trans q3).free nu
            · show (if wWrong = wEnd then 0 else 1 + (row.length + 1 - ((p2 : Nat) : Int).toNat)) < _
              rw [if_neg (by decide +kernel), Int.toNat_natCast]; omega
        | sg g0 p2 s2' =>
          rw [e] at et
          obtain ⟨g1, g2⟩ := rd_sg e
          rw [raw_sg e] at e1
          rw [bad_sg e] at eB
          refine ⟨t, _, rfl, .inl (.inl et), rfl, _, _, rfl, _, _, rfl, _, _, rfl, _, _, rfl, rfl, ?_⟩
          refine ⟨_, rfl, rfl, _, rfl, iteFc (by decide +kernel) (iteF ?_)⟩
          refine ⟨_, rfl, rfl, _, rfl, iteTc (by decide +kernel) ?_⟩
          refine ⟨.ref m, rfl, .inl ⟨rfl, _, sq_at em2⟩, _, rfl, by show (2 : Nat) ≤ sizeLine; omega, fun g ng => ?_⟩
          have q3 := (Kp.new (ps := []) (o := HO.lst [.int g0, .int 65533]) ng).same
          have pk : atI [V.int g0, .int 65533] (if decide (V.str wSign = V.str (Str.ofString "wrong")) = true then 1 else 0) = some (.int g0) := by
            rw [if_neg (by decide +kernel)]; rfl
          refine ⟨_, rfl, rfl, .inr ⟨_, rfl, g, _, _, .int g0, rfl, rfl, .inl (.inl upd_same), pk, _, rfl, _, rfl, by show (3 : Nat) ≤ sizeLine; omega, fun u nu => ?_⟩⟩
          have q4 := (Kp.new (ps := []) (o := HO.tup [.int (g0), .int p2, .int s2']) nu).same
          have s5 := (sm2.trans q3).trans q4
          have uts : u ∉ ts := it2.notin (fun vs ee => by rw [q3 _ _ ee] at nu; cases nu)
          have mts : m ∉ ts := it2.notin (fun vs ee => by rw [em2] at ee; cases ee)
          have mu : m ≠ u := ne_of_none (q3 _ _ em2) nu
          have tl := it2.len
          refine ⟨m, _, _, rfl, rfl, q4 _ _ (q3 _ _ em2), by rw [List.length_map]; omega, ?_⟩
          refine ⟨_, rfl, _, rfl, ⟨p2, s2', ts ++ [u], xs ++ [(g0, p2, s2')], .non, wSign, _, _, _, rfl, ⟨by rw [upd_same, List.map_append]; rfl, Its.snoc (r := (g0, p2, s2')) (by rw [upd_ne mu.symm]; exact upd_same) (Its.put mts ((it2.same q3).same q4))⟩, fun x hx => ?_, put_same s5 nm, .inl ⟨rfl, by decide +kernel, f, by rw [e1, List.append_assoc]; rfl, by omega, by omega, rd_rt bb rt' (.inl e), by rw [List.length_append]; show xs.length + 1 + p ≤ _; omega, by rw [List.length_append]; show xs.length + 1 ≤ _; omega, eB⟩⟩, ?_⟩
          · rcases List.mem_append.mp hx with hx | hx
            · exact nt x hx
            · rw [List.mem_singleton.mp hx]; exact (sm2.trans q3).free nu
          · show (if wSign = wEnd then 0 else 1 + (row.length + 1 - ((p2 : Nat) : Int).toNat)) < _
            rw [if_neg (by decide +kernel), Int.toNat_natCast]; omega
      · rintro σ H' Q1 Q2 hq ⟨x, e1, e2, k, e3, h⟩
        cases k with
        | true =>
          rw [if_pos rfl] at h
          obtain ⟨x2, f1, f2, k2, f3, h2⟩ := h
          exact ⟨x, e1, e2, true, e3, iteT ⟨x2, f1, f2, k2, f3, hq _ _ h2⟩⟩
        | false =>
          rw [if_neg (by decide)] at h
          exact ⟨x, e1, e2, false, e3, iteF (hq _ _ h)⟩
    obtain ⟨ts, bV, y1, y2, y8, y9, y10, y11, rfl, hi, nt, sm, eBV⟩ := hm
    refine ⟨fun σ' H2 => ∃ (l' : Addr) (us : List Addr), σ' = [some (.ref a), y1, y2, some (.str c.w), some (.str z), some (.str (wrW st)), some (.ref l'), some bV, y8, y9, y10, y11] ∧ ItL H2 l' us (itemsF c row (decide (z = wA)) st p s0) ∧ H l' = none ∧ (∀ t ∈ us, H t = none) ∧ Same H H2, ?_, fun σ' H2 hm => ?_⟩
    · refine ⟨_, rfl, rfl, _, rfl, ite2 (fun e => ?_) (fun e => ?_)⟩
      · have e1 : z = wA := V.str.inj (of_decide_eq_true e)
        have lx := raw_fits (c := c) (row := row) (st := st) (row.length + 1) p s0
        refine ⟨.ref m, rfl, m, ts, _, rfl, hi, by omega, fun H3 l' us h3 nl nu s3 => ?_⟩
        refine ⟨l', us, rfl, ?_, sm.free nl, fun t ht => sm.free (nu t ht), sm.trans s3⟩
        rw [decide_eq_true e1]
        exact h3
      · have e1 : z ≠ wA := fun y => e (decide_eq_true (congrArg V.str y))
        refine ⟨m, ts, rfl, ?_, nm, nt, sm⟩
        rw [decide_eq_false e1]
        exact hi
    obtain ⟨l', us, rfl, h2, nl, nu, s2⟩ := hm
    refine ⟨_, rfl, _, rfl, by show (2 : Nat) ≤ sizeLine; omega, fun t ntt => ?_⟩
    have q3 := (Kp.new (ps := []) (o := HO.tup [.ref l', bV]) ntt).same
    exact q _ t l' us (by rw [upd_same, eBV]) (h2.same q3) nl nu (s2.trans q3)

theorem ok_lread (T : Tx K mg) : FnOk P w K mg base CX0 11 T.f_lread T.fd_lread P_lread (spRead53 K) := by
  have G_decod := ok_decod (P := P) (w := w) (base := base) T
  have sz : sizeLine = 16777216 := sizeLine_eq
  refine T.D_lread.F.ok sc_lread (fun vs H Q E h => ?_) (fun cdv A outer s H vs Q E hr h => ?_)
  · obtain ⟨a, oc, oz, ow, row, rfl, _⟩ := h
    rfl
  · obtain ⟨a, oc, oz, ow, row, rfl, h1, h2, h3, hz, lr, hA, q⟩ := h
    refine ⟨_, (pss_cons (ps_set (i := 4) sc_lread.nd rfl (.inl rfl) (pe_tup (pa_cons pe_str (pa_cons pe_non pa_nil))))
      (pss_cons (ps_try_as (i := 5) rfl rfl sc_lread.nd rfl rfl ⟨rfl, by decide, .inl T.g_BadCode⟩ takes0 (fun W pn xe tk _ => (pss_one (ps_if (PW.pt (pw_and (pt_cmpR op_isN (pv 1) pe_non (nomark _)) (pw_and1 (pt_cmpR op_isN (pv 2) pe_non (nomark _))))) (pss_one (ps_set (i := 4) sc_lread.nd rfl (.inl rfl) (pe_tup (pa_cons pe_str (pa_cons (by exact (Sip.pe_callDS G_decod (hr.mono (by decide)) (by rfl) T.D_decod.g T.D_decod.F.kp T.b_decod_1 T.v_decod_1 (fun σ => passAt tk σ) (by exact (pa_cons (pv 0) pa_nil)))) pa_nil))))) (pss_one (ps_if (pt_cmpR op_isN (pv 1) pe_non (nomark _)) (pss_one (ps_set (i := 4) sc_lread.nd rfl (.inl rfl) (pe_tup (pa_cons pe_str (pa_cons (by exact (Sip.pe_callNS G_decod (hr.mono (by decide)) (by rfl) T.D_decod.g T.D_decod.F.kp T.kb_decod_1_ends_wrong (fun σ => passAt tk σ) (by exact (pa_cons (pv 0) pa_nil)) (by exact (pk_cons (pv 2) (pk_cons (pv 3) pk_nil))))) pa_nil))))) (pss_one (ps_if (pt_cmpR op_isN (pv 2) pe_non (nomark _)) (pss_one (ps_set (i := 4) sc_lread.nd rfl (.inl rfl) (pe_tup (pa_cons pe_str (pa_cons (by exact (Sip.pe_callNS G_decod (hr.mono (by decide)) (by rfl) T.D_decod.g T.D_decod.F.kp T.kb_decod_1_code_wrong (fun σ => passAt tk σ) (by exact (pa_cons (pv 0) pa_nil)) (by exact (pk_cons (pv 1) (pk_cons (pv 3) pk_nil))))) pa_nil))))) (pss_one (ps_if (pt_cmpR op_isN (pv 3) pe_non (nomark _)) (pss_one (ps_set (i := 4) sc_lread.nd rfl (.inl rfl) (pe_tup (pa_cons pe_str (pa_cons (by exact (Sip.pe_callNS G_decod (hr.mono (by decide)) (by rfl) T.D_decod.g T.D_decod.F.kp T.kb_decod_1_code_ends (fun σ => passAt tk σ) (by exact (pa_cons (pv 0) pa_nil)) (by exact (pk_cons (pv 1) (pk_cons (pv 2) pk_nil))))) pa_nil))))) (pss_one (ps_set (i := 4) sc_lread.nd rfl (.inl rfl) (pe_tup (pa_cons pe_str (pa_cons (by exact (Sip.pe_callNS G_decod (hr.mono (by decide)) (by rfl) T.D_decod.g T.D_decod.F.kp T.kb_decod_1_code_ends_wrong (fun σ => passAt tk σ) (by exact (pa_cons (pv 0) pa_nil)) (by exact (pk_cons (pv 1) (pk_cons (pv 2) (pk_cons (pv 3) pk_nil)))))) pa_nil)))))))))))))) (fun a oe cls d pn hz hf => (pss_one (ps_set (i := 4) sc_lread.nd rfl (.inl rfl) (pe_tup (pa_cons pe_str (pa_cons (show PE _ _ (Sip.tXf K "at" a cls d _) from Sip.pe_xf (f := "at") hz hf (pv 5)) pa_nil)))))))
      (pss_one (ps_ret (pv 4))))), ?_⟩
    refine ⟨by show (2 : Nat) ≤ sizeLine; omega, fun t0 nt0 => ?_⟩
    have s0 := (Kp.new (ps := []) (o := HO.tup [.str (Str.ofString "told"), .non]) nt0).same
    generalize upd H t0 (HO.tup [.str (Str.ofString "told"), .non]) = H0 at s0 ⊢
    cases oc with
    | none =>
      refine ⟨_, rfl, rfl, _, rfl, iteTc (by rfl) ?_⟩
      cases oz with
      | none =>
        cases h1 rfl rfl
        refine ⟨_, rfl, rfl, _, rfl, iteTc (by rfl) ?_⟩
        refine ⟨_, rfl, a, .steps, wA, true, row, rfl, hz, lr, s0 _ _ hA, fun eb H1 r nr er s1 => ?_, fun b eb H1 d s1 hd => ?_⟩
        · refine ⟨by show (2 : Nat) ≤ sizeLine; omega, fun u nu => ⟨_, rfl, q _ u (told_ok eb upd_same ?_) ((s0.trans s1).trans (Kp.new (ps := []) nu).same)⟩⟩
          rw [upd_ne (ne_of_none er nu)]; exact er
        · refine ⟨true, T.te_BadCode_BadCode, fun _ e ne => ?_, fun h => nomatch h⟩
          refine ⟨.ref e, rfl, T.C_BadCode, d, _, .int b, rfl, rfl, T.e_BadCode, T.n_BadCode, rfl, hd, (by kernel_rfl), by show (2 : Nat) ≤ sizeLine; omega, fun u nu => ⟨_, rfl, q _ u (told_bad eb upd_same) ((s0.trans s1).trans (Kp.new (ps := []) nu).same)⟩⟩
      | some z =>
        refine ⟨_, rfl, rfl, _, rfl, iteFc (by rfl) ?_⟩
        cases ow with
        | none => exact absurd rfl (h2 ⟨rfl, fun y => nomatch y⟩)
        | some st =>
          refine ⟨_, rfl, rfl, _, rfl, iteTc (by rfl) ?_⟩
          refine ⟨_, rfl, _, rfl, _, rfl, rfl, rfl, a, .steps, z, st, row, rfl, hz, lr, s0 _ _ hA, fun eb H1 r nr er s1 => ?_, fun b eb H1 d s1 hd => ?_⟩
          · refine ⟨by show (2 : Nat) ≤ sizeLine; omega, fun u nu => ⟨_, rfl, q _ u (told_ok eb upd_same ?_) ((s0.trans s1).trans (Kp.new (ps := []) nu).same)⟩⟩
            rw [upd_ne (ne_of_none er nu)]; exact er
          · refine ⟨true, T.te_BadCode_BadCode, fun _ e ne => ?_, fun h => nomatch h⟩
            refine ⟨.ref e, rfl, T.C_BadCode, d, _, .int b, rfl, rfl, T.e_BadCode, T.n_BadCode, rfl, hd, (by kernel_rfl), by show (2 : Nat) ≤ sizeLine; omega, fun u nu => ⟨_, rfl, q _ u (told_bad eb upd_same) ((s0.trans s1).trans (Kp.new (ps := []) nu).same)⟩⟩
    | some c =>
      refine ⟨_, rfl, rfl, _, rfl, iteFc (by rfl) (iteF ?_)⟩
      refine ⟨_, rfl, rfl, _, rfl, iteFc (by rfl) ?_⟩
      cases oz with
      | none =>
        cases ow with
        | none => exact absurd rfl (h3 ⟨(fun y => nomatch y), rfl⟩)
        | some st =>
          refine ⟨_, rfl, rfl, _, rfl, iteTc (by rfl) ?_⟩
          refine ⟨_, rfl, _, rfl, _, rfl, rfl, rfl, a, c, wA, st, row, rfl, hz, lr, s0 _ _ hA, fun eb H1 r nr er s1 => ?_, fun b eb H1 d s1 hd => ?_⟩
          · refine ⟨by show (2 : Nat) ≤ sizeLine; omega, fun u nu => ⟨_, rfl, q _ u (told_ok eb upd_same ?_) ((s0.trans s1).trans (Kp.new (ps := []) nu).same)⟩⟩
            rw [upd_ne (ne_of_none er nu)]; exact er
          · refine ⟨true, T.te_BadCode_BadCode, fun _ e ne => ?_, fun h => nomatch h⟩
            refine ⟨.ref e, rfl, T.C_BadCode, d, _, .int b, rfl, rfl, T.e_BadCode, T.n_BadCode, rfl, hd, (by kernel_rfl), by show (2 : Nat) ≤ sizeLine; omega, fun u nu => ⟨_, rfl, q _ u (told_bad eb upd_same) ((s0.trans s1).trans (Kp.new (ps := []) nu).same)⟩⟩
      | some z =>
        refine ⟨_, rfl, rfl, _, rfl, iteFc (by rfl) ?_⟩
        cases ow with
        | none =>
          refine ⟨_, rfl, rfl, _, rfl, iteTc (by rfl) ?_⟩
          refine ⟨_, rfl, _, rfl, _, rfl, rfl, rfl, a, c, z, true, row, rfl, hz, lr, s0 _ _ hA, fun eb H1 r nr er s1 => ?_, fun b eb H1 d s1 hd => ?_⟩
          · refine ⟨by show (2 : Nat) ≤ sizeLine; omega, fun u nu => ⟨_, rfl, q _ u (told_ok eb upd_same ?_) ((s0.trans s1).trans (Kp.new (ps := []) nu).same)⟩⟩
            rw [upd_ne (ne_of_none er nu)]; exact er
          · refine ⟨true, T.te_BadCode_BadCode, fun _ e ne => ?_, fun h => nomatch h⟩
            refine ⟨.ref e, rfl, T.C_BadCode, d, _, .int b, rfl, rfl, T.e_BadCode, T.n_BadCode, rfl, hd, (by kernel_rfl), by show (2 : Nat) ≤ sizeLine; omega, fun u nu => ⟨_, rfl, q _ u (told_bad eb upd_same) ((s0.trans s1).trans (Kp.new (ps := []) nu).same)⟩⟩
        | some st =>
          refine ⟨_, rfl, rfl, _, rfl, iteFc (by rfl) ?_⟩
          refine ⟨_, rfl, _, rfl, _, rfl, _, rfl, rfl, rfl, a, c, z, st, row, rfl, hz, lr, s0 _ _ hA, fun eb H1 r nr er s1 => ?_, fun b eb H1 d s1 hd => ?_⟩
          · refine ⟨by show (2 : Nat) ≤ sizeLine; omega, fun u nu => ⟨_, rfl, q _ u (told_ok eb upd_same ?_) ((s0.trans s1).trans (Kp.new (ps := []) nu).same)⟩⟩
            rw [upd_ne (ne_of_none er nu)]; exact er
          · refine ⟨true, T.te_BadCode_BadCode, fun _ e ne => ?_, fun h => nomatch h⟩
            refine ⟨.ref e, rfl, T.C_BadCode, d, _, .int b, rfl, rfl, T.e_BadCode, T.n_BadCode, rfl, hd, (by kernel_rfl), by show (2 : Nat) ≤ sizeLine; omega, fun u nu => ⟨_, rfl, q _ u (told_bad eb upd_same) ((s0.trans s1).trans (Kp.new (ps := []) nu).same)⟩⟩

theorem ok_lrdue (T : Tx K mg) : FnOk P w K mg base CX0 6 T.f_lrdue T.fd_lrdue P_lrdue (spRdue53 K) := by
  have G_litems := ok_litems (P := P) (w := w) (base := base) T
  have sz : sizeLine = 16777216 := sizeLine_eq
  refine T.D_lrdue.F.ok sc_lrdue (fun vs H Q E h => ?_) (fun cdv A outer s H vs Q E hr h => ?_)
  · obtain ⟨a, oc, oz, ow, row, rfl, _⟩ := h
    rfl
  · obtain ⟨a, oc, oz, ow, row, rfl, hz, bb, lr, hA, q⟩ := h
    refine ⟨_, (pss_cons (ps_asg (pe_call G_litems (hr.mono (by decide)) (by rfl) T.D_litems.g T.D_litems.F.kp T.bb_litems .nil pass0 (pa_cons (pv 0) (pa_cons pe_int (pa_cons pe_int (pa_cons (pe_orT (pv 1) (pe_one pe_str)) (pa_cons (pe_orT (pv 2) (pe_one pe_str)) (pa_cons (pe_orT (pv 3) (pe_one pe_str)) pa_nil))))))) (pg_tup rfl (pgs_cons (pg_name (i := 4) sc_lrdue.nd rfl (.inl rfl)) (pgs_cons (pg_name (i := 5) sc_lrdue.nd rfl (.inl rfl)) pgs_nil))))
      (pss_cons (ps_if (pt_cmpR op_notN (pv 5) pe_non (nomark _)) (pss_one (ps_ret (pe_tup (pa_cons pe_str (pa_cons (pv 5) pa_nil))))) pss_nil)
      (pss_one (ps_ret (pe_tup (pa_cons pe_str (pa_cons (pe_lc (own := [("_law_sign_here", 6), ("_law_place", 7), ("_law_state_here", 8)]) (g := gTup K 3 (gCons (gName 6) (gCons (gName 7) (gCons (gName 8) (gNil))))) (tt := tYes) (by rfl) sc_lrdue.nd (pi_list (pv 4)) (blkOk_by (own := [("_law_sign_here", 6), ("_law_place", 7), ("_law_state_here", 8)]) (N := N_lrdue) (sc := defScope s_lrdue) (by decide +kernel)) (fun _ _ _ _ _ => (show PG _ _ (gTup K 3 (gCons (gName 6) (gCons (gName 7) (gCons (gName 8) (gNil))))) from pg_tup rfl (pgs_cons (pg_name (i := 6) sc_lrdue.nd rfl (Or.inl rfl)) (pgs_cons (pg_name (i := 7) sc_lrdue.nd rfl (Or.inl rfl)) (pgs_cons (pg_name (i := 8) sc_lrdue.nd rfl (Or.inl rfl)) pgs_nil))))) (fun _ _ _ _ _ => pts_nil) (fun _ _ _ _ _ => (pv 6))) pa_nil))))))), ?_⟩
    refine ⟨_, rfl, ?_⟩
    refine or_tr (oc.map Cd.w) (fun _ h => ⟨_, rfl, h⟩) (fun s e => ?_) ?_
    · obtain ⟨c, _, rfl⟩ := Option.map_eq_some_iff.mp e; exact len_w c
    refine or_tr oz (fun _ h => ⟨_, rfl, h⟩) (fun s e => ?_) ?_
    · rw [e] at hz; exact len_way hz
    refine or_tr (ow.map wrW) (fun _ h => ⟨_, rfl, h⟩) (fun s e => ?_) ?_
    · obtain ⟨b, _, rfl⟩ := Option.map_eq_some_iff.mp e; exact len_wr b
    refine ⟨a, 0, 0, codO oc, strO oz wA, ow.getD true, row, ?_, sq_at hA, bb, rt_zero _, lr, fun H1 t l ts et hi nl nts s1 => ?_⟩
    · cases oc <;> cases ow <;> rfl
    refine ⟨t, _, rfl, .inl (.inl et), rfl, _, _, rfl, _, _, rfl, rfl, ?_⟩
    cases eb : badF (codO oc) row (ow.getD true) (row.length + 1) 0 0 with
    | some b =>
      refine ⟨_, rfl, rfl, _, rfl, iteTc (by rfl) ?_⟩
      exact ⟨_, rfl, by show (2 : Nat) ≤ sizeLine; omega, fun u nu => q _ u (told_bad eb upd_same) (s1.trans (Kp.new (ps := []) nu).same)⟩
    | none =>
      refine ⟨_, rfl, rfl, _, rfl, iteFc (by rfl) ?_⟩
      obtain ⟨hl, hit⟩ := hi
      have lx : (itemsF (codO oc) row (decide (strO oz wA = wA)) (ow.getD true) 0 0).length ≤ 1000 := by
        unfold itemsF
        have f1 := raw_fits (c := codO oc) (row := row) (st := ow.getD true) (row.length + 1) 0 0
        split
        · have := any_len (rawF (codO oc) row (ow.getD true) (row.length + 1) 0 0); omega
        · omega
      refine ⟨_, rfl, l, rfl, ⟨_, sq_at hl⟩, fun D nD => ?_⟩
      have q' : ∀ (H' : Hp) (r u : Addr), H' r = some (.lst ((sgn (itemsF (codO oc) row (decide (strO oz wA = wA)) (ow.getD true) 0 0)).map V.int)) → H' u = some (.tup [.str (Str.ofString "told"), .ref r]) → Same H H' → Q (.ref u) H' := fun H' r u er eu s => q _ u (told_ok eb eu er) s
      generalize itemsF (codO oc) row (decide (strO oz wA = wA)) (ow.getD true) 0 0 = xs at hit lx q'
      refine lc_list (K := K) (a := l) (xs := ts.map V.ref) (fun i H' => H' D = some (.lst ((sgn (xs.take i)).map V.int)) ∧ Same H1 H') ⟨upd_same, (Kp.new (ps := []) nD).same⟩ (fun i H' _ hP => sq_at (hP.2 _ _ hl)) (fun i x H' hx hP => ?_) (fun H' hP => ?_)
      · obtain ⟨eD, sm⟩ := hP
        rw [List.getElem?_map] at hx
        obtain ⟨t, ht, rfl⟩ := Option.map_eq_some_iff.mp hx
        have hi' : i < ts.length := (List.getElem?_eq_some_iff.mp ht).1
        have tl := hit.len
        obtain ⟨x, hx2, et⟩ := (hit.same sm).at ht
        refine ⟨t, _, rfl, .inl (.inl et), rfl, _, _, rfl, _, _, rfl, _, _, rfl, rfl, rfl, ?_⟩
        refine ⟨_, rfl, _, eD, ?_, ?_, put_same sm nD⟩
        · unfold sgn; rw [List.length_map, List.length_map, List.length_take]; omega
        · rw [upd_same, List.take_add_one, hx2]
          unfold sgn
          rw [List.map_append, List.map_append]; rfl
      · obtain ⟨eD, sm⟩ := hP
        rw [List.length_map, hit.len, List.take_length] at eD
        refine ⟨by show (2 : Nat) ≤ sizeLine; omega, fun u nu => ?_⟩
        exact q' _ D u (by rw [upd_ne (ne_of_none eD nu)]; exact eD) upd_same ((s1.trans sm).trans (Kp.new (ps := []) nu).same)

theorem ok_lwritten (T : Tx K mg) : FnOk P w K mg base CX0 7 T.f_lwritten T.fd_lwritten P_lwritten (spWr53 K) := by
  have G_encod := ok_encod (P := P) (w := w) (base := base) T
  have sz : sizeLine = 16777216 := sizeLine_eq
  refine T.D_lwritten.F.ok sc_lwritten (fun vs H Q E h => ?_) (fun cdv A outer s H vs Q E hr h => ?_)
  · obtain ⟨a, c, z, f, gs, rfl, _⟩ := h
    rfl
  · obtain ⟨a, c, z, f, gs, rfl, hz, ef, lg, hA, q, qe⟩ := h
    refine ⟨_, (pss_cons (ps_set (i := 3) sc_lwritten.nd rfl (.inl rfl) (pe_tup (pa_cons pe_str (pa_cons pe_non pa_nil))))
      (pss_cons (Sip.ps_try_mix rfl rfl takes0 (fun W pn xe tk _ => (pss_one (ps_set (i := 3) sc_lwritten.nd rfl (.inl rfl) (pe_tup (pa_cons pe_str (pa_cons (by exact (Sip.pe_callNS G_encod (hr.mono (by decide)) (by rfl) T.D_encod.g T.D_encod.F.kp T.kb_encod_1_code_ends (fun σ => passAt tk σ) (by exact (pa_cons (pv 0) pa_nil)) (by exact (pk_cons (pv 1) (pk_cons (pv 2) pk_nil))))) pa_nil)))))) (Sip.ClsOk.cons (o := some 4) ⟨rfl, by decide, .inl T.g_NoSign⟩ ⟨sc_lwritten.nd, rfl, rfl⟩ (fun a oe cls d pn hz hf => (pss_one (ps_set (i := 3) sc_lwritten.nd rfl (.inl rfl) (pe_tup (pa_cons pe_str (pa_cons (show PE _ _ (Sip.tXf K "sign" a cls d _) from Sip.pe_xf (f := "sign") hz hf (pv 4)) pa_nil)))))) (Sip.ClsOk.cons (o := none) ⟨rfl, by decide, .inl T.g_SipError⟩ trivial (fun a oe cls d pn hz hf => (pss_one (ps_set (i := 3) sc_lwritten.nd rfl (.inl rfl) (pe_tup (pa_cons pe_str (pa_cons pe_non pa_nil)))))) Sip.ClsOk.nil)))
      (pss_one (ps_ret (pv 3))))), ?_⟩
    refine ⟨by show (2 : Nat) ≤ sizeLine; omega, fun t0 nt0 => ?_⟩
    have s0 := (Kp.new (ps := []) (o := HO.tup [.str (Str.ofString "told"), .non]) nt0).same
    generalize upd H t0 (HO.tup [.str (Str.ofString "told"), .non]) = H0 at s0 ⊢
    refine ⟨_, rfl, _, rfl, _, rfl, rfl, rfl, a, c, z, f, gs, rfl, hz, ef, lg, s0 _ _ hA, fun good H1 r nr er s1 => ?_, fun i g hg hb ht H1 d s1 hd => ?_⟩
    · refine ⟨by show (2 : Nat) ≤ sizeLine; omega, fun u nu => ⟨_, rfl, q good _ u r upd_same ?_ ((s0.trans s1).trans (Kp.new (ps := []) nu).same)⟩⟩
      rw [upd_ne (ne_of_none er nu)]; exact er
    · refine ⟨true, T.te_NoSign_NoSign, fun _ e ne => ?_, fun h => nomatch h⟩
      refine ⟨.ref e, rfl, T.C_NoSign, d, _, .int g, rfl, rfl, T.e_NoSign, T.n_NoSign, rfl, hd, (by kernel_rfl), by show (2 : Nat) ≤ sizeLine; omega, fun u nu => ?_⟩
      exact ⟨_, rfl, qe i g hg hb ht _ u upd_same ((s0.trans s1).trans (Kp.new (ps := []) nu).same)⟩

set_option maxHeartbeats 0 in
theorem ok_law (T : Tx K mg) : FnOk P w K mg base CX0 12 T.f_law T.fd_law P_law (spLaw K) := by
  have G_pool := ok_pool (P := P) (w := w) (base := base) T
  have G_take := ok_take (P := P) (w := w) (base := base) T
  have G_lcodes := ok_lcodes (P := P) (w := w) (base := base) T
  have G_lways := ok_lways (P := P) (w := w) (base := base) T
  have G_lrow := ok_lrow (P := P) (w := w) (base := base) T
  have G_lread := ok_lread (P := P) (w := w) (base := base) T
  have G_lrdue := ok_lrdue (P := P) (w := w) (base := base) T
  have G_lsign := ok_lsign (P := P) (w := w) (base := base) T
  have G_lends := ok_lends (P := P) (w := w) (base := base) T
  have G_lbytes := ok_lbytes (P := P) (w := w) (base := base) T
  have G_lwritten := ok_lwritten (P := P) (w := w) (base := base) T
  have G_encod := ok_encod (P := P) (w := w) (base := base) T
  have G_litems := ok_litems (P := P) (w := w) (base := base) T
  have sz : sizeLine = 16777216 := sizeLine_eq
  refine T.D_law.F.ok sc_law (fun vs H Q E h => ?_) (fun cdv A outer s H vs Q E hr h => ?_)
  · obtain ⟨a, ns, rfl, _⟩ := h
    rfl
  · obtain ⟨a, ns, rfl, hS, h63, q⟩ := h
    refine ⟨_, (pss_cons (ps_set (i := 1) sc_law.nd rfl (.inr rfl) (pe_call G_pool (hr.mono (by decide)) (by rfl) T.D_pool.g T.D_pool.F.kp T.bb_pool .nil pass0 (pa_cons (pv 0) (pa_cons pe_int pa_nil))))
      (pss_cons (ps_set (i := 2) sc_law.nd rfl (.inr rfl) (pe_ix ix_list (pe_call0 G_lcodes (hr.mono (by decide)) (by rfl) T.D_lcodes.g T.D_lcodes.F.kp T.bb_lcodes .nil pass0) (pe_call G_take (hr.mono (by decide)) (by rfl) T.D_take.g T.D_take.F.kp T.bb_take .nil pass0 (pa_cons (pv 1) (pa_cons pe_int pa_nil))) (fun _ _ => rfl)))
      (pss_cons (ps_set (i := 3) sc_law.nd rfl (.inl rfl) (pe_ix ix_list (pe_call0 G_lways (hr.mono (by decide)) (by rfl) T.D_lways.g T.D_lways.F.kp T.bb_lways .nil pass0) (pe_call G_take (hr.mono (by decide)) (by rfl) T.D_take.g T.D_take.F.kp T.bb_take .nil pass0 (pa_cons (pv 1) (pa_cons pe_int pa_nil))) (fun _ _ => rfl)))
      (pss_cons (ps_set (i := 4) sc_law.nd rfl (.inl rfl) (pe_ix ix_list (pe_lst (pa_cons pe_str (pa_cons pe_str pa_nil))) (pe_call G_take (hr.mono (by decide)) (by rfl) T.D_take.g T.D_take.F.kp T.bb_take .nil pass0 (pa_cons (pv 1) (pa_cons pe_int pa_nil))) (fun _ _ => rfl)))
      (pss_cons (ps_set (i := 5) sc_law.nd rfl (.inl rfl) (pe_cmpR op_eq (pe_call G_take (hr.mono (by decide)) (by rfl) T.D_take.g T.D_take.F.kp T.bb_take .nil pass0 (pa_cons (pv 1) (pa_cons pe_int pa_nil))) pe_int (nomark _)))
      (pss_cons (ps_set (i := 6) sc_law.nd rfl (.inl rfl) (pe_call G_lrow (hr.mono (by decide)) (by rfl) T.D_lrow.g T.D_lrow.F.kp T.bb_lrow .nil pass0 (pa_cons (pe_call G_pool (hr.mono (by decide)) (by rfl) T.D_pool.g T.D_pool.F.kp T.bb_pool .nil pass0 (pa_cons (pv 0) (pa_cons pe_int pa_nil))) (pa_cons (pv 2) (pa_cons pe_int pa_nil)))))
      (pss_cons (ps_set (i := 7) sc_law.nd rfl (.inl rfl) (pe_callTy call_list_of (by rfl) T.m_list (by decide +kernel) (pa_cons (pv 6) pa_nil)))
      (pss_cons (ps_set (i := 8) sc_law.nd rfl (.inl rfl) (pe_lst (pa_cons (pe_tup (pa_cons (pv 2) (pa_cons (pv 3) (pa_cons (pv 4) pa_nil)))) (pa_cons (pe_tup (pa_cons pe_non (pa_cons pe_non (pa_cons pe_non pa_nil)))) (pa_cons (pe_tup (pa_cons pe_non (pa_cons (pv 3) (pa_cons (pv 4) pa_nil)))) pa_nil)))))
      (pss_cons (ps_for PassesOwn.never rfl (pi_list (pe_op op_cat (pv 8) (pe_lst (pa_cons (pe_tup (pa_cons (pv 2) (pa_cons pe_non (pa_cons (pv 4) pa_nil)))) (pa_cons (pe_tup (pa_cons (pv 2) (pa_cons (pv 3) (pa_cons pe_non pa_nil)))) pa_nil))))) (pg_tup rfl (pgs_cons (pg_name (i := 9) sc_law.nd rfl (.inl rfl)) (pgs_cons (pg_name (i := 10) sc_law.nd rfl (.inl rfl)) (pgs_cons (pg_name (i := 11) sc_law.nd rfl (.inl rfl)) pgs_nil)))) (pss_one (ps_if (pt_cmpR (Sip.op_neS hr.units) (pe_call G_lread (hr.mono (by decide)) (by rfl) T.D_lread.g T.D_lread.F.kp T.bb_lread .nil pass0 (pa_cons (pv 7) (pa_cons (pv 9) (pa_cons (pv 10) (pa_cons (pv 11) pa_nil))))) (pe_call G_lrdue (hr.mono (by decide)) (by rfl) T.D_lrdue.g T.D_lrdue.F.kp T.bb_lrdue .nil pass0 (pa_cons (pv 6) (pa_cons (pv 9) (pa_cons (pv 10) (pa_cons (pv 11) pa_nil))))) (nomark _)) (pss_one (ps_ret pe_bl)) pss_nil)))
      (pss_cons (ps_if (pt_cmpR (op_neI hr.units) (pv 7) (pv 6) (nomark _)) (pss_one (ps_ret pe_bl)) pss_nil)
      (pss_cons (ps_set (i := 1) sc_law.nd rfl (.inr rfl) (pe_call G_pool (hr.mono (by decide)) (by rfl) T.D_pool.g T.D_pool.F.kp T.bb_pool .nil pass0 (pa_cons (pv 0) (pa_cons pe_int pa_nil))))
      (pss_cons (ps_setLc (i := 12) (own := [("_law_k", 13)]) (g := gName 13) (tt := tYes) (by rfl) sc_law.nd rfl rfl (sw_true rfl rfl rfl (by decide +kernel)) (pi_range1 (by rfl) T.m_range (pa_cons (pe_call G_take (hr.mono (by decide)) (by rfl) T.D_take.g T.D_take.F.kp T.bb_take .nil pass0 (pa_cons (pv 1) (pa_cons pe_int pa_nil))) pa_nil)) (blkOk_by (own := [("_law_k", 13)]) (N := N_law) (sc := defScope s_law) (by decide +kernel)) (fun _ _ _ _ _ => pg_name (i := 13) sc_law.nd rfl (Or.inl rfl)) (fun _ _ _ _ _ => pts_nil) (fun _ _ _ _ _ => (pe_call G_lsign (hr.mono (by decide)) (by rfl) T.D_lsign.g T.D_lsign.F.kp T.bb_lsign .nil pass0 (pa_cons (pv 1) (pa_cons (pv 2) pa_nil)))))
      (pss_cons (ps_set (i := 6) sc_law.nd rfl (.inl rfl) (pe_ix ix_tup (pe_call G_lbytes (hr.mono (by decide)) (by rfl) T.D_lbytes.g T.D_lbytes.F.kp T.bb_lbytes .nil pass0 (pa_cons (pe_call G_lends (hr.mono (by decide)) (by rfl) T.D_lends.g T.D_lends.F.kp T.bb_lends .nil pass0 (pa_cons (pv 12) (pa_cons (pv 3) pa_nil))) (pa_cons pe_int (pa_cons (pv 2) pa_nil)))) pe_int (fun _ _ => rfl)))
      (pss_cons (ps_set (i := 7) sc_law.nd rfl (.inl rfl) (pe_callTy call_list_of (by rfl) T.m_list (by decide +kernel) (pa_cons (pv 12) pa_nil)))
      (pss_cons (ps_if (PW.pt (pw_or (pt_cmpR (Sip.op_neS hr.units) (pe_call G_lwritten (hr.mono (by decide)) (by rfl) T.D_lwritten.g T.D_lwritten.F.kp T.bb_lwritten .nil pass0 (pa_cons (pv 7) (pa_cons (pv 2) (pa_cons (pv 3) pa_nil)))) (pe_tup (pa_cons pe_str (pa_cons (pv 6) pa_nil))) (nomark _)) (pw_or1 (pt_cmpR (op_neI hr.units) (pv 7) (pv 12) (nomark _))))) (pss_one (ps_ret pe_bl)) pss_nil)
      (pss_cons (ps_if (pt_cmpR (op_neI hr.units) (pe_call G_encod (hr.mono (by decide)) (by rfl) T.D_encod.g T.D_encod.F.kp T.b_encod_1 T.v_encod_1 passL (pa_cons (pv 7) pa_nil)) (pe_ix ix_tup (pe_call G_lbytes (hr.mono (by decide)) (by rfl) T.D_lbytes.g T.D_lbytes.F.kp T.bb_lbytes .nil pass0 (pa_cons (pe_call G_lends (hr.mono (by decide)) (by rfl) T.D_lends.g T.D_lends.F.kp T.bb_lends .nil pass0 (pa_cons (pv 12) (pa_cons pe_str pa_nil))) (pa_cons pe_int (pa_cons pe_str pa_nil)))) pe_int (fun _ _ => rfl)) (nomark _)) (pss_one (ps_ret pe_bl)) pss_nil)
      (pss_cons (ps_if (pt_cmpR (op_neI hr.units) (pe_callN G_encod (hr.mono (by decide)) (by rfl) T.D_encod.g T.D_encod.F.kp T.kb_encod_1_code passL (pa_cons (pv 7) pa_nil) (pk_cons (pv 2) pk_nil)) (pe_ix ix_tup (pe_call G_lbytes (hr.mono (by decide)) (by rfl) T.D_lbytes.g T.D_lbytes.F.kp T.bb_lbytes .nil pass0 (pa_cons (pe_call G_lends (hr.mono (by decide)) (by rfl) T.D_lends.g T.D_lends.F.kp T.bb_lends .nil pass0 (pa_cons (pv 12) (pa_cons pe_str pa_nil))) (pa_cons pe_int (pa_cons (pv 2) pa_nil)))) pe_int (fun _ _ => rfl)) (nomark _)) (pss_one (ps_ret pe_bl)) pss_nil)
      (pss_cons (ps_if (pt_cmpR (op_neI hr.units) (pe_callN G_encod (hr.mono (by decide)) (by rfl) T.D_encod.g T.D_encod.F.kp T.kb_encod_1_ends passL (pa_cons (pv 7) pa_nil) (pk_cons (pv 3) pk_nil)) (pe_ix ix_tup (pe_call G_lbytes (hr.mono (by decide)) (by rfl) T.D_lbytes.g T.D_lbytes.F.kp T.bb_lbytes .nil pass0 (pa_cons (pe_call G_lends (hr.mono (by decide)) (by rfl) T.D_lends.g T.D_lends.F.kp T.bb_lends .nil pass0 (pa_cons (pv 12) (pa_cons (pv 3) pa_nil))) (pa_cons pe_int (pa_cons pe_str pa_nil)))) pe_int (fun _ _ => rfl)) (nomark _)) (pss_one (ps_ret pe_bl)) pss_nil)
      (pss_cons (ps_asg (pe_call G_litems (hr.mono (by decide)) (by rfl) T.D_litems.g T.D_litems.F.kp T.bb_litems .nil pass0 (pa_cons (pv 6) (pa_cons pe_int (pa_cons pe_int (pa_cons (pv 2) (pa_cons (pv 3) (pa_cons (pv 4) pa_nil))))))) (pg_tup rfl (pgs_cons (pg_name (i := 14) sc_law.nd rfl (.inl rfl)) (pgs_cons (pg_name (i := 15) sc_law.nd rfl (.inl rfl)) pgs_nil))))
      (pss_cons (ps_set (i := 16) sc_law.nd rfl (.inl rfl) (pe_tup (pa_cons pe_str (pa_cons (pe_lc (own := [("_law_sign_here", 17), ("_law_place", 18), ("_law_state_here", 19)]) (g := gTup K 3 (gCons (gName 17) (gCons (gName 18) (gCons (gName 19) (gNil))))) (tt := tYes) (by rfl) sc_law.nd (pi_list (pv 14)) (blkOk_by (own := [("_law_sign_here", 17), ("_law_place", 18), ("_law_state_here", 19)]) (N := N_law) (sc := defScope s_law) (by decide +kernel)) (fun _ _ _ _ _ => (show PG _ _ (gTup K 3 (gCons (gName 17) (gCons (gName 18) (gCons (gName 19) (gNil))))) from pg_tup rfl (pgs_cons (pg_name (i := 17) sc_law.nd rfl (Or.inl rfl)) (pgs_cons (pg_name (i := 18) sc_law.nd rfl (Or.inl rfl)) (pgs_cons (pg_name (i := 19) sc_law.nd rfl (Or.inl rfl)) pgs_nil))))) (fun _ _ _ _ _ => pts_nil) (fun _ _ _ _ _ => (pv 17))) pa_nil))))
      (pss_cons (ps_if (PW.pt (pw_or (pt_cmpR op_notN (pv 15) pe_non (nomark _)) (pw_or1 (pt_cmpR (Sip.op_neS hr.units) (pe_call G_lread (hr.mono (by decide)) (by rfl) T.D_lread.g T.D_lread.F.kp T.bb_lread .nil pass0 (pa_cons (pv 6) (pa_cons (pv 2) (pa_cons (pv 3) (pa_cons (pv 4) pa_nil))))) (pv 16) (nomark _))))) (pss_one (ps_ret pe_bl)) pss_nil)
      (pss_cons (ps_if (pt_val (pv 5)) (pss_cons (ps_set (i := 20) sc_law.nd rfl (.inl rfl) (pe_ix ix_list (pe_lst (pa_cons (pe_un un_neg pe_int) (pa_cons pe_int (pa_cons (pe_op op_pow pe_int pe_int) pa_nil)))) (pe_call G_take (hr.mono (by decide)) (by rfl) T.D_take.g T.D_take.F.kp T.bb_take .nil pass0 (pa_cons (pv 1) (pa_cons pe_int pa_nil))) (fun _ _ => rfl)))
      (pss_cons (ps_expr (pe_bm PySem.F.plainAttrs_list PySem.F.slot_list_insert PySem.F.type_list_insert mt_insert (pv 12) (pa_cons (pe_call G_take (hr.mono (by decide)) (by rfl) T.D_take.g T.D_take.F.kp T.bb_take .nil pass0 (pa_cons (pv 1) (pa_cons (pe_op op_add (pe_callB call_len_seq (by rfl) T.m_len PySem.boot_len (pa_cons (pv 12) pa_nil)) pe_int) pa_nil))) (pa_cons (pv 20) pa_nil))))
      (pss_one (ps_ret (pe_cmpR (Sip.op_eqS hr.units) (pe_call G_lwritten (hr.mono (by decide)) (by rfl) T.D_lwritten.g T.D_lwritten.F.kp T.bb_lwritten .nil pass0 (pa_cons (pe_op op_cat (pv 12) (pe_lst (pa_cons (pe_un un_neg pe_int) pa_nil))) (pa_cons (pv 2) (pa_cons (pv 3) pa_nil)))) (pe_tup (pa_cons pe_str (pa_cons (pv 20) pa_nil))) (nomark _)))))) pss_nil)
      (pss_one (ps_ret pe_bl)))))))))))))))))))))))), ?_⟩
    refine ⟨.ref a, rfl, a, ns, 0, rfl, hS, h63, by decide, by decide, fun p o1 np hP1 => ?_⟩
    have s1 : Same H (upd H p o1) := (Kp.new (ps := []) np).same
    have ep1 : (upd H p o1) p = some o1 := upd_same
    generalize upd H p o1 = H1 at s1 ep1 ⊢
    refine ⟨(), rfl, fun cl ncl => ?_⟩
    have pcl : p ≠ cl := ne_of_none ep1 ncl
    refine ⟨.ref p, rfl, p, _, 4, o1, rfl, by rw [upd_ne pcl]; exact ep1, hP1, by omega, by decide, by decide, fun r o2 r0 r1 hP2 => ?_⟩
    obtain ⟨c, ec⟩ := codes_at r0 r1
    refine ⟨cl, _, r, .str c.w, rfl, rfl, .inl (.inl (by rw [upd_ne pcl.symm, upd_same])), ec, ?_⟩
    have s2 : Same H (upd (upd H1 cl (.lst CODES)) p o2) := put_same (s1.trans (Kp.new (ps := []) ncl).same) np
    have ep2 : (upd (upd H1 cl (.lst CODES)) p o2) p = some o2 := upd_same
    generalize upd (upd H1 cl (.lst CODES)) p o2 = H2 at s2 ep2 ⊢
    refine ⟨(), rfl, fun wl nwl => ?_⟩
    have pwl : p ≠ wl := ne_of_none ep2 nwl
    refine ⟨.ref p, rfl, p, _, 5, o2, rfl, by rw [upd_ne pwl]; exact ep2, hP2, by omega, by decide, by decide, fun r' o3 r0' r1' hP3 => ?_⟩
    obtain ⟨z, ez, hz⟩ := ways_at r0' r1'
    refine ⟨wl, _, r', .str z, rfl, rfl, .inl (.inl (by rw [upd_ne pwl.symm, upd_same])), ez, ?_⟩
    have s3 : Same H (upd (upd H2 wl (.lst WAYS)) p o3) := put_same (s2.trans (Kp.new (ps := []) nwl).same) np
    have ep3 : (upd (upd H2 wl (.lst WAYS)) p o3) p = some o3 := upd_same
    generalize upd (upd H2 wl (.lst WAYS)) p o3 = H3 at s3 ep3 ⊢
    refine ⟨by show (2 : Nat) ≤ sizeLine; omega, fun al nal => ?_⟩
    have pal : p ≠ al := ne_of_none ep3 nal
    refine ⟨.ref p, rfl, p, _, 2, o3, rfl, by rw [upd_ne pal]; exact ep3, hP3, by omega, by decide, by decide, fun r2 o4 r02 r12 hP4 => ?_⟩
    obtain ⟨st, est⟩ := amiss_at r02 r12
    refine ⟨al, _, r2, .str (wrW st), rfl, rfl, sq_at (by rw [upd_ne pal.symm]; exact upd_same), est, ?_⟩
    generalize hG : upd _ p o4 = H4
    have s4 : Same H H4 := by rw [← hG]; exact put_same (s3.trans (Kp.new (ps := []) nal).same) np
    have ep4 : H4 p = some o4 := by rw [← hG]; exact upd_same
    clear hG
    refine ⟨.ref p, rfl, p, _, 4, o4, rfl, ep4, hP4, by omega, by decide, by decide, fun r3 o5 r03 r13 hP5 => ?_⟩
    refine ⟨rfl, ?_⟩
    have s5 : Same H (upd H4 p o5) := put_same s4 np
    generalize upd H4 p o5 = H5 at s5 ⊢
    generalize decide (V.int r3 = V.int 0) = sb
    refine ⟨.ref a, rfl, a, ns, 1, rfl, s5.seq hS, h63, by decide, by decide, fun p2 o7 np2 hP7 => ?_⟩
    refine ⟨_, rfl, p2, _, 30, o7, c, rfl, upd_same, hP7, by omega, by decide, by decide, fun H6 rw row nrw erw bb lr k6 => ?_⟩
    have s6 : Same H H6 := step_same (s5.trans (Kp.new (ps := []) np2).same) (s5.free np2) k6
    refine ⟨_, rfl, rw, _, rfl, .inl (sq_at erw), fun h nh => ?_⟩
    have c7 := updG (o := HO.lst (row.map V.int)) rfl nh
    generalize upd H6 h (HO.lst (row.map V.int)) = H7 at c7 ⊢
    obtain ⟨eh, z7⟩ := c7
    refine ⟨_, rfl, _, rfl, _, rfl, by show (3 : Nat) ≤ sizeLine; omega, fun t0 nt0 => ?_⟩
    have d0 := updG (o := HO.tup [.str c.w, .str z, .str (wrW st)]) rfl nt0
    generalize upd H7 t0 (HO.tup [.str c.w, .str z, .str (wrW st)]) = G0 at d0 ⊢
    refine ⟨by show (3 : Nat) ≤ sizeLine; omega, fun t1 nt1 => ?_⟩
    have d1 := updG (o := HO.tup [V.non, .non, .non]) rfl nt1
    generalize upd G0 t1 (HO.tup [V.non, .non, .non]) = G1 at d1 ⊢
    refine ⟨_, rfl, _, rfl, by show (3 : Nat) ≤ sizeLine; omega, fun t2 nt2 => ?_⟩
    have d2 := updG (o := HO.tup [.non, .str z, .str (wrW st)]) rfl nt2
    generalize upd G1 t2 (HO.tup [.non, .str z, .str (wrW st)]) = G2 at d2 ⊢
    refine ⟨by show (3 : Nat) ≤ sizeLine; omega, fun l1 nl1 => ?_⟩
    have d3 := updG (o := HO.lst [.ref t0, .ref t1, .ref t2]) rfl nl1
    generalize upd G2 l1 (HO.lst [.ref t0, .ref t1, .ref t2]) = G3 at d3 ⊢
    refine ⟨_, rfl, _, rfl, _, rfl, by show (3 : Nat) ≤ sizeLine; omega, fun t3 nt3 => ?_⟩
    have d4 := updG (o := HO.tup [.str c.w, .non, .str (wrW st)]) rfl nt3
    generalize upd G3 t3 (HO.tup [.str c.w, .non, .str (wrW st)]) = G4 at d4 ⊢
    refine ⟨_, rfl, _, rfl, by show (3 : Nat) ≤ sizeLine; omega, fun t4 nt4 => ?_⟩
    have d5 := updG (o := HO.tup [.str c.w, .str z, .non]) rfl nt4
    generalize upd G4 t4 (HO.tup [.str c.w, .str z, .non]) = G5 at d5 ⊢
    refine ⟨by show (2 : Nat) ≤ sizeLine; omega, fun l2 nl2 => ?_⟩
    have d6 := updG (o := HO.lst [.ref t3, .ref t4]) rfl nl2
    generalize upd G5 l2 (HO.lst [.ref t3, .ref t4]) = G6 at d6 ⊢
    obtain ⟨et0, y0⟩ := d0
    obtain ⟨et1, y1⟩ := d1
    obtain ⟨et2, y2⟩ := d2
    obtain ⟨el1, y3⟩ := d3
    obtain ⟨et3, y4⟩ := d4
    obtain ⟨et4, y5⟩ := d5
    obtain ⟨el2, y6⟩ := d6
    refine ⟨l1, l2, _, _, rfl, rfl, y6 _ _ (y5 _ _ (y4 _ _ el1)), el2, by show (5 : Nat) ≤ sizeLine; omega, fun l3 nl3 => ?_⟩
    have d7 := updG (o := HO.lst [.ref t0, .ref t1, .ref t2, .ref t3, .ref t4]) rfl nl3
    generalize hG7 : upd G6 l3 _ = G7
    have el3 : G7 l3 = some (.lst [.ref t0, .ref t1, .ref t2, .ref t3, .ref t4]) := by rw [← hG7]; exact d7.1
    have y7 : Same G6 G7 := by rw [← hG7]; exact d7.2
    clear hG7 d7
    have y37 := (((y3.trans y4).trans y5).trans y6).trans y7
    have f0 := y37 _ _ (y2 _ _ (y1 _ _ et0))
    have f1 := y37 _ _ (y2 _ _ et1)
    have f2 := y37 _ _ et2
    have f3 := y7 _ _ (y6 _ _ (y5 _ _ et3))
    have f4 := y7 _ _ (y6 _ _ et4)
    have s7 : Same H6 G7 := (((z7.trans y0).trans y1).trans y2).trans y37
    have eh7 := ((y0.trans y1).trans y2).trans y37 _ _ eh
    have er7 := s7 _ _ erw
    have sH7 := s6.trans s7
    clear y0 y1 y2 y3 y4 y5 y6 y7 y37 et0 et1 et2 et3 et4 el1 el2 z7 s7 k6 nt0 nt1 nt2 nt3 nt4 nl1 nl2 nl3 eh
    refine ⟨l3, rfl, ⟨_, sq_at el3⟩, ?_⟩
    have five : ∀ (i : Nat) (x : V), ([V.ref t0, .ref t1, .ref t2, .ref t3, .ref t4] : List V)[i]? = some x → ∃ (t : Addr) (oc : Option Cd) (oz : Option Str) (ow : Option Bool), x = .ref t ∧ G7 t = some (.tup [optS (oc.map Cd.w), optS oz, optS (ow.map wrW)]) ∧ (oc = none → oz = none → ow = none) ∧ (oc = none ∧ oz ≠ none → ow ≠ none) ∧ (oc ≠ none ∧ oz = none → ow ≠ none) ∧ Way (strO oz wA) := fun i x hx => by
      match i, hx with
      | 0, hx => cases hx; exact ⟨t0, some c, some z, some st, rfl, f0, (fun e => nomatch e), (fun e => nomatch e.1), (fun _ e => nomatch e), hz⟩
      | 1, hx => cases hx; exact ⟨t1, none, none, none, rfl, f1, (fun _ _ => rfl), (fun e => absurd rfl e.2), (fun e => absurd rfl e.1), .inl rfl⟩
      | 2, hx => cases hx; exact ⟨t2, none, some z, some st, rfl, f2, (fun _ e => nomatch e), (fun _ e => nomatch e), (fun e => absurd rfl e.1), hz⟩
      | 3, hx => cases hx; exact ⟨t3, some c, none, some st, rfl, f3, (fun e => nomatch e), (fun e => nomatch e.1), (fun _ e => nomatch e), .inl rfl⟩
      | 4, hx => cases hx; exact ⟨t4, some c, some z, none, rfl, f4, (fun e => nomatch e), (fun e => nomatch e.1), (fun e => nomatch e.2), hz⟩
    refine for_list (K := K) (a := l3) (xs := [.ref t0, .ref t1, .ref t2, .ref t3, .ref t4]) (fun i σ H' => ∃ y9 y10 y11 : Option V, σ = [some (.ref a), some (.ref p), some (.str c.w), some (.str z), some (.str (wrW st)), some (.bl sb), some (.ref rw), some (.ref h), some (.ref l1), y9, y10, y11, none, none, none, none, none, none, none, none, none] ∧ Same G7 H') ⟨none, none, none, rfl, Same.refl _⟩ (fun i σ H' _ hW => by obtain ⟨_, _, _, _, sm⟩ := hW; exact sq_at (sm _ _ el3)) (fun i x σ H' hx hW => ?_) (fun σ H8 hW => ?_)
    · obtain ⟨y9, y10, y11, rfl, sm⟩ := hW
      obtain ⟨t, oc, oz, ow, rfl, et, h1, h2, h3, hzz⟩ := five i x hx
      refine ⟨t, _, rfl, .inl (.inl (sm _ _ et)), rfl, ?_⟩
      refine ⟨_, _, rfl, _, _, rfl, _, _, rfl, rfl, ?_⟩
      refine ⟨_, rfl, _, rfl, _, rfl, _, rfl, h, oc, oz, ow, row, rfl, h1, h2, h3, hzz, by omega, sm _ _ eh7, fun H9 q9 td9 s9 => ?_⟩
      have sm9 := sm.trans s9
      refine ⟨_, rfl, _, rfl, _, rfl, _, rfl, rw, oc, oz, ow, row, rfl, hzz, bb, by omega, sm9 _ _ er7, fun H10 q10 td10 s10 => ?_⟩
      obtain ⟨d, e1, e2, e3⟩ := (td9.same s10).two td10
      exact ⟨d, e1, e2, e3, _, rfl, iteF ⟨_, _, _, rfl, sm9.trans s10⟩⟩
    obtain ⟨y9, y10, y11, rfl, sm8⟩ := hW
    have sH8 := sH7.trans sm8
    refine ⟨_, rfl, _, rfl, h, rw, row, row, rfl, rfl, sq_at (sm8 _ _ eh7), sq_at (sm8 _ _ er7), _, rfl, iteNS rfl ?_⟩
    clear sm8 five f0 f1 f2 f3 f4 el3 eh7 er7 sH7 erw nh nrw bb lr
    refine ⟨.ref a, rfl, a, ns, 2, rfl, sH8.seq hS, h63, by decide, by decide, fun p3 o8 np3 hP8 => ?_⟩
    refine ⟨_, rfl, p3, _, 31, o8, rfl, upd_same, hP8, by omega, by decide, by decide, fun w o9 w0 w1 hP9 => ?_⟩
    have t9 : Same H8 (upd (upd H8 p3 o8) p3 o9) := put_same (Kp.new (ps := []) np3).same np3
    have ep9 : (upd (upd H8 p3 o8) p3 o9) p3 = some o9 := upd_same
    generalize upd (upd H8 p3 o8) p3 o9 = H9 at t9 ep9 ⊢
    refine ⟨_, rfl, by omega, by omega, fun D nD => ?_⟩
    have pD : p3 ≠ D := ne_of_none ep9 nD
    have nD8 : H8 D = none := t9.free nD
    refine lc_range (lo := 0) (n := w.toNat) (fun i H' => ∃ (o : HO) (gs : List Int), H' p3 = some o ∧ PoolO (2001 + 3 * i) o ∧ H' D = some (.lst (gs.map V.int)) ∧ gs.length = i ∧ Good c gs ∧ Same H8 H') ⟨o9, [], by rw [upd_ne pD]; exact ep9, hP9.up (by omega), upd_same, rfl, fun g h => (nomatch h), t9.trans (Kp.new (ps := []) nD).same⟩ (fun i H' hi hP => ?_) (fun H10 hP => ?_)
    · obtain ⟨o, gs, ep, hPo, eD, lgs, good, sm⟩ := hP
      refine ⟨rfl, ?_⟩
      refine ⟨_, rfl, _, rfl, p3, _, o, c, rfl, ep, hPo, by omega, fun H2 g o' g0 g1 ep' hP' kk => ?_⟩
      refine ⟨_, kk _ _ (by simpa using pD.symm) eD, by rw [List.length_map]; omega, o', gs ++ [g], by rw [upd_ne pD]; exact ep', hP'.up (by omega), by rw [upd_same, List.map_append]; rfl, by rw [List.length_append, lgs]; rfl, good_app good (good_one g0 g1), put_same (step_same sm np3 kk) nD8⟩
    obtain ⟨o10, gs, ep10, hP10, eD, lgs, good, sm10⟩ := hP
    obtain ⟨f, ef⟩ := way_feed hz
    have lf := endsF_len (feed_len ef) gs
    have goodE := endsF_good (feed_good (c := c) hz ef) good
    have goodA := endsF_good (feed_good (c := c) (.inl rfl) feed_any) good
    have goodT : Good .steps gs := fun g hg => ⟨(good g hg).1, by have := (good g hg).2; have := (sizeF_b c).2; show g < 2097152; omega⟩
    have goodET := endsF_good (feed_good (c := .steps) hz ef) goodT
    have goodAT := endsF_good (feed_good (c := .steps) (.inl rfl) feed_any) goodT
    have la := endsF_len (f := [10]) (by decide) gs
    have lw := writeF_len (s := 0) goodE
    have lgs' : gs.length ≤ 30 := by omega
    have noE : ∀ {d : Cd} {E' : List Int} {P : Prop}, Good d E' → ∀ (i : Nat) (g : Int), E'[i]? = some g → ¬ (0 ≤ g ∧ g < sizeF d) → P := fun hG i g hg hb => absurd (hG g (List.mem_of_getElem? hg)) hb
    refine ⟨_, rfl, _, rfl, D, gs, z, f, rfl, sq_at eD, by omega, ef, fun H11 e11 ne11 ee11 s11 => ?_⟩
    refine ⟨_, rfl, e11, endsF f gs, 0, c, rfl, sq_at ee11, by omega, vs_zero c, goodE, fun H12 q12 w12 nq12 nw12 qw12 eq12 ew12 s12 => ?_⟩
    refine ⟨q12, _, _, .ref w12, rfl, rfl, .inl (.inl eq12), rfl, ?_⟩
    have s1012 := s11.trans s12
    have eD12 := s1012 _ _ eD
    refine ⟨_, rfl, D, _, rfl, .inl (sq_at eD12), fun h2 nh2 => ?_⟩
    have c13 := updG (o := HO.lst (gs.map V.int)) rfl nh2
    generalize upd H12 h2 (HO.lst (gs.map V.int)) = H13 at c13 ⊢
    obtain ⟨eh13, z13⟩ := c13
    have eD13 := z13 _ _ eD12
    have ew13 := z13 _ _ ew12
    refine ⟨_, rfl, _, rfl, _, rfl, h2, c, z, f, gs, rfl, hz, ef, by omega, eh13, fun _ H14 u14 q14 eu14 eq14 s14 => ?_, fun i g hg hb _ => noE goodE i g hg hb⟩
    refine ⟨_, rfl, by show (2 : Nat) ≤ sizeLine; omega, fun t14 nt14 => ?_⟩
    have z14 := (Kp.new (ps := []) (o := HO.tup [.str (Str.ofString "told"), .ref w12]) nt14).same
    refine ⟨.tuple [.str (Str.ofString "told"), .list ((writeF c (endsF f gs) 0).1.map .int)], .tup (.inl (.inl (z14 _ _ eu14))) (.cons (.str _) (.cons (dp_lst (sq_at (z14 _ _ eq14))) .nil)), .tup (.inl (.inl upd_same)) (.cons (.str _) (.cons (dp_lst (sq_at (z14 _ _ (s14 _ _ ew13)))) .nil)), pair_shape ok_told (ints_lay _).1 (ints_lay _).2, _, rfl, iteF ?_⟩
    have s15 := s14.trans z14
    generalize upd H14 t14 (HO.tup [.str (Str.ofString "told"), .ref w12]) = H15 at s15 ⊢
    refine ⟨_, rfl, _, rfl, h2, D, gs, gs, rfl, rfl, sq_at (s15 _ _ eh13), sq_at (s15 _ _ eD13), _, rfl, iteNS rfl ?_⟩
    have S15 := (s1012.trans z13).trans s15
    have eh15 := s15 _ _ eh13
    have ew15 := s15 _ _ ew13
    have eD15 := S15 _ _ eD
    have ep15 := S15 _ _ ep10
    have sH15 := (sH8.trans sm10).trans S15
    have n15 : H8 D = none := nD8
    clear s14 z14 s15 z13 s1012 s12 s11 eu14 eq14 eq12 nq12 nw12 ee11 ne11 eD12 eD13 ew13 ew12 eh13 nh2 nt14 S15 eD ep10 sm10 sH8 t9 ep9 hP8 hP9
    refine ⟨_, rfl, h2, .steps, wA, [10], gs, rfl, .inl rfl, feed_any, by omega, eh15, fun _ H16 r16 nr16 er16 s16 => ?_, fun i g hg hb _ => noE goodAT i g hg hb⟩
    refine ⟨_, rfl, D, gs, wA, [10], rfl, sq_at (s16 _ _ eD15), by omega, feed_any, fun H17 e17 ne17 ee17 s17 => ?_⟩
    refine ⟨e17, endsF [10] gs, 0, .steps, rfl, sq_at ee17, by omega, vs_zero _, goodAT, fun H18 q18 w18 nq18 nw18 qw18 eq18 ew18 s18 => ?_⟩
    have a16 := s17.trans s18
    refine ⟨q18, _, _, .ref w18, rfl, rfl, .inl (.inl eq18), rfl, r16, w18, _, _, rfl, rfl, sq_at (a16 _ _ er16), sq_at ew18, _, rfl, iteNS rfl ?_⟩
    have b18 := s16.trans a16
    refine ⟨_, rfl, _, rfl, rfl, rfl, h2, c, wA, [10], gs, rfl, .inl rfl, feed_any, by omega, b18 _ _ eh15, fun _ H19 r19 nr19 er19 s19 => ?_, fun i g hg hb _ => noE goodA i g hg hb⟩
    have b19 := b18.trans s19
    refine ⟨_, rfl, D, gs, wA, [10], rfl, sq_at (b19 _ _ eD15), by omega, feed_any, fun H20 e20 ne20 ee20 s20 => ?_⟩
    refine ⟨_, rfl, e20, endsF [10] gs, 0, c, rfl, sq_at ee20, by omega, vs_zero _, goodA, fun H21 q21 w21 nq21 nw21 qw21 eq21 ew21 s21 => ?_⟩
    have a19 := s20.trans s21
    refine ⟨q21, _, _, .ref w21, rfl, rfl, .inl (.inl eq21), rfl, r19, w21, _, _, rfl, rfl, sq_at (a19 _ _ er19), sq_at ew21, _, rfl, iteNS rfl ?_⟩
    have b21 := b19.trans a19
    refine ⟨_, rfl, _, rfl, rfl, rfl, h2, .steps, z, f, gs, rfl, hz, ef, by omega, b21 _ _ eh15, fun _ H22 r22 nr22 er22 s22 => ?_, fun i g hg hb _ => noE goodET i g hg hb⟩
    have b22 := b21.trans s22
    refine ⟨_, rfl, _, rfl, D, gs, z, f, rfl, sq_at (b22 _ _ eD15), by omega, ef, fun H23 e23 ne23 ee23 s23 => ?_⟩
    refine ⟨e23, endsF f gs, 0, .steps, rfl, sq_at ee23, by omega, vs_zero _, goodET, fun H24 q24 w24 nq24 nw24 qw24 eq24 ew24 s24 => ?_⟩
    have a22 := s23.trans s24
    refine ⟨q24, _, _, .ref w24, rfl, rfl, .inl (.inl eq24), rfl, r22, w24, _, _, rfl, rfl, sq_at (a22 _ _ er22), sq_at ew24, _, rfl, iteNS rfl ?_⟩
    have b24 := b22.trans a22
    have ew24' := b24 _ _ ew15
    have bad0 : badF c (writeF c (endsF f gs) 0).1 st ((writeF c (endsF f gs) 0).1.length + 1) 0 0 = none := bad_written goodE _ 0 (Nat.zero_le _)
    have bbW := writeF_bb (s := 0) goodE
    refine ⟨_, rfl, _, rfl, _, rfl, _, rfl, w12, 0, 0, c, z, st, (writeF c (endsF f gs) 0).1, rfl, sq_at ew24', bbW, rt_zero c, by omega, fun H25 t25 l25 ts et25 hi nl25 nts s25 => ?_⟩
    rw [bad0] at et25
    refine ⟨t25, _, rfl, .inl (.inl et25), rfl, _, _, rfl, _, _, rfl, rfl, ?_⟩
    obtain ⟨hl, hit⟩ := hi
    have lx : (itemsF c (writeF c (endsF f gs) 0).1 (decide (z = wA)) st 0 0).length ≤ 1000 := by
      unfold itemsF
      have f1 := raw_fits (c := c) (row := (writeF c (endsF f gs) 0).1) (st := st) ((writeF c (endsF f gs) 0).1.length + 1) 0 0
      split
      · have := any_len (rawF c (writeF c (endsF f gs) 0).1 st ((writeF c (endsF f gs) 0).1.length + 1) 0 0); omega
      · omega
    generalize hX : itemsF c (writeF c (endsF f gs) 0).1 (decide (z = wA)) st 0 0 = xs at hit lx
    refine ⟨_, rfl, l25, rfl, ⟨_, sq_at hl⟩, fun D2 nD2 => ?_⟩
    refine lc_list (K := K) (a := l25) (xs := ts.map V.ref) (fun i H' => H' D2 = some (.lst ((sgn (xs.take i)).map V.int)) ∧ Same H25 H') ⟨upd_same, (Kp.new (ps := []) nD2).same⟩ (fun i H' _ hP => sq_at (hP.2 _ _ hl)) (fun i x H' hx hP => ?_) (fun H26 hP => ?_)
    · obtain ⟨eD2, sm⟩ := hP
      rw [List.getElem?_map] at hx
      obtain ⟨t, ht, rfl⟩ := Option.map_eq_some_iff.mp hx
      have hi' : i < ts.length := (List.getElem?_eq_some_iff.mp ht).1
      have tl := hit.len
      obtain ⟨x, hx2, et⟩ := (hit.same sm).at ht
      refine ⟨t, _, rfl, .inl (.inl et), rfl, _, _, rfl, _, _, rfl, _, _, rfl, rfl, rfl, ?_⟩
      refine ⟨_, rfl, _, eD2, ?_, ?_, put_same sm nD2⟩
      · unfold sgn; rw [List.length_map, List.length_map, List.length_take]; omega
      · rw [upd_same, List.take_add_one, hx2]
        unfold sgn
        rw [List.map_append, List.map_append]; rfl
    obtain ⟨eD2, sm26⟩ := hP
    rw [List.length_map, hit.len, List.take_length] at eD2
    refine ⟨by show (2 : Nat) ≤ sizeLine; omega, fun t27 nt27 => ?_⟩
    have c27 := updG (o := HO.tup [.str (Str.ofString "told"), .ref D2]) rfl nt27
    generalize upd H26 t27 (HO.tup [.str (Str.ofString "told"), .ref D2]) = H27 at c27 ⊢
    obtain ⟨et27, z27⟩ := c27
    have b27 := ((b24.trans s25).trans sm26).trans z27
    refine ⟨_, rfl, rfl, _, rfl, iteFc (by rfl) ?_⟩
    refine ⟨_, rfl, _, rfl, _, rfl, _, rfl, w12, some c, some z, some st, (writeF c (endsF f gs) 0).1, rfl, (fun e => nomatch e), (fun e => nomatch e.1), (fun _ e => nomatch e), hz, by omega, b27 _ _ ew15, fun H28 q28 td28 s28 => ?_⟩
    have tdD : Told K H28 t27 (codO (some c)) (strO (some z) wA) ((some st).getD true) (writeF c (endsF f gs) 0).1 := told_ok bad0 (s28 _ _ et27) (by
      rw [show sgn (itemsF (codO (some c)) (writeF c (endsF f gs) 0).1 (decide (strO (some z) wA = wA)) ((some st).getD true) 0 0) = sgn xs from congrArg sgn hX]
      exact s28 _ _ (z27 _ _ eD2))
    obtain ⟨d, e1, e2, e3⟩ := td28.two tdD
    refine ⟨_, rfl, d, e1, e2, e3, _, rfl, iteF ?_⟩
    have b28 := b27.trans s28
    have ep28 := b28 _ _ ep15
    have eD28 := b28 _ _ eD15
    cases sb with
    | false => exact ⟨_, rfl, _, rfl, iteF (q _)⟩
    | true =>
      refine ⟨_, rfl, _, rfl, iteT ?_⟩
      refine ⟨_, rfl, _, _, rfl, rfl, cpow_10_30, by show (3 : Nat) ≤ sizeLine; omega, fun l nl => ?_⟩
      have pl : p3 ≠ l := ne_of_none ep28 nl
      have Dl : D ≠ l := ne_of_none eD28 nl
      refine ⟨_, rfl, p3, _, 3, o10, rfl, by rw [upd_ne pl]; exact ep28, hP10, by omega, by decide, by decide, fun v o11 v0 v1 hP11 => ?_⟩
      obtain ⟨g, eg, g10, gbad⟩ := other_at v0 v1
      refine ⟨l, _, v, .int g, rfl, rfl, sq_at (by rw [upd_ne pl.symm]; exact upd_same), eg, ?_⟩
      generalize hG : upd _ p3 o11 = H29
      have ep29 : H29 p3 = some o11 := by rw [← hG]; exact upd_same
      have eD29 : H29 D = some (.lst (gs.map V.int)) := by rw [← hG, upd_ne pD.symm, upd_ne Dl]; exact eD28
      clear hG
      have lm : ((gs.map V.int).length : Int) = gs.length := by rw [List.length_map]
      refine ⟨_, rfl, .inl ⟨rfl, _, sq_at eD29⟩, _, rfl, _, rfl, D, _, rfl, .inl (sq_at eD29), _, _, rfl, rfl, p3, _, _, o11, rfl, ep29, hP11, by omega, by omega, by omega, fun k o12 k0 k1 hP12 => ?_⟩
      have eD30 : (upd H29 p3 o12) D = some (.lst (gs.map V.int)) := by rw [upd_ne pD.symm]; exact eD29
      refine ⟨_, rfl, D, _, k, _, rfl, rfl, eD30, by rw [List.length_map]; omega, k0, by omega, ?_⟩
      generalize upd H29 p3 o12 = H30 at eD30 ⊢
      refine ⟨_, rfl, _, rfl, by show (1 : Nat) ≤ sizeLine; omega, fun l4 nl4 => ?_⟩
      have Dl4 : D ≠ l4 := ne_of_none upd_same nl4
      refine ⟨D, l4, _, _, rfl, rfl, by rw [upd_ne Dl4]; exact upd_same, upd_same, ?_, fun l5 nl5 => ?_⟩
      · simp only [List.length_append, List.length_take, List.length_drop, List.length_cons, List.length_nil, List.length_map]; omega
      have gb : ¬ (0 ≤ g ∧ g < sizeF c) := fun h => gbad ⟨h.1, by have := (sizeF_b c).2; omega⟩
      have gT : Good c (endsF f (gs.take k.toNat)) := endsF_good (feed_good (c := c) hz ef) (fun x hx => good x (List.mem_of_mem_take hx))
      have em := ends_mid (f := f) (a := gs.take k.toNat) (b := gs.drop k.toNat) g10
      refine ⟨_, rfl, _, rfl, l5, c, z, f, gs.take k.toNat ++ [g] ++ gs.drop k.toNat ++ [-7], rfl, hz, ef, ?_, ?_, fun hG => ?_, fun i g' hg hb ht H31 u eu s31 => ?_⟩
      · simp only [List.length_append, List.length_take, List.length_drop, List.length_cons, List.length_nil]; omega
      · rw [upd_same]; simp [List.map_take, List.map_drop]
      · rw [em] at hG
        exact absurd (hG g (by simp)) gb
      rw [em] at hg ht
      obtain rfl := first_bad gT gb hg hb ht
      refine ⟨_, rfl, by show (2 : Nat) ≤ sizeLine; omega, fun t32 nt32 => ?_⟩
      exact ⟨.tuple [.str (Str.ofString "none"), .int g'], .tup (.inl (.inl (by rw [upd_ne (ne_of_none eu nt32)]; exact eu))) (.cons (.str _) (.cons (.int _) .nil)), .tup (.inl (.inl upd_same)) (.cons (.str _) (.cons (.int _) .nil)), pair_shape ok_none rfl (Nat.zero_le _), q _⟩
end
set_option maxHeartbeats 0 in
theorem all_mk {l : PySem.W.OpenLaw} {w : World} {K : PySem.W.Frag} {h : Heap} {mg : Str → Option Value} {fa C_Scan C_SipError C_BadCode C_NoSign C_NoCode C_NoEnds C_NoWay f_iBadCode f_iNoSign f_iNoCode f_iNoEnds f_iNoWay f_chk f_gone f_bturn f_bmark f_sat f_wat f_stat f_lead f_stw f_rsign K_rsign f_whole f_lasts f_swr f_ww f_tw f_wsigns K_wsigns f_fstate f_wends K_wends f_wfeed f_cends f_eline f_cways f_mgo f_sure f_sinit K_sinit f_goon f_fone f_pwrong f_looks f_note f_sof f_decod K_decod f_encod K_encod f_pool f_take f_lcodes f_lsign f_lsteps f_lbytes f_lsread f_lwide f_lturn f_lstep f_lany f_litems f_lways f_lends f_lrow f_lread f_lrdue f_lwritten f_law A_HIGH_MARK A_LOW_MARK : Addr} (X : K.In h) (G : h.Ns mainGlobals mg) (hfa : mg "law" = some (.ref fa))
    {od_iBadCode an_iBadCode : Option Addr} {sl_iBadCode : Array (Option Value)} {oc_iBadCode dc_iBadCode pm_iBadCode cd_iBadCode ct_iBadCode : Value}
    {kV_iBadCode : Value}
    {od_iNoSign an_iNoSign : Option Addr} {sl_iNoSign : Array (Option Value)} {oc_iNoSign dc_iNoSign pm_iNoSign cd_iNoSign ct_iNoSign : Value}
    {kV_iNoSign : Value}
    {od_iNoCode an_iNoCode : Option Addr} {sl_iNoCode : Array (Option Value)} {oc_iNoCode dc_iNoCode pm_iNoCode cd_iNoCode ct_iNoCode : Value}
    {kV_iNoCode : Value}
    {od_iNoEnds an_iNoEnds : Option Addr} {sl_iNoEnds : Array (Option Value)} {oc_iNoEnds dc_iNoEnds pm_iNoEnds cd_iNoEnds ct_iNoEnds : Value}
    {kV_iNoEnds : Value}
    {od_iNoWay an_iNoWay : Option Addr} {sl_iNoWay : Array (Option Value)} {oc_iNoWay dc_iNoWay pm_iNoWay cd_iNoWay ct_iNoWay : Value}
    {kV_iNoWay : Value}
    {od_chk an_chk : Option Addr} {sl_chk : Array (Option Value)} {oc_chk dc_chk pm_chk cd_chk ct_chk : Value}
    {kV_chk : Value}
    {od_gone an_gone : Option Addr} {sl_gone : Array (Option Value)} {oc_gone dc_gone pm_gone cd_gone ct_gone : Value}
    {kV_gone : Value}
    {od_bturn an_bturn : Option Addr} {sl_bturn : Array (Option Value)} {oc_bturn dc_bturn pm_bturn cd_bturn ct_bturn : Value}
    {kV_bturn : Value}
    {od_bmark an_bmark : Option Addr} {sl_bmark : Array (Option Value)} {oc_bmark dc_bmark pm_bmark cd_bmark ct_bmark : Value}
    {kV_bmark : Value}
    {od_sat an_sat : Option Addr} {sl_sat : Array (Option Value)} {oc_sat dc_sat pm_sat cd_sat ct_sat : Value}
    {kV_sat : Value}
    {od_wat an_wat : Option Addr} {sl_wat : Array (Option Value)} {oc_wat dc_wat pm_wat cd_wat ct_wat : Value}
    {kV_wat : Value}
    {od_stat an_stat : Option Addr} {sl_stat : Array (Option Value)} {oc_stat dc_stat pm_stat cd_stat ct_stat : Value}
    {kV_stat : Value}
    {od_lead an_lead : Option Addr} {sl_lead : Array (Option Value)} {oc_lead dc_lead pm_lead cd_lead ct_lead : Value}
    {kV_lead : Value}
    {od_stw an_stw : Option Addr} {sl_stw : Array (Option Value)} {oc_stw dc_stw pm_stw cd_stw ct_stw : Value}
    {kV_stw : Value}
    {od_rsign an_rsign : Option Addr} {sl_rsign : Array (Option Value)} {oc_rsign dc_rsign pm_rsign cd_rsign ct_rsign : Value}
    {kk_rsign_0 : Tok}
    {od_whole an_whole : Option Addr} {sl_whole : Array (Option Value)} {oc_whole dc_whole pm_whole cd_whole ct_whole : Value}
    {kV_whole : Value}
    {od_lasts an_lasts : Option Addr} {sl_lasts : Array (Option Value)} {oc_lasts dc_lasts pm_lasts cd_lasts ct_lasts : Value}
    {kV_lasts : Value}
    {od_swr an_swr : Option Addr} {sl_swr : Array (Option Value)} {oc_swr dc_swr pm_swr cd_swr ct_swr : Value}
    {kV_swr : Value}
    {od_ww an_ww : Option Addr} {sl_ww : Array (Option Value)} {oc_ww dc_ww pm_ww cd_ww ct_ww : Value}
    {kV_ww : Value}
    {od_tw an_tw : Option Addr} {sl_tw : Array (Option Value)} {oc_tw dc_tw pm_tw cd_tw ct_tw : Value}
    {kV_tw : Value}
    {od_wsigns an_wsigns : Option Addr} {sl_wsigns : Array (Option Value)} {oc_wsigns dc_wsigns pm_wsigns cd_wsigns ct_wsigns : Value}
    {kk_wsigns_0 : Tok}
    {od_fstate an_fstate : Option Addr} {sl_fstate : Array (Option Value)} {oc_fstate dc_fstate pm_fstate cd_fstate ct_fstate : Value}
    {kV_fstate : Value}
    {od_wends an_wends : Option Addr} {sl_wends : Array (Option Value)} {oc_wends dc_wends pm_wends cd_wends ct_wends : Value}
    {kk_wends_0 : Tok}
    {od_wfeed an_wfeed : Option Addr} {sl_wfeed : Array (Option Value)} {oc_wfeed dc_wfeed pm_wfeed cd_wfeed ct_wfeed : Value}
    {kV_wfeed : Value}
    {od_cends an_cends : Option Addr} {sl_cends : Array (Option Value)} {oc_cends dc_cends pm_cends cd_cends ct_cends : Value}
    {kV_cends : Value}
    {od_eline an_eline : Option Addr} {sl_eline : Array (Option Value)} {oc_eline dc_eline pm_eline cd_eline ct_eline : Value}
    {kV_eline : Value}
    {od_cways an_cways : Option Addr} {sl_cways : Array (Option Value)} {oc_cways dc_cways pm_cways cd_cways ct_cways : Value}
    {kV_cways : Value}
    {od_mgo an_mgo : Option Addr} {sl_mgo : Array (Option Value)} {oc_mgo dc_mgo pm_mgo cd_mgo ct_mgo : Value}
    {kV_mgo : Value}
    {od_sure an_sure : Option Addr} {sl_sure : Array (Option Value)} {oc_sure dc_sure pm_sure cd_sure ct_sure : Value}
    {kV_sure : Value}
    {od_sinit an_sinit : Option Addr} {sl_sinit : Array (Option Value)} {oc_sinit dc_sinit pm_sinit cd_sinit ct_sinit : Value}
    {od_goon an_goon : Option Addr} {sl_goon : Array (Option Value)} {oc_goon dc_goon pm_goon cd_goon ct_goon : Value}
    {kV_goon : Value}
    {od_fone an_fone : Option Addr} {sl_fone : Array (Option Value)} {oc_fone dc_fone pm_fone cd_fone ct_fone : Value}
    {kV_fone : Value}
    {od_pwrong an_pwrong : Option Addr} {sl_pwrong : Array (Option Value)} {oc_pwrong dc_pwrong pm_pwrong cd_pwrong ct_pwrong : Value}
    {kV_pwrong : Value}
    {od_looks an_looks : Option Addr} {sl_looks : Array (Option Value)} {oc_looks dc_looks pm_looks cd_looks ct_looks : Value}
    {kV_looks : Value}
    {od_note an_note : Option Addr} {sl_note : Array (Option Value)} {oc_note dc_note pm_note cd_note ct_note : Value}
    {kV_note : Value}
    {od_sof an_sof : Option Addr} {sl_sof : Array (Option Value)} {oc_sof dc_sof pm_sof cd_sof ct_sof : Value}
    {kV_sof : Value}
    {od_decod an_decod : Option Addr} {sl_decod : Array (Option Value)} {oc_decod dc_decod pm_decod cd_decod ct_decod : Value}
    {kk_decod_0 kk_decod_1 kk_decod_2 : Tok}
    {od_encod an_encod : Option Addr} {sl_encod : Array (Option Value)} {oc_encod dc_encod pm_encod cd_encod ct_encod : Value}
    {kk_encod_0 kk_encod_1 : Tok}
    {od_pool an_pool : Option Addr} {sl_pool : Array (Option Value)} {oc_pool dc_pool pm_pool cd_pool ct_pool : Value}
    {kV_pool : Value}
    {od_take an_take : Option Addr} {sl_take : Array (Option Value)} {oc_take dc_take pm_take cd_take ct_take : Value}
    {kV_take : Value}
    {od_lcodes an_lcodes : Option Addr} {sl_lcodes : Array (Option Value)} {oc_lcodes dc_lcodes pm_lcodes cd_lcodes ct_lcodes : Value}
    {kV_lcodes : Value}
    {od_lsign an_lsign : Option Addr} {sl_lsign : Array (Option Value)} {oc_lsign dc_lsign pm_lsign cd_lsign ct_lsign : Value}
    {kV_lsign : Value}
    {od_lsteps an_lsteps : Option Addr} {sl_lsteps : Array (Option Value)} {oc_lsteps dc_lsteps pm_lsteps cd_lsteps ct_lsteps : Value}
    {kV_lsteps : Value}
    {od_lbytes an_lbytes : Option Addr} {sl_lbytes : Array (Option Value)} {oc_lbytes dc_lbytes pm_lbytes cd_lbytes ct_lbytes : Value}
    {kV_lbytes : Value}
    {od_lsread an_lsread : Option Addr} {sl_lsread : Array (Option Value)} {oc_lsread dc_lsread pm_lsread cd_lsread ct_lsread : Value}
    {kV_lsread : Value}
    {od_lwide an_lwide : Option Addr} {sl_lwide : Array (Option Value)} {oc_lwide dc_lwide pm_lwide cd_lwide ct_lwide : Value}
    {kV_lwide : Value}
    {od_lturn an_lturn : Option Addr} {sl_lturn : Array (Option Value)} {oc_lturn dc_lturn pm_lturn cd_lturn ct_lturn : Value}
    {kV_lturn : Value}
    {od_lstep an_lstep : Option Addr} {sl_lstep : Array (Option Value)} {oc_lstep dc_lstep pm_lstep cd_lstep ct_lstep : Value}
    {kV_lstep : Value}
    {od_lany an_lany : Option Addr} {sl_lany : Array (Option Value)} {oc_lany dc_lany pm_lany cd_lany ct_lany : Value}
    {kV_lany : Value}
    {od_litems an_litems : Option Addr} {sl_litems : Array (Option Value)} {oc_litems dc_litems pm_litems cd_litems ct_litems : Value}
    {kV_litems : Value}
    {od_lways an_lways : Option Addr} {sl_lways : Array (Option Value)} {oc_lways dc_lways pm_lways cd_lways ct_lways : Value}
    {kV_lways : Value}
    {od_lends an_lends : Option Addr} {sl_lends : Array (Option Value)} {oc_lends dc_lends pm_lends cd_lends ct_lends : Value}
    {kV_lends : Value}
    {od_lrow an_lrow : Option Addr} {sl_lrow : Array (Option Value)} {oc_lrow dc_lrow pm_lrow cd_lrow ct_lrow : Value}
    {kV_lrow : Value}
    {od_lread an_lread : Option Addr} {sl_lread : Array (Option Value)} {oc_lread dc_lread pm_lread cd_lread ct_lread : Value}
    {kV_lread : Value}
    {od_lrdue an_lrdue : Option Addr} {sl_lrdue : Array (Option Value)} {oc_lrdue dc_lrdue pm_lrdue cd_lrdue ct_lrdue : Value}
    {kV_lrdue : Value}
    {od_lwritten an_lwritten : Option Addr} {sl_lwritten : Array (Option Value)} {oc_lwritten dc_lwritten pm_lwritten cd_lwritten ct_lwritten : Value}
    {kV_lwritten : Value}
    {od_law an_law : Option Addr} {sl_law : Array (Option Value)} {oc_law dc_law pm_law cd_law ct_law : Value}
    {kV_law : Value}
    {t_PLAIN : Tok}
    {t_STEPS : Tok}
    {t_WIDE : Tok}
    {t_TURN : Tok}
    {t_LOW_FIRST : Tok}
    {t_HIGH_FIRST : Tok}
    {t_TURNING : Tok}
    {t_ANY : Tok}
    {t_KEPT : Tok}
    {t_FEED : Tok}
    {t_RETURN : Tok}
    {t_BOTH : Tok}
    {t_STRICT : Tok}
    {t_MARK : Tok}
    {t_LINE_FEED : Tok}
    {t_LINE_RETURN : Tok}
    {t_WRONG_SIGN : Tok}
    {tt_HIGH_MARK_0 tt_HIGH_MARK_1 : Tok}
    {ud_HIGH_MARK : Option Addr} {un_HIGH_MARK : Nat} {us_HIGH_MARK : Array (Option Value)}
    {tt_LOW_MARK_0 tt_LOW_MARK_1 : Tok}
    {ud_LOW_MARK : Option Addr} {un_LOW_MARK : Nat} {us_LOW_MARK : Array (Option Value)}
    (qa_Scan : PySem.W.nsIn K mainGlobals "Scan" = some (some (.ref C_Scan)))
    (qa_SipError : PySem.W.nsIn K mainGlobals "SipError" = some (some (.ref C_SipError)))
    (qa_BadCode : PySem.W.nsIn K mainGlobals "BadCode" = some (some (.ref C_BadCode)))
    (qa_NoSign : PySem.W.nsIn K mainGlobals "NoSign" = some (some (.ref C_NoSign)))
    (qa_NoCode : PySem.W.nsIn K mainGlobals "NoCode" = some (some (.ref C_NoCode)))
    (qa_NoEnds : PySem.W.nsIn K mainGlobals "NoEnds" = some (some (.ref C_NoEnds)))
    (qa_NoWay : PySem.W.nsIn K mainGlobals "NoWay" = some (some (.ref C_NoWay)))
    (sb_SipError : PySem.W.subIn K (.ref C_SipError) (.type "BaseException") = some true)
    (sh_SipError : PySem.W.hasDictIn K C_SipError = true)
    (st_SipError : PySem.W.typeIn K (.ref C_SipError) = some (.type "type"))
    (hb_BadCode : PySem.W.subIn K (.ref C_BadCode) (.type "BaseException") = some true)
    (hh_BadCode : PySem.W.hasDictIn K C_BadCode = true)
    (hy_BadCode : PySem.W.typeIn K (.ref C_BadCode) = some (.type "type"))
    (hs_BadCode_BadCode : PySem.W.subIn K (.ref C_BadCode) (.ref C_BadCode) = some true)
    (hs_NoSign_BadCode : PySem.W.subIn K (.ref C_NoSign) (.ref C_BadCode) = some false)
    (hs_NoCode_BadCode : PySem.W.subIn K (.ref C_NoCode) (.ref C_BadCode) = some false)
    (hs_NoEnds_BadCode : PySem.W.subIn K (.ref C_NoEnds) (.ref C_BadCode) = some false)
    (hs_NoWay_BadCode : PySem.W.subIn K (.ref C_NoWay) (.ref C_BadCode) = some false)
    (hb_NoSign : PySem.W.subIn K (.ref C_NoSign) (.type "BaseException") = some true)
    (hh_NoSign : PySem.W.hasDictIn K C_NoSign = true)
    (hy_NoSign : PySem.W.typeIn K (.ref C_NoSign) = some (.type "type"))
    (hs_BadCode_NoSign : PySem.W.subIn K (.ref C_BadCode) (.ref C_NoSign) = some false)
    (hs_NoSign_NoSign : PySem.W.subIn K (.ref C_NoSign) (.ref C_NoSign) = some true)
    (hs_NoCode_NoSign : PySem.W.subIn K (.ref C_NoCode) (.ref C_NoSign) = some false)
    (hs_NoEnds_NoSign : PySem.W.subIn K (.ref C_NoEnds) (.ref C_NoSign) = some false)
    (hs_NoWay_NoSign : PySem.W.subIn K (.ref C_NoWay) (.ref C_NoSign) = some false)
    (hb_SipError : PySem.W.subIn K (.ref C_SipError) (.type "BaseException") = some true)
    (hh_SipError : PySem.W.hasDictIn K C_SipError = true)
    (hy_SipError : PySem.W.typeIn K (.ref C_SipError) = some (.type "type"))
    (hs_BadCode_SipError : PySem.W.subIn K (.ref C_BadCode) (.ref C_SipError) = some true)
    (hs_NoSign_SipError : PySem.W.subIn K (.ref C_NoSign) (.ref C_SipError) = some true)
    (hs_NoCode_SipError : PySem.W.subIn K (.ref C_NoCode) (.ref C_SipError) = some true)
    (hs_NoEnds_SipError : PySem.W.subIn K (.ref C_NoEnds) (.ref C_SipError) = some true)
    (hs_NoWay_SipError : PySem.W.subIn K (.ref C_NoWay) (.ref C_SipError) = some true)
    (xo_BadCode : Sip.IsExcObj K C_BadCode C_SipError)
    (sa_BadCode : PySem.W.findIn K (.ref C_BadCode) "__setattr__" = some (some (.builtin "object.__setattr__")))
    (ex_BadCode : PySem.W.subIn K (.ref C_BadCode) (.type "BaseException") = some true)
    (ty_BadCode : PySem.W.typeIn K (.ref C_BadCode) = some (.type "type"))
    (kx_BadCode : PySem.W.keepIn K (.ref C_BadCode) = true)
    (hg_BadCode : PySem.W.findIn K (.ref C_BadCode) "__getattribute__" = some (some (.builtin "BaseException.__getattribute__")))
    (hk_BadCode : PySem.W.findIn K (.ref C_BadCode) "__getattr__" = some none)
    (hd_BadCode : PySem.W.hasDictIn K C_BadCode = true)
    (ha_BadCode : PySem.W.findIn K (.ref C_BadCode) "__class__" = some (some (.builtin "object.__class__")))
    (hn_BadCode : PySem.W.specialIn K (.builtin "object.__class__") "__get__" = some (some (.builtin "getset_descriptor.__get__")))
    (ht_BadCode : PySem.W.takesIn K (.builtin "object.__class__") = some true)
    (hm_BadCode : PySem.W.mroIn K C_BadCode (.type "object") = some true)
    (no_BadCode : PySem.W.findIn K (.ref C_BadCode) "at" = some none)
    (ss_BadCode : PySem.W.subIn K (.ref C_BadCode) (.ref C_SipError) = some true)
    (se_BadCode : PySem.W.subIn K (.ref C_BadCode) (.ref C_BadCode) = some true)
    (xo_NoSign : Sip.IsExcObj K C_NoSign C_SipError)
    (sa_NoSign : PySem.W.findIn K (.ref C_NoSign) "__setattr__" = some (some (.builtin "object.__setattr__")))
    (ex_NoSign : PySem.W.subIn K (.ref C_NoSign) (.type "BaseException") = some true)
    (ty_NoSign : PySem.W.typeIn K (.ref C_NoSign) = some (.type "type"))
    (kx_NoSign : PySem.W.keepIn K (.ref C_NoSign) = true)
    (hg_NoSign : PySem.W.findIn K (.ref C_NoSign) "__getattribute__" = some (some (.builtin "BaseException.__getattribute__")))
    (hk_NoSign : PySem.W.findIn K (.ref C_NoSign) "__getattr__" = some none)
    (hd_NoSign : PySem.W.hasDictIn K C_NoSign = true)
    (ha_NoSign : PySem.W.findIn K (.ref C_NoSign) "__class__" = some (some (.builtin "object.__class__")))
    (hn_NoSign : PySem.W.specialIn K (.builtin "object.__class__") "__get__" = some (some (.builtin "getset_descriptor.__get__")))
    (ht_NoSign : PySem.W.takesIn K (.builtin "object.__class__") = some true)
    (hm_NoSign : PySem.W.mroIn K C_NoSign (.type "object") = some true)
    (no_NoSign : PySem.W.findIn K (.ref C_NoSign) "sign" = some none)
    (ss_NoSign : PySem.W.subIn K (.ref C_NoSign) (.ref C_SipError) = some true)
    (se_NoSign : PySem.W.subIn K (.ref C_NoSign) (.ref C_NoSign) = some true)
    (xo_NoCode : Sip.IsExcObj K C_NoCode C_SipError)
    (sa_NoCode : PySem.W.findIn K (.ref C_NoCode) "__setattr__" = some (some (.builtin "object.__setattr__")))
    (ex_NoCode : PySem.W.subIn K (.ref C_NoCode) (.type "BaseException") = some true)
    (ty_NoCode : PySem.W.typeIn K (.ref C_NoCode) = some (.type "type"))
    (kx_NoCode : PySem.W.keepIn K (.ref C_NoCode) = true)
    (hg_NoCode : PySem.W.findIn K (.ref C_NoCode) "__getattribute__" = some (some (.builtin "BaseException.__getattribute__")))
    (hk_NoCode : PySem.W.findIn K (.ref C_NoCode) "__getattr__" = some none)
    (hd_NoCode : PySem.W.hasDictIn K C_NoCode = true)
    (ha_NoCode : PySem.W.findIn K (.ref C_NoCode) "__class__" = some (some (.builtin "object.__class__")))
    (hn_NoCode : PySem.W.specialIn K (.builtin "object.__class__") "__get__" = some (some (.builtin "getset_descriptor.__get__")))
    (ht_NoCode : PySem.W.takesIn K (.builtin "object.__class__") = some true)
    (hm_NoCode : PySem.W.mroIn K C_NoCode (.type "object") = some true)
    (no_NoCode : PySem.W.findIn K (.ref C_NoCode) "word" = some none)
    (ss_NoCode : PySem.W.subIn K (.ref C_NoCode) (.ref C_SipError) = some true)
    (se_NoCode : PySem.W.subIn K (.ref C_NoCode) (.ref C_NoCode) = some true)
    (xo_NoEnds : Sip.IsExcObj K C_NoEnds C_SipError)
    (sa_NoEnds : PySem.W.findIn K (.ref C_NoEnds) "__setattr__" = some (some (.builtin "object.__setattr__")))
    (ex_NoEnds : PySem.W.subIn K (.ref C_NoEnds) (.type "BaseException") = some true)
    (ty_NoEnds : PySem.W.typeIn K (.ref C_NoEnds) = some (.type "type"))
    (kx_NoEnds : PySem.W.keepIn K (.ref C_NoEnds) = true)
    (hg_NoEnds : PySem.W.findIn K (.ref C_NoEnds) "__getattribute__" = some (some (.builtin "BaseException.__getattribute__")))
    (hk_NoEnds : PySem.W.findIn K (.ref C_NoEnds) "__getattr__" = some none)
    (hd_NoEnds : PySem.W.hasDictIn K C_NoEnds = true)
    (ha_NoEnds : PySem.W.findIn K (.ref C_NoEnds) "__class__" = some (some (.builtin "object.__class__")))
    (hn_NoEnds : PySem.W.specialIn K (.builtin "object.__class__") "__get__" = some (some (.builtin "getset_descriptor.__get__")))
    (ht_NoEnds : PySem.W.takesIn K (.builtin "object.__class__") = some true)
    (hm_NoEnds : PySem.W.mroIn K C_NoEnds (.type "object") = some true)
    (no_NoEnds : PySem.W.findIn K (.ref C_NoEnds) "word" = some none)
    (ss_NoEnds : PySem.W.subIn K (.ref C_NoEnds) (.ref C_SipError) = some true)
    (se_NoEnds : PySem.W.subIn K (.ref C_NoEnds) (.ref C_NoEnds) = some true)
    (xo_NoWay : Sip.IsExcObj K C_NoWay C_SipError)
    (sa_NoWay : PySem.W.findIn K (.ref C_NoWay) "__setattr__" = some (some (.builtin "object.__setattr__")))
    (ex_NoWay : PySem.W.subIn K (.ref C_NoWay) (.type "BaseException") = some true)
    (ty_NoWay : PySem.W.typeIn K (.ref C_NoWay) = some (.type "type"))
    (kx_NoWay : PySem.W.keepIn K (.ref C_NoWay) = true)
    (hg_NoWay : PySem.W.findIn K (.ref C_NoWay) "__getattribute__" = some (some (.builtin "BaseException.__getattribute__")))
    (hk_NoWay : PySem.W.findIn K (.ref C_NoWay) "__getattr__" = some none)
    (hd_NoWay : PySem.W.hasDictIn K C_NoWay = true)
    (ha_NoWay : PySem.W.findIn K (.ref C_NoWay) "__class__" = some (some (.builtin "object.__class__")))
    (hn_NoWay : PySem.W.specialIn K (.builtin "object.__class__") "__get__" = some (some (.builtin "getset_descriptor.__get__")))
    (ht_NoWay : PySem.W.takesIn K (.builtin "object.__class__") = some true)
    (hm_NoWay : PySem.W.mroIn K C_NoWay (.type "object") = some true)
    (no_NoWay : PySem.W.findIn K (.ref C_NoWay) "word" = some none)
    (ss_NoWay : PySem.W.subIn K (.ref C_NoWay) (.ref C_SipError) = some true)
    (se_NoWay : PySem.W.subIn K (.ref C_NoWay) (.ref C_NoWay) = some true)
    (a_iBadCode : PySem.W.findIn K (.ref C_BadCode) "__init__" = some (some (.ref f_iBadCode)))
    (i_iBadCode : PySem.W.typeIn K (.ref f_iBadCode) = some (.type "function"))
    (l_iBadCode : K.lookup f_iBadCode = some ⟨oc_iBadCode, od_iBadCode, .func (PySem.W.fnOf "__init__" "BadCode.__init__" (defArgs s_iBadCode) (defBody s_iBadCode) (defScope s_iBadCode) .none kV_iBadCode dc_iBadCode pm_iBadCode an_iBadCode cd_iBadCode ct_iBadCode), sl_iBadCode⟩)
    (c_iBadCode : PySem.W.codeIn K cd_iBadCode "BadCode.__init__" = true)
    (k_iBadCode : PySem.W.keepIn K (.ref f_iBadCode) = true)
    (a_iNoSign : PySem.W.findIn K (.ref C_NoSign) "__init__" = some (some (.ref f_iNoSign)))
    (i_iNoSign : PySem.W.typeIn K (.ref f_iNoSign) = some (.type "function"))
    (l_iNoSign : K.lookup f_iNoSign = some ⟨oc_iNoSign, od_iNoSign, .func (PySem.W.fnOf "__init__" "NoSign.__init__" (defArgs s_iNoSign) (defBody s_iNoSign) (defScope s_iNoSign) .none kV_iNoSign dc_iNoSign pm_iNoSign an_iNoSign cd_iNoSign ct_iNoSign), sl_iNoSign⟩)
    (c_iNoSign : PySem.W.codeIn K cd_iNoSign "NoSign.__init__" = true)
    (k_iNoSign : PySem.W.keepIn K (.ref f_iNoSign) = true)
    (a_iNoCode : PySem.W.findIn K (.ref C_NoCode) "__init__" = some (some (.ref f_iNoCode)))
    (i_iNoCode : PySem.W.typeIn K (.ref f_iNoCode) = some (.type "function"))
    (l_iNoCode : K.lookup f_iNoCode = some ⟨oc_iNoCode, od_iNoCode, .func (PySem.W.fnOf "__init__" "NoCode.__init__" (defArgs s_iNoCode) (defBody s_iNoCode) (defScope s_iNoCode) .none kV_iNoCode dc_iNoCode pm_iNoCode an_iNoCode cd_iNoCode ct_iNoCode), sl_iNoCode⟩)
    (c_iNoCode : PySem.W.codeIn K cd_iNoCode "NoCode.__init__" = true)
    (k_iNoCode : PySem.W.keepIn K (.ref f_iNoCode) = true)
    (a_iNoEnds : PySem.W.findIn K (.ref C_NoEnds) "__init__" = some (some (.ref f_iNoEnds)))
    (i_iNoEnds : PySem.W.typeIn K (.ref f_iNoEnds) = some (.type "function"))
    (l_iNoEnds : K.lookup f_iNoEnds = some ⟨oc_iNoEnds, od_iNoEnds, .func (PySem.W.fnOf "__init__" "NoEnds.__init__" (defArgs s_iNoEnds) (defBody s_iNoEnds) (defScope s_iNoEnds) .none kV_iNoEnds dc_iNoEnds pm_iNoEnds an_iNoEnds cd_iNoEnds ct_iNoEnds), sl_iNoEnds⟩)
    (c_iNoEnds : PySem.W.codeIn K cd_iNoEnds "NoEnds.__init__" = true)
    (k_iNoEnds : PySem.W.keepIn K (.ref f_iNoEnds) = true)
    (a_iNoWay : PySem.W.findIn K (.ref C_NoWay) "__init__" = some (some (.ref f_iNoWay)))
    (i_iNoWay : PySem.W.typeIn K (.ref f_iNoWay) = some (.type "function"))
    (l_iNoWay : K.lookup f_iNoWay = some ⟨oc_iNoWay, od_iNoWay, .func (PySem.W.fnOf "__init__" "NoWay.__init__" (defArgs s_iNoWay) (defBody s_iNoWay) (defScope s_iNoWay) .none kV_iNoWay dc_iNoWay pm_iNoWay an_iNoWay cd_iNoWay ct_iNoWay), sl_iNoWay⟩)
    (c_iNoWay : PySem.W.codeIn K cd_iNoWay "NoWay.__init__" = true)
    (k_iNoWay : PySem.W.keepIn K (.ref f_iNoWay) = true)
    (a_chk : PySem.W.nsIn K mainGlobals "check_code" = some (some (.ref f_chk)))
    (l_chk : K.lookup f_chk = some ⟨oc_chk, od_chk, .func (PySem.W.fnOf "check_code" "check_code" (defArgs s_chk) (defBody s_chk) (defScope s_chk) .none kV_chk dc_chk pm_chk an_chk cd_chk ct_chk), sl_chk⟩)
    (c_chk : PySem.W.codeIn K cd_chk "check_code" = true)
    (k_chk : PySem.W.keepIn K (.ref f_chk) = true)
    (a_gone : PySem.W.nsIn K mainGlobals "gone_through" = some (some (.ref f_gone)))
    (l_gone : K.lookup f_gone = some ⟨oc_gone, od_gone, .func (PySem.W.fnOf "gone_through" "gone_through" (defArgs s_gone) (defBody s_gone) (defScope s_gone) .none kV_gone dc_gone pm_gone an_gone cd_gone ct_gone), sl_gone⟩)
    (c_gone : PySem.W.codeIn K cd_gone "gone_through" = true)
    (k_gone : PySem.W.keepIn K (.ref f_gone) = true)
    (a_bturn : PySem.W.nsIn K mainGlobals "behind_turning" = some (some (.ref f_bturn)))
    (l_bturn : K.lookup f_bturn = some ⟨oc_bturn, od_bturn, .func (PySem.W.fnOf "behind_turning" "behind_turning" (defArgs s_bturn) (defBody s_bturn) (defScope s_bturn) .none kV_bturn dc_bturn pm_bturn an_bturn cd_bturn ct_bturn), sl_bturn⟩)
    (c_bturn : PySem.W.codeIn K cd_bturn "behind_turning" = true)
    (k_bturn : PySem.W.keepIn K (.ref f_bturn) = true)
    (a_bmark : PySem.W.nsIn K mainGlobals "behind_mark" = some (some (.ref f_bmark)))
    (l_bmark : K.lookup f_bmark = some ⟨oc_bmark, od_bmark, .func (PySem.W.fnOf "behind_mark" "behind_mark" (defArgs s_bmark) (defBody s_bmark) (defScope s_bmark) .none kV_bmark dc_bmark pm_bmark an_bmark cd_bmark ct_bmark), sl_bmark⟩)
    (c_bmark : PySem.W.codeIn K cd_bmark "behind_mark" = true)
    (k_bmark : PySem.W.keepIn K (.ref f_bmark) = true)
    (a_sat : PySem.W.nsIn K mainGlobals "sign_at" = some (some (.ref f_sat)))
    (l_sat : K.lookup f_sat = some ⟨oc_sat, od_sat, .func (PySem.W.fnOf "sign_at" "sign_at" (defArgs s_sat) (defBody s_sat) (defScope s_sat) .none kV_sat dc_sat pm_sat an_sat cd_sat ct_sat), sl_sat⟩)
    (c_sat : PySem.W.codeIn K cd_sat "sign_at" = true)
    (k_sat : PySem.W.keepIn K (.ref f_sat) = true)
    (a_wat : PySem.W.nsIn K mainGlobals "wide_sign_at" = some (some (.ref f_wat)))
    (l_wat : K.lookup f_wat = some ⟨oc_wat, od_wat, .func (PySem.W.fnOf "wide_sign_at" "wide_sign_at" (defArgs s_wat) (defBody s_wat) (defScope s_wat) .none kV_wat dc_wat pm_wat an_wat cd_wat ct_wat), sl_wat⟩)
    (c_wat : PySem.W.codeIn K cd_wat "wide_sign_at" = true)
    (k_wat : PySem.W.keepIn K (.ref f_wat) = true)
    (a_stat : PySem.W.nsIn K mainGlobals "steps_sign_at" = some (some (.ref f_stat)))
    (l_stat : K.lookup f_stat = some ⟨oc_stat, od_stat, .func (PySem.W.fnOf "steps_sign_at" "steps_sign_at" (defArgs s_stat) (defBody s_stat) (defScope s_stat) .none kV_stat dc_stat pm_stat an_stat cd_stat ct_stat), sl_stat⟩)
    (c_stat : PySem.W.codeIn K cd_stat "steps_sign_at" = true)
    (k_stat : PySem.W.keepIn K (.ref f_stat) = true)
    (a_lead : PySem.W.nsIn K mainGlobals "steps_lead" = some (some (.ref f_lead)))
    (l_lead : K.lookup f_lead = some ⟨oc_lead, od_lead, .func (PySem.W.fnOf "steps_lead" "steps_lead" (defArgs s_lead) (defBody s_lead) (defScope s_lead) .none kV_lead dc_lead pm_lead an_lead cd_lead ct_lead), sl_lead⟩)
    (c_lead : PySem.W.codeIn K cd_lead "steps_lead" = true)
    (k_lead : PySem.W.keepIn K (.ref f_lead) = true)
    (a_stw : PySem.W.nsIn K mainGlobals "steps_writing" = some (some (.ref f_stw)))
    (l_stw : K.lookup f_stw = some ⟨oc_stw, od_stw, .func (PySem.W.fnOf "steps_writing" "steps_writing" (defArgs s_stw) (defBody s_stw) (defScope s_stw) .none kV_stw dc_stw pm_stw an_stw cd_stw ct_stw), sl_stw⟩)
    (c_stw : PySem.W.codeIn K cd_stw "steps_writing" = true)
    (k_stw : PySem.W.keepIn K (.ref f_stw) = true)
    (a_rsign : PySem.W.nsIn K mainGlobals "read_sign" = some (some (.ref f_rsign)))
    (l_rsign : K.lookup f_rsign = some ⟨oc_rsign, od_rsign, .func (PySem.W.fnOf "read_sign" "read_sign" (defArgs s_rsign) (defBody s_rsign) (defScope s_rsign) .none (.ref K_rsign) dc_rsign pm_rsign an_rsign cd_rsign ct_rsign), sl_rsign⟩)
    (c_rsign : PySem.W.codeIn K cd_rsign "read_sign" = true)
    (k_rsign : PySem.W.keepIn K (.ref f_rsign) = true)
    (w_rsign_0 : PySem.W.nsIn K K_rsign "code" = some (some (.str (Str.ofString "steps") kk_rsign_0)))
    (a_whole : PySem.W.nsIn K mainGlobals "is_whole" = some (some (.ref f_whole)))
    (l_whole : K.lookup f_whole = some ⟨oc_whole, od_whole, .func (PySem.W.fnOf "is_whole" "is_whole" (defArgs s_whole) (defBody s_whole) (defScope s_whole) .none kV_whole dc_whole pm_whole an_whole cd_whole ct_whole), sl_whole⟩)
    (c_whole : PySem.W.codeIn K cd_whole "is_whole" = true)
    (k_whole : PySem.W.keepIn K (.ref f_whole) = true)
    (a_lasts : PySem.W.nsIn K mainGlobals "last_sign" = some (some (.ref f_lasts)))
    (l_lasts : K.lookup f_lasts = some ⟨oc_lasts, od_lasts, .func (PySem.W.fnOf "last_sign" "last_sign" (defArgs s_lasts) (defBody s_lasts) (defScope s_lasts) .none kV_lasts dc_lasts pm_lasts an_lasts cd_lasts ct_lasts), sl_lasts⟩)
    (c_lasts : PySem.W.codeIn K cd_lasts "last_sign" = true)
    (k_lasts : PySem.W.keepIn K (.ref f_lasts) = true)
    (a_swr : PySem.W.nsIn K mainGlobals "sign_writing" = some (some (.ref f_swr)))
    (l_swr : K.lookup f_swr = some ⟨oc_swr, od_swr, .func (PySem.W.fnOf "sign_writing" "sign_writing" (defArgs s_swr) (defBody s_swr) (defScope s_swr) .none kV_swr dc_swr pm_swr an_swr cd_swr ct_swr), sl_swr⟩)
    (c_swr : PySem.W.codeIn K cd_swr "sign_writing" = true)
    (k_swr : PySem.W.keepIn K (.ref f_swr) = true)
    (a_ww : PySem.W.nsIn K mainGlobals "wide_writing" = some (some (.ref f_ww)))
    (l_ww : K.lookup f_ww = some ⟨oc_ww, od_ww, .func (PySem.W.fnOf "wide_writing" "wide_writing" (defArgs s_ww) (defBody s_ww) (defScope s_ww) .none kV_ww dc_ww pm_ww an_ww cd_ww ct_ww), sl_ww⟩)
    (c_ww : PySem.W.codeIn K cd_ww "wide_writing" = true)
    (k_ww : PySem.W.keepIn K (.ref f_ww) = true)
    (a_tw : PySem.W.nsIn K mainGlobals "turn_writing" = some (some (.ref f_tw)))
    (l_tw : K.lookup f_tw = some ⟨oc_tw, od_tw, .func (PySem.W.fnOf "turn_writing" "turn_writing" (defArgs s_tw) (defBody s_tw) (defScope s_tw) .none kV_tw dc_tw pm_tw an_tw cd_tw ct_tw), sl_tw⟩)
    (c_tw : PySem.W.codeIn K cd_tw "turn_writing" = true)
    (k_tw : PySem.W.keepIn K (.ref f_tw) = true)
    (a_wsigns : PySem.W.nsIn K mainGlobals "write_signs" = some (some (.ref f_wsigns)))
    (l_wsigns : K.lookup f_wsigns = some ⟨oc_wsigns, od_wsigns, .func (PySem.W.fnOf "write_signs" "write_signs" (defArgs s_wsigns) (defBody s_wsigns) (defScope s_wsigns) .none (.ref K_wsigns) dc_wsigns pm_wsigns an_wsigns cd_wsigns ct_wsigns), sl_wsigns⟩)
    (c_wsigns : PySem.W.codeIn K cd_wsigns "write_signs" = true)
    (k_wsigns : PySem.W.keepIn K (.ref f_wsigns) = true)
    (w_wsigns_0 : PySem.W.nsIn K K_wsigns "code" = some (some (.str (Str.ofString "steps") kk_wsigns_0)))
    (a_fstate : PySem.W.nsIn K mainGlobals "first_state" = some (some (.ref f_fstate)))
    (l_fstate : K.lookup f_fstate = some ⟨oc_fstate, od_fstate, .func (PySem.W.fnOf "first_state" "first_state" (defArgs s_fstate) (defBody s_fstate) (defScope s_fstate) .none kV_fstate dc_fstate pm_fstate an_fstate cd_fstate ct_fstate), sl_fstate⟩)
    (c_fstate : PySem.W.codeIn K cd_fstate "first_state" = true)
    (k_fstate : PySem.W.keepIn K (.ref f_fstate) = true)
    (a_wends : PySem.W.nsIn K mainGlobals "written_ends" = some (some (.ref f_wends)))
    (l_wends : K.lookup f_wends = some ⟨oc_wends, od_wends, .func (PySem.W.fnOf "written_ends" "written_ends" (defArgs s_wends) (defBody s_wends) (defScope s_wends) .none (.ref K_wends) dc_wends pm_wends an_wends cd_wends ct_wends), sl_wends⟩)
    (c_wends : PySem.W.codeIn K cd_wends "written_ends" = true)
    (k_wends : PySem.W.keepIn K (.ref f_wends) = true)
    (w_wends_0 : PySem.W.nsIn K K_wends "ends" = some (some (.str (Str.ofString "any") kk_wends_0)))
    (a_wfeed : PySem.W.nsIn K mainGlobals "written_feed" = some (some (.ref f_wfeed)))
    (l_wfeed : K.lookup f_wfeed = some ⟨oc_wfeed, od_wfeed, .func (PySem.W.fnOf "written_feed" "written_feed" (defArgs s_wfeed) (defBody s_wfeed) (defScope s_wfeed) .none kV_wfeed dc_wfeed pm_wfeed an_wfeed cd_wfeed ct_wfeed), sl_wfeed⟩)
    (c_wfeed : PySem.W.codeIn K cd_wfeed "written_feed" = true)
    (k_wfeed : PySem.W.keepIn K (.ref f_wfeed) = true)
    (a_cends : PySem.W.nsIn K mainGlobals "check_ends" = some (some (.ref f_cends)))
    (l_cends : K.lookup f_cends = some ⟨oc_cends, od_cends, .func (PySem.W.fnOf "check_ends" "check_ends" (defArgs s_cends) (defBody s_cends) (defScope s_cends) .none kV_cends dc_cends pm_cends an_cends cd_cends ct_cends), sl_cends⟩)
    (c_cends : PySem.W.codeIn K cd_cends "check_ends" = true)
    (k_cends : PySem.W.keepIn K (.ref f_cends) = true)
    (a_eline : PySem.W.nsIn K mainGlobals "ends_line" = some (some (.ref f_eline)))
    (l_eline : K.lookup f_eline = some ⟨oc_eline, od_eline, .func (PySem.W.fnOf "ends_line" "ends_line" (defArgs s_eline) (defBody s_eline) (defScope s_eline) .none kV_eline dc_eline pm_eline an_eline cd_eline ct_eline), sl_eline⟩)
    (c_eline : PySem.W.codeIn K cd_eline "ends_line" = true)
    (k_eline : PySem.W.keepIn K (.ref f_eline) = true)
    (a_cways : PySem.W.nsIn K mainGlobals "check_ways" = some (some (.ref f_cways)))
    (l_cways : K.lookup f_cways = some ⟨oc_cways, od_cways, .func (PySem.W.fnOf "check_ways" "check_ways" (defArgs s_cways) (defBody s_cways) (defScope s_cways) .none kV_cways dc_cways pm_cways an_cways cd_cways ct_cways), sl_cways⟩)
    (c_cways : PySem.W.codeIn K cd_cways "check_ways" = true)
    (k_cways : PySem.W.keepIn K (.ref f_cways) = true)
    (a_mgo : PySem.W.nsIn K mainGlobals "may_go_on" = some (some (.ref f_mgo)))
    (l_mgo : K.lookup f_mgo = some ⟨oc_mgo, od_mgo, .func (PySem.W.fnOf "may_go_on" "may_go_on" (defArgs s_mgo) (defBody s_mgo) (defScope s_mgo) .none kV_mgo dc_mgo pm_mgo an_mgo cd_mgo ct_mgo), sl_mgo⟩)
    (c_mgo : PySem.W.codeIn K cd_mgo "may_go_on" = true)
    (k_mgo : PySem.W.keepIn K (.ref f_mgo) = true)
    (a_sure : PySem.W.nsIn K mainGlobals "sure_sign" = some (some (.ref f_sure)))
    (l_sure : K.lookup f_sure = some ⟨oc_sure, od_sure, .func (PySem.W.fnOf "sure_sign" "sure_sign" (defArgs s_sure) (defBody s_sure) (defScope s_sure) .none kV_sure dc_sure pm_sure an_sure cd_sure ct_sure), sl_sure⟩)
    (c_sure : PySem.W.codeIn K cd_sure "sure_sign" = true)
    (k_sure : PySem.W.keepIn K (.ref f_sure) = true)
    (a_sinit : PySem.W.findIn K (.ref C_Scan) "__init__" = some (some (.ref f_sinit)))
    (i_sinit : PySem.W.isFn K (.ref f_sinit) = true)
    (l_sinit : K.lookup f_sinit = some ⟨oc_sinit, od_sinit, .func (PySem.W.fnOf "__init__" "Scan.__init__" (defArgs s_sinit) (defBody s_sinit) (defScope s_sinit) .none (.ref K_sinit) dc_sinit pm_sinit an_sinit cd_sinit ct_sinit), sl_sinit⟩)
    (c_sinit : PySem.W.codeIn K cd_sinit "Scan.__init__" = true)
    (k_sinit : PySem.W.keepIn K (.ref f_sinit) = true)
    (w_sinit_0 : PySem.W.nsIn K K_sinit "most" = some (some (.none)))
    (w_sinit_1 : PySem.W.nsIn K K_sinit "by_line" = some (some (.bool false)))
    (a_goon : PySem.W.findIn K (.ref C_Scan) "go_on" = some (some (.ref f_goon)))
    (i_goon : PySem.W.isFn K (.ref f_goon) = true)
    (l_goon : K.lookup f_goon = some ⟨oc_goon, od_goon, .func (PySem.W.fnOf "go_on" "Scan.go_on" (defArgs s_goon) (defBody s_goon) (defScope s_goon) .none kV_goon dc_goon pm_goon an_goon cd_goon ct_goon), sl_goon⟩)
    (c_goon : PySem.W.codeIn K cd_goon "Scan.go_on" = true)
    (k_goon : PySem.W.keepIn K (.ref f_goon) = true)
    (a_fone : PySem.W.findIn K (.ref C_Scan) "find_one" = some (some (.ref f_fone)))
    (i_fone : PySem.W.isFn K (.ref f_fone) = true)
    (l_fone : K.lookup f_fone = some ⟨oc_fone, od_fone, .func (PySem.W.fnOf "find_one" "Scan.find_one" (defArgs s_fone) (defBody s_fone) (defScope s_fone) .none kV_fone dc_fone pm_fone an_fone cd_fone ct_fone), sl_fone⟩)
    (c_fone : PySem.W.codeIn K cd_fone "Scan.find_one" = true)
    (k_fone : PySem.W.keepIn K (.ref f_fone) = true)
    (a_pwrong : PySem.W.findIn K (.ref C_Scan) "pass_wrong" = some (some (.ref f_pwrong)))
    (i_pwrong : PySem.W.isFn K (.ref f_pwrong) = true)
    (l_pwrong : K.lookup f_pwrong = some ⟨oc_pwrong, od_pwrong, .func (PySem.W.fnOf "pass_wrong" "Scan.pass_wrong" (defArgs s_pwrong) (defBody s_pwrong) (defScope s_pwrong) .none kV_pwrong dc_pwrong pm_pwrong an_pwrong cd_pwrong ct_pwrong), sl_pwrong⟩)
    (c_pwrong : PySem.W.codeIn K cd_pwrong "Scan.pass_wrong" = true)
    (k_pwrong : PySem.W.keepIn K (.ref f_pwrong) = true)
    (a_looks : PySem.W.findIn K (.ref C_Scan) "looks_behind_return" = some (some (.ref f_looks)))
    (i_looks : PySem.W.isFn K (.ref f_looks) = true)
    (l_looks : K.lookup f_looks = some ⟨oc_looks, od_looks, .func (PySem.W.fnOf "looks_behind_return" "Scan.looks_behind_return" (defArgs s_looks) (defBody s_looks) (defScope s_looks) .none kV_looks dc_looks pm_looks an_looks cd_looks ct_looks), sl_looks⟩)
    (c_looks : PySem.W.codeIn K cd_looks "Scan.looks_behind_return" = true)
    (k_looks : PySem.W.keepIn K (.ref f_looks) = true)
    (a_note : PySem.W.findIn K (.ref C_Scan) "note_item" = some (some (.ref f_note)))
    (i_note : PySem.W.isFn K (.ref f_note) = true)
    (l_note : K.lookup f_note = some ⟨oc_note, od_note, .func (PySem.W.fnOf "note_item" "Scan.note_item" (defArgs s_note) (defBody s_note) (defScope s_note) .none kV_note dc_note pm_note an_note cd_note ct_note), sl_note⟩)
    (c_note : PySem.W.codeIn K cd_note "Scan.note_item" = true)
    (k_note : PySem.W.keepIn K (.ref f_note) = true)
    (a_sof : PySem.W.nsIn K mainGlobals "signs_of" = some (some (.ref f_sof)))
    (l_sof : K.lookup f_sof = some ⟨oc_sof, od_sof, .func (PySem.W.fnOf "signs_of" "signs_of" (defArgs s_sof) (defBody s_sof) (defScope s_sof) .none kV_sof dc_sof pm_sof an_sof cd_sof ct_sof), sl_sof⟩)
    (c_sof : PySem.W.codeIn K cd_sof "signs_of" = true)
    (k_sof : PySem.W.keepIn K (.ref f_sof) = true)
    (a_decod : PySem.W.nsIn K mainGlobals "decoded" = some (some (.ref f_decod)))
    (l_decod : K.lookup f_decod = some ⟨oc_decod, od_decod, .func (PySem.W.fnOf "decoded" "decoded" (defArgs s_decod) (defBody s_decod) (defScope s_decod) .none (.ref K_decod) dc_decod pm_decod an_decod cd_decod ct_decod), sl_decod⟩)
    (c_decod : PySem.W.codeIn K cd_decod "decoded" = true)
    (k_decod : PySem.W.keepIn K (.ref f_decod) = true)
    (w_decod_0 : PySem.W.nsIn K K_decod "code" = some (some (.str (Str.ofString "steps") kk_decod_0)))
    (w_decod_1 : PySem.W.nsIn K K_decod "ends" = some (some (.str (Str.ofString "any") kk_decod_1)))
    (w_decod_2 : PySem.W.nsIn K K_decod "wrong" = some (some (.str (Str.ofString "strict") kk_decod_2)))
    (a_encod : PySem.W.nsIn K mainGlobals "encoded" = some (some (.ref f_encod)))
    (l_encod : K.lookup f_encod = some ⟨oc_encod, od_encod, .func (PySem.W.fnOf "encoded" "encoded" (defArgs s_encod) (defBody s_encod) (defScope s_encod) .none (.ref K_encod) dc_encod pm_encod an_encod cd_encod ct_encod), sl_encod⟩)
    (c_encod : PySem.W.codeIn K cd_encod "encoded" = true)
    (k_encod : PySem.W.keepIn K (.ref f_encod) = true)
    (w_encod_0 : PySem.W.nsIn K K_encod "code" = some (some (.str (Str.ofString "steps") kk_encod_0)))
    (w_encod_1 : PySem.W.nsIn K K_encod "ends" = some (some (.str (Str.ofString "any") kk_encod_1)))
    (a_pool : PySem.W.nsIn K mainGlobals "_law_pool" = some (some (.ref f_pool)))
    (l_pool : K.lookup f_pool = some ⟨oc_pool, od_pool, .func (PySem.W.fnOf "_law_pool" "_law_pool" (defArgs s_pool) (defBody s_pool) (defScope s_pool) .none kV_pool dc_pool pm_pool an_pool cd_pool ct_pool), sl_pool⟩)
    (c_pool : PySem.W.codeIn K cd_pool "_law_pool" = true)
    (k_pool : PySem.W.keepIn K (.ref f_pool) = true)
    (a_take : PySem.W.nsIn K mainGlobals "_law_take" = some (some (.ref f_take)))
    (l_take : K.lookup f_take = some ⟨oc_take, od_take, .func (PySem.W.fnOf "_law_take" "_law_take" (defArgs s_take) (defBody s_take) (defScope s_take) .none kV_take dc_take pm_take an_take cd_take ct_take), sl_take⟩)
    (c_take : PySem.W.codeIn K cd_take "_law_take" = true)
    (k_take : PySem.W.keepIn K (.ref f_take) = true)
    (a_lcodes : PySem.W.nsIn K mainGlobals "_law_codes" = some (some (.ref f_lcodes)))
    (l_lcodes : K.lookup f_lcodes = some ⟨oc_lcodes, od_lcodes, .func (PySem.W.fnOf "_law_codes" "_law_codes" (defArgs s_lcodes) (defBody s_lcodes) (defScope s_lcodes) .none kV_lcodes dc_lcodes pm_lcodes an_lcodes cd_lcodes ct_lcodes), sl_lcodes⟩)
    (c_lcodes : PySem.W.codeIn K cd_lcodes "_law_codes" = true)
    (k_lcodes : PySem.W.keepIn K (.ref f_lcodes) = true)
    (a_lsign : PySem.W.nsIn K mainGlobals "_law_sign" = some (some (.ref f_lsign)))
    (l_lsign : K.lookup f_lsign = some ⟨oc_lsign, od_lsign, .func (PySem.W.fnOf "_law_sign" "_law_sign" (defArgs s_lsign) (defBody s_lsign) (defScope s_lsign) .none kV_lsign dc_lsign pm_lsign an_lsign cd_lsign ct_lsign), sl_lsign⟩)
    (c_lsign : PySem.W.codeIn K cd_lsign "_law_sign" = true)
    (k_lsign : PySem.W.keepIn K (.ref f_lsign) = true)
    (a_lsteps : PySem.W.nsIn K mainGlobals "_law_steps" = some (some (.ref f_lsteps)))
    (l_lsteps : K.lookup f_lsteps = some ⟨oc_lsteps, od_lsteps, .func (PySem.W.fnOf "_law_steps" "_law_steps" (defArgs s_lsteps) (defBody s_lsteps) (defScope s_lsteps) .none kV_lsteps dc_lsteps pm_lsteps an_lsteps cd_lsteps ct_lsteps), sl_lsteps⟩)
    (c_lsteps : PySem.W.codeIn K cd_lsteps "_law_steps" = true)
    (k_lsteps : PySem.W.keepIn K (.ref f_lsteps) = true)
    (a_lbytes : PySem.W.nsIn K mainGlobals "_law_bytes" = some (some (.ref f_lbytes)))
    (l_lbytes : K.lookup f_lbytes = some ⟨oc_lbytes, od_lbytes, .func (PySem.W.fnOf "_law_bytes" "_law_bytes" (defArgs s_lbytes) (defBody s_lbytes) (defScope s_lbytes) .none kV_lbytes dc_lbytes pm_lbytes an_lbytes cd_lbytes ct_lbytes), sl_lbytes⟩)
    (c_lbytes : PySem.W.codeIn K cd_lbytes "_law_bytes" = true)
    (k_lbytes : PySem.W.keepIn K (.ref f_lbytes) = true)
    (a_lsread : PySem.W.nsIn K mainGlobals "_law_steps_read" = some (some (.ref f_lsread)))
    (l_lsread : K.lookup f_lsread = some ⟨oc_lsread, od_lsread, .func (PySem.W.fnOf "_law_steps_read" "_law_steps_read" (defArgs s_lsread) (defBody s_lsread) (defScope s_lsread) .none kV_lsread dc_lsread pm_lsread an_lsread cd_lsread ct_lsread), sl_lsread⟩)
    (c_lsread : PySem.W.codeIn K cd_lsread "_law_steps_read" = true)
    (k_lsread : PySem.W.keepIn K (.ref f_lsread) = true)
    (a_lwide : PySem.W.nsIn K mainGlobals "_law_wide_read" = some (some (.ref f_lwide)))
    (l_lwide : K.lookup f_lwide = some ⟨oc_lwide, od_lwide, .func (PySem.W.fnOf "_law_wide_read" "_law_wide_read" (defArgs s_lwide) (defBody s_lwide) (defScope s_lwide) .none kV_lwide dc_lwide pm_lwide an_lwide cd_lwide ct_lwide), sl_lwide⟩)
    (c_lwide : PySem.W.codeIn K cd_lwide "_law_wide_read" = true)
    (k_lwide : PySem.W.keepIn K (.ref f_lwide) = true)
    (a_lturn : PySem.W.nsIn K mainGlobals "_law_turn_read" = some (some (.ref f_lturn)))
    (l_lturn : K.lookup f_lturn = some ⟨oc_lturn, od_lturn, .func (PySem.W.fnOf "_law_turn_read" "_law_turn_read" (defArgs s_lturn) (defBody s_lturn) (defScope s_lturn) .none kV_lturn dc_lturn pm_lturn an_lturn cd_lturn ct_lturn), sl_lturn⟩)
    (c_lturn : PySem.W.codeIn K cd_lturn "_law_turn_read" = true)
    (k_lturn : PySem.W.keepIn K (.ref f_lturn) = true)
    (a_lstep : PySem.W.nsIn K mainGlobals "_law_step" = some (some (.ref f_lstep)))
    (l_lstep : K.lookup f_lstep = some ⟨oc_lstep, od_lstep, .func (PySem.W.fnOf "_law_step" "_law_step" (defArgs s_lstep) (defBody s_lstep) (defScope s_lstep) .none kV_lstep dc_lstep pm_lstep an_lstep cd_lstep ct_lstep), sl_lstep⟩)
    (c_lstep : PySem.W.codeIn K cd_lstep "_law_step" = true)
    (k_lstep : PySem.W.keepIn K (.ref f_lstep) = true)
    (a_lany : PySem.W.nsIn K mainGlobals "_law_any" = some (some (.ref f_lany)))
    (l_lany : K.lookup f_lany = some ⟨oc_lany, od_lany, .func (PySem.W.fnOf "_law_any" "_law_any" (defArgs s_lany) (defBody s_lany) (defScope s_lany) .none kV_lany dc_lany pm_lany an_lany cd_lany ct_lany), sl_lany⟩)
    (c_lany : PySem.W.codeIn K cd_lany "_law_any" = true)
    (k_lany : PySem.W.keepIn K (.ref f_lany) = true)
    (a_litems : PySem.W.nsIn K mainGlobals "_law_items" = some (some (.ref f_litems)))
    (l_litems : K.lookup f_litems = some ⟨oc_litems, od_litems, .func (PySem.W.fnOf "_law_items" "_law_items" (defArgs s_litems) (defBody s_litems) (defScope s_litems) .none kV_litems dc_litems pm_litems an_litems cd_litems ct_litems), sl_litems⟩)
    (c_litems : PySem.W.codeIn K cd_litems "_law_items" = true)
    (k_litems : PySem.W.keepIn K (.ref f_litems) = true)
    (a_lways : PySem.W.nsIn K mainGlobals "_law_ways" = some (some (.ref f_lways)))
    (l_lways : K.lookup f_lways = some ⟨oc_lways, od_lways, .func (PySem.W.fnOf "_law_ways" "_law_ways" (defArgs s_lways) (defBody s_lways) (defScope s_lways) .none kV_lways dc_lways pm_lways an_lways cd_lways ct_lways), sl_lways⟩)
    (c_lways : PySem.W.codeIn K cd_lways "_law_ways" = true)
    (k_lways : PySem.W.keepIn K (.ref f_lways) = true)
    (a_lends : PySem.W.nsIn K mainGlobals "_law_ends" = some (some (.ref f_lends)))
    (l_lends : K.lookup f_lends = some ⟨oc_lends, od_lends, .func (PySem.W.fnOf "_law_ends" "_law_ends" (defArgs s_lends) (defBody s_lends) (defScope s_lends) .none kV_lends dc_lends pm_lends an_lends cd_lends ct_lends), sl_lends⟩)
    (c_lends : PySem.W.codeIn K cd_lends "_law_ends" = true)
    (k_lends : PySem.W.keepIn K (.ref f_lends) = true)
    (a_lrow : PySem.W.nsIn K mainGlobals "_law_row" = some (some (.ref f_lrow)))
    (l_lrow : K.lookup f_lrow = some ⟨oc_lrow, od_lrow, .func (PySem.W.fnOf "_law_row" "_law_row" (defArgs s_lrow) (defBody s_lrow) (defScope s_lrow) .none kV_lrow dc_lrow pm_lrow an_lrow cd_lrow ct_lrow), sl_lrow⟩)
    (c_lrow : PySem.W.codeIn K cd_lrow "_law_row" = true)
    (k_lrow : PySem.W.keepIn K (.ref f_lrow) = true)
    (a_lread : PySem.W.nsIn K mainGlobals "_law_read" = some (some (.ref f_lread)))
    (l_lread : K.lookup f_lread = some ⟨oc_lread, od_lread, .func (PySem.W.fnOf "_law_read" "_law_read" (defArgs s_lread) (defBody s_lread) (defScope s_lread) .none kV_lread dc_lread pm_lread an_lread cd_lread ct_lread), sl_lread⟩)
    (c_lread : PySem.W.codeIn K cd_lread "_law_read" = true)
    (k_lread : PySem.W.keepIn K (.ref f_lread) = true)
    (a_lrdue : PySem.W.nsIn K mainGlobals "_law_read_due" = some (some (.ref f_lrdue)))
    (l_lrdue : K.lookup f_lrdue = some ⟨oc_lrdue, od_lrdue, .func (PySem.W.fnOf "_law_read_due" "_law_read_due" (defArgs s_lrdue) (defBody s_lrdue) (defScope s_lrdue) .none kV_lrdue dc_lrdue pm_lrdue an_lrdue cd_lrdue ct_lrdue), sl_lrdue⟩)
    (c_lrdue : PySem.W.codeIn K cd_lrdue "_law_read_due" = true)
    (k_lrdue : PySem.W.keepIn K (.ref f_lrdue) = true)
    (a_lwritten : PySem.W.nsIn K mainGlobals "_law_written" = some (some (.ref f_lwritten)))
    (l_lwritten : K.lookup f_lwritten = some ⟨oc_lwritten, od_lwritten, .func (PySem.W.fnOf "_law_written" "_law_written" (defArgs s_lwritten) (defBody s_lwritten) (defScope s_lwritten) .none kV_lwritten dc_lwritten pm_lwritten an_lwritten cd_lwritten ct_lwritten), sl_lwritten⟩)
    (c_lwritten : PySem.W.codeIn K cd_lwritten "_law_written" = true)
    (k_lwritten : PySem.W.keepIn K (.ref f_lwritten) = true)
    (a_law : PySem.W.nsIn K mainGlobals "law" = some (some (.ref f_law)))
    (l_law : K.lookup f_law = some ⟨oc_law, od_law, .func (PySem.W.fnOf "law" "law" (defArgs s_law) (defBody s_law) (defScope s_law) .none kV_law dc_law pm_law an_law cd_law ct_law), sl_law⟩)
    (c_law : PySem.W.codeIn K cd_law "law" = true)
    (k_law : PySem.W.keepIn K (.ref f_law) = true)
    (pg_Scan : PySem.W.plainGet K C_Scan Str.empty = true)
    (hd_Scan : PySem.W.hasDictIn K C_Scan = true)
    (po_Scan : PySem.W.plainOver K C_Scan = true)
    (sa_Scan : PySem.W.findIn K (.ref C_Scan) "__setattr__" = some (some (.builtin "object.__setattr__")))
    (mk_Scan : PySem.W.makesIn K C_Scan = true)
    (kc_Scan : PySem.W.keepIn K (.ref C_Scan) = true)
    (n_Scan_spot : PySem.W.findIn K (.ref C_Scan) "spot" = some none)
    (n_Scan_state : PySem.W.findIn K (.ref C_Scan) "state" = some none)
    (n_Scan_code : PySem.W.findIn K (.ref C_Scan) "code" = some none)
    (n_Scan_ends : PySem.W.findIn K (.ref C_Scan) "ends" = some none)
    (n_Scan_wrong : PySem.W.findIn K (.ref C_Scan) "wrong" = some none)
    (n_Scan_most : PySem.W.findIn K (.ref C_Scan) "most" = some none)
    (n_Scan_by_line : PySem.W.findIn K (.ref C_Scan) "by_line" = some none)
    (n_Scan_found : PySem.W.findIn K (.ref C_Scan) "found" = some none)
    (n_Scan_bad : PySem.W.findIn K (.ref C_Scan) "bad" = some none)
    (n_Scan_full : PySem.W.findIn K (.ref C_Scan) "full" = some none)
    (v_PLAIN : PySem.W.nsIn K mainGlobals "PLAIN" = some (some (.str (Str.ofString "plain") t_PLAIN)))
    (v_STEPS : PySem.W.nsIn K mainGlobals "STEPS" = some (some (.str (Str.ofString "steps") t_STEPS)))
    (v_WIDE : PySem.W.nsIn K mainGlobals "WIDE" = some (some (.str (Str.ofString "wide") t_WIDE)))
    (v_TURN : PySem.W.nsIn K mainGlobals "TURN" = some (some (.str (Str.ofString "turn") t_TURN)))
    (v_LOW_FIRST : PySem.W.nsIn K mainGlobals "LOW_FIRST" = some (some (.int 1 t_LOW_FIRST)))
    (v_HIGH_FIRST : PySem.W.nsIn K mainGlobals "HIGH_FIRST" = some (some (.int 2 t_HIGH_FIRST)))
    (v_TURNING : PySem.W.nsIn K mainGlobals "TURNING" = some (some (.int 128 t_TURNING)))
    (v_ANY : PySem.W.nsIn K mainGlobals "ANY" = some (some (.str (Str.ofString "any") t_ANY)))
    (v_KEPT : PySem.W.nsIn K mainGlobals "KEPT" = some (some (.str (Str.ofString "kept") t_KEPT)))
    (v_FEED : PySem.W.nsIn K mainGlobals "FEED" = some (some (.str (Str.ofString "feed") t_FEED)))
    (v_RETURN : PySem.W.nsIn K mainGlobals "RETURN" = some (some (.str (Str.ofString "return") t_RETURN)))
    (v_BOTH : PySem.W.nsIn K mainGlobals "BOTH" = some (some (.str (Str.ofString "both") t_BOTH)))
    (v_STRICT : PySem.W.nsIn K mainGlobals "STRICT" = some (some (.str (Str.ofString "strict") t_STRICT)))
    (v_MARK : PySem.W.nsIn K mainGlobals "MARK" = some (some (.str (Str.ofString "mark") t_MARK)))
    (v_LINE_FEED : PySem.W.nsIn K mainGlobals "LINE_FEED" = some (some (.int 10 t_LINE_FEED)))
    (v_LINE_RETURN : PySem.W.nsIn K mainGlobals "LINE_RETURN" = some (some (.int 13 t_LINE_RETURN)))
    (v_WRONG_SIGN : PySem.W.nsIn K mainGlobals "WRONG_SIGN" = some (some (.int 65533 t_WRONG_SIGN)))
    (v_HIGH_MARK : PySem.W.nsIn K mainGlobals "HIGH_MARK" = some (some (.ref A_HIGH_MARK)))
    (lt_HIGH_MARK : K.lookup A_HIGH_MARK = some ⟨.type "tuple", ud_HIGH_MARK, .seq #[.int 254 tt_HIGH_MARK_0, .int 255 tt_HIGH_MARK_1] un_HIGH_MARK, us_HIGH_MARK⟩)
    (v_LOW_MARK : PySem.W.nsIn K mainGlobals "LOW_MARK" = some (some (.ref A_LOW_MARK)))
    (lt_LOW_MARK : K.lookup A_LOW_MARK = some ⟨.type "tuple", ud_LOW_MARK, .seq #[.int 255 tt_LOW_MARK_0, .int 254 tt_LOW_MARK_1] un_LOW_MARK, us_LOW_MARK⟩)
    (z_list : PySem.W.nsIn K mainGlobals "list" = some none)
    (z_len : PySem.W.nsIn K mainGlobals "len" = some none)
    (z_range : PySem.W.nsIn K mainGlobals "range" = some none)
    (z_int : PySem.W.nsIn K mainGlobals "int" = some none)
    (z_tuple : PySem.W.nsIn K mainGlobals "tuple" = some none)
    (z_bool : PySem.W.nsIn K mainGlobals "bool" = some none)
    (z_isinstance : PySem.W.nsIn K mainGlobals "isinstance" = some none)
    (z_min : PySem.W.nsIn K mainGlobals "min" = some none) :
    ∃ fd : FuncData, (∀ (s : Shared) (v : Value), BindsTo s fd ⟨[v], []⟩ [("_law_script", v)]) ∧ ∀ base : Heap, K.In base → base.Ns mainGlobals mg → FnOk l.prog w K mg base CX0 12 fa fd ["_law_script"] (spLaw K) := by
  have e := hfa.symm.trans (PySem.W.mg_of X G a_law)
  cases e
  have F_iBadCode := funA_mk (st := s_iBadCode) l_iBadCode c_iBadCode k_iBadCode
  have F_iNoSign := funA_mk (st := s_iNoSign) l_iNoSign c_iNoSign k_iNoSign
  have F_iNoCode := funA_mk (st := s_iNoCode) l_iNoCode c_iNoCode k_iNoCode
  have F_iNoEnds := funA_mk (st := s_iNoEnds) l_iNoEnds c_iNoEnds k_iNoEnds
  have F_iNoWay := funA_mk (st := s_iNoWay) l_iNoWay c_iNoWay k_iNoWay
  have F_chk := funA_mk (st := s_chk) l_chk c_chk k_chk
  have F_gone := funA_mk (st := s_gone) l_gone c_gone k_gone
  have F_bturn := funA_mk (st := s_bturn) l_bturn c_bturn k_bturn
  have F_bmark := funA_mk (st := s_bmark) l_bmark c_bmark k_bmark
  have F_sat := funA_mk (st := s_sat) l_sat c_sat k_sat
  have F_wat := funA_mk (st := s_wat) l_wat c_wat k_wat
  have F_stat := funA_mk (st := s_stat) l_stat c_stat k_stat
  have F_lead := funA_mk (st := s_lead) l_lead c_lead k_lead
  have F_stw := funA_mk (st := s_stw) l_stw c_stw k_stw
  have F_rsign := funA_mk (st := s_rsign) l_rsign c_rsign k_rsign
  have F_whole := funA_mk (st := s_whole) l_whole c_whole k_whole
  have F_lasts := funA_mk (st := s_lasts) l_lasts c_lasts k_lasts
  have F_swr := funA_mk (st := s_swr) l_swr c_swr k_swr
  have F_ww := funA_mk (st := s_ww) l_ww c_ww k_ww
  have F_tw := funA_mk (st := s_tw) l_tw c_tw k_tw
  have F_wsigns := funA_mk (st := s_wsigns) l_wsigns c_wsigns k_wsigns
  have F_fstate := funA_mk (st := s_fstate) l_fstate c_fstate k_fstate
  have F_wends := funA_mk (st := s_wends) l_wends c_wends k_wends
  have F_wfeed := funA_mk (st := s_wfeed) l_wfeed c_wfeed k_wfeed
  have F_cends := funA_mk (st := s_cends) l_cends c_cends k_cends
  have F_eline := funA_mk (st := s_eline) l_eline c_eline k_eline
  have F_cways := funA_mk (st := s_cways) l_cways c_cways k_cways
  have F_mgo := funA_mk (st := s_mgo) l_mgo c_mgo k_mgo
  have F_sure := funA_mk (st := s_sure) l_sure c_sure k_sure
  have F_sinit := funA_mk (st := s_sinit) l_sinit c_sinit k_sinit
  have F_goon := funA_mk (st := s_goon) l_goon c_goon k_goon
  have F_fone := funA_mk (st := s_fone) l_fone c_fone k_fone
  have F_pwrong := funA_mk (st := s_pwrong) l_pwrong c_pwrong k_pwrong
  have F_looks := funA_mk (st := s_looks) l_looks c_looks k_looks
  have F_note := funA_mk (st := s_note) l_note c_note k_note
  have F_sof := funA_mk (st := s_sof) l_sof c_sof k_sof
  have F_decod := funA_mk (st := s_decod) l_decod c_decod k_decod
  have F_encod := funA_mk (st := s_encod) l_encod c_encod k_encod
  have F_pool := funA_mk (st := s_pool) l_pool c_pool k_pool
  have F_take := funA_mk (st := s_take) l_take c_take k_take
  have F_lcodes := funA_mk (st := s_lcodes) l_lcodes c_lcodes k_lcodes
  have F_lsign := funA_mk (st := s_lsign) l_lsign c_lsign k_lsign
  have F_lsteps := funA_mk (st := s_lsteps) l_lsteps c_lsteps k_lsteps
  have F_lbytes := funA_mk (st := s_lbytes) l_lbytes c_lbytes k_lbytes
  have F_lsread := funA_mk (st := s_lsread) l_lsread c_lsread k_lsread
  have F_lwide := funA_mk (st := s_lwide) l_lwide c_lwide k_lwide
  have F_lturn := funA_mk (st := s_lturn) l_lturn c_lturn k_lturn
  have F_lstep := funA_mk (st := s_lstep) l_lstep c_lstep k_lstep
  have F_lany := funA_mk (st := s_lany) l_lany c_lany k_lany
  have F_litems := funA_mk (st := s_litems) l_litems c_litems k_litems
  have F_lways := funA_mk (st := s_lways) l_lways c_lways k_lways
  have F_lends := funA_mk (st := s_lends) l_lends c_lends k_lends
  have F_lrow := funA_mk (st := s_lrow) l_lrow c_lrow k_lrow
  have F_lread := funA_mk (st := s_lread) l_lread c_lread k_lread
  have F_lrdue := funA_mk (st := s_lrdue) l_lrdue c_lrdue k_lrdue
  have F_lwritten := funA_mk (st := s_lwritten) l_lwritten c_lwritten k_lwritten
  have F_law := funA_mk (st := s_law) l_law c_law k_law
  have q_HIGH_MARK : ∀ H : Hp, SqT K H A_HIGH_MARK [.int 254, .int 255] := fun _ => .inr ⟨_, _, _, lt_HIGH_MARK, rfl, rfl, (show (2 : Nat) ≤ sizeLine by rw [sizeLine_eq]; decide), (.cons ⟨tt_HIGH_MARK_0, rfl⟩ (.cons ⟨tt_HIGH_MARK_1, rfl⟩ .nil))⟩
  have q_LOW_MARK : ∀ H : Hp, SqT K H A_LOW_MARK [.int 255, .int 254] := fun _ => .inr ⟨_, _, _, lt_LOW_MARK, rfl, rfl, (show (2 : Nat) ≤ sizeLine by rw [sizeLine_eq]; decide), (.cons ⟨tt_LOW_MARK_0, rfl⟩ (.cons ⟨tt_LOW_MARK_1, rfl⟩ .nil))⟩
  have KW_rsign : KwdV K (.ref K_rsign) ([("code", .str (Str.ofString "steps"))] : List (Str × V)) := by
    refine .inr ⟨K_rsign, rfl, fun q hq => ?_⟩
    simp only [List.mem_cons, List.mem_nil_iff, or_false] at hq
    rcases hq with rfl
    · exact ⟨_, w_rsign_0, ⟨kk_rsign_0, rfl⟩⟩
  have FD_rsign : FunD K "read_sign" "read_sign" (defArgs s_rsign) (defBody s_rsign) (defScope s_rsign) ([] : List V) ([("code", .str (Str.ofString "steps"))] : List (Str × V)) f_rsign (PySem.W.fnOf "read_sign" "read_sign" (defArgs s_rsign) (defBody s_rsign) (defScope s_rsign) .none (.ref K_rsign) dc_rsign pm_rsign an_rsign cd_rsign ct_rsign) := ⟨⟨_, _, _, _, _, _, _, _, _, _, rfl, l_rsign, c_rsign, .inl ⟨rfl, rfl⟩, KW_rsign⟩, k_rsign⟩
  have KW_wsigns : KwdV K (.ref K_wsigns) ([("code", .str (Str.ofString "steps"))] : List (Str × V)) := by
    refine .inr ⟨K_wsigns, rfl, fun q hq => ?_⟩
    simp only [List.mem_cons, List.mem_nil_iff, or_false] at hq
    rcases hq with rfl
    · exact ⟨_, w_wsigns_0, ⟨kk_wsigns_0, rfl⟩⟩
  have FD_wsigns : FunD K "write_signs" "write_signs" (defArgs s_wsigns) (defBody s_wsigns) (defScope s_wsigns) ([] : List V) ([("code", .str (Str.ofString "steps"))] : List (Str × V)) f_wsigns (PySem.W.fnOf "write_signs" "write_signs" (defArgs s_wsigns) (defBody s_wsigns) (defScope s_wsigns) .none (.ref K_wsigns) dc_wsigns pm_wsigns an_wsigns cd_wsigns ct_wsigns) := ⟨⟨_, _, _, _, _, _, _, _, _, _, rfl, l_wsigns, c_wsigns, .inl ⟨rfl, rfl⟩, KW_wsigns⟩, k_wsigns⟩
  have KW_wends : KwdV K (.ref K_wends) ([("ends", .str (Str.ofString "any"))] : List (Str × V)) := by
    refine .inr ⟨K_wends, rfl, fun q hq => ?_⟩
    simp only [List.mem_cons, List.mem_nil_iff, or_false] at hq
    rcases hq with rfl
    · exact ⟨_, w_wends_0, ⟨kk_wends_0, rfl⟩⟩
  have FD_wends : FunD K "written_ends" "written_ends" (defArgs s_wends) (defBody s_wends) (defScope s_wends) ([] : List V) ([("ends", .str (Str.ofString "any"))] : List (Str × V)) f_wends (PySem.W.fnOf "written_ends" "written_ends" (defArgs s_wends) (defBody s_wends) (defScope s_wends) .none (.ref K_wends) dc_wends pm_wends an_wends cd_wends ct_wends) := ⟨⟨_, _, _, _, _, _, _, _, _, _, rfl, l_wends, c_wends, .inl ⟨rfl, rfl⟩, KW_wends⟩, k_wends⟩
  have KW_sinit : KwdV K (.ref K_sinit) ([("most", .non), ("by_line", .bl false)] : List (Str × V)) := by
    refine .inr ⟨K_sinit, rfl, fun q hq => ?_⟩
    simp only [List.mem_cons, List.mem_nil_iff, or_false] at hq
    rcases hq with rfl | rfl
    · exact ⟨_, w_sinit_0, rfl⟩
    · exact ⟨_, w_sinit_1, rfl⟩
  have FD_sinit : FunD K "__init__" "Scan.__init__" (defArgs s_sinit) (defBody s_sinit) (defScope s_sinit) ([] : List V) ([("most", .non), ("by_line", .bl false)] : List (Str × V)) f_sinit (PySem.W.fnOf "__init__" "Scan.__init__" (defArgs s_sinit) (defBody s_sinit) (defScope s_sinit) .none (.ref K_sinit) dc_sinit pm_sinit an_sinit cd_sinit ct_sinit) := ⟨⟨_, _, _, _, _, _, _, _, _, _, rfl, l_sinit, c_sinit, .inl ⟨rfl, rfl⟩, KW_sinit⟩, k_sinit⟩
  have KW_decod : KwdV K (.ref K_decod) ([("code", .str (Str.ofString "steps")), ("ends", .str (Str.ofString "any")), ("wrong", .str (Str.ofString "strict"))] : List (Str × V)) := by
    refine .inr ⟨K_decod, rfl, fun q hq => ?_⟩
    simp only [List.mem_cons, List.mem_nil_iff, or_false] at hq
    rcases hq with rfl | rfl | rfl
    · exact ⟨_, w_decod_0, ⟨kk_decod_0, rfl⟩⟩
    · exact ⟨_, w_decod_1, ⟨kk_decod_1, rfl⟩⟩
    · exact ⟨_, w_decod_2, ⟨kk_decod_2, rfl⟩⟩
  have FD_decod : FunD K "decoded" "decoded" (defArgs s_decod) (defBody s_decod) (defScope s_decod) ([] : List V) ([("code", .str (Str.ofString "steps")), ("ends", .str (Str.ofString "any")), ("wrong", .str (Str.ofString "strict"))] : List (Str × V)) f_decod (PySem.W.fnOf "decoded" "decoded" (defArgs s_decod) (defBody s_decod) (defScope s_decod) .none (.ref K_decod) dc_decod pm_decod an_decod cd_decod ct_decod) := ⟨⟨_, _, _, _, _, _, _, _, _, _, rfl, l_decod, c_decod, .inl ⟨rfl, rfl⟩, KW_decod⟩, k_decod⟩
  have KW_encod : KwdV K (.ref K_encod) ([("code", .str (Str.ofString "steps")), ("ends", .str (Str.ofString "any"))] : List (Str × V)) := by
    refine .inr ⟨K_encod, rfl, fun q hq => ?_⟩
    simp only [List.mem_cons, List.mem_nil_iff, or_false] at hq
    rcases hq with rfl | rfl
    · exact ⟨_, w_encod_0, ⟨kk_encod_0, rfl⟩⟩
    · exact ⟨_, w_encod_1, ⟨kk_encod_1, rfl⟩⟩
  have FD_encod : FunD K "encoded" "encoded" (defArgs s_encod) (defBody s_encod) (defScope s_encod) ([] : List V) ([("code", .str (Str.ofString "steps")), ("ends", .str (Str.ofString "any"))] : List (Str × V)) f_encod (PySem.W.fnOf "encoded" "encoded" (defArgs s_encod) (defBody s_encod) (defScope s_encod) .none (.ref K_encod) dc_encod pm_encod an_encod cd_encod ct_encod) := ⟨⟨_, _, _, _, _, _, _, _, _, _, rfl, l_encod, c_encod, .inl ⟨rfl, rfl⟩, KW_encod⟩, k_encod⟩
  obtain ⟨ds_decod_1, v_decod_1, b_decod_1⟩ := FD_decod.binds0 (ps := P_decod) 1 (by decide) rfl fun _ _ _ _ _ _ us ks h1 h2 => match us, ks, h1, h2 with | [_], [_, _, _], _, _ => ⟨_, _, _, _, _, _, rfl, rfl, ⟨_, _, _, _, _, _, rfl, rfl, ⟨_, _, _, _, _, _, rfl, rfl, rfl⟩⟩⟩
  obtain ⟨ds_encod_1, v_encod_1, b_encod_1⟩ := FD_encod.binds0 (ps := P_encod) 1 (by decide) rfl fun _ _ _ _ _ _ us ks h1 h2 => match us, ks, h1, h2 with | [_], [_, _], _, _ => ⟨_, _, _, _, _, _, rfl, rfl, ⟨_, _, _, _, _, _, rfl, rfl, rfl⟩⟩
  have bb_bmark : Binds K (PySem.W.fnOf "behind_mark" "behind_mark" (defArgs s_bmark) (defBody s_bmark) (defScope s_bmark) .none kV_bmark dc_bmark pm_bmark an_bmark cd_bmark ct_bmark) P_bmark [] := .all fun us hl => match us, hl with | [_, _], _ => rfl
  have bb_bturn : Binds K (PySem.W.fnOf "behind_turning" "behind_turning" (defArgs s_bturn) (defBody s_bturn) (defScope s_bturn) .none kV_bturn dc_bturn pm_bturn an_bturn cd_bturn ct_bturn) P_bturn [] := .all fun us hl => match us, hl with | [_, _, _], _ => rfl
  have bb_cends : Binds K (PySem.W.fnOf "check_ends" "check_ends" (defArgs s_cends) (defBody s_cends) (defScope s_cends) .none kV_cends dc_cends pm_cends an_cends cd_cends ct_cends) P_cends [] := .all fun us hl => match us, hl with | [_], _ => rfl
  have bb_chk : Binds K (PySem.W.fnOf "check_code" "check_code" (defArgs s_chk) (defBody s_chk) (defScope s_chk) .none kV_chk dc_chk pm_chk an_chk cd_chk ct_chk) P_chk [] := .all fun us hl => match us, hl with | [_], _ => rfl
  have bb_cways : Binds K (PySem.W.fnOf "check_ways" "check_ways" (defArgs s_cways) (defBody s_cways) (defScope s_cways) .none kV_cways dc_cways pm_cways an_cways cd_cways ct_cways) P_cways [] := .all fun us hl => match us, hl with | [_, _, _], _ => rfl
  have bb_eline : Binds K (PySem.W.fnOf "ends_line" "ends_line" (defArgs s_eline) (defBody s_eline) (defScope s_eline) .none kV_eline dc_eline pm_eline an_eline cd_eline ct_eline) P_eline [] := .all fun us hl => match us, hl with | [_, _, _, _], _ => rfl
  have bb_fone : Binds K (PySem.W.fnOf "find_one" "Scan.find_one" (defArgs s_fone) (defBody s_fone) (defScope s_fone) .none kV_fone dc_fone pm_fone an_fone cd_fone ct_fone) P_fone [] := .all fun us hl => match us, hl with | [_, _, _], _ => rfl
  have bb_fstate : Binds K (PySem.W.fnOf "first_state" "first_state" (defArgs s_fstate) (defBody s_fstate) (defScope s_fstate) .none kV_fstate dc_fstate pm_fstate an_fstate cd_fstate ct_fstate) P_fstate [] := .all fun us hl => match us, hl with | [_], _ => rfl
  have bb_gone : Binds K (PySem.W.fnOf "gone_through" "gone_through" (defArgs s_gone) (defBody s_gone) (defScope s_gone) .none kV_gone dc_gone pm_gone an_gone cd_gone ct_gone) P_gone [] := .all fun us hl => match us, hl with | [_, _, _, _], _ => rfl
  have bb_goon : Binds K (PySem.W.fnOf "go_on" "Scan.go_on" (defArgs s_goon) (defBody s_goon) (defScope s_goon) .none kV_goon dc_goon pm_goon an_goon cd_goon ct_goon) P_goon [] := .all fun us hl => match us, hl with | [_, _, _], _ => rfl
  have bb_iBadCode : Binds K (PySem.W.fnOf "__init__" "BadCode.__init__" (defArgs s_iBadCode) (defBody s_iBadCode) (defScope s_iBadCode) .none kV_iBadCode dc_iBadCode pm_iBadCode an_iBadCode cd_iBadCode ct_iBadCode) P_iBadCode [] := .all fun us hl => match us, hl with | [_, _], _ => rfl
  have bb_iNoCode : Binds K (PySem.W.fnOf "__init__" "NoCode.__init__" (defArgs s_iNoCode) (defBody s_iNoCode) (defScope s_iNoCode) .none kV_iNoCode dc_iNoCode pm_iNoCode an_iNoCode cd_iNoCode ct_iNoCode) P_iNoCode [] := .all fun us hl => match us, hl with | [_, _], _ => rfl
  have bb_iNoEnds : Binds K (PySem.W.fnOf "__init__" "NoEnds.__init__" (defArgs s_iNoEnds) (defBody s_iNoEnds) (defScope s_iNoEnds) .none kV_iNoEnds dc_iNoEnds pm_iNoEnds an_iNoEnds cd_iNoEnds ct_iNoEnds) P_iNoEnds [] := .all fun us hl => match us, hl with | [_, _], _ => rfl
  have bb_iNoSign : Binds K (PySem.W.fnOf "__init__" "NoSign.__init__" (defArgs s_iNoSign) (defBody s_iNoSign) (defScope s_iNoSign) .none kV_iNoSign dc_iNoSign pm_iNoSign an_iNoSign cd_iNoSign ct_iNoSign) P_iNoSign [] := .all fun us hl => match us, hl with | [_, _], _ => rfl
  have bb_lany : Binds K (PySem.W.fnOf "_law_any" "_law_any" (defArgs s_lany) (defBody s_lany) (defScope s_lany) .none kV_lany dc_lany pm_lany an_lany cd_lany ct_lany) P_lany [] := .all fun us hl => match us, hl with | [_], _ => rfl
  have bb_lasts : Binds K (PySem.W.fnOf "last_sign" "last_sign" (defArgs s_lasts) (defBody s_lasts) (defScope s_lasts) .none kV_lasts dc_lasts pm_lasts an_lasts cd_lasts ct_lasts) P_lasts [] := .all fun us hl => match us, hl with | [_], _ => rfl
  have bb_lbytes : Binds K (PySem.W.fnOf "_law_bytes" "_law_bytes" (defArgs s_lbytes) (defBody s_lbytes) (defScope s_lbytes) .none kV_lbytes dc_lbytes pm_lbytes an_lbytes cd_lbytes ct_lbytes) P_lbytes [] := .all fun us hl => match us, hl with | [_, _, _], _ => rfl
  have bb_lcodes : Binds K (PySem.W.fnOf "_law_codes" "_law_codes" (defArgs s_lcodes) (defBody s_lcodes) (defScope s_lcodes) .none kV_lcodes dc_lcodes pm_lcodes an_lcodes cd_lcodes ct_lcodes) P_lcodes [] := .all fun us hl => match us, hl with | [], _ => rfl
  have bb_lead : Binds K (PySem.W.fnOf "steps_lead" "steps_lead" (defArgs s_lead) (defBody s_lead) (defScope s_lead) .none kV_lead dc_lead pm_lead an_lead cd_lead ct_lead) P_lead [] := .all fun us hl => match us, hl with | [_], _ => rfl
  have bb_lends : Binds K (PySem.W.fnOf "_law_ends" "_law_ends" (defArgs s_lends) (defBody s_lends) (defScope s_lends) .none kV_lends dc_lends pm_lends an_lends cd_lends ct_lends) P_lends [] := .all fun us hl => match us, hl with | [_, _], _ => rfl
  have bb_litems : Binds K (PySem.W.fnOf "_law_items" "_law_items" (defArgs s_litems) (defBody s_litems) (defScope s_litems) .none kV_litems dc_litems pm_litems an_litems cd_litems ct_litems) P_litems [] := .all fun us hl => match us, hl with | [_, _, _, _, _, _], _ => rfl
  have bb_looks : Binds K (PySem.W.fnOf "looks_behind_return" "Scan.looks_behind_return" (defArgs s_looks) (defBody s_looks) (defScope s_looks) .none kV_looks dc_looks pm_looks an_looks cd_looks ct_looks) P_looks [] := .all fun us hl => match us, hl with | [_], _ => rfl
  have bb_lrdue : Binds K (PySem.W.fnOf "_law_read_due" "_law_read_due" (defArgs s_lrdue) (defBody s_lrdue) (defScope s_lrdue) .none kV_lrdue dc_lrdue pm_lrdue an_lrdue cd_lrdue ct_lrdue) P_lrdue [] := .all fun us hl => match us, hl with | [_, _, _, _], _ => rfl
  have bb_lread : Binds K (PySem.W.fnOf "_law_read" "_law_read" (defArgs s_lread) (defBody s_lread) (defScope s_lread) .none kV_lread dc_lread pm_lread an_lread cd_lread ct_lread) P_lread [] := .all fun us hl => match us, hl with | [_, _, _, _], _ => rfl
  have bb_lrow : Binds K (PySem.W.fnOf "_law_row" "_law_row" (defArgs s_lrow) (defBody s_lrow) (defScope s_lrow) .none kV_lrow dc_lrow pm_lrow an_lrow cd_lrow ct_lrow) P_lrow [] := .all fun us hl => match us, hl with | [_, _, _], _ => rfl
  have bb_lsign : Binds K (PySem.W.fnOf "_law_sign" "_law_sign" (defArgs s_lsign) (defBody s_lsign) (defScope s_lsign) .none kV_lsign dc_lsign pm_lsign an_lsign cd_lsign ct_lsign) P_lsign [] := .all fun us hl => match us, hl with | [_, _], _ => rfl
  have bb_lsread : Binds K (PySem.W.fnOf "_law_steps_read" "_law_steps_read" (defArgs s_lsread) (defBody s_lsread) (defScope s_lsread) .none kV_lsread dc_lsread pm_lsread an_lsread cd_lsread ct_lsread) P_lsread [] := .all fun us hl => match us, hl with | [_, _], _ => rfl
  have bb_lstep : Binds K (PySem.W.fnOf "_law_step" "_law_step" (defArgs s_lstep) (defBody s_lstep) (defScope s_lstep) .none kV_lstep dc_lstep pm_lstep an_lstep cd_lstep ct_lstep) P_lstep [] := .all fun us hl => match us, hl with | [_, _, _, _], _ => rfl
  have bb_lsteps : Binds K (PySem.W.fnOf "_law_steps" "_law_steps" (defArgs s_lsteps) (defBody s_lsteps) (defScope s_lsteps) .none kV_lsteps dc_lsteps pm_lsteps an_lsteps cd_lsteps ct_lsteps) P_lsteps [] := .all fun us hl => match us, hl with | [_], _ => rfl
  have bb_lturn : Binds K (PySem.W.fnOf "_law_turn_read" "_law_turn_read" (defArgs s_lturn) (defBody s_lturn) (defScope s_lturn) .none kV_lturn dc_lturn pm_lturn an_lturn cd_lturn ct_lturn) P_lturn [] := .all fun us hl => match us, hl with | [_, _, _], _ => rfl
  have bb_lways : Binds K (PySem.W.fnOf "_law_ways" "_law_ways" (defArgs s_lways) (defBody s_lways) (defScope s_lways) .none kV_lways dc_lways pm_lways an_lways cd_lways ct_lways) P_lways [] := .all fun us hl => match us, hl with | [], _ => rfl
  have bb_lwide : Binds K (PySem.W.fnOf "_law_wide_read" "_law_wide_read" (defArgs s_lwide) (defBody s_lwide) (defScope s_lwide) .none kV_lwide dc_lwide pm_lwide an_lwide cd_lwide ct_lwide) P_lwide [] := .all fun us hl => match us, hl with | [_, _, _], _ => rfl
  have bb_lwritten : Binds K (PySem.W.fnOf "_law_written" "_law_written" (defArgs s_lwritten) (defBody s_lwritten) (defScope s_lwritten) .none kV_lwritten dc_lwritten pm_lwritten an_lwritten cd_lwritten ct_lwritten) P_lwritten [] := .all fun us hl => match us, hl with | [_, _, _], _ => rfl
  have bb_mgo : Binds K (PySem.W.fnOf "may_go_on" "may_go_on" (defArgs s_mgo) (defBody s_mgo) (defScope s_mgo) .none kV_mgo dc_mgo pm_mgo an_mgo cd_mgo ct_mgo) P_mgo [] := .all fun us hl => match us, hl with | [_, _, _], _ => rfl
  have bb_note : Binds K (PySem.W.fnOf "note_item" "Scan.note_item" (defArgs s_note) (defBody s_note) (defScope s_note) .none kV_note dc_note pm_note an_note cd_note ct_note) P_note [] := .all fun us hl => match us, hl with | [_, _, _, _, _], _ => rfl
  have bb_pool : Binds K (PySem.W.fnOf "_law_pool" "_law_pool" (defArgs s_pool) (defBody s_pool) (defScope s_pool) .none kV_pool dc_pool pm_pool an_pool cd_pool ct_pool) P_pool [] := .all fun us hl => match us, hl with | [_, _], _ => rfl
  have bb_pwrong : Binds K (PySem.W.fnOf "pass_wrong" "Scan.pass_wrong" (defArgs s_pwrong) (defBody s_pwrong) (defScope s_pwrong) .none kV_pwrong dc_pwrong pm_pwrong an_pwrong cd_pwrong ct_pwrong) P_pwrong [] := .all fun us hl => match us, hl with | [_, _, _], _ => rfl
  have bb_sat : Binds K (PySem.W.fnOf "sign_at" "sign_at" (defArgs s_sat) (defBody s_sat) (defScope s_sat) .none kV_sat dc_sat pm_sat an_sat cd_sat ct_sat) P_sat [] := .all fun us hl => match us, hl with | [_, _, _, _], _ => rfl
  have bb_sof : Binds K (PySem.W.fnOf "signs_of" "signs_of" (defArgs s_sof) (defBody s_sof) (defScope s_sof) .none kV_sof dc_sof pm_sof an_sof cd_sof ct_sof) P_sof [] := .all fun us hl => match us, hl with | [_], _ => rfl
  have bb_stat : Binds K (PySem.W.fnOf "steps_sign_at" "steps_sign_at" (defArgs s_stat) (defBody s_stat) (defScope s_stat) .none kV_stat dc_stat pm_stat an_stat cd_stat ct_stat) P_stat [] := .all fun us hl => match us, hl with | [_, _], _ => rfl
  have bb_stw : Binds K (PySem.W.fnOf "steps_writing" "steps_writing" (defArgs s_stw) (defBody s_stw) (defScope s_stw) .none kV_stw dc_stw pm_stw an_stw cd_stw ct_stw) P_stw [] := .all fun us hl => match us, hl with | [_], _ => rfl
  have bb_sure : Binds K (PySem.W.fnOf "sure_sign" "sure_sign" (defArgs s_sure) (defBody s_sure) (defScope s_sure) .none kV_sure dc_sure pm_sure an_sure cd_sure ct_sure) P_sure [] := .all fun us hl => match us, hl with | [_, _, _, _, _], _ => rfl
  have bb_swr : Binds K (PySem.W.fnOf "sign_writing" "sign_writing" (defArgs s_swr) (defBody s_swr) (defScope s_swr) .none kV_swr dc_swr pm_swr an_swr cd_swr ct_swr) P_swr [] := .all fun us hl => match us, hl with | [_, _, _], _ => rfl
  have bb_take : Binds K (PySem.W.fnOf "_law_take" "_law_take" (defArgs s_take) (defBody s_take) (defScope s_take) .none kV_take dc_take pm_take an_take cd_take ct_take) P_take [] := .all fun us hl => match us, hl with | [_, _], _ => rfl
  have bb_tw : Binds K (PySem.W.fnOf "turn_writing" "turn_writing" (defArgs s_tw) (defBody s_tw) (defScope s_tw) .none kV_tw dc_tw pm_tw an_tw cd_tw ct_tw) P_tw [] := .all fun us hl => match us, hl with | [_, _], _ => rfl
  have bb_wat : Binds K (PySem.W.fnOf "wide_sign_at" "wide_sign_at" (defArgs s_wat) (defBody s_wat) (defScope s_wat) .none kV_wat dc_wat pm_wat an_wat cd_wat ct_wat) P_wat [] := .all fun us hl => match us, hl with | [_, _, _], _ => rfl
  have bb_wfeed : Binds K (PySem.W.fnOf "written_feed" "written_feed" (defArgs s_wfeed) (defBody s_wfeed) (defScope s_wfeed) .none kV_wfeed dc_wfeed pm_wfeed an_wfeed cd_wfeed ct_wfeed) P_wfeed [] := .all fun us hl => match us, hl with | [_], _ => rfl
  have bb_whole : Binds K (PySem.W.fnOf "is_whole" "is_whole" (defArgs s_whole) (defBody s_whole) (defScope s_whole) .none kV_whole dc_whole pm_whole an_whole cd_whole ct_whole) P_whole [] := .all fun us hl => match us, hl with | [_], _ => rfl
  have bb_ww : Binds K (PySem.W.fnOf "wide_writing" "wide_writing" (defArgs s_ww) (defBody s_ww) (defScope s_ww) .none kV_ww dc_ww pm_ww an_ww cd_ww ct_ww) P_ww [] := .all fun us hl => match us, hl with | [_, _], _ => rfl
  obtain ⟨kv_decod_1_code_ends, kb_decod_1_code_ends⟩ := FD_decod.kbinds0 (ps := P_decod) 1 ["code", "ends"] ([("wrong", .str (Str.ofString "strict"))] : List (Str × V)) (fun vs mz zs => vs ++ zs ++ mz) (by decide) (by simp) (fun r1 r2 r3 => Vals.append (Vals.append r1 r3) r2) (fun _ _ _ _ _ _ us mv ws l1 l2 l3 => match us, mv, ws, l1, l2, l3 with | [_], [_], [_, _], _, _, _ => ⟨_, _, _, _, _, _, rfl, rfl, rfl⟩)
  have kb_decod_1_code_ends_wrong : KBn K (PySem.W.fnOf "decoded" "decoded" (defArgs s_decod) (defBody s_decod) (defScope s_decod) .none (.ref K_decod) dc_decod pm_decod an_decod cd_decod ct_decod) P_decod 1 ["code", "ends", "wrong"] (fun us ws => us ++ ws) (fun vs zs => vs ++ zs) := ⟨fun s us ws X l1 l2 => .of_eq (match us, ws, l1, l2 with | [_], [_, _, _], _, _ => rfl), fun r1 r2 => Vals.append r1 r2⟩
  obtain ⟨kv_decod_1_code_wrong, kb_decod_1_code_wrong⟩ := FD_decod.kbinds0 (ps := P_decod) 1 ["code", "wrong"] ([("ends", .str (Str.ofString "any"))] : List (Str × V)) (fun vs mz zs => vs ++ ((zs).drop 0).take 1 ++ ((mz).drop 0).take 1 ++ ((zs).drop 1).take 1) (by decide) (by simp) (fun r1 r2 r3 => (Vals.append (Vals.append (Vals.append r1 (Sip.vals_cut 0 1 r3)) (Sip.vals_cut 0 1 r2)) (Sip.vals_cut 1 1 r3))) (fun _ _ _ _ _ _ us mv ws l1 l2 l3 => match us, mv, ws, l1, l2, l3 with | [_], [_], [_, _], _, _, _ => ⟨_, _, _, _, _, _, rfl, rfl, rfl⟩)
  obtain ⟨kv_decod_1_ends_wrong, kb_decod_1_ends_wrong⟩ := FD_decod.kbinds0 (ps := P_decod) 1 ["ends", "wrong"] ([("code", .str (Str.ofString "steps"))] : List (Str × V)) (fun vs mz zs => vs ++ ((mz).drop 0).take 1 ++ ((zs).drop 0).take 2) (by decide) (by simp) (fun r1 r2 r3 => (Vals.append (Vals.append r1 (Sip.vals_cut 0 1 r2)) (Sip.vals_cut 0 2 r3))) (fun _ _ _ _ _ _ us mv ws l1 l2 l3 => match us, mv, ws, l1, l2, l3 with | [_], [_], [_, _], _, _, _ => ⟨_, _, _, _, _, _, rfl, rfl, rfl⟩)
  obtain ⟨kv_encod_1_code, kb_encod_1_code⟩ := FD_encod.kbinds0 (ps := P_encod) 1 ["code"] ([("ends", .str (Str.ofString "any"))] : List (Str × V)) (fun vs mz zs => vs ++ zs ++ mz) (by decide) (by simp) (fun r1 r2 r3 => Vals.append (Vals.append r1 r3) r2) (fun _ _ _ _ _ _ us mv ws l1 l2 l3 => match us, mv, ws, l1, l2, l3 with | [_], [_], [_], _, _, _ => ⟨_, _, _, _, _, _, rfl, rfl, rfl⟩)
  have kb_encod_1_code_ends : KBn K (PySem.W.fnOf "encoded" "encoded" (defArgs s_encod) (defBody s_encod) (defScope s_encod) .none (.ref K_encod) dc_encod pm_encod an_encod cd_encod ct_encod) P_encod 1 ["code", "ends"] (fun us ws => us ++ ws) (fun vs zs => vs ++ zs) := ⟨fun s us ws X l1 l2 => .of_eq (match us, ws, l1, l2 with | [_], [_, _], _, _ => rfl), fun r1 r2 => Vals.append r1 r2⟩
  obtain ⟨kv_encod_1_ends, kb_encod_1_ends⟩ := FD_encod.kbinds0 (ps := P_encod) 1 ["ends"] ([("code", .str (Str.ofString "steps"))] : List (Str × V)) (fun vs mz zs => vs ++ ((mz).drop 0).take 1 ++ ((zs).drop 0).take 1) (by decide) (by simp) (fun r1 r2 r3 => (Vals.append (Vals.append r1 (Sip.vals_cut 0 1 r2)) (Sip.vals_cut 0 1 r3))) (fun _ _ _ _ _ _ us mv ws l1 l2 l3 => match us, mv, ws, l1, l2, l3 with | [_], [_], [_], _, _, _ => ⟨_, _, _, _, _, _, rfl, rfl, rfl⟩)
  have kb_rsign_3_code : KBn K (PySem.W.fnOf "read_sign" "read_sign" (defArgs s_rsign) (defBody s_rsign) (defScope s_rsign) .none (.ref K_rsign) dc_rsign pm_rsign an_rsign cd_rsign ct_rsign) P_rsign 3 ["code"] (fun us ws => us ++ ws) (fun vs zs => vs ++ zs) := ⟨fun s us ws X l1 l2 => .of_eq (match us, ws, l1, l2 with | [_, _, _], [_], _, _ => rfl), fun r1 r2 => Vals.append r1 r2⟩
  obtain ⟨kv_sinit_2_code_ends_wrong, kb_sinit_2_code_ends_wrong⟩ := FD_sinit.kbinds0 (ps := P_sinit) 3 ["code", "ends", "wrong"] ([("most", .non), ("by_line", .bl false)] : List (Str × V)) (fun vs mz zs => vs ++ zs ++ mz) (by decide) (by simp) (fun r1 r2 r3 => Vals.append (Vals.append r1 r3) r2) (fun _ _ _ _ _ _ us mv ws l1 l2 l3 => match us, mv, ws, l1, l2, l3 with | [_, _, _], [_, _], [_, _, _], _, _, _ => ⟨_, _, _, _, _, _, rfl, rfl, ⟨_, _, _, _, _, _, rfl, rfl, rfl⟩⟩)
  have kb_wends_1_ends : KBn K (PySem.W.fnOf "written_ends" "written_ends" (defArgs s_wends) (defBody s_wends) (defScope s_wends) .none (.ref K_wends) dc_wends pm_wends an_wends cd_wends ct_wends) P_wends 1 ["ends"] (fun us ws => us ++ ws) (fun vs zs => vs ++ zs) := ⟨fun s us ws X l1 l2 => .of_eq (match us, ws, l1, l2 with | [_], [_], _, _ => rfl), fun r1 r2 => Vals.append r1 r2⟩
  have kb_wsigns_2_code : KBn K (PySem.W.fnOf "write_signs" "write_signs" (defArgs s_wsigns) (defBody s_wsigns) (defScope s_wsigns) .none (.ref K_wsigns) dc_wsigns pm_wsigns an_wsigns cd_wsigns ct_wsigns) P_wsigns 2 ["code"] (fun us ws => us ++ ws) (fun vs zs => vs ++ zs) := ⟨fun s us ws X l1 l2 => .of_eq (match us, ws, l1, l2 with | [_, _], [_], _, _ => rfl), fun r1 r2 => Vals.append r1 r2⟩
  let T : Tx K mg := ⟨C_Scan, C_SipError, C_BadCode, C_NoSign, C_NoCode, C_NoEnds, C_NoWay, f_iBadCode, _, F_iBadCode, f_iNoSign, _, F_iNoSign, f_iNoCode, _, F_iNoCode, f_iNoEnds, _, F_iNoEnds, f_iNoWay, _, F_iNoWay, f_chk, _, ⟨F_chk, PySem.W.mg_of X G a_chk⟩, f_gone, _, ⟨F_gone, PySem.W.mg_of X G a_gone⟩, f_bturn, _, ⟨F_bturn, PySem.W.mg_of X G a_bturn⟩, f_bmark, _, ⟨F_bmark, PySem.W.mg_of X G a_bmark⟩, f_sat, _, ⟨F_sat, PySem.W.mg_of X G a_sat⟩, f_wat, _, ⟨F_wat, PySem.W.mg_of X G a_wat⟩, f_stat, _, ⟨F_stat, PySem.W.mg_of X G a_stat⟩, f_lead, _, ⟨F_lead, PySem.W.mg_of X G a_lead⟩, f_stw, _, ⟨F_stw, PySem.W.mg_of X G a_stw⟩, f_rsign, _, ⟨F_rsign, PySem.W.mg_of X G a_rsign⟩, f_whole, _, ⟨F_whole, PySem.W.mg_of X G a_whole⟩, f_lasts, _, ⟨F_lasts, PySem.W.mg_of X G a_lasts⟩, f_swr, _, ⟨F_swr, PySem.W.mg_of X G a_swr⟩, f_ww, _, ⟨F_ww, PySem.W.mg_of X G a_ww⟩, f_tw, _, ⟨F_tw, PySem.W.mg_of X G a_tw⟩, f_wsigns, _, ⟨F_wsigns, PySem.W.mg_of X G a_wsigns⟩, f_fstate, _, ⟨F_fstate, PySem.W.mg_of X G a_fstate⟩, f_wends, _, ⟨F_wends, PySem.W.mg_of X G a_wends⟩, f_wfeed, _, ⟨F_wfeed, PySem.W.mg_of X G a_wfeed⟩, f_cends, _, ⟨F_cends, PySem.W.mg_of X G a_cends⟩, f_eline, _, ⟨F_eline, PySem.W.mg_of X G a_eline⟩, f_cways, _, ⟨F_cways, PySem.W.mg_of X G a_cways⟩, f_mgo, _, ⟨F_mgo, PySem.W.mg_of X G a_mgo⟩, f_sure, _, ⟨F_sure, PySem.W.mg_of X G a_sure⟩, f_sinit, _, ⟨F_sinit, ⟨a_sinit, i_sinit, k_sinit⟩⟩, f_goon, _, ⟨F_goon, ⟨a_goon, i_goon, k_goon⟩⟩, f_fone, _, ⟨F_fone, ⟨a_fone, i_fone, k_fone⟩⟩, f_pwrong, _, ⟨F_pwrong, ⟨a_pwrong, i_pwrong, k_pwrong⟩⟩, f_looks, _, ⟨F_looks, ⟨a_looks, i_looks, k_looks⟩⟩, f_note, _, ⟨F_note, ⟨a_note, i_note, k_note⟩⟩, f_sof, _, ⟨F_sof, PySem.W.mg_of X G a_sof⟩, f_decod, _, ⟨F_decod, PySem.W.mg_of X G a_decod⟩, f_encod, _, ⟨F_encod, PySem.W.mg_of X G a_encod⟩, f_pool, _, ⟨F_pool, PySem.W.mg_of X G a_pool⟩, f_take, _, ⟨F_take, PySem.W.mg_of X G a_take⟩, f_lcodes, _, ⟨F_lcodes, PySem.W.mg_of X G a_lcodes⟩, f_lsign, _, ⟨F_lsign, PySem.W.mg_of X G a_lsign⟩, f_lsteps, _, ⟨F_lsteps, PySem.W.mg_of X G a_lsteps⟩, f_lbytes, _, ⟨F_lbytes, PySem.W.mg_of X G a_lbytes⟩, f_lsread, _, ⟨F_lsread, PySem.W.mg_of X G a_lsread⟩, f_lwide, _, ⟨F_lwide, PySem.W.mg_of X G a_lwide⟩, f_lturn, _, ⟨F_lturn, PySem.W.mg_of X G a_lturn⟩, f_lstep, _, ⟨F_lstep, PySem.W.mg_of X G a_lstep⟩, f_lany, _, ⟨F_lany, PySem.W.mg_of X G a_lany⟩, f_litems, _, ⟨F_litems, PySem.W.mg_of X G a_litems⟩, f_lways, _, ⟨F_lways, PySem.W.mg_of X G a_lways⟩, f_lends, _, ⟨F_lends, PySem.W.mg_of X G a_lends⟩, f_lrow, _, ⟨F_lrow, PySem.W.mg_of X G a_lrow⟩, f_lread, _, ⟨F_lread, PySem.W.mg_of X G a_lread⟩, f_lrdue, _, ⟨F_lrdue, PySem.W.mg_of X G a_lrdue⟩, f_lwritten, _, ⟨F_lwritten, PySem.W.mg_of X G a_lwritten⟩, fa, _, ⟨F_law, PySem.W.mg_of X G a_law⟩, ⟨pg_Scan, hd_Scan, po_Scan, sa_Scan⟩, PySem.W.mg_of X G qa_Scan, ⟨mk_Scan, a_sinit, i_sinit, kc_Scan⟩, n_Scan_spot, n_Scan_state, n_Scan_code, n_Scan_ends, n_Scan_wrong, n_Scan_most, n_Scan_by_line, n_Scan_found, n_Scan_bad, n_Scan_full, PySem.W.mg_of X G qa_SipError, PySem.W.mg_of X G qa_BadCode, PySem.W.mg_of X G qa_NoSign, PySem.W.mg_of X G qa_NoCode, PySem.W.mg_of X G qa_NoEnds, PySem.W.mg_of X G qa_NoWay, ⟨xo_BadCode, sa_BadCode, ex_BadCode, ty_BadCode, kx_BadCode⟩, ⟨hg_BadCode, hk_BadCode, ex_BadCode, hd_BadCode, ha_BadCode, hn_BadCode, ht_BadCode, hm_BadCode⟩, no_BadCode, a_iBadCode, i_iBadCode, PySem.W.exm_ref sb_SipError sh_SipError st_SipError ss_BadCode, ⟨xo_NoSign, sa_NoSign, ex_NoSign, ty_NoSign, kx_NoSign⟩, ⟨hg_NoSign, hk_NoSign, ex_NoSign, hd_NoSign, ha_NoSign, hn_NoSign, ht_NoSign, hm_NoSign⟩, no_NoSign, a_iNoSign, i_iNoSign, PySem.W.exm_ref sb_SipError sh_SipError st_SipError ss_NoSign, ⟨xo_NoCode, sa_NoCode, ex_NoCode, ty_NoCode, kx_NoCode⟩, ⟨hg_NoCode, hk_NoCode, ex_NoCode, hd_NoCode, ha_NoCode, hn_NoCode, ht_NoCode, hm_NoCode⟩, no_NoCode, a_iNoCode, i_iNoCode, PySem.W.exm_ref sb_SipError sh_SipError st_SipError ss_NoCode, ⟨xo_NoEnds, sa_NoEnds, ex_NoEnds, ty_NoEnds, kx_NoEnds⟩, ⟨hg_NoEnds, hk_NoEnds, ex_NoEnds, hd_NoEnds, ha_NoEnds, hn_NoEnds, ht_NoEnds, hm_NoEnds⟩, no_NoEnds, a_iNoEnds, i_iNoEnds, PySem.W.exm_ref sb_SipError sh_SipError st_SipError ss_NoEnds, ⟨xo_NoWay, sa_NoWay, ex_NoWay, ty_NoWay, kx_NoWay⟩, ⟨hg_NoWay, hk_NoWay, ex_NoWay, hd_NoWay, ha_NoWay, hn_NoWay, ht_NoWay, hm_NoWay⟩, no_NoWay, a_iNoWay, i_iNoWay, PySem.W.exm_ref sb_SipError sh_SipError st_SipError ss_NoWay, PySem.W.exm_ref hb_BadCode hh_BadCode hy_BadCode hs_BadCode_BadCode, PySem.W.exm_ref hb_NoSign hh_NoSign hy_NoSign hs_BadCode_NoSign, PySem.W.exm_ref hb_SipError hh_SipError hy_SipError hs_BadCode_SipError, PySem.W.exm_ref hb_BadCode hh_BadCode hy_BadCode hs_NoSign_BadCode, PySem.W.exm_ref hb_NoSign hh_NoSign hy_NoSign hs_NoSign_NoSign, PySem.W.exm_ref hb_SipError hh_SipError hy_SipError hs_NoSign_SipError, PySem.W.exm_ref hb_BadCode hh_BadCode hy_BadCode hs_NoCode_BadCode, PySem.W.exm_ref hb_NoSign hh_NoSign hy_NoSign hs_NoCode_NoSign, PySem.W.exm_ref hb_SipError hh_SipError hy_SipError hs_NoCode_SipError, PySem.W.exm_ref hb_BadCode hh_BadCode hy_BadCode hs_NoEnds_BadCode, PySem.W.exm_ref hb_NoSign hh_NoSign hy_NoSign hs_NoEnds_NoSign, PySem.W.exm_ref hb_SipError hh_SipError hy_SipError hs_NoEnds_SipError, PySem.W.exm_ref hb_BadCode hh_BadCode hy_BadCode hs_NoWay_BadCode, PySem.W.exm_ref hb_NoSign hh_NoSign hy_NoSign hs_NoWay_NoSign, PySem.W.exm_ref hb_SipError hh_SipError hy_SipError hs_NoWay_SipError, bb_bmark, bb_bturn, bb_cends, bb_chk, bb_cways, bb_eline, bb_fone, bb_fstate, bb_gone, bb_goon, bb_iBadCode, bb_iNoCode, bb_iNoEnds, bb_iNoSign, bb_lany, bb_lasts, bb_lbytes, bb_lcodes, bb_lead, bb_lends, bb_litems, bb_looks, bb_lrdue, bb_lread, bb_lrow, bb_lsign, bb_lsread, bb_lstep, bb_lsteps, bb_lturn, bb_lways, bb_lwide, bb_lwritten, bb_mgo, bb_note, bb_pool, bb_pwrong, bb_sat, bb_sof, bb_stat, bb_stw, bb_sure, bb_swr, bb_take, bb_tw, bb_wat, bb_wfeed, bb_whole, bb_ww, ds_decod_1, v_decod_1, b_decod_1, ds_encod_1, v_encod_1, b_encod_1, kv_decod_1_code_ends, kb_decod_1_code_ends, kb_decod_1_code_ends_wrong, kv_decod_1_code_wrong, kb_decod_1_code_wrong, kv_decod_1_ends_wrong, kb_decod_1_ends_wrong, kv_encod_1_code, kb_encod_1_code, kb_encod_1_code_ends, kv_encod_1_ends, kb_encod_1_ends, kb_rsign_3_code, kv_sinit_2_code_ends_wrong, kb_sinit_2_code_ends_wrong, kb_wends_1_ends, kb_wsigns_2_code, t_PLAIN, PySem.W.mg_of X G v_PLAIN, t_STEPS, PySem.W.mg_of X G v_STEPS, t_WIDE, PySem.W.mg_of X G v_WIDE, t_TURN, PySem.W.mg_of X G v_TURN, t_LOW_FIRST, PySem.W.mg_of X G v_LOW_FIRST, t_HIGH_FIRST, PySem.W.mg_of X G v_HIGH_FIRST, t_TURNING, PySem.W.mg_of X G v_TURNING, t_ANY, PySem.W.mg_of X G v_ANY, t_KEPT, PySem.W.mg_of X G v_KEPT, t_FEED, PySem.W.mg_of X G v_FEED, t_RETURN, PySem.W.mg_of X G v_RETURN, t_BOTH, PySem.W.mg_of X G v_BOTH, t_STRICT, PySem.W.mg_of X G v_STRICT, t_MARK, PySem.W.mg_of X G v_MARK, t_LINE_FEED, PySem.W.mg_of X G v_LINE_FEED, t_LINE_RETURN, PySem.W.mg_of X G v_LINE_RETURN, t_WRONG_SIGN, PySem.W.mg_of X G v_WRONG_SIGN, A_HIGH_MARK, PySem.W.mg_of X G v_HIGH_MARK, q_HIGH_MARK, A_LOW_MARK, PySem.W.mg_of X G v_LOW_MARK, q_LOW_MARK, PySem.W.mg_none_of X G z_list, PySem.W.mg_none_of X G z_len, PySem.W.mg_none_of X G z_range, PySem.W.mg_none_of X G z_int, PySem.W.mg_none_of X G z_tuple, PySem.W.mg_none_of X G z_bool, PySem.W.mg_none_of X G z_isinstance, PySem.W.mg_none_of X G z_min⟩
  exact ⟨_, fun s v => .of_eq rfl, fun base _ _ => ok_law T⟩
end Sip
open PySem PySem.W PyProof.Rows
set_option maxHeartbeats 0 in
theorem PySem.Challenge.cw_sipstack_k53_rows_decoded_and_encoded_holds : PySem.Challenge.rw_sipstack_k53_rows_decoded_and_encoded.Holds := by
  w_on; o_law; k_head; (case hw => w_witness2)
  k_fill
  refine L2.walk_of (l := PySem.Challenge.rw_sipstack_k53_rows_decoded_and_encoded) (n := 63) (k := 12) (x := "_law_script") (CX := fun _ => L2.CX0) (sp := fun w => Sip.spLaw _) rfl (by decide) rfl ⟨rfl, by decide, by decide⟩ (fun w h Y => PySem.W.kIn_of Y) ?F (fun _ _ a ns hl _ hS => ⟨a, ns, rfl, hS, hl, fun _ => rfl⟩) (fun _ _ _ _ _ h => h)
  case F =>
    intro w mg fa h KX G hmg
    refine' Sip.all_mk KX G hmg ?qa_Scan ?qa_SipError ?qa_BadCode ?qa_NoSign ?qa_NoCode ?qa_NoEnds ?qa_NoWay ?sb_SipError ?sh_SipError ?st_SipError ?hb_BadCode ?hh_BadCode ?hy_BadCode ?hs_BadCode_BadCode ?hs_NoSign_BadCode ?hs_NoCode_BadCode ?hs_NoEnds_BadCode ?hs_NoWay_BadCode ?hb_NoSign ?hh_NoSign ?hy_NoSign ?hs_BadCode_NoSign ?hs_NoSign_NoSign ?hs_NoCode_NoSign ?hs_NoEnds_NoSign ?hs_NoWay_NoSign ?hb_SipError ?hh_SipError ?hy_SipError ?hs_BadCode_SipError ?hs_NoSign_SipError ?hs_NoCode_SipError ?hs_NoEnds_SipError ?hs_NoWay_SipError ?xo_BadCode ?sa_BadCode ?ex_BadCode ?ty_BadCode ?kx_BadCode ?hg_BadCode ?hk_BadCode ?hd_BadCode ?ha_BadCode ?hn_BadCode ?ht_BadCode ?hm_BadCode ?no_BadCode ?ss_BadCode ?se_BadCode ?xo_NoSign ?sa_NoSign ?ex_NoSign ?ty_NoSign ?kx_NoSign ?hg_NoSign ?hk_NoSign ?hd_NoSign ?ha_NoSign ?hn_NoSign ?ht_NoSign ?hm_NoSign ?no_NoSign ?ss_NoSign ?se_NoSign ?xo_NoCode ?sa_NoCode ?ex_NoCode ?ty_NoCode ?kx_NoCode ?hg_NoCode ?hk_NoCode ?hd_NoCode ?ha_NoCode ?hn_NoCode ?ht_NoCode ?hm_NoCode ?no_NoCode ?ss_NoCode ?se_NoCode ?xo_NoEnds ?sa_NoEnds ?ex_NoEnds ?ty_NoEnds ?kx_NoEnds ?hg_NoEnds ?hk_NoEnds ?hd_NoEnds ?ha_NoEnds ?hn_NoEnds ?ht_NoEnds ?hm_NoEnds ?no_NoEnds ?ss_NoEnds ?se_NoEnds ?xo_NoWay ?sa_NoWay ?ex_NoWay ?ty_NoWay ?kx_NoWay ?hg_NoWay ?hk_NoWay ?hd_NoWay ?ha_NoWay ?hn_NoWay ?ht_NoWay ?hm_NoWay ?no_NoWay ?ss_NoWay ?se_NoWay ?a_iBadCode ?i_iBadCode ?l_iBadCode ?c_iBadCode ?k_iBadCode ?a_iNoSign ?i_iNoSign ?l_iNoSign ?c_iNoSign ?k_iNoSign ?a_iNoCode ?i_iNoCode ?l_iNoCode ?c_iNoCode ?k_iNoCode ?a_iNoEnds ?i_iNoEnds ?l_iNoEnds ?c_iNoEnds ?k_iNoEnds ?a_iNoWay ?i_iNoWay ?l_iNoWay ?c_iNoWay ?k_iNoWay ?a_chk ?l_chk ?c_chk ?k_chk ?a_gone ?l_gone ?c_gone ?k_gone ?a_bturn ?l_bturn ?c_bturn ?k_bturn ?a_bmark ?l_bmark ?c_bmark ?k_bmark ?a_sat ?l_sat ?c_sat ?k_sat ?a_wat ?l_wat ?c_wat ?k_wat ?a_stat ?l_stat ?c_stat ?k_stat ?a_lead ?l_lead ?c_lead ?k_lead ?a_stw ?l_stw ?c_stw ?k_stw ?a_rsign ?l_rsign ?c_rsign ?k_rsign ?w_rsign_0 ?a_whole ?l_whole ?c_whole ?k_whole ?a_lasts ?l_lasts ?c_lasts ?k_lasts ?a_swr ?l_swr ?c_swr ?k_swr ?a_ww ?l_ww ?c_ww ?k_ww ?a_tw ?l_tw ?c_tw ?k_tw ?a_wsigns ?l_wsigns ?c_wsigns ?k_wsigns ?w_wsigns_0 ?a_fstate ?l_fstate ?c_fstate ?k_fstate ?a_wends ?l_wends ?c_wends ?k_wends ?w_wends_0 ?a_wfeed ?l_wfeed ?c_wfeed ?k_wfeed ?a_cends ?l_cends ?c_cends ?k_cends ?a_eline ?l_eline ?c_eline ?k_eline ?a_cways ?l_cways ?c_cways ?k_cways ?a_mgo ?l_mgo ?c_mgo ?k_mgo ?a_sure ?l_sure ?c_sure ?k_sure ?a_sinit ?i_sinit ?l_sinit ?c_sinit ?k_sinit ?w_sinit_0 ?w_sinit_1 ?a_goon ?i_goon ?l_goon ?c_goon ?k_goon ?a_fone ?i_fone ?l_fone ?c_fone ?k_fone ?a_pwrong ?i_pwrong ?l_pwrong ?c_pwrong ?k_pwrong ?a_looks ?i_looks ?l_looks ?c_looks ?k_looks ?a_note ?i_note ?l_note ?c_note ?k_note ?a_sof ?l_sof ?c_sof ?k_sof ?a_decod ?l_decod ?c_decod ?k_decod ?w_decod_0 ?w_decod_1 ?w_decod_2 ?a_encod ?l_encod ?c_encod ?k_encod ?w_encod_0 ?w_encod_1 ?a_pool ?l_pool ?c_pool ?k_pool ?a_take ?l_take ?c_take ?k_take ?a_lcodes ?l_lcodes ?c_lcodes ?k_lcodes ?a_lsign ?l_lsign ?c_lsign ?k_lsign ?a_lsteps ?l_lsteps ?c_lsteps ?k_lsteps ?a_lbytes ?l_lbytes ?c_lbytes ?k_lbytes ?a_lsread ?l_lsread ?c_lsread ?k_lsread ?a_lwide ?l_lwide ?c_lwide ?k_lwide ?a_lturn ?l_lturn ?c_lturn ?k_lturn ?a_lstep ?l_lstep ?c_lstep ?k_lstep ?a_lany ?l_lany ?c_lany ?k_lany ?a_litems ?l_litems ?c_litems ?k_litems ?a_lways ?l_lways ?c_lways ?k_lways ?a_lends ?l_lends ?c_lends ?k_lends ?a_lrow ?l_lrow ?c_lrow ?k_lrow ?a_lread ?l_lread ?c_lread ?k_lread ?a_lrdue ?l_lrdue ?c_lrdue ?k_lrdue ?a_lwritten ?l_lwritten ?c_lwritten ?k_lwritten ?a_law ?l_law ?c_law ?k_law ?pg_Scan ?hd_Scan ?po_Scan ?sa_Scan ?mk_Scan ?kc_Scan ?n_Scan_spot ?n_Scan_state ?n_Scan_code ?n_Scan_ends ?n_Scan_wrong ?n_Scan_most ?n_Scan_by_line ?n_Scan_found ?n_Scan_bad ?n_Scan_full ?v_PLAIN ?v_STEPS ?v_WIDE ?v_TURN ?v_LOW_FIRST ?v_HIGH_FIRST ?v_TURNING ?v_ANY ?v_KEPT ?v_FEED ?v_RETURN ?v_BOTH ?v_STRICT ?v_MARK ?v_LINE_FEED ?v_LINE_RETURN ?v_WRONG_SIGN ?v_HIGH_MARK ?lt_HIGH_MARK ?v_LOW_MARK ?lt_LOW_MARK ?z_list ?z_len ?z_range ?z_int ?z_tuple ?z_bool ?z_isinstance ?z_min
    (case qa_Scan => k_is)
    (case qa_SipError => k_is)
    (case qa_BadCode => k_is)
    (case qa_NoSign => k_is)
    (case qa_NoCode => k_is)
    (case qa_NoEnds => k_is)
    (case qa_NoWay => k_is)
    (case sb_SipError => k_is)
    (case sh_SipError => k_is)
    (case st_SipError => k_is)
    (case hb_BadCode => k_is)
    (case hh_BadCode => k_is)
    (case hy_BadCode => k_is)
    (case hs_BadCode_BadCode => k_is)
    (case hs_NoSign_BadCode => k_is)
    (case hs_NoCode_BadCode => k_is)
    (case hs_NoEnds_BadCode => k_is)
    (case hs_NoWay_BadCode => k_is)
    (case hb_NoSign => k_is)
    (case hh_NoSign => k_is)
    (case hy_NoSign => k_is)
    (case hs_BadCode_NoSign => k_is)
    (case hs_NoSign_NoSign => k_is)
    (case hs_NoCode_NoSign => k_is)
    (case hs_NoEnds_NoSign => k_is)
    (case hs_NoWay_NoSign => k_is)
    (case hb_SipError => k_is)
    (case hh_SipError => k_is)
    (case hy_SipError => k_is)
    (case hs_BadCode_SipError => k_is)
    (case hs_NoSign_SipError => k_is)
    (case hs_NoCode_SipError => k_is)
    (case hs_NoEnds_SipError => k_is)
    (case hs_NoWay_SipError => k_is)
    (case xo_BadCode => exact ⟨_, _, _, _, _, _, _, _, _, _, _, _, _, _, _, (by k_is), (by decide +kernel)⟩)
    (case sa_BadCode => k_is)
    (case ex_BadCode => k_is)
    (case ty_BadCode => k_is)
    (case kx_BadCode => k_is)
    (case hg_BadCode => k_is)
    (case hk_BadCode => k_is)
    (case hd_BadCode => k_is)
    (case ha_BadCode => k_is)
    (case hn_BadCode => k_is)
    (case ht_BadCode => k_is)
    (case hm_BadCode => k_is)
    (case no_BadCode => k_is)
    (case ss_BadCode => k_is)
    (case se_BadCode => k_is)
    (case xo_NoSign => exact ⟨_, _, _, _, _, _, _, _, _, _, _, _, _, _, _, (by k_is), (by decide +kernel)⟩)
    (case sa_NoSign => k_is)
    (case ex_NoSign => k_is)
    (case ty_NoSign => k_is)
    (case kx_NoSign => k_is)
    (case hg_NoSign => k_is)
    (case hk_NoSign => k_is)
    (case hd_NoSign => k_is)
    (case ha_NoSign => k_is)
    (case hn_NoSign => k_is)
    (case ht_NoSign => k_is)
    (case hm_NoSign => k_is)
    (case no_NoSign => k_is)
    (case ss_NoSign => k_is)
    (case se_NoSign => k_is)
    (case xo_NoCode => exact ⟨_, _, _, _, _, _, _, _, _, _, _, _, _, _, _, (by k_is), (by decide +kernel)⟩)
    (case sa_NoCode => k_is)
    (case ex_NoCode => k_is)
    (case ty_NoCode => k_is)
    (case kx_NoCode => k_is)
    (case hg_NoCode => k_is)
    (case hk_NoCode => k_is)
    (case hd_NoCode => k_is)
    (case ha_NoCode => k_is)
    (case hn_NoCode => k_is)
    (case ht_NoCode => k_is)
    (case hm_NoCode => k_is)
    (case no_NoCode => k_is)
    (case ss_NoCode => k_is)
    (case se_NoCode => k_is)
    (case xo_NoEnds => exact ⟨_, _, _, _, _, _, _, _, _, _, _, _, _, _, _, (by k_is), (by decide +kernel)⟩)
    (case sa_NoEnds => k_is)
    (case ex_NoEnds => k_is)
    (case ty_NoEnds => k_is)
    (case kx_NoEnds => k_is)
    (case hg_NoEnds => k_is)
    (case hk_NoEnds => k_is)
    (case hd_NoEnds => k_is)
    (case ha_NoEnds => k_is)
    (case hn_NoEnds => k_is)
    (case ht_NoEnds => k_is)
    (case hm_NoEnds => k_is)
    (case no_NoEnds => k_is)
    (case ss_NoEnds => k_is)
    (case se_NoEnds => k_is)
    (case xo_NoWay => exact ⟨_, _, _, _, _, _, _, _, _, _, _, _, _, _, _, (by k_is), (by decide +kernel)⟩)
    (case sa_NoWay => k_is)
    (case ex_NoWay => k_is)
    (case ty_NoWay => k_is)
    (case kx_NoWay => k_is)
    (case hg_NoWay => k_is)
    (case hk_NoWay => k_is)
    (case hd_NoWay => k_is)
    (case ha_NoWay => k_is)
    (case hn_NoWay => k_is)
    (case ht_NoWay => k_is)
    (case hm_NoWay => k_is)
    (case no_NoWay => k_is)
    (case ss_NoWay => k_is)
    (case se_NoWay => k_is)
    (case a_iBadCode => k_is)
    (case i_iBadCode => k_is)
    (case l_iBadCode => k_is)
    (case c_iBadCode => k_is)
    (case k_iBadCode => k_is)
    (case a_iNoSign => k_is)
    (case i_iNoSign => k_is)
    (case l_iNoSign => k_is)
    (case c_iNoSign => k_is)
    (case k_iNoSign => k_is)
    (case a_iNoCode => k_is)
    (case i_iNoCode => k_is)
    (case l_iNoCode => k_is)
    (case c_iNoCode => k_is)
    (case k_iNoCode => k_is)
    (case a_iNoEnds => k_is)
    (case i_iNoEnds => k_is)
    (case l_iNoEnds => k_is)
    (case c_iNoEnds => k_is)
    (case k_iNoEnds => k_is)
    (case a_iNoWay => k_is)
    (case i_iNoWay => k_is)
    (case l_iNoWay => k_is)
    (case c_iNoWay => k_is)
    (case k_iNoWay => k_is)
    (case a_chk => k_is)
    (case l_chk => k_is)
    (case c_chk => k_is)
    (case k_chk => k_is)
    (case a_gone => k_is)
    (case l_gone => k_is)
    (case c_gone => k_is)
    (case k_gone => k_is)
    (case a_bturn => k_is)
    (case l_bturn => k_is)
    (case c_bturn => k_is)
    (case k_bturn => k_is)
    (case a_bmark => k_is)
    (case l_bmark => k_is)
    (case c_bmark => k_is)
    (case k_bmark => k_is)
    (case a_sat => k_is)
    (case l_sat => k_is)
    (case c_sat => k_is)
    (case k_sat => k_is)
    (case a_wat => k_is)
    (case l_wat => k_is)
    (case c_wat => k_is)
    (case k_wat => k_is)
    (case a_stat => k_is)
    (case l_stat => k_is)
    (case c_stat => k_is)
    (case k_stat => k_is)
    (case a_lead => k_is)
    (case l_lead => k_is)
    (case c_lead => k_is)
    (case k_lead => k_is)
    (case a_stw => k_is)
    (case l_stw => k_is)
    (case c_stw => k_is)
    (case k_stw => k_is)
    (case a_rsign => k_is)
    (case l_rsign => k_is)
    (case c_rsign => k_is)
    (case k_rsign => k_is)
    (case w_rsign_0 => k_is)
    (case a_whole => k_is)
    (case l_whole => k_is)
    (case c_whole => k_is)
    (case k_whole => k_is)
    (case a_lasts => k_is)
    (case l_lasts => k_is)
    (case c_lasts => k_is)
    (case k_lasts => k_is)
    (case a_swr => k_is)
    (case l_swr => k_is)
    (case c_swr => k_is)
    (case k_swr => k_is)
    (case a_ww => k_is)
    (case l_ww => k_is)
    (case c_ww => k_is)
    (case k_ww => k_is)
    (case a_tw => k_is)
    (case l_tw => k_is)
    (case c_tw => k_is)
    (case k_tw => k_is)
    (case a_wsigns => k_is)
    (case l_wsigns => k_is)
    (case c_wsigns => k_is)
    (case k_wsigns => k_is)
    (case w_wsigns_0 => k_is)
    (case a_fstate => k_is)
    (case l_fstate => k_is)
    (case c_fstate => k_is)
    (case k_fstate => k_is)
    (case a_wends => k_is)
    (case l_wends => k_is)
    (case c_wends => k_is)
    (case k_wends => k_is)
    (case w_wends_0 => k_is)
    (case a_wfeed => k_is)
    (case l_wfeed => k_is)
    (case c_wfeed => k_is)
    (case k_wfeed => k_is)
    (case a_cends => k_is)
    (case l_cends => k_is)
    (case c_cends => k_is)
    (case k_cends => k_is)
    (case a_eline => k_is)
    (case l_eline => k_is)
    (case c_eline => k_is)
    (case k_eline => k_is)
    (case a_cways => k_is)
    (case l_cways => k_is)
    (case c_cways => k_is)
    (case k_cways => k_is)
    (case a_mgo => k_is)
    (case l_mgo => k_is)
    (case c_mgo => k_is)
    (case k_mgo => k_is)
    (case a_sure => k_is)
    (case l_sure => k_is)
    (case c_sure => k_is)
    (case k_sure => k_is)
    (case a_sinit => k_is)
    (case i_sinit => k_is)
    (case l_sinit => k_is)
    (case c_sinit => k_is)
    (case k_sinit => k_is)
    (case w_sinit_0 => k_is)
    (case w_sinit_1 => k_is)
    (case a_goon => k_is)
    (case i_goon => k_is)
    (case l_goon => k_is)
    (case c_goon => k_is)
    (case k_goon => k_is)
    (case a_fone => k_is)
    (case i_fone => k_is)
    (case l_fone => k_is)
    (case c_fone => k_is)
    (case k_fone => k_is)
    (case a_pwrong => k_is)
    (case i_pwrong => k_is)
    (case l_pwrong => k_is)
    (case c_pwrong => k_is)
    (case k_pwrong => k_is)
    (case a_looks => k_is)
    (case i_looks => k_is)
    (case l_looks => k_is)
    (case c_looks => k_is)
    (case k_looks => k_is)
    (case a_note => k_is)
    (case i_note => k_is)
    (case l_note => k_is)
    (case c_note => k_is)
    (case k_note => k_is)
    (case a_sof => k_is)
    (case l_sof => k_is)
    (case c_sof => k_is)
    (case k_sof => k_is)
    (case a_decod => k_is)
    (case l_decod => k_is)
    (case c_decod => k_is)
    (case k_decod => k_is)
    (case w_decod_0 => k_is)
    (case w_decod_1 => k_is)
    (case w_decod_2 => k_is)
    (case a_encod => k_is)
    (case l_encod => k_is)
    (case c_encod => k_is)
    (case k_encod => k_is)
    (case w_encod_0 => k_is)
    (case w_encod_1 => k_is)
    (case a_pool => k_is)
    (case l_pool => k_is)
    (case c_pool => k_is)
    (case k_pool => k_is)
    (case a_take => k_is)
    (case l_take => k_is)
    (case c_take => k_is)
    (case k_take => k_is)
    (case a_lcodes => k_is)
    (case l_lcodes => k_is)
    (case c_lcodes => k_is)
    (case k_lcodes => k_is)
    (case a_lsign => k_is)
    (case l_lsign => k_is)
    (case c_lsign => k_is)
    (case k_lsign => k_is)
    (case a_lsteps => k_is)
    (case l_lsteps => k_is)
    (case c_lsteps => k_is)
    (case k_lsteps => k_is)
    (case a_lbytes => k_is)
    (case l_lbytes => k_is)
    (case c_lbytes => k_is)
    (case k_lbytes => k_is)
    (case a_lsread => k_is)
    (case l_lsread => k_is)
    (case c_lsread => k_is)
    (case k_lsread => k_is)
    (case a_lwide => k_is)
    (case l_lwide => k_is)
    (case c_lwide => k_is)
    (case k_lwide => k_is)
    (case a_lturn => k_is)
    (case l_lturn => k_is)
    (case c_lturn => k_is)
    (case k_lturn => k_is)
    (case a_lstep => k_is)
    (case l_lstep => k_is)
    (case c_lstep => k_is)
    (case k_lstep => k_is)
    (case a_lany => k_is)
    (case l_lany => k_is)
    (case c_lany => k_is)
    (case k_lany => k_is)
    (case a_litems => k_is)
    (case l_litems => k_is)
    (case c_litems => k_is)
    (case k_litems => k_is)
    (case a_lways => k_is)
    (case l_lways => k_is)
    (case c_lways => k_is)
    (case k_lways => k_is)
    (case a_lends => k_is)
    (case l_lends => k_is)
    (case c_lends => k_is)
    (case k_lends => k_is)
    (case a_lrow => k_is)
    (case l_lrow => k_is)
    (case c_lrow => k_is)
    (case k_lrow => k_is)
    (case a_lread => k_is)
    (case l_lread => k_is)
    (case c_lread => k_is)
    (case k_lread => k_is)
    (case a_lrdue => k_is)
    (case l_lrdue => k_is)
    (case c_lrdue => k_is)
    (case k_lrdue => k_is)
    (case a_lwritten => k_is)
    (case l_lwritten => k_is)
    (case c_lwritten => k_is)
    (case k_lwritten => k_is)
    (case a_law => k_is)
    (case l_law => k_is)
    (case c_law => k_is)
    (case k_law => k_is)
    (case pg_Scan => k_is)
    (case hd_Scan => k_is)
    (case po_Scan => k_is)
    (case sa_Scan => k_is)
    (case mk_Scan => k_is)
    (case kc_Scan => k_is)
    (case n_Scan_spot => k_is)
    (case n_Scan_state => k_is)
    (case n_Scan_code => k_is)
    (case n_Scan_ends => k_is)
    (case n_Scan_wrong => k_is)
    (case n_Scan_most => k_is)
    (case n_Scan_by_line => k_is)
    (case n_Scan_found => k_is)
    (case n_Scan_bad => k_is)
    (case n_Scan_full => k_is)
    (case v_PLAIN => k_is)
    (case v_STEPS => k_is)
    (case v_WIDE => k_is)
    (case v_TURN => k_is)
    (case v_LOW_FIRST => k_is)
    (case v_HIGH_FIRST => k_is)
    (case v_TURNING => k_is)
    (case v_ANY => k_is)
    (case v_KEPT => k_is)
    (case v_FEED => k_is)
    (case v_RETURN => k_is)
    (case v_BOTH => k_is)
    (case v_STRICT => k_is)
    (case v_MARK => k_is)
    (case v_LINE_FEED => k_is)
    (case v_LINE_RETURN => k_is)
    (case v_WRONG_SIGN => k_is)
    (case v_HIGH_MARK => k_is)
    (case lt_HIGH_MARK => k_is)
    (case v_LOW_MARK => k_is)
    (case lt_LOW_MARK => k_is)
    (case z_list => k_is)
    (case z_len => k_is)
    (case z_range => k_is)
    (case z_int => k_is)
    (case z_tuple => k_is)
    (case z_bool => k_is)
    (case z_isinstance => k_is)
    (case z_min => k_is)
