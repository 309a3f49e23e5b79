import PyProof.Rows.All
import Wide.All
import OpenK.AllK
import Wide.FinOn
import HandS.List
import HandS.Codes
import HandS.Comp
import HandS.Iter
import HandS.Ends
import HandS.Text
import HandS.Words
import HandS.WordsList
import HandS.Wide
import HandS.IsInst
import HandS.FStr
import PyProof.FString3
import PyProof.Rows.StrIntSpec
import HandS.Walk
import HandS.Exc
import HandS.ExcOwn
import HandS.ExcIs
import HandS.WordsExc
import HandS.StrMore
import HandS.Defaults
import HandS.MakeKwOnly
import HandS.Flow
import HandS.Star
import HandS.Conv
import HandS.Deep
import HandS.Dict
import HandS.ExcInit
import KE.KExcIs
import HandS.More
import PySem.Challenge.RW_sipstack_k47_no_sign
set_option Elab.async false
set_option linter.all false
set_option maxRecDepth 100000
namespace Sip
open PySem PySem.Spec PyProof.Rows L2

/-! a slice of step one in a list, laid over by another list; its end may lie behind the list's end -/
theorem clamp {a c n : Nat} (h1 : a ≤ c) (h2 : a ≤ n) :
    sliceBounds (some (a : Int)) (some (c : Int)) none n = ((a : Int), ((min c n : Nat) : Int), 1) := by
  have n1 : ¬ ((a : Int) < 0) := by omega
  have n2 : ¬ ((c : Int) < 0) := by omega
  simp only [sliceBounds, Option.getD_none, n1, n2, if_false, show (1 : Int) > 0 from by decide, if_true]
  refine Prod.ext ?_ (Prod.ext ?_ rfl)
  · show max 0 (min (a : Int) (n : Int)) = (a : Int)
    omega
  · show max 0 (min (c : Int) (n : Int)) = ((min c n : Nat) : Int)
    omega

section
variable {pr : Program} {wd : World} {ar : Around} {er : Value → Shared → Prop} {s : Shared}
set_option maxHeartbeats 4000000 in
theorem put_slice {l b z : Addr} {old new : Array Value} {m m2 a c : Nat} {vl vu : Value} {Q : Unit → Shared → Prop}
    (eo : s.heap.get? l = some { cls := .type "list", data := .seq old m })
    (en : s.heap.get? b = some { cls := .type "list", data := .seq new m2 }) (ne : l ≠ b)
    (hz : s.heap.IsSliceOf z vl vu .none) (pl : IsPart vl (some (a : Int))) (pu : IsPart vu (some (c : Int)))
    (ac : a ≤ c) (an : a ≤ old.size) (fit : old.size + new.size ≤ sizeLine)
    (k : Q () { s with heap := s.heap.update l (Obj.mapSeq fun t => t.extract 0 a ++ new ++ t.extract (min c old.size) t.size) }) :
    wpAny (model pr wd) ar (setItem (.ref l) (.ref z) (.ref b)) Q er s := by
  by_cases hc : c ≤ old.size
  · rw [Nat.min_eq_left hc] at k
    exact setItem_slice eo en ne hz pl pu ac hc fit k
  · have lo : s.heap.IsList l old := PySem.IsL.isList eo
    have ln : s.heap.IsList b new := PySem.IsL.isList en
    obtain ⟨oz, gz, cz, dz⟩ := id hz
    have tz : s.TypeIs (.ref z) "slice" := ⟨oz, gz, cz⟩
    have apart : Builtin.List.listSameRef (.ref l) (.ref b) = false := by
      unfold Builtin.List.listSameRef; exact beq_eq_false_iff_ne.mpr ne
    have zz : ((fun t : Array Value => t.extract 0 a ++ new ++ t.extract (min c old.size) t.size) old).size ≤ sizeLine + 1 := by
      simp only [Array.size_append, Array.size_extract]; omega
    have bd := clamp ac an
    have mx : (max (a : Int) ((min c old.size : Nat) : Int)).toNat = min c old.size := by omega
    unfold setItem
    try (with_reducible refine wpAny_holding ?_)
    try refine wpAny_bind (wpAny_pure ?_)
    refine wpAny_bind (wpAny_sequenceKey lo.typeIs (by decide) (wpAny_bind ?_))
    refine wpAny_callSpecial?_slot (name := Str.ofString "__setitem__") lo.typeIs slot_list_setitem ?_
    refine wpAny_call_entry slot_list_setitem lo.typeIs entry_list_setitem ?_ (args_list_setitem _ _ _)
    show wpAny _ _ (Builtin.List.listSubscript? (.ref z) >>= _) _ _ s
    refine wpAny_bind ?_
    unfold Builtin.List.listSubscript?
    refine wpAny_bind (wpAny_specialOf tz slice_no_index ?_)
    simp only [Option.isNone_none, if_true]
    refine wpAny_pure ?_
    show wpAny _ _ (typeOf (.ref z) >>= _) _ _ s
    refine wpAny_bind (wpAny_typeOf tz ?_)
    first
      | rw [if_neg (by decide)]
      | refine PySem.W.KFB.if_not (by decide) ?_
    rw [listSliceParts_eq]
    refine wpAny_bind (wpAny_bind (wpAny_field gz dz (x := .none) rfl (wpAny_bind (wpAny_listPart .none ?_))))
    rw [if_neg (show ¬ ((rawPart none == rawInt 0) = true) from Bool.false_ne_true)]
    refine wpAny_bind (wpAny_field gz dz (x := vl) rfl (wpAny_bind (wpAny_listPart pl ?_)))
    refine wpAny_bind (wpAny_field gz dz (x := vu) rfl (wpAny_bind (wpAny_listPart pu (wpAny_pure ?_))))
    first
      | simp only [apart, Bool.false_eq_true, if_false]
      | refine PySem.W.KFB.if_not apart ?_
    refine wpAny_bind ?_
    unfold Builtin.List.listAllItems
    refine wpAny_bind (wpAny_typeOf ln.typeIs ?_)
    first
      | refine PySem.W.KFB.if_so (by decide) ?_
      | rw [if_pos (by decide)]
    unfold Builtin.List.listItems
    refine wpAny_bind (wpAny_seqItems en rfl (wpAny_pure (wpAny_bind (wpAny_bind (wpAny_seqItems eo rfl (wpAny_pure ?_))))))
    have si := (sliceIndices_raw (some (a : Int)) (some (c : Int)) none old.size (by simp)).trans (congrArg (pure : Int × Int × Int → Sem (Int × Int × Int)) bd)
    refine wpAny_bind (wpAny_of_eq si ?_)
    show wpAny _ _ (if ((1 : Int) == 1) = true then _ else _) _ _ s
    rw [if_pos (by decide)]
    refine wpAny_bind (wpAny_rule ?_)
    first
      | simp only [notLongL fit, Bool.false_eq_true, if_false]
      | refine PySem.W.KFB.if_not (notLongL fit) ?_
    try refine wpAny_bind (wpAny_pure ?_)
    show wpAny _ _ (updateSeq l (fun t => t.extract 0 ((a : Int)).toNat ++ new ++ t.extract (max (a : Int) ((min c old.size : Nat) : Int)).toNat t.size) >>= _) _ _ s
    rw [mx, Int.toNat_natCast]
    refine wpAny_bind (wpAny_updateSeq (hz := Nat.le_trans (Nat.le_add_right _ _) fit) (_hz' := zz) eo rfl (wpAny_bind (wpAny_letGo ?_)))
    first
      | exact wpAny_bind (wpAny_pure (wpAny_pure ⟨.none, rfl, wpAny_pure k⟩))
      | exact wpAny_pure ⟨.none, rfl, wpAny_pure k⟩
end

section
variable {X : Cx}
theorem splice (xs ys : List Value) (a c : Nat) : xs.toArray.extract 0 a ++ ys.toArray ++ xs.toArray.extract (min c xs.toArray.size) xs.toArray.size = (xs.take a ++ ys ++ xs.drop c).toArray := by
  rw [splice_eq]
  congr 1
  by_cases h : c ≤ xs.length
  · rw [List.size_toArray, Nat.min_eq_left h]
  · rw [List.size_toArray, Nat.min_eq_right (by omega), List.drop_length, List.drop_of_length_le (by omega)]

/-- o[lo:hi] = v, both given, v another list -/
def gCut (to : TE) (tl th : TO) : TG := fun v σ H Q => to σ H fun o H1 => tl σ H1 fun lo H2 => th σ H2 fun hi H3 =>
  ∃ p q xs ys a c, o = .ref p ∧ v = .ref q ∧ lo = some a ∧ hi = some c ∧ H3 p = some (.lst xs) ∧ H3 q = some (.lst ys) ∧ p ≠ q ∧
    0 ≤ a ∧ a ≤ c ∧ a ≤ xs.length ∧ xs.length + ys.length ≤ sizeLine ∧ Q σ (upd H3 p (.lst (xs.take a.toNat ++ ys ++ xs.drop c.toNat)))

theorem pg_cut {o : Expr} {lo hi : Option Expr} {to : TE} {tl th : TO} {p2 pos : Pos} (ho : PE X o to) (hl : PO X lo tl) (hh : PO X hi th)
    (ha : ∀ v, assign (.Subscript o (.Slice lo hi none p2) pos) X.env v = (do
      let ov ← holding [v] (eval o X.env)
      let iv ← holding [v, ov] (eval (.Slice lo hi none p2) X.env)
      standAt pos
      holding [v, ov, iv] (setItem ov iv v)
      release [iv, v, ov] []) := by intro _; rfl) : PG X (.Subscript o (.Slice lo hi none p2) pos) (gCut to tl th) := by
  refine ⟨fun pins s σ H v u Q I r h => ?_⟩
  rw [ha]
  refine wpAny_bind (wpAny_holding (thn (ho.run pins s σ H _ I h) fun ov s1 ⟨x, H1, I1, r1, q1⟩ => wpAny_bind (wpAny_holding ?_)))
  refine wpAny_Slice (thn (hl.run pins s1 σ H1 _ I1 q1) fun wl s2 ⟨l, H2, I2, pl, q2⟩ => ?_)
  refine thn (hh.run pins s2 σ H2 _ I2 q2) fun wu s3 ⟨uu, H3, I3, pu, q3⟩ => ?_
  rw [evalPart_none]
  refine wpAny_pure ?_
  obtain ⟨p, q, xs, ys, a, c, rfl, rfl, rfl, rfl, hp, hq, pq, a0, ac, ax, fit, fin⟩ := q3
  cases r1
  cases r
  have I4 : Inv X pins σ H3 { s3 with heap := s3.heap.push { cls := .type "slice", data := .fields #[wl, wu, .none] } } := I3.kept (t' := s3.toks) fun b ob e => Heap.get?_push_of_some _ e
  refine wpAny_bind (wpAny_standAt (wpAny_bind (wpAny_holding ?_)))
  obtain ⟨z1, us1, n1, rv1, _, e1⟩ := I4.lstM hp
  obtain ⟨z2, us2, n2, rv2, _, e2⟩ := I4.lstM hq
  obtain ⟨a', rfl⟩ := Int.eq_ofNat_of_zero_le a0
  obtain ⟨c', rfl⟩ := Int.eq_ofNat_of_zero_le (Int.le_trans a0 ac)
  simp only [Int.toNat_natCast] at fin
  have L1 := rv1.length
  have L2' := rv2.length
  refine put_slice (a := a') (c := c') e1 e2 pq (Heap.IsSliceOf.new ..) pl pu (by omega) (by rw [List.size_toArray]; omega) (by rw [List.size_toArray, List.size_toArray]; omega) ?_
  refine wpAny_release ⟨σ, _, ?_, fin⟩
  refine I4.lset (its' := us1.take a' ++ us2 ++ us1.drop c') (t' := s3.toks) hp e1 (splice us1 us2 a' c') (Vals.append (Vals.append (rv1.take _) rv2) (rv1.drop _)) ?_
  rw [List.length_append, List.length_append, List.length_take, List.length_drop]
  omega
end
end Sip
namespace Sip
open PySem PySem.Spec PyProof.Rows L2

/-- a def of the text: where it stands, how it is called -/
structure Df (K : PySem.W.Frag) (mg : Str → Option Value) (x : Str) (st : Stmt) (ps : List Str) (f : Addr) (fd : FuncData) : Prop where
  F : Fun K x x st f fd
  b : Binds K fd ps []
  g : mg x = some (.ref f)

/-! heaps: all that was tracked stands, but at the places ps -/
def Kp (ps : List Addr) (H H' : Hp) : Prop := ∀ b o, b ∉ ps → H b = some o → H' b = some o
theorem Kp.refl (ps : List Addr) (H : Hp) : Kp ps H H := fun _ _ _ h => h
theorem Kp.trans {ps : List Addr} {H H1 H2 : Hp} (a : Kp ps H H1) (b : Kp ps H1 H2) : Kp ps H H2 := fun c o n h => b c o n (a c o n h)
theorem Kp.wide {ps qs : List Addr} {H H1 : Hp} (a : Kp ps H H1) (h : ∀ x ∈ ps, x ∈ qs) : Kp qs H H1 := fun c o n e => a c o (fun z => n (h c z)) e
theorem Kp.same {H H1 : Hp} (a : Kp [] H H1) : Same H H1 := fun c o e => a c o (fun h => nomatch h) e
theorem Kp.of {ps : List Addr} {H H1 : Hp} (a : Same H H1) : Kp ps H H1 := fun c o _ e => a c o e
theorem Kp.at {ps : List Addr} {H : Hp} {p : Addr} {o : HO} (h : p ∈ ps) : Kp ps H (upd H p o) := fun b x n e => by
  have hb : b ≠ p := fun z => n (by rw [z]; exact h)
  rw [upd_ne hb]; exact e
theorem Kp.new {ps : List Addr} {H : Hp} {p : Addr} {o : HO} (h : H p = none) : Kp ps H (upd H p o) := fun b x n e => by
  rw [upd_ne (ne_of_none e h)]; exact e
/-- a place that was new at H is written later -/
theorem Kp.put {ps : List Addr} {H H1 : Hp} {p : Addr} {o : HO} (k : Kp ps H H1) (h : H p = none) : Kp ps H (upd H1 p o) := fun b x n e => by
  rw [upd_ne (ne_of_none e h)]; exact k b x n e
theorem Kp.seq {ps : List Addr} {K : PySem.W.Frag} {H H1 : Hp} {a : Addr} {xs : List V} (k : Kp ps H H1) (n : a ∉ ps) (h : SqL K H a xs) : SqL K H1 a xs := by
  rcases h with (h | ⟨o, h⟩) | h
  · exact .inl (.inl (k _ _ n h))
  · exact .inl (.inr ⟨o, k _ _ n h⟩)
  · exact .inr h
theorem Kp.free {H H1 : Hp} {ps : List Addr} (k : Kp ps H H1) {q : Addr} (n : q ∉ ps) (h : H1 q = none) : H q = none := by
  cases e : H q with
  | none => rfl
  | some o => rw [k q o n e] at h; cases h
theorem sq_new {K : PySem.W.Frag} {H : Hp} {p : Addr} {xs : List V} : SqL K (upd H p (.lst xs)) p xs := .inl (.inl upd_same)
theorem sq_at {K : PySem.W.Frag} {H : Hp} {p : Addr} {xs : List V} (h : H p = some (.lst xs)) : SqL K H p xs := .inl (.inl h)
theorem upd_upd {H : Hp} {p : Addr} {a b : HO} : upd (upd H p a) p b = upd H p b := by
  funext x
  by_cases h : x = p
  · subst h; rw [upd_same, upd_same]
  · rw [upd_ne h, upd_ne h, upd_ne h]

/-! the law's own draws: a pool is a list of three ints -/
def PoolO (n : Int) (o : HO) : Prop := ∃ d c x : Int, o = .lst [.int d, .int c, .int x] ∧ 0 ≤ d ∧ 0 ≤ c ∧ c ≤ n
theorem PoolO.up {n m : Int} {o : HO} (h : PoolO n o) (l : n ≤ m) : PoolO m o := by
  obtain ⟨d, c, x, e, h1, h2, h3⟩ := h
  exact ⟨d, c, x, e, h1, h2, by omega⟩
def spTake : Sp := fun vs H Q _ => ∃ (p : Addr) (n wide : Int) (o : HO), vs = [.ref p, .int wide] ∧ H p = some o ∧ PoolO n o ∧ n ≤ 1000000000 ∧ 0 < wide ∧ wide < 1073741824 ∧
  ∀ (r : Int) (o' : HO), 0 ≤ r → r < wide → PoolO (n + 1) o' → Q (.int r) (upd H p o')
def spPool (K : PySem.W.Frag) : Sp := fun vs H Q _ => ∃ (a : Addr) (ns : List Int) (i : Int), vs = [.ref a, .int i] ∧ SqL K H a (ns.map V.int) ∧ ns.length ≤ 63 ∧ 0 ≤ i ∧ i ≤ 1000 ∧
  ∀ (p : Addr) (o : HO), H p = none → PoolO (1000 * i) o → Q (.ref p) (upd H p o)

/-! lists of ints -/
theorem atI_int {ms : List Int} {i : Int} (h0 : 0 ≤ i) (h1 : i < ms.length) : ∃ m, m ∈ ms ∧ atI (ms.map V.int) i = some (.int m) ∧ ms[i.toNat]? = some m := by
  obtain ⟨j, rfl⟩ := Int.eq_ofNat_of_zero_le h0
  have hj : j < ms.length := by omega
  refine ⟨ms[j], List.getElem_mem hj, atI_nat ?_, by rw [Int.toNat_natCast, List.getElem?_eq_getElem hj]⟩
  rw [List.getElem?_map, List.getElem?_eq_getElem hj]; rfl
theorem atI_intV {ms : List Int} {i : Int} (h0 : 0 ≤ i) (h1 : i < ms.length) : atI (ms.map V.int) i = some (.int (ms.getD i.toNat 0)) := by
  obtain ⟨m, _, e, g⟩ := atI_int h0 h1
  rw [e, List.getD_eq_getElem?_getD, g]; rfl
theorem dp_ints {K : PySem.W.Frag} {H : Hp} : ∀ ns : List Int, DpAll K H (ns.map V.int) (ns.map PyData.int)
  | [] => .nil
  | n :: r => .cons (.int n) (dp_ints r)
theorem dp_lst {K : PySem.W.Frag} {H : Hp} {a : Addr} {ns : List Int} (h : SqL K H a (ns.map V.int)) : Dp K H (.ref a) (.list (ns.map PyData.int)) := .lst h (dp_ints ns)
section
variable {X : Cx}
/-- == and != of two lists of ints -/
def rEqI (K : PySem.W.Frag) : R2 := fun x y H Q => ∃ (a b : Addr) (ns ms : List Int), x = .ref a ∧ y = .ref b ∧ SqL K H a (ns.map V.int) ∧ SqL K H b (ms.map V.int) ∧ Q (.bl (decide (ns = ms))) H
def rNeI (K : PySem.W.Frag) : R2 := fun x y H Q => ∃ (a b : Addr) (ns ms : List Int), x = .ref a ∧ y = .ref b ∧ SqL K H a (ns.map V.int) ∧ SqL K H b (ms.map V.int) ∧ Q (.bl (!decide (ns = ms))) H
theorem op_eqI (hu : X.A.units + 64 < cLine) : OpR X (compareOp .Eq) (rEqI X.K) := by
  intro pins s σ H x y v u Q I rx ry h
  obtain ⟨a, b, ns, ms, rfl, rfl, ha, hb, q⟩ := h
  cases rx; cases ry
  obtain ⟨us, rv, hl, _⟩ := I.list ha
  obtain ⟨ws, rw', hl', _⟩ := I.list hb
  exact PySem.W.eq_intsK hl.isList rv.ints hl'.isList rw'.ints hu ⟨.bl (decide (ns = ms)), H, I, rfl, q⟩
theorem op_neI (hu : X.A.units + 64 < cLine) : OpR X (compareOp .NotEq) (rNeI X.K) := by
  intro pins s σ H x y v u Q I rx ry h
  obtain ⟨a, b, ns, ms, rfl, rfl, ha, hb, q⟩ := h
  cases rx; cases ry
  obtain ⟨us, rv, hl, _⟩ := I.list ha
  obtain ⟨ws, rw', hl', _⟩ := I.list hb
  exact PySem.W.ne_intsK hl.isList rv.ints hl'.isList rw'.ints hu ⟨.bl (!decide (ns = ms)), H, I, rfl, q⟩
end
/-! a row laid over another one -/
def laidF (r : List Int) (n : Nat) (d : List Int) : List Int :=
  if d = [] then r else (r ++ List.replicate (n - r.length) 0).take n ++ d ++ (r ++ List.replicate (n - r.length) 0).drop (n + d.length)
theorem laidF_nil (r : List Int) (n : Nat) : laidF r n [] = r := if_pos rfl
theorem laidF_cons {r : List Int} {n : Nat} {d : List Int} (h : d ≠ []) : laidF r n d = (r ++ List.replicate (n - r.length) 0).take n ++ d ++ (r ++ List.replicate (n - r.length) 0).drop (n + d.length) := if_neg h
theorem laidF_length {r : List Int} {n : Nat} {d : List Int} (h : d ≠ []) : (laidF r n d).length = max r.length (n + d.length) := by
  rw [laidF_cons h, List.length_append, List.length_append, List.length_take, List.length_drop, List.length_append, List.length_replicate]
  omega
theorem pad_get (r : List Int) (m i : Nat) : (r ++ List.replicate m 0)[i]?.getD 0 = r.getD i 0 := by
  rw [List.getD_eq_getElem?_getD]
  by_cases h : i < r.length
  · rw [List.getElem?_append_left h]
  · rw [List.getElem?_append_right (by omega), List.getElem?_eq_none (l := r) (by omega)]
    by_cases h2 : i - r.length < m
    · rw [List.getElem?_replicate, if_pos h2]; rfl
    · rw [List.getElem?_eq_none (by rw [List.length_replicate]; omega)]
theorem laidF_getD {r : List Int} {n : Nat} {d : List Int} (h : d ≠ []) (i : Nat) : (laidF r n d)[i]?.getD 0 = if n ≤ i ∧ i < n + d.length then d.getD (i - n) 0 else r.getD i 0 := by
  have lt : ((r ++ List.replicate (n - r.length) 0).take n).length = n := by
    rw [List.length_take, List.length_append, List.length_replicate]; omega
  rw [laidF_cons h, List.append_assoc]
  by_cases h1 : i < n
  · rw [if_neg (by omega), List.getElem?_append_left (by rw [lt]; exact h1), List.getElem?_take_of_lt h1]
    exact pad_get r _ i
  · rw [List.getElem?_append_right (by rw [lt]; omega), lt]
    by_cases h2 : i < n + d.length
    · rw [if_pos ⟨by omega, h2⟩, List.getElem?_append_left (by omega), List.getD_eq_getElem?_getD]
    · rw [if_neg (by omega), List.getElem?_append_right (by omega), List.getElem?_drop, ← pad_get r (n - r.length) i]
      congr 2
      omega
theorem laidF_get {r : List Int} {n : Nat} {d : List Int} {i : Nat} (h : d ≠ []) (hi : i < (laidF r n d).length) : (laidF r n d)[i]? = some (if n ≤ i ∧ i < n + d.length then d.getD (i - n) 0 else r.getD i 0) := by
  rw [← laidF_getD h i, List.getElem?_eq_getElem hi]; rfl
theorem ext_getD {xs ys : List Int} (hl : xs.length = ys.length) (h : ∀ i, i < xs.length → xs[i]?.getD 0 = ys[i]?.getD 0) : xs = ys := by
  apply List.ext_getElem hl
  intro i h1 h2
  have := h i h1
  rw [List.getElem?_eq_getElem h1, List.getElem?_eq_getElem h2] at this
  exact this
/-- laid over once more: the same -/
theorem laidF_twice (r : List Int) (n : Nat) (d : List Int) : laidF (laidF r n d) n d = laidF r n d := by
  by_cases h : d = []
  · subst h; rw [laidF_nil, laidF_nil]
  · have l1 := laidF_length (r := r) (n := n) h
    have l2 := laidF_length (r := laidF r n d) (n := n) h
    refine ext_getD (by omega) fun i hi => ?_
    rw [laidF_getD h, laidF_getD h]
    split
    · rfl
    · next c => rw [List.getD_eq_getElem?_getD, laidF_getD h, if_neg c]
theorem flat_rep (m : Nat) (v : V) : (List.replicate m [v]).flatten = List.replicate m v := by
  induction m with
  | zero => rfl
  | succ m ih => rw [List.replicate_succ, List.flatten_cons, ih, List.replicate_succ]; rfl
theorem all_true (n : Nat) : (List.replicate n true).all id = true := by
  rw [List.all_eq_true]
  intro x hx
  exact (List.mem_replicate.mp hx).2
def spBytes : Sp := fun vs H Q _ => ∃ (p : Addr) (n : Int) (o : HO), vs = [.ref p] ∧ H p = some o ∧ PoolO n o ∧ n ≤ 900000000 ∧
  ∀ (H' : Hp) (q : Addr) (bs : List Int) (o' : HO), H q = none → H' q = some (.lst (bs.map V.int)) → H' p = some o' → PoolO (n + 1000) o' → Kp [p] H H' → bs.length ≤ 400 → (∀ b ∈ bs, 0 ≤ b ∧ b ≤ 255) → Q (.ref q) H'
def spLaid (K : PySem.W.Frag) : Sp := fun vs H Q _ => ∃ (a b : Addr) (r : List Int) (n : Nat) (d : List Int), vs = [.ref a, .int n, .ref b] ∧ SqL K H a (r.map V.int) ∧ H b = some (.lst (d.map V.int)) ∧ r.length ≤ 10000 ∧ n ≤ 4400 ∧ d.length ≤ 4400 ∧
  ∀ (H' : Hp) (q : Addr), H q = none → H' q = some (.lst ((laidF r n d).map V.int)) → Same H H' → Q (.ref q) H'
def spDue (K : PySem.W.Frag) : Sp := fun vs H Q _ => ∃ (a b : Addr) (r : List Int) (n : Nat) (d : List Int), vs = [.ref a, .int n, .ref b] ∧ SqL K H a (r.map V.int) ∧ SqL K H b (d.map V.int) ∧ r.length ≤ 10000 ∧ n ≤ 4400 ∧ d.length ≤ 4400 ∧
  ∀ (H' : Hp) (q : Addr), H q = none → H' q = some (.lst ((laidF r n d).map V.int)) → Same H H' → Q (.ref q) H'
def spFits (K : PySem.W.Frag) : Sp := fun vs H Q _ => ∃ (a b : Addr) (xs ys : List Int), vs = [.ref a, .ref b] ∧ H a = some (.lst (xs.map V.int)) ∧ SqL K H b (ys.map V.int) ∧ xs.length ≤ 100000 ∧
  ∀ H' : Hp, Same H H' → Q (.bl (decide (xs = ys))) H'
def spLaw (K : PySem.W.Frag) : Sp := fun vs H Q _ => ∃ (a : Addr) (ns : List Int), vs = [.ref a] ∧ SqL K H a (ns.map V.int) ∧ ns.length ≤ 63 ∧ ∀ H' : Hp, Q (.bl true) H'
theorem step_same {H H1 H2 : Hp} {p : Addr} (s : Same H H1) (n : H p = none) (k : Kp [p] H1 H2) : Same H H2 := fun b o e =>
  k b o (fun z => ne_of_none e n (List.mem_singleton.mp z)) (s b o e)
theorem put_same {H H1 : Hp} {p : Addr} {o : HO} (s : Same H H1) (n : H p = none) : Same H (upd H1 p o) := fun b x e => by
  rw [upd_ne (ne_of_none e n)]; exact s b x e
theorem ixN_zero {n : Nat} (h : 0 < n) : ixN n 0 = some 0 := by
  unfold ixN
  rw [if_pos (by decide), if_pos (by omega)]; rfl
theorem laidF_le {r d : List Int} {n m : Nat} (h : r.length ≤ m ∧ n + d.length ≤ m) : (laidF r n d).length ≤ m := by
  by_cases e : d = []
  · subst e; rw [laidF_nil]; exact h.1
  · rw [laidF_length e]; omega
end Sip
namespace Sip
open PySem PySem.Spec PyProof.Rows L2 PySem.Builtin PySem.Builtin.Str PySem.Builtin.Int PySem.Builtin.Float

def figs : List Nat := [48, 49, 50, 51, 52, 53, 54, 55, 56, 57, 97, 98, 99, 100, 101, 102]
/-- two figures of sixteen -/
def two (n : Nat) : Str := ⟨#[figs.getD (n / 16) 0, figs.getD (n % 16) 0]⟩
def hexSpec : FormatSpec := { fill := 48, align := 61, width := some 2, type := some 120 }
theorem hex_parse : parseFormatSpec (Str.ofString "02x").cps.toList "int" 62 = .ok hexSpec := by kernel_rfl
theorem hex_ascii : (((Str.ofString "02x").cps.toList.drop 1).any (· ≥ 128) || ((Str.ofString "02x").cps.getD 0 0 ≥ 128 && !([60, 62, 61, 94] : List Nat).contains ((Str.ofString "02x").cps.getD 1 0))) = false := by decide +kernel
theorem hex_some : ((Str.ofString "02x").length == 0) = false := by decide +kernel
theorem hex_ex : ∃ F : Int → Str, (∀ (a : Int) (t u : Tok), Gives («int.__format__» ⟨[.int a t, .str (Str.ofString "02x") u], []⟩) (.str (F a))) ∧ ∀ b : Fin 256, F (b.val : Int) = two b.val := by
  apply Exists.intro
  apply And.intro
  · intro a t u prog w A R s hq
    unfold «int.__format__»
    simp only [selfAndOne, noKeywords, Int.intOfSelf, asInt?, asStr?, List.isEmpty_nil, if_true, pure_bind, bind_pure, bind_assoc, hex_some, hex_ascii, Bool.false_eq_true, if_false,
      show (Value.str (Str.ofString "02x") u == Value.none) = false from rfl]
    refine wpAny_bind (wpAny_typeNameOf (T := "str") (typeIs_str _ _ _) (by decide) fun _ => wpAny_bind (wpAny_typeNameOfCut_int ?_))
    simp only [hex_parse]
    refine PySem.W.KFB.if_so (by decide +kernel) ?_
    show wpAny _ _ (retStr _) _ _ _
    unfold retStr
    exact wpAny_bind (wpAny_mkStr (wpAny_pure hq.2) hq.1)
  · decide +kernel
end Sip
namespace Sip
open PySem PySem.Spec PyProof.Rows L2 TL

section
variable {X : Cx}
/-- f'{b:02x}' of a byte -/
def tHex (te : TE) : TE := fun σ H Q => te σ H fun x H1 => ∃ b : Nat, b < 256 ∧ x = .int b ∧ Q (.str (two b)) H1
theorem pe_hex {e : Expr} {te : TE} {k : Nat} {p1 p2 p3 p4 : Pos} (he : PE X e te) :
    PE X (.JoinedStr [.FormattedValue e (-1) (some (.JoinedStr [.Constant (.str (Str.ofString "02x")) k p1] p2)) p3] p4) (tHex te) := by
  have hs : PE X (.JoinedStr [.Constant (.str (Str.ofString "02x")) k p1] p2) (tC (.str (Str.ofString "02x"))) := pe_joined1 pe_str
  obtain ⟨F, g1, g2⟩ := hex_ex
  refine ⟨fun pins s σ H Q I h => wpAny_JoinedStr_one (wpAny_FormattedValue_spec (thn (he.run pins s σ H _ I h) fun v s1 ⟨x, H1, I1, r1, q1⟩ => ?_))⟩
  obtain ⟨b, hb, rfl, q⟩ := q1
  obtain ⟨t, rfl⟩ := r1
  refine thn (hs.run pins s1 σ H1 (fun y H2 => y = .str (Str.ofString "02x") ∧ H2 = H1) I1 ⟨rfl, rfl⟩) fun u s2 ⟨y, H2, I2, r2, ey, eH⟩ => ?_
  subst ey eH
  obtain ⟨t2, rfl⟩ := r2
  have e2 : F (b : Int) = two b := g2 ⟨b, hb⟩
  refine ⟨_, _, rfl, wpAny_formatField_spec (x := F (b : Int)) hex_some (fun s' => typeIs_int s' _ _) PySem.F.slot_int_format PySem.F.entry_int_format PySem.F.args_int_format_2 (fun u => g1 b t u) ?_ (by rw [sizeLine_eq]; decide +kernel) (by rw [e2, sizeLine_eq]; show (2 : Nat) ≤ _; decide)⟩
  rw [e2]
  exact ⟨.str (two b), H2, (I2.tok _).tok _, ⟨_, rfl⟩, q⟩
end

/-! the text of a row, as codes -/
def twoL (b : Int) : List Nat := [figs.getD (b.toNat / 16) 0, figs.getD (b.toNat % 16) 0]
def txL (bs : List Int) : List Nat := bs.flatMap twoL
def tx (bs : List Int) : Str := ⟨(txL bs).toArray⟩
def Bytes (bs : List Int) : Prop := ∀ b ∈ bs, 0 ≤ b ∧ b ≤ 255
theorem txL_length : ∀ bs : List Int, (txL bs).length = 2 * bs.length
  | [] => rfl
  | b :: r => by
    show (twoL b ++ txL r).length = 2 * (r.length + 1)
    rw [List.length_append, txL_length r]
    show 2 + 2 * r.length = _
    omega
theorem tx_length (bs : List Int) : (tx bs).length = 2 * bs.length := by
  show (txL bs).toArray.size = _
  rw [List.size_toArray, txL_length]
theorem txL_append (a b : List Int) : txL (a ++ b) = txL a ++ txL b := List.flatMap_append
theorem tx_append (a b : List Int) : tx (a ++ b) = tx a ++ tx b := ext_toList (by
  show (txL (a ++ b)).toArray.toList = ((txL a).toArray ++ (txL b).toArray).toList
  rw [Array.toList_append, txL_append])
/-- a figure's worth -/
def wor (c : Nat) : Nat := figs.idxOf c
theorem wor_figs : ∀ j : Fin 16, wor (figs.getD j.val 0) = j.val := by decide
theorem twoL_back {b : Int} (h : 0 ≤ b ∧ b ≤ 255) : ∃ i j : Nat, i < 16 ∧ j < 16 ∧ twoL b = [figs.getD i 0, figs.getD j 0] ∧ b = 16 * (i : Int) + j :=
  ⟨b.toNat / 16, b.toNat % 16, by omega, by omega, rfl, by omega⟩
theorem figs_inj {i j : Nat} (hi : i < 16) (hj : j < 16) (e : figs.getD i 0 = figs.getD j 0) : i = j := by
  have a : wor (figs.getD i 0) = i := wor_figs ⟨i, hi⟩
  have b : wor (figs.getD j 0) = j := wor_figs ⟨j, hj⟩
  exact a.symm.trans ((congrArg wor e).trans b)
theorem txL_inj : ∀ {a b : List Int}, Bytes a → Bytes b → txL a = txL b → a = b
  | [], [], _, _, _ => rfl
  | [], y :: r, _, _, e => by cases e
  | x :: r, [], _, _, e => by cases e
  | x :: r, y :: q, ha, hb, e => by
    obtain ⟨i, j, hi, hj, e1, e2⟩ := twoL_back (ha x (List.mem_cons_self ..))
    obtain ⟨m, n, hm, hn, e3, e4⟩ := twoL_back (hb y (List.mem_cons_self ..))
    have e5 : twoL x ++ txL r = twoL y ++ txL q := e
    rw [e1, e3] at e5
    have e6 := List.cons.inj e5
    have e7 := List.cons.inj e6.2
    have k1 := figs_inj hi hm e6.1
    have k2 := figs_inj hj hn e7.1
    have k3 := txL_inj (fun z hz => ha z (List.mem_cons_of_mem _ hz)) (fun z hz => hb z (List.mem_cons_of_mem _ hz)) e7.2
    rw [e2, e4, k1, k2, k3]
theorem tx_inj {a b : List Int} (ha : Bytes a) (hb : Bytes b) (e : tx a = tx b) : a = b := txL_inj ha hb (by
  have := congrArg (fun s : Str => s.cps.toList) e
  exact this)
theorem tx_eq {a b : List Int} (ha : Bytes a) (hb : Bytes b) : decide (V.str (tx a) = V.str (tx b)) = decide (a = b) := by
  by_cases h : a = b
  · subst h; rw [decide_eq_true rfl, decide_eq_true rfl]
  · rw [decide_eq_false h, decide_eq_false]
    intro z
    exact h (tx_inj ha hb (V.str.inj z))
/-- joined from its parts -/
theorem join_two : ∀ bs : List Int, Str.join (Str.ofString "") (bs.map fun b => two b.toNat) = tx bs := fun bs => ext_toList (by
  show tl (Str.join (Str.ofString "") _) = txL bs
  rw [tl_join]
  have e0 : tl (Str.ofString "") = [] := by decide +kernel
  rw [e0, List.map_map]
  induction bs with
  | nil => rfl
  | cons b r ih =>
    cases r with
    | nil => show twoL b = twoL b ++ []; rw [List.append_nil]
    | cons c q =>
      show twoL b ++ ([] ++ joinL [] ((c :: q).map _)) = twoL b ++ txL (c :: q)
      rw [List.nil_append, ih])
/-- its signs by place -/
theorem txL_get : ∀ {bs : List Int} {i : Nat} {b : Int}, bs[i]? = some b → (txL bs)[2 * i]? = some (figs.getD (b.toNat / 16) 0) ∧ (txL bs)[2 * i + 1]? = some (figs.getD (b.toNat % 16) 0)
  | [], _, _, h => by simp at h
  | x :: r, 0, b, h => by
    have e : x = b := Option.some.inj h
    subst e
    exact ⟨rfl, rfl⟩
  | x :: r, i + 1, b, h => txL_get (bs := r) (i := i) (b := b) h
theorem tx_at {bs : List Int} {i : Nat} {b : Int} (h : bs[i]? = some b) : atI (tx bs).cps.toList ((2 * i : Nat) : Int) = some (figs.getD (b.toNat / 16) 0) ∧ atI (tx bs).cps.toList ((2 * i + 1 : Nat) : Int) = some (figs.getD (b.toNat % 16) 0) :=
  ⟨atI_nat (txL_get h).1, atI_nat (txL_get h).2⟩
def FIG : Str := Str.ofString "0123456789abcdef"
theorem fig_find : ∀ j : Fin 16, Txt.find FIG ⟨#[figs.getD j.val 0]⟩ = (j.val : Int) := by decide +kernel
theorem fig_at {j : Nat} (h : j < 16) : atI FIG.cps.toList (j : Int) = some (figs.getD j 0) := by
  have e : FIG.cps.toList = figs := by decide +kernel
  rw [e]
  refine atI_nat ?_
  rw [List.getD_eq_getElem?_getD, List.getElem?_eq_getElem (show j < figs.length from h)]; rfl
/-! slices of lists of ints -/
theorem cut_map (bs : List Int) (lo hi : Option Int) : ∃ cs : List Int, cutV (bs.map V.int) lo hi = cs.map V.int ∧ cs.length ≤ bs.length ∧ ∀ x ∈ cs, x ∈ bs := by
  refine ⟨(bs.drop (HT.sIx bs.length 0 lo)).take (HT.sIx bs.length bs.length hi - HT.sIx bs.length 0 lo), ?_, ?_, ?_⟩
  · unfold cutV
    rw [List.length_map, List.map_take, List.map_drop]
  · rw [List.length_take, List.length_drop]; omega
  · intro x hx
    exact List.mem_of_mem_drop (List.mem_of_mem_take hx)
theorem size_two (n : Nat) : Builtin.Range.rangeSize 0 ((2 * n : Nat) : Int) 2 = (n : Int) := by
  unfold Builtin.Range.rangeSize
  rw [if_pos (by decide)]
  split <;> omega
theorem range_two (n : Nat) (h : n ≤ 1000000) : RgC 0 ((2 * n : Nat) : Int) 2 n := by
  refine ⟨by decide, by decide, ?_, size_two n⟩
  have f : ∀ x : Int, 0 ≤ x → x ≤ 3000000 → Builtin.Range.rangeFitsLong x = true := fun x h0 h1 => by
    unfold Builtin.Range.rangeFitsLong
    rw [Bool.and_eq_true, decide_eq_true_eq, decide_eq_true_eq]
    omega
  unfold Builtin.Range.small
  rw [size_two, f 0 (by decide) (by decide), f ((2 * n : Nat) : Int) (by omega) (by omega), f 2 (by decide) (by decide), f (n : Int) (by omega) (by omega)]
  simp only [Bool.true_and, show (2 : Int) > 0 from by decide, if_true, Bool.or_eq_true, beq_iff_eq]
  exact .inr (f _ (by omega) (by omega))
end Sip
namespace Sip
open PySem PySem.Spec PyProof.Rows L2 TL
def spWorth : Sp := fun vs H Q _ => ∃ j : Nat, j < 16 ∧ vs = [.str ⟨#[figs.getD j 0]⟩] ∧ Q (.int j) H
def spRead : Sp := fun vs H Q _ => ∃ bs : List Int, vs = [.str (tx bs)] ∧ Bytes bs ∧ bs.length ≤ 8000 ∧ ∀ (H' : Hp) (p : Addr), H p = none → H' p = some (.lst (bs.map V.int)) → Same H H' → Q (.ref p) H'
def spTxt (K : PySem.W.Frag) : Sp := fun vs H Q _ => ∃ (a : Addr) (bs : List Int), vs = [.ref a] ∧ SqL K H a (bs.map V.int) ∧ Bytes bs ∧ bs.length ≤ 8000 ∧ ∀ H' : Hp, Same H H' → Q (.str (tx bs)) H'
theorem get_int {xs : List Int} {i : Nat} {x : V} (h : (xs.map V.int)[i]? = some x) : ∃ hi : i < xs.length, x = .int xs[i] := by
  have hi : i < xs.length := by
    have := (List.getElem?_eq_some_iff.mp h).1
    rwa [List.length_map] at this
  refine ⟨hi, ?_⟩
  rw [List.getElem?_map, List.getElem?_eq_getElem hi] at h
  exact (Option.some.inj h).symm
theorem sum_two : ∀ bs : List Int, ((bs.map fun b => two b.toNat).map (·.length)).sum = 2 * bs.length
  | [] => rfl
  | b :: r => by
    show 2 + ((r.map fun b => two b.toNat).map (·.length)).sum = 2 * (r.length + 1)
    rw [sum_two r]; omega
theorem fit_two (bs : List Int) (h : bs.length ≤ 8000) : ((bs.map fun b => two b.toNat).map (·.length)).sum + (bs.map fun b => two b.toNat).length * (Str.ofString "").length ≤ 16777216 := by
  rw [sum_two, show (Str.ofString "").length = 0 by decide +kernel]; omega
end Sip
namespace Sip
open PySem PySem.Spec PyProof.Rows L2 TL
def spAsked : Sp := fun vs H Q _ => ∃ (a : Addr) (bs : List Int), vs = [.ref a] ∧ H a = some (.lst (bs.map V.int)) ∧ Bytes bs ∧ bs.length ≤ 4000 ∧ ∀ H' : Hp, Same H H' → Q (.bl true) H'
end Sip
/-! a list comprehension whose element may raise: what is raised leaves the comprehension -/
namespace Sip
open PySem PySem.Spec PyProof.Rows L2

theorem note_same {e : Value} {a b : Env} (h : a.frame = b.frame) : noteFrame e a = noteFrame e b := by
  unfold noteFrame PySem.frameOf
  rw [h]

/-- a comprehension's end, either way -/
def endX (M : Model) (A : Around) (E : Value → Shared → Prop) (Q : Value → Shared → Prop) (acc : Value) (ce : Env) (r : Result) (s' : Shared) : Prop :=
  ∃ m, s'.heap.Ns ce.locals m ∧ ∀ h', Heap.SameBut ce.locals s'.heap h' → match r with
    | .ok _ => Q acc { s' with heap := h' }
    | .error x => wpAny M A (passOn "comprehension.variables-let-go" x ce : Sem Value) (fun _ _ => False) E { s' with heap := h' }

theorem comp_run {M : Model} {A : Around} {E : Value → Shared → Prop} {s : Shared} {env : Env} {e : Expr} {scope : Scope} {pos : Pos} {na fi : Sem Value} {g : Comprehension} {gs : List Comprehension} {cl : List (Str × Addr)} {Q : Value → Shared → Prop}
    (hg : clausesOf e = g :: gs) (hs : ∀ x, foldedSetIterable g.iter env x = pure x) (hcl : closureFor scope env = pure cl) (hk : scope.kind = .function)
    (hn : ∀ x ∈ scope.names, x.2 = .local → scope.names.lookup x.1 = some .local)
    (h : wpAny M A fi (fun x s1 => wpAny M A (pyIter x) (fun it s2 => wpAny M A na (fun acc s3 => wpAny M A (newFunctionEnv scope env.globals cl [] env.qual none .none (some env)) (fun ce s4 =>
      codeAny M A (.compStart e 0 it acc { ce with scope := relabel scope env }) (endX M A E Q acc { ce with scope := relabel scope env }) s4) E s3) E s2) E s1) E s) :
    wpAny M A (comprehension e scope env pos na false fi none) Q E s := by
  unfold comprehension
  rw [hcl, hg]
  refine wpAny_bind (wpAny_mono h (fun x s1 h1 => ?_) fun _ _ z => z)
  refine wpAny_bind (wpAny_standAt (wpAny_bind (wpAny_of_eq (hs x) ?_)))
  refine wpAny_bind (wpAny_holding (wpAny_mono h1 (fun it s2 h2 => ?_) fun _ _ z => z))
  refine wpAny_standIf (wpAny_bind (wpAny_mono h2 (fun acc s3 h3 => ?_) fun _ _ z => z))
  refine wpAny_bind (wpAny_pure (wpAny_bind (wpAny_mono h3 (fun ce s4 h4 => ?_) fun _ _ z => z)))
  dsimp only
  have vs : ∀ x ∈ (scope.names.filter fun x => (x.2 == .local || x.2 == .cell) && x.1 != (".0" : Str)).reverse, x.2 = .local → Env.kindOf { ce with scope := relabel scope env } x.1 = some .local :=
    fun x hx hl => lookup_relabel_local (hn x (List.mem_filter.mp (List.mem_reverse.mp hx)).1 hl)
  refine wpAny_holding (wpAny_bind (wpAny_attempt (wpAny_holding (wpAny_run (codeAny_mono h4 fun r s' hr => ?_)))))
  obtain ⟨m, nm, hr⟩ := hr
  cases r with
  | ok f => exact wpAny_bind (wpAny_holding (wpAny_comp_letGo (cenv := { ce with scope := relabel scope env }) hk _ s' m vs nm fun h' _ _ sb => wpAny_pure (hr h' sb)))
  | error x => exact wpAny_bind (wpAny_holding (wpAny_comp_letGo (cenv := { ce with scope := relabel scope env }) hk _ s' m vs nm fun h' _ _ sb => wpAny_mono (hr h' sb) (fun _ _ f => f.elim) fun _ _ z => z))

theorem frames_to {h h' B B' : Heap} : ∀ {l : List Env}, h.FunFrames B l → (∀ b ∈ frs l, ∀ o, h.get? b = some o → h'.get? b = some o) → (∀ b ∈ frs l, B'.get? b = none) → h'.FunFrames B' l
  | [], _, _, _ => trivial
  | v :: l, f, k, n => by
    obtain ⟨f1, ⟨L, o, f2, f3, f4, f5⟩, f6⟩ := f
    have up : ∀ b ∈ frs l, b ∈ frs (v :: l) := fun b hb => by
      obtain ⟨x, hx, q⟩ := List.mem_filterMap.mp hb
      exact List.mem_filterMap.mpr ⟨x, List.mem_cons_of_mem _ hx, q⟩
    have hL : L ∈ frs (v :: l) := List.mem_filterMap.mpr ⟨v, List.mem_cons_self, f2⟩
    exact ⟨f1, ⟨L, o, f2, n L hL, k L hL o f4, f5⟩, frames_to f6 (fun b hb => k b (up b hb)) fun b hb => n b (up b hb)⟩

section
variable {X : Cx} {pins : List (Addr × Obj)} {σ : L2.St} {H3 : Hp} {s3 : Shared}
set_option maxHeartbeats 1000000 in
theorem comp_out {scope : Scope} {ce : Env} {fp : List Addr} {W : WX} {E : XK} {pb : List (Addr × Obj)} {σb : L2.St} {Hb : Hp} {sb s' : Shared} {u acc : Value} {Q : Value → Shared → Prop}
    (I3 : Inv X pins σ H3 s3) (hst : X.stack = X.env :: X.outer) (hfr : X.env.frame = some X.env.locals) (tk : Takes X W) (hfp : ∀ b ∈ fp, FpOk X pins H3 b)
    (cf : ce.frame = X.env.frame) (cL : ce.locals = s3.heap.objs.size) (Ib : Inv (X.blk s3 H3 scope ce fp) pb σb Hb sb) (hE : ∀ cls d H', E cls d H' → W cls d σ H')
    (c : CX X.prog X.w X.stack Hb sb E u s') :
    notedBy (model X.prog X.w) X.A ce (fun e s'' => endX (model X.prog X.w) X.A X.xe Q acc ce (.error e) s'') u s' := by
  obtain ⟨a, B, H', cls, d, rfl, fl, hok, ub, na, os, ag, hw⟩ := c
  have hA : X.A.frames = some (X.env :: X.outer) := by rw [I3.ok.frames, hst]
  have Bu : Un (frs X.stack) fp H3 Hb s3.heap sb.heap := Ib.base
  have HbC : Hb ce.locals = none := Ib.free
  obtain ⟨m, ⟨oC, es, ep, eC, dC, rC⟩, _⟩ := Ib.loc
  have eC : sb.heap.get? ce.locals = some oC := eC
  have nC : ce.locals ∉ frs X.stack := fun z => by
    rcases List.mem_cons.mp (I3.stkSub _ z) with z | z
    · have := I3.lt
      rw [← z, cL] at this
      exact absurd this (Nat.lt_irrefl _)
    · exact I3.nofs (Nat.le_of_eq cL.symm) z
  have BC : B.get? ce.locals = some oC := ub.keep _ _ eC HbC nC
  have H'C : H' ce.locals = none := ub.free _ _ eC HbC
  have ffl : ∀ b ∈ frs X.stack, ∃ o, s'.heap.get? b = some o ∧ ∀ vs, o.data ≠ .fields vs := fun b hb => (fl.2.2.1.mem hb).2
  show wpAny _ _ (noteFrame (.ref a) ce) _ _ s'
  rw [note_same cf]
  have fl2 := fl
  rw [hst] at fl2
  refine HandSPX.looks_onZ Zc.steady hA hfr fl2 fun h1 hh up1 => ?_
  obtain ⟨st1, en1, ff1, tr1⟩ := hh
  refine ⟨m, ⟨oC, es, ep, st1 _ _ BC, dC, rC⟩, fun h' sbut => ?_⟩
  -- the ground without the comprehension's own names
  obtain ⟨B', b1, b2⟩ := restrict B fun b => !decide (b = ce.locals)
  have Bto : ∀ b o, B.get? b = some o → b ≠ ce.locals → B'.get? b = some o := fun b o e n => by
    rw [b1 b (by simp [n])]; exact e
  have Bof : ∀ b o, B'.get? b = some o → B.get? b = some o ∧ b ≠ ce.locals := fun b o e => by
    by_cases n : b = ce.locals
    · rw [b2 b (by simp [n])] at e; cases e
    · rw [b1 b (by simp [n])] at e; exact ⟨e, n⟩
  have Bno : ∀ b, B.get? b = none → B'.get? b = none ∧ b ≠ ce.locals := fun b e => by
    have n : b ≠ ce.locals := fun z => by rw [z, BC] at e; cases e
    exact ⟨by rw [b1 b (by simp [n])]; exact e, n⟩
  have st2 : B'.StaysIn h' := fun b o e => by
    obtain ⟨e1, n⟩ := Bof b o e
    rw [sbut.2 b n]; exact st1 b o e1
  have ff2 : h'.FunFrames B' (X.env :: X.outer) := frames_to ff1 (fun b hb o e => by
    rw [sbut.2 b (Bno b (ff1.mem hb).1).2]; exact e) fun b hb => (Bno b (ff1.mem hb).1).1
  have tr2 : HandSPX.TracedZ h' B' a (Zc cls d) (rawInt X.env.locals) := by
    obtain ⟨oe, vs, T, oT, ts, t1, t2, t3, t4, t5, t6, t7, t8, t9⟩ := tr1
    exact ⟨oe, vs, T, oT, ts, by rw [sbut.2 a (Bno a en1).2]; exact t1, t2, t3, t4, (Bno T t5).1, t6, by rw [sbut.2 T (Bno T t5).2]; exact t7, t8, t9⟩
  show wpAny _ _ (passOn "comprehension.variables-let-go" (.ref a) ce : Sem Value) _ _ _
  obtain ⟨oe, vs, T, oT, ts, t1, t2, t3, t4, t5, t6, t7, t8, t9⟩ := id tr2
  unfold PySem.passOn
  refine wpAny_bind (wpAny_field t1 t3 t4 ?_)
  rw [if_neg (show ¬ ((Value.ref T == Value.none) = true) from by simp)]
  try refine wpAny_bind (wpAny_pure ?_)
  refine wpAny_bind (HandSPX.setFlight_anyZ (s := { s' with heap := h' }) st2 ff2 tr2 fun h2 k1 k2 k3 k4 => wpAny_throw (tk _ _ ?_))
  rw [cf, hfr] at k3
  -- the state without it
  obtain ⟨G, g1, g2⟩ := restrict h2 fun b => (B'.get? b).isSome || decide (b ∈ frs X.stack)
  have gB : ∀ b o, B'.get? b = some o → G.get? b = some o := fun b o e => by
    rw [g1 b (by simp [e])]; exact k1 b o e
  have gF : ∀ b ∈ frs X.stack, G.get? b = h2.get? b := fun b hb => g1 b (by simp [hb])
  have og : ∀ b o, G.get? b = some o → h2.get? b = some o ∧ ((B'.get? b).isSome = true ∨ b ∈ frs X.stack) := fun b o e => by
    cases q : ((B'.get? b).isSome || decide (b ∈ frs X.stack)) with
    | false => rw [g2 b q] at e; cases e
    | true => rw [g1 b q] at e; exact ⟨e, by simpa [Bool.or_eq_true] using q⟩
  -- a frame's object through all of it
  have fr : ∀ b ∈ frs X.stack, ∀ o, s'.heap.get? b = some o → ∃ sl, h2.get? b = some { o with slots := sl } := fun b hb o e => by
    obtain ⟨o2, e2, nf⟩ := ffl b hb
    rw [e] at e2; cases e2
    obtain ⟨sl1, e3⟩ := up1 b o e nf
    have nb : b ≠ ce.locals := fun z => nC (z ▸ hb)
    rw [← sbut.2 b nb] at e3
    obtain ⟨sl2, e4⟩ := k4 b _ e3 nf
    exact ⟨sl2, e4⟩
  have lt3 : ∀ b o, s3.heap.get? b = some o → b ≠ ce.locals := fun b o e z => by
    have := Heap.lt_size e
    rw [z, cL] at this
    exact absurd this (Nat.lt_irrefl _)
  have U : Un (frs X.stack) fp H3 H' s3.heap G := by
    refine ⟨fun b o e n hb hx => ?_, fun b o e n hb hx => ?_, fun b o e n hx => ?_, fun b o e hx => ?_, fun b xs e => ub.tups b xs (Bu.tups b xs e), fun b o v e => ub.frzs b o v (Bu.frzs b o v e), fun b ps e => ?_⟩
    · exact gB b o (Bto b o (ub.keep b o (Bu.keep b o e n hb hx) (Bu.free b o e n hx) hb) (lt3 b o e))
    · obtain ⟨sl, e1⟩ := Bu.slot b o e n hb hx
      obtain ⟨sl1, e2⟩ := ub.slot b _ e1 hb
      obtain ⟨sl2, e3⟩ := fr b hb _ e2
      exact ⟨sl2, by rw [gF b hb]; exact e3⟩
    · obtain ⟨o1, e1⟩ := Bu.there b o e hx
      exact ub.free b o1 e1 (Bu.free b o e n hx)
    · obtain ⟨o1, e1⟩ := Bu.there b o e hx
      by_cases hb : b ∈ frs X.stack
      · obtain ⟨sl1, e2⟩ := ub.slot b _ e1 hb
        obtain ⟨sl2, e3⟩ := fr b hb _ e2
        exact ⟨_, by rw [gF b hb]; exact e3⟩
      · obtain ⟨o2, e2⟩ := ub.there b o1 e1 hb
        exact ⟨o2, gB b o2 (Bto b o2 e2 (lt3 b o e))⟩
    · obtain ⟨m1, e1⟩ := Bu.tbls b ps e
      obtain ⟨m2, e2⟩ := ub.tbls b _ e1
      exact ⟨m1 ++ m2, by rw [e2]; simp⟩
  have hokG : HOk X.prog X.w H' G := fun b o q => (hok b o q).stay (fun c v hc r => gB c v (Bto c v r fun z => by
    rcases hc with hc | hc
    · rw [← hc, z, H'C] at q; cases q
    · rw [z, H'C] at hc; cases hc)) (fun _ r => r) fun _ _ r => r
  have IX : Inv X pins σ H' { s3 with heap := G, gens := s'.gens, drawn := s'.drawn, toks := s'.toks } :=
    I3.call (ch := fp) U hokG ag fun b hb => ⟨(hfp b hb).2.2.2.1, (hfp b hb).2.1, (hfp b hb).2.2.2.2.1, (hfp b hb).2.2.2.2.2⟩
  refine ⟨a, B', _, pins, σ, H', cls, d, rfl, IX, fun b o e hb => ?_, Heap.UpToSlots.of_keeps fun b o e => (og b o e).1, .inr (.inr ⟨k1, (Bno a en1).1, by rw [hst]; exact k2, k3⟩), na, os.trans Ib.os, ag, hE _ _ _ hw⟩
  obtain ⟨e1, w1⟩ := og b o e
  rcases w1 with w1 | w1
  · obtain ⟨o2, q2⟩ := Option.isSome_iff_exists.mp w1
    have := k1 b o2 q2
    rw [e1] at this; cases this
    exact q2
  · exact absurd w1 hb
end

/-- another wish about what is raised -/
abbrev withX (X : Cx) (xe : Value → Shared → Prop) : Cx := { X with xe := xe }
theorem swapX {X : Cx} {pins : List (Addr × Obj)} {σ : L2.St} {H : Hp} {s : Shared} (xe : Value → Shared → Prop) (I : Inv X pins σ H s) : Inv (withX X xe) pins σ H s :=
  ⟨⟨I.ok.mod, I.ok.kind, I.ok.glob, I.ok.blt, I.ok.above, I.ok.inj, I.ok.has, I.ok.cab, I.ok.hd, I.ok.frames, I.ok.stk, I.ok.exf, I.ok.bs, I.ok.bsz, I.ok.noex, I.ok.exfs, I.ok.funs, I.ok.frf⟩,
    I.os, I.bare, I.base, I.loc, I.cell, I.free, I.freeC, I.pin, I.hok, I.len⟩
theorem unswapX {X : Cx} {pins : List (Addr × Obj)} {σ : L2.St} {H : Hp} {s : Shared} {xe : Value → Shared → Prop} (I : Inv (withX X xe) pins σ H s) : Inv X pins σ H s :=
  ⟨⟨I.ok.mod, I.ok.kind, I.ok.glob, I.ok.blt, I.ok.above, I.ok.inj, I.ok.has, I.ok.cab, I.ok.hd, I.ok.frames, I.ok.stk, I.ok.exf, I.ok.bs, I.ok.bsz, I.ok.noex, I.ok.exfs, I.ok.funs, I.ok.frf⟩,
    I.os, I.bare, I.base, I.loc, I.cell, I.free, I.freeC, I.pin, I.hok, I.len⟩
section
variable {X : Cx}
/-- [elt for target in iter], where elt may raise: W tells what is then wanted -/
def tLcX (wi : TI) (g : TG) (te : XK → TE) (vs : List Nat) (W : WX) : TE := fun σ H Q => tLc wi g tYes (te fun cls d H' => W cls d σ H') vs σ H Q
set_option maxHeartbeats 2000000 in
theorem pe_lcX {elt tg iter : Expr} {scope : Scope} {own : List (Str × Nat)} {pos : Pos} {wi : TI} {g : TG} {te : XK → TE} {W : WX} (hc : X.calm = true) (hst : X.stack = X.env :: X.outer) (hfr : X.env.frame = some X.env.locals) (tk : Takes X W) (hN : X.N.Nodup)
    (hi : PI X tg iter wi) (ok : BlkOk X.N X.env.scope scope own)
    (hg : ∀ (s : Shared) (H : Hp) (C : Addr) (cl : List (Str × Addr)) (fp : List Addr), PG (X.blk s H scope (compEnvC scope cl C X.env) fp) tg g)
    (he : ∀ (s : Shared) (H : Hp) (C : Addr) (cl : List (Str × Addr)) (fp : List Addr) (xe : Value → Shared → Prop) (E : XK), Passes (CX X.prog X.w) (withX (X.blk s H scope (compEnvC scope cl C X.env) fp) xe) E →
      PE (withX (X.blk s H scope (compEnvC scope cl C X.env) fp) xe) elt (te E))
    (hs : ∀ x, foldedSetIterable iter X.env x = pure x := by intro _; rfl) : PE X (.ListComp elt [⟨tg, iter, [], 0⟩] scope pos) (tLcX wi g te (own.map (·.2)) W) := by
  refine ⟨fun pins s σ H Q I h => ?_⟩
  have h : tLc wi g tYes (te fun cls d H' => W cls d σ H') (own.map (·.2)) σ H Q := h
  generalize hE : (fun cls d H' => W cls d σ H' : XK) = E at h
  have hEW : ∀ cls d H', E cls d H' → W cls d σ H' := fun cls d H' q => by rw [← hE] at q; exact q
  rw [eval_ListComp]
  have cells : ∀ y ∈ scope.names, y.2 = .free → ∃ c, X.env.cells.lookup y.1 = some c := fun y hy e => (ok.free y hy e).elim (fun k => I.ok.has _ (.inl k)) fun k => I.ok.has _ (.inr k)
  refine comp_run rfl hs (closure_ok cells) ok.kind (fun y hy e => by rw [ok.uniq y hy, e]) (thn (hi.run pins s σ H _ I h) fun xv s1 hx => ?_)
  refine thn hx fun itv s2 h2 => ?_
  obtain ⟨it, fp, tn, J, H2, rfl, I2, T, st2, f2, q⟩ := h2
  refine wpAny_newObj_type (newEnv_comp ?_) (by show 0 ≤ sizeLine; decide)
  generalize eD : s2.heap.objs.size = D
  have nD : H2 D = none := I2.hok.fresh (Nat.le_of_eq eD)
  obtain ⟨Wi, ⟨m0, w0⟩, turn⟩ := q D nD
  generalize es3 : ({ s2 with heap := s2.heap.push { cls := .type "list", data := .seq ([] : List Value).toArray } } : Shared) = s3
  have p3 : s3.heap = s2.heap.push { cls := .type "list", data := .seq ([] : List Value).toArray } := by rw [← es3]
  have I3 : Inv X pins σ (upd H2 D (.lst [])) s3 := by
    subst es3
    refine I2.laid (t' := s2.toks) (fun b o e => Heap.get?_push_of_some _ e) (Nat.le_of_eq eD) ⟨Nat.zero_le _, [], 0, .nil, ?_⟩
    subst eD
    exact Heap.get?_push_size _ rfl
  have f3 : ∀ b ∈ fp, FpOk X pins (upd H2 D (.lst [])) b ∧ b < s3.heap.objs.size := fun b hb => by
    obtain ⟨o, e, _⟩ := T.obj _ _ st2 b hb
    have lt := Heap.lt_size e
    refine ⟨⟨?_, (f2 b hb).2⟩, by rw [p3, Heap.size_push]; exact Nat.lt_succ_of_lt lt⟩
    rw [upd_ne (by rw [← eD]; exact Nat.ne_of_lt lt)]
    exact (f2 b hb).1
  have st3 : tn 0 s3.heap := T.keep _ _ _ st2 fun b _ o e => by rw [p3]; exact Heap.get?_push_of_some _ e
  have I4 := block_start I3 ok hN f3
  generalize ecl : cellsFrom (s3.heap.objs.size + 1) scope.names (cloFrom X.env.cells scope.names []) = cl at I4 ⊢
  have pg := hg s3 (upd H2 D (.lst [])) s3.heap.objs.size cl fp
  have pe := he s3 (upd H2 D (.lst [])) s3.heap.objs.size cl fp
  have nf : ∀ b ∈ fp, (upd H2 D (.lst [])) b = none := fun b hb => (f3 b hb).1.1
  show codeAny _ _ (.compStart (.ListComp elt [⟨tg, iter, [], 0⟩] scope pos) 0 (.ref it) (.ref D) (compEnvC scope cl s3.heap.objs.size X.env)) (endX (model X.prog X.w) X.A X.xe (EP X pins σ Q) (.ref D) (compEnvC scope cl s3.heap.objs.size X.env)) { s3 with heap := pushCells (s3.heap.push { cls := .type "dict", data := .dict #[] }) scope.names }
  generalize ece : compEnvC scope cl s3.heap.objs.size X.env = ce at I4 pg pe ⊢
  have cL : ce.locals = s3.heap.objs.size := by subst ece; rfl
  have cF : ce.frame = X.env.frame := by subst ece; rfl
  generalize eH3 : upd H2 D (.lst []) = H3 at I3 I4 pg pe w0 nf f3
  generalize es4 : ({ s3 with heap := pushCells (s3.heap.push { cls := .type "dict", data := .dict #[] }) scope.names } : Shared) = s4 at I4 ⊢
  have st4 : tn 0 s4.heap := T.keep _ _ _ st3 fun b _ o e => by rw [← es4]; exact pushCells_keeps _ _ _ _ (Heap.get?_push_of_some _ e)
  generalize eY : X.blk s3 H3 scope ce fp = Y at I4 pg pe
  have Yi : ∀ {σ' : L2.St} {H' : Hp} {s' : Shared}, Inv Y [] σ' H' s' → (∀ b ∈ fp, H' b = none) → ∀ b ∈ fp, FpOk Y [] H' b := fun {σ' H' s'} I' hn b hb => by
    subst eY
    exact ⟨hn b hb, (I'.ok.exf b hb).1, I'.ok.exfs b hb, .inl hb, fun x c e => (I'.ok.exf b hb).2 x c e, fun p hp => absurd (show p ∈ ([] : List (Addr × Obj)) ++ [] from hp) (by simp)⟩
  -- what is raised in the block
  have out : ∀ {pb : List (Addr × Obj)} {σb : L2.St} {Hb : Hp} {sb s' : Shared} {u : Value}, Inv Y pb σb Hb sb → CX X.prog X.w X.stack Hb sb E u s' →
      notedBy (model X.prog X.w) X.A ce (fun e s'' => endX (model X.prog X.w) X.A X.xe (EP X pins σ Q) (.ref D) ce (.error e) s'') u s' := fun {pb σb Hb sb s' u} Ib c => by
    subst eY
    exact comp_out I3 hst hfr tk (fun b hb => (f3 b hb).1) cF cL Ib hEW c
  have Yp : Y.prog = X.prog ∧ Y.w = X.w ∧ Y.K = X.K ∧ Y.A = X.A ∧ Y.env = ce ∧ Y.stack = X.stack ∧ Y.xe = (fun _ _ => False) := by subst eY; exact ⟨rfl, rfl, rfl, rfl, rfl, rfl, rfl⟩
  have back : ∀ {H5 : Hp} {s6 : Shared}, Inv Y [] (wipe σ (own.map (·.2))) H5 s6 → Inv X pins σ H5 s6 ∧ H5 s3.heap.objs.size = none ∧ ∃ m, s6.heap.Ns ce.locals m := fun {H5 s6} I6 => by
    subst eY
    refine ⟨I3.call' (ch := fp) I6.os I6.base I6.hok I6.bare fun b hb => ?_, ?_, ?_⟩
    · obtain ⟨⟨_, z1, _, z3, z4, z5⟩, _⟩ := f3 b hb
      exact ⟨z3, z1, z4, z5⟩
    · have z : H5 ce.locals = none := I6.free
      rw [cL] at z; exact z
    · obtain ⟨m, hn, _⟩ := I6.loc
      exact ⟨m, hn⟩
  subst eY
  have loop : codeAny (model X.prog X.w) X.A (.compLoop (.ListComp elt [⟨tg, iter, [], 0⟩] scope pos) 0 (.ref it) (.ref D) ce) (endX (model X.prog X.w) X.A X.xe (EP X pins σ Q) (.ref D) ce) s4 := by
    refine compLoop_any (fun n s' => ∃ i H', Inv (X.blk s3 H3 scope ce fp) [] (wipe σ (own.map (·.2))) H' s' ∧ tn i s'.heap ∧ (∀ b ∈ fp, H' b = none) ∧ Wi i n H') (fun n s5 hI => ?_) m0 ⟨0, H3, I4, st4, nf, w0⟩
    obtain ⟨i, H5, I5, st5, n5, w5⟩ := hI
    rcases turn i n H5 w5 with ⟨stop, qq⟩ | ⟨go, Nx, hNx, step⟩
    · refine thnF (T.done (X.blk s3 H3 scope ce fp) rfl rfl rfl hc i [] s5 _ H5 (fun _ _ => False) I5 (Yi I5 n5) st5 stop) fun r s6 ⟨hr, I6⟩ => ?_
      subst hr
      obtain ⟨I7, nC, m, hn⟩ := back I6
      refine ⟨m, hn, fun h' sb => ?_⟩
      obtain ⟨c0, c1, c2, c3, c4, c5⟩ := I3.fpOk (Nat.le_refl _) nC
      rw [cL] at sb
      exact ⟨.ref D, H5, I7.turned (t' := s6.toks) (fun b o hb e => (sb.2 b hb).trans e) c0 c1 c3 c4 c5, rfl, qq⟩
    · refine thnF (T.item (X.blk s3 H3 scope ce fp) rfl rfl rfl hc i [] s5 _ H5 (fun _ _ => False) I5 (Yi I5 n5) st5 go) fun r s6 ⟨u, hr, h6⟩ => ?_
      subst hr
      refine thnF h6 fun _ s7 ⟨x, H7, I7, r7, y7, st7, n7⟩ => ?_
      have I7p := I7.pinned (Yi I7 n7) (T.obj _ _ st7)
      refine thnF (pg.run _ s7 _ H7 x u _ I7p r7 (step x H7 y7)) fun _ s8 ⟨σ8, H8, I8, w8, q8⟩ => wpAny_tests_nil ?_
      have q9 : te E σ8 H8 fun y H4 => ∃ acc, H4 D = some (.lst acc) ∧ acc.length < sizeLine ∧ Nx (upd H4 D (.lst (acc ++ [y]))) := q8
      rw [if_pos rfl]
      have pe1 := pe (fun u s' => ∃ pb σb Hb sb, Inv (X.blk s3 H3 scope ce fp) pb σb Hb sb ∧ CX X.prog X.w X.stack Hb sb E u s') E (fun pb σb Hb sb e s' Ib c => ⟨pb, σb, Hb, sb, unswapX Ib, c⟩)
      refine wpAny_mono (pe1.run _ s8 σ8 H8 _ (swapX _ I8) q9) (fun z s10 hz => ?_) (fun e s' hx => ?_)
      · obtain ⟨yv, H10, I10, r10, acc, d10, z10, nx⟩ := hz
        refine app_ok (X := X.blk s3 H3 scope ce fp) (unswapX I10) d10 z10 r10 fun s11 I11 => ?_
        obtain ⟨m', hm, w'⟩ := hNx _ nx
        have pin : ∀ b ∈ fp, ∀ o, s7.heap.get? b = some o → s11.heap.get? b = some o ∧ (upd H10 D (.lst (acc ++ [yv]))) b = none := fun b hb o e => by
          have z := I11.pin (b, o) (List.mem_append_right _ (List.mem_append_right _ (mem_pinsAt hb e)))
          exact ⟨z.1, z.2.1⟩
        refine ⟨m', hm, i + 1, _, (I11.unpinned (pins := [])).weak (by rw [← w8, wipe_length]) (fun j v e => ?_), T.keep _ _ _ st7 fun b hb o e => (pin b hb o e).1, fun b hb => ?_, w'⟩
        · rw [← w8] at e
          exact (wipe_some e).1
        · obtain ⟨o, e, _⟩ := T.obj _ _ st7 b hb
          exact (pin b hb o e).2
      · obtain ⟨pb, σb, Hb, sb, Ib, c⟩ := hx
        exact out Ib c
  exact codeAny_compStart_list loop (T.self X.A 0 _ _ _ st4 loop)
end
end Sip
namespace Sip
open PySem PySem.Spec PyProof.Rows L2 TL

section
variable {X : Cx}
/-- X(), X an own error class without an __init__ of its own -/
theorem pmk_own0 {C : Addr} {bmB : List Value} {B newId initId : String} {x : Str} {p pos : Pos} (F : ExcBaseFacts B newId initId bmB) (q : PySem.W.excIn X.K C bmB newId = true) (gC : X.mg x = some (.ref C)) (kC : PySem.W.keepIn X.K (.ref C) = true)
    (r : Raises X (.ref C)) (hg : Gl X x) (hdb : (x == ("__debug__" : Str)) = false := by decide) : PMk X (.Call (.Name x p) [] [] pos) (fun _ H Q => Q (.ref C) none H) := by
  intro pins s σ H Q I h
  refine wpAny_Call_Name_kw (ld_glob I hg gC (PySem.W.callWith_K0 I.kIn kC ?_) hdb)
  obtain ⟨bm, N, nm, qn, bs, hdct, sn, sub, ab, col, dd, k0, k1, k2, k3, k5, mN, hC, hN, hni, T⟩ := exc_obj I.kIn q
  exact wpAny_call_exc_subT (rest := []) F T hC hN hni (fun h' e hm => mk_of I hm r h (I.hok.gone hm.new)) (Nat.zero_le _)
/-- isinstance(e, c), e the caught error, whose class is to be shown -/
def rIsX (K : PySem.W.Frag) (D : Addr) (cls : Value) (d : Option Addr) (a : Addr) : List V → Hp → VK → Prop := fun xs H Q => cls = .ref D ∧ d = none ∧ rIsE K D a xs H Q
theorem call_isX {a D : Addr} {oe : Obj} {cls : Value} {d : Option Addr} {pn : List (Addr × Obj)} (C : ExcC X.K D) (hz : Zc cls d oe) (hf : ∃ vs, oe.data = .fields vs) : CallR (X.suite a ((a, oe) :: pn)) (.builtin "isinstance") (rIsX X.K D cls d a) := by
  intro pins s σ H xs us Q I r h
  obtain ⟨rfl, rfl, h⟩ := h
  exact call_isE C hz hf pins s σ H xs us Q I r h
end
/-- what the text's error classes are: C the one that is raised, S the one above it -/
structure Errs (K : PySem.W.Frag) (mg : Str → Option Value) (C S : Addr) : Prop where
  gP : mg "NoRow" = some (.ref C)
  gS : mg "SipError" = some (.ref S)
  xP : PySem.W.excIn K C [.type "ValueError", .type "Exception", .type "BaseException", .type "object"] "ValueError.__new__" = true
  kP : PySem.W.keepIn K (.ref C) = true
  bP : PySem.W.subIn K (.ref C) (.type "BaseException") = some true
  tP : PySem.W.typeIn K (.ref C) = some (.type "type")
  te : PySem.W.exmOne K (.ref C) (.ref C) = some true
  i1 : PySem.W.kitOne K (.ref C) (.ref S) = some true
  i2 : PySem.W.kitOne K (.ref C) (.type "ValueError") = some true
  ec : ExcC K C

/-! texts of plain signs -/
def Asc (z : Str) : Prop := ∀ c ∈ z.cps.toList, c < 128
theorem asc_append {a b : Str} (ha : Asc a) (hb : Asc b) : Asc (a ++ b) := fun c hc => by
  have e : (a ++ b).cps.toList = a.cps.toList ++ b.cps.toList := tl_append a b
  rw [e] at hc
  exact (List.mem_append.mp hc).elim (ha c) (hb c)
theorem asc_cut {z : Str} (h : Asc z) (lo hi : Option Int) : Asc (cutS z lo hi) := fun c hc => by
  have e : (cutS z lo hi).cps.toList = (z.cps.toList.drop (HT.sIx z.length 0 lo)).take (HT.sIx z.length z.length hi - HT.sIx z.length 0 lo) := rfl
  rw [e] at hc
  exact h c (List.mem_of_mem_drop (List.mem_of_mem_take hc))
theorem up_small : ∀ c : Fin 128, up1 c.val < 128 := by decide +kernel
theorem asc_upper {z : Str} (h : Asc z) : Asc (Txt.upper z) ∧ (Txt.upper z).length = z.length := by
  rw [upper_ascii h]
  refine ⟨fun c hc => ?_, ?_⟩
  · have e : (z.cps.map up1).toList = z.cps.toList.map up1 := Array.toList_map ..
    have hc : c ∈ (z.cps.map up1).toList := hc
    rw [e] at hc
    obtain ⟨b, hb, rfl⟩ := List.mem_map.mp hc
    exact up_small ⟨b, h b hb⟩
  · show (z.cps.map up1).size = z.cps.size
    exact Array.size_map ..
theorem len_append (a b : Str) : (a ++ b).length = a.length + b.length := strLen_append ..
theorem asc_one {c : Nat} (h : c < 128) : Asc ⟨#[c]⟩ := fun x hx => by
  have : x ∈ [c] := hx
  rw [List.mem_singleton.mp this]; exact h

/-! which texts are read, and to what -/
theorem find_fig : ∀ c : Fin 128, Txt.find FIG ⟨#[c.val]⟩ = if c.val ∈ figs then (wor c.val : Int) else -1 := by decide +kernel
theorem index_fig : ∀ c : Fin 128, c.val ∈ figs → Txt.index0 FIG ⟨#[c.val]⟩ = some (wor c.val) := by decide +kernel
def okT (cs : List Nat) : Prop := cs.length % 2 = 0 ∧ ∀ c ∈ cs, c ∈ figs
def rd (cs : List Nat) (i : Nat) : Int := 16 * (wor (cs.getD (2 * i) 0) : Int) + (wor (cs.getD (2 * i + 1) 0) : Int)
def rdL (cs : List Nat) : List Int := (List.range (cs.length / 2)).map (rd cs)
theorem rdL_length (cs : List Nat) : (rdL cs).length = cs.length / 2 := by
  unfold rdL; rw [List.length_map, List.length_range]
theorem rdL_get {cs : List Nat} {i : Nat} (h : i < cs.length / 2) : (rdL cs)[i]? = some (rd cs i) := by
  unfold rdL; rw [List.getElem?_map, List.getElem?_range h]; rfl
theorem get_at {cs : List Nat} {i : Nat} (h : i < cs.length) : atI cs (i : Int) = some (cs.getD i 0) ∧ cs.getD i 0 ∈ cs := by
  have e : cs.getD i 0 = cs[i] := by rw [List.getD_eq_getElem?_getD, List.getElem?_eq_getElem h]; rfl
  rw [e]
  exact ⟨atI_nat (List.getElem?_eq_getElem h), List.getElem_mem h⟩
theorem len_codes (z : Str) : z.length = z.cps.toList.length := by
  show z.cps.size = _
  exact (Array.length_toList ..).symm
def spWorthX (C : Addr) : Sp := fun vs H Q E => ∃ c : Nat, c < 128 ∧ vs = [.str ⟨#[c]⟩] ∧ (c ∈ figs → Q (.int (wor c : Nat)) H) ∧ (c ∉ figs → E (.ref C) none H)
def spReadX (C : Addr) : Sp := fun vs H Q E => ∃ z : Str, vs = [.str z] ∧ Asc z ∧ z.length ≤ 1000 ∧
  (okT z.cps.toList → ∀ (H' : Hp) (p : Addr), H p = none → H' p = some (.lst ((rdL z.cps.toList).map V.int)) → Same H H' → Q (.ref p) H') ∧ (¬ okT z.cps.toList → ∀ H' : Hp, Same H H' → E (.ref C) none H')
def spDueT : Sp := fun vs H Q _ => ∃ z : Str, vs = [.str z] ∧ Asc z ∧ z.length ≤ 1000 ∧
  (okT z.cps.toList → ∀ (H' : Hp) (p : Addr), H p = none → H' p = some (.lst ((rdL z.cps.toList).map V.int)) → Same H H' → Q (.ref p) H') ∧ (¬ okT z.cps.toList → ∀ H' : Hp, Same H H' → Q .non H')
/-- a text drawn from a pool -/
def spDraw : Sp := fun vs H Q _ => ∃ (p : Addr) (n : Int) (o : HO), vs = [.ref p] ∧ H p = some o ∧ PoolO n o ∧ n ≤ 900000000 ∧
  ∀ (H' : Hp) (z : Str) (o' : HO), H' p = some o' → PoolO (n + 100) o' → Kp [p] H H' → Asc z → z.length ≤ 60 → Q (.str z) H'
def spSign : Sp := fun vs H Q _ => ∃ (p : Addr) (n : Int) (o : HO), vs = [.ref p] ∧ H p = some o ∧ PoolO n o ∧ n ≤ 999999000 ∧
  ∀ (c : Nat) (o' : HO), c < 128 → PoolO (n + 1) o' → Q (.str ⟨#[c]⟩) (upd H p o')
def spSpoilt : Sp := fun vs H Q _ => ∃ (p : Addr) (n : Int) (o : HO) (z : Str), vs = [.ref p, .str z] ∧ H p = some o ∧ PoolO n o ∧ n ≤ 999990000 ∧ Asc z ∧ z.length ≤ 100 ∧
  ∀ (y : Str) (o' : HO), Asc y → y.length ≤ z.length + 1 → PoolO (n + 3) o' → Q (.str y) (upd H p o')
def spAskedT : Sp := fun vs H Q _ => ∃ z : Str, vs = [.str z] ∧ Asc z ∧ z.length ≤ 1000 ∧ ∀ H' : Hp, Same H H' → Q (.bl true) H'
def SIGNS : Str := Str.ofString " !\"#$&'()*+,-./0123456789:;<=>?@ABCDEFGHIJKLMNOPQRSTUVWXYZ[\\]^_`abcdefghijklmnopqrstuvwxyz{|}~"
theorem signs_asc : SIGNS.cps.toList.length = 94 ∧ ∀ c ∈ SIGNS.cps.toList, c < 128 := by decide +kernel
def GIF : Str := Str.ofString "fedcba9876543210"
theorem gif_asc : GIF.cps.toList.length = 16 ∧ ∀ c ∈ GIF.cps.toList, c < 128 := by decide +kernel
theorem fig_asc : FIG.cps.toList.length = 16 ∧ ∀ c ∈ FIG.cps.toList, c < 128 := by decide +kernel
theorem str_at {z : Str} {n : Nat} (hz : z.cps.toList.length = n ∧ ∀ c ∈ z.cps.toList, c < 128) {r : Int} (r0 : 0 ≤ r) (r1 : r < n) : ∃ c, c < 128 ∧ atI z.cps.toList r = some c := by
  obtain ⟨j, rfl⟩ := Int.eq_ofNat_of_zero_le r0
  obtain ⟨e, m⟩ := get_at (cs := z.cps.toList) (i := j) (by rw [hz.1]; omega)
  exact ⟨_, hz.2 _ m, e⟩
end Sip
namespace Sip
open PySem PySem.Spec PyProof.Rows L2 TL
theorem cut_codes (z : Str) (lo hi : Option Int) : (cutS z lo hi).length = ((z.cps.toList.drop (HT.sIx z.length 0 lo)).take (HT.sIx z.length z.length hi - HT.sIx z.length 0 lo)).length := by
  rw [len_codes]; rfl
theorem cut_len1 (z : Str) {k : Nat} (h : k ≤ z.length) : (cutS z none (some (k : Int))).length = k := by
  have lc := len_codes z
  rw [cut_codes, HT.sIx_none, HT.sIx_nat, List.length_take, List.length_drop]; omega
theorem cut_len2 (z : Str) {k : Nat} (h : k ≤ z.length) : (cutS z (some (k : Int)) none).length = z.length - k := by
  have lc := len_codes z
  rw [cut_codes, HT.sIx_none, HT.sIx_nat, List.length_take, List.length_drop]; omega
theorem cut_len3 (z : Str) {k : Nat} (h : k ≤ z.length) : (cutS z (some ((k : Nat) + 1 : Int)) none).length ≤ z.length - k := by
  have lc := len_codes z
  rw [show ((k : Nat) + 1 : Int) = ((k + 1 : Nat) : Int) by omega, cut_codes, HT.sIx_none, HT.sIx_nat, List.length_take, List.length_drop]; omega
end Sip
namespace Sip
open PySem PySem.Spec PyProof.Rows L2 TL
theorem all_figs {cs : List Nat} : ((cs.map fun c => decide (c ∈ figs)).all id) = true ↔ ∀ c ∈ cs, c ∈ figs := by
  rw [List.all_eq_true]
  constructor
  · intro h c hc
    exact of_decide_eq_true (h _ (List.mem_map.mpr ⟨c, hc, rfl⟩))
  · intro h x hx
    obtain ⟨c, hc, rfl⟩ := List.mem_map.mp hx
    exact decide_eq_true (h c hc)
end Sip
namespace Sip
open PySem PySem.Spec PyProof.Rows L2 TL
theorem asc_nil : Asc (Str.ofString "") := fun c hc => by
  have e : (Str.ofString "").cps.toList = [] := by decide +kernel
  rw [e] at hc; cases hc
end Sip
namespace Sip
open PySem PySem.Spec PyProof.Rows L2 TL
theorem kit_own {K : PySem.W.Frag} {C S : Addr} (h1 : PySem.W.isClsIn K S = true) (h2 : PySem.W.typeIn K (.ref S) = some (.type "type")) (h3 : PySem.W.subIn K (.ref C) (.ref S) = some true) : PySem.W.kitOne K (.ref C) (.ref S) = some true := by
  have a : ((PySem.W.clsIn K S).isSome && PySem.W.typeIn K (.ref S) == some (.type "type")) = true := by
    have h1' : (PySem.W.clsIn K S).isSome = true := h1
    rw [h1', h2]; rfl
  unfold PySem.W.kitOne PySem.W.kitCls
  split
  · rfl
  · exact (if_pos a).trans h3
theorem kit_bltn {K : PySem.W.Frag} {C : Addr} {T : String} (h1 : PySem.W.kitMeta T = true) (h3 : PySem.W.subIn K (.ref C) (.type T) = some true) : PySem.W.kitOne K (.ref C) (.type T) = some true := by
  unfold PySem.W.kitOne PySem.W.kitCls
  split
  · rfl
  · exact (if_pos h1).trans h3
end Sip
namespace Sip
open PySem PySem.Spec PyProof.Rows L2 TL

/-- a def of the text, whatever its defaults -/
structure FunA (K : PySem.W.Frag) (x qual : Str) (st : Stmt) (f : Addr) (fd : FuncData) : Prop where
  ex : ∃ (oc : Value) (od : Option Addr) (dV kV doc pm : Value) (an : Option Addr) (cdv ct : Value) (osl : Array (Option Value)),
    fd = PySem.W.fnOf x qual (defArgs st) (defBody st) (defScope st) dV kV doc pm an cdv ct ∧ K.lookup f = some ⟨oc, od, .func fd, osl⟩ ∧ PySem.W.codeIn K cdv qual = true
  kp : PySem.W.keepIn K (.ref f) = true
section
variable {P : Program} {w : World} {K : PySem.W.Frag} {mg : Str → Option Value} {base : Heap} {x qual : Str} {st : Stmt} {f : Addr} {fd : FuncData} {N ps : List Str} {k : Nat} {sp : Sp}
theorem FunA.ok (F : FunA K x qual st f fd) (S : FnScope N ps (defScope st)) (len : ∀ vs H Q E, sp vs H Q E → vs.length = ps.length)
    (hb : ∀ (cdv : Value) (A : Around) (outer : List Env) (s : Shared) (H : Hp) (vs : List V) (Q : VK) (E : XK), Room k (A.deeper (envOfC qual (defScope st) s.heap.objs.size f cdv)) → sp vs H Q E →
      ∃ t, PSs (cxOf CX0 P w K mg base N qual (defScope st) f cdv A outer s H E).nox (defBody st) t ∧ t { nx := fun _ H' => Q .non H', rt := Q } (start N vs) H) : FnOk P w K mg base CX0 (k + 1) f fd ps sp := by
  obtain ⟨oc, od, dV, kV, doc, pm, an, cdv, ct, osl, rfl, lk, hcd⟩ := F.ex
  refine fn_of lk hcd S len fun A outer s H vs Q E hr hsp => ?_
  obtain ⟨t, h, q⟩ := hb cdv A outer s H vs Q E hr hsp
  exact ⟨t, h.nox, q⟩
theorem FunA.okX (F : FunA K x qual st f fd) (S : FnScope N ps (defScope st)) (len : ∀ vs H Q E, sp vs H Q E → vs.length = ps.length)
    (hb : ∀ (cdv : Value) (A : Around) (outer : List Env) (s : Shared) (H : Hp) (vs : List V) (Q : VK) (E : XK), Room k (A.deeper (envOfC qual (defScope st) s.heap.objs.size f cdv)) → sp vs H Q E →
      ∃ t, PSs (cxOf (L2.CX P w) P w K mg base N qual (defScope st) f cdv A outer s H E) (defBody st) t ∧ t { nx := fun _ H' => Q .non H', rt := Q } (start N vs) H) : FnOk P w K mg base (L2.CX P w) (k + 1) f fd ps sp := by
  obtain ⟨oc, od, dV, kV, doc, pm, an, cdv, ct, osl, rfl, lk, hcd⟩ := F.ex
  exact fn_of lk hcd S len fun A outer s H vs Q E hr hsp => hb cdv A outer s H vs Q E hr hsp
end
/-- o.m(e, .., k = v, ..) -/
def tMethN (C : Addr) (m : Str) (n j : Nat) (sp : Sp) (gV : List V → List V → List V) (E : XK) (ta : TE) (t tk : TA) : TE := fun σ H Q => ta σ H fun x H1 =>
  ∃ a dx fs, x = .ref a ∧ H1 a = some (.ins C dx fs) ∧ fs.lookup m = none ∧ t σ H1 fun vs H2 => tk σ H2 fun zs H3 => vs.length = n ∧ zs.length = j ∧ sp (gV (x :: vs) zs) H3 Q E
section
variable {X : Cx} {CX : CXT} {k n : Nat} {f C : Addr} {fd : FuncData} {ps ks : List Str} {sp : Sp} {E : XK} {m : Str} {apos pos : Pos} {o e : Expr} {es : List Expr} {kws : List Keyword} {ta : TE} {t tk : TA} {g : List Value → List Value → List Value} {gV : List V → List V → List V}
theorem pe_methN {pl : Sem Bool} (he : PE X o ta) (c : Cls X.K C) (hm : Meth X.K C m f) (F : FnOk X.prog X.w X.K X.mg X.base CX k f fd ps sp) (hr : Room k X.A) (hb : KBn X.K fd ps (n + 1) ks g gV) (hx : Passes CX X E) (ha : PA X (e :: es) t) (hkw : PK X kws tk)
    (hall : (backToKw pos (keywordEach kws X.env)).all (·.1.isSome) = true := by rfl) (hks : (backToKw pos (keywordEach kws X.env)).filterMap (·.1) = ks := by rfl) (hst : starEach (e :: es) X.env = (false, eval e X.env) :: starEach es X.env := by rfl)
    (hpl : ((backTo pos (starEach (e :: es) X.env)).any (·.1) || (backToKw pos (keywordEach kws X.env)).any (·.1.isNone)) = false := by rfl)
    (ht : eval (.Call (.Attribute o m apos) (e :: es) kws pos) X.env = (do
      let ov ← eval o X.env
      standAt apos.atName
      let (f, first) ← holding [ov] (getMethod ov m pl)
      callWith pos f first (backTo pos (starEach (e :: es) X.env)) (backToKw pos (keywordEach kws X.env))) := by rfl) :
    PE X (.Call (.Attribute o m apos) (e :: es) kws pos) (tMethN C m n ks.length sp gV E ta t tk) := by
  refine ⟨fun pins s σ H Q I h => ?_⟩
  refine PySem.W.methodCall_KW (pl := pl) (thn (he.run pins s σ H _ I h) fun u s1 ⟨x, H1, I1, rx, a, dx, fs, ex, ea, l, q⟩ => ?_) ht
  subst ex
  obtain rfl : u = Value.ref a := rx
  refine getmeth_ok I1 ea c hm l ?_
  refine PySem.W.callWith_KW (first := [.ref a]) (h₀ := X.base) I.ok.mod.kin hm.kp hall (thn (ha.run pos pins s1 σ H1 _ I1 q) fun us s2 ⟨vs, H2, I2, r, q2⟩ => ?_) hpl hst
  refine thn (hkw.run pos pins s2 σ H2 _ I2 q2) fun ws s3 ⟨zs, H3, I3, rz, l1, l2, q3⟩ => ⟨I3.kIn, ?_⟩
  rw [hks]
  exact run_fnN (us := .ref a :: us) (vs := .ref a :: vs) F hr hb hx I3 (.cons rfl r) rz (by rw [List.length_cons, l1]) l2 q3
end
/-- fields by name -/
abbrev Fs := List (Str × V)
example (h c d : V) : putF ("cursor" : Str) d ([("held", h), ("cursor", c)] : Fs) = ([("held", h), ("cursor", d)] : Fs) := by kernel_rfl
example (h c d : V) : putF ("cursor" : Str) d ([("held", h)] : Fs) = ([("held", h), ("cursor", d)] : Fs) := by kernel_rfl
end Sip
namespace Sip
open PySem PySem.Spec PyProof.Rows L2 TL
/-- a def of the top, a method of a class -/
structure Dg (K : PySem.W.Frag) (mg : Str → Option Value) (x : Str) (st : Stmt) (f : Addr) (fd : FuncData) : Prop where
  F : FunA K x x st f fd
  g : mg x = some (.ref f)
structure Mf (K : PySem.W.Frag) (C : Addr) (x qual : Str) (st : Stmt) (f : Addr) (fd : FuncData) : Prop where
  F : FunA K x qual st f fd
  m : Meth K C x f
theorem funA_mk {K : PySem.W.Frag} {x qual : Str} {st : Stmt} {f : Addr} {oc : Value} {od an : Option Addr} {osl : Array (Option Value)} {dV kV doc pm cdv ct : Value} (l : K.lookup f = some ⟨oc, od, .func (PySem.W.fnOf x qual (defArgs st) (defBody st) (defScope st) dV kV doc pm an cdv ct), osl⟩)
    (c : PySem.W.codeIn K cdv qual = true) (k : PySem.W.keepIn K (.ref f) = true) : FunA K x qual st f (PySem.W.fnOf x qual (defArgs st) (defBody st) (defScope st) dV kV doc pm an cdv ct) := ⟨⟨oc, od, dV, kV, doc, pm, an, cdv, ct, osl, rfl, l, c⟩, k⟩
end Sip
namespace Sip
open PySem PySem.Spec PyProof.Rows L2 TL

abbrev Piece := Nat × List Int
/-! all pieces laid one behind another -/
def allF (r : List Int) (ps : List Piece) : List Int := ps.foldl (fun acc p => laidF acc p.1 p.2) r
def mostF (m : Nat) (ps : List Piece) : Nat := ps.foldl (fun m p => if 0 < p.2.length then max m (p.1 + p.2.length) else m) m
def stepB (k : Nat) (b : Int) (p : Piece) : Int := if p.1 ≤ k ∧ k < p.1 + p.2.length then p.2.getD (k - p.1) 0 else b
def byteF (b : Int) (k : Nat) (ps : List Piece) : Int := ps.foldl (stepB k) b
theorem laidF_len (r : List Int) (p : Piece) : (laidF r p.1 p.2).length = if 0 < p.2.length then max r.length (p.1 + p.2.length) else r.length := by
  by_cases h : p.2 = []
  · rw [h, laidF_nil]; rfl
  · rw [laidF_length h, if_pos (List.length_pos_iff.mpr h)]
theorem laidF_byte (r : List Int) (p : Piece) (k : Nat) : (laidF r p.1 p.2)[k]?.getD 0 = stepB k (r[k]?.getD 0) p := by
  unfold stepB
  by_cases h : p.2 = []
  · rw [h, laidF_nil, if_neg (by simp)]
  · rw [laidF_getD h, List.getD_eq_getElem?_getD, List.getD_eq_getElem?_getD]
theorem allF_len : ∀ (ps : List Piece) (r : List Int), (allF r ps).length = mostF r.length ps
  | [], _ => rfl
  | p :: q, r => by
    show (allF (laidF r p.1 p.2) q).length = mostF (if 0 < p.2.length then max r.length (p.1 + p.2.length) else r.length) q
    rw [allF_len q, laidF_len]
theorem allF_byte : ∀ (ps : List Piece) (r : List Int) (k : Nat), (allF r ps)[k]?.getD 0 = byteF (r[k]?.getD 0) k ps
  | [], _, _ => rfl
  | p :: q, r, k => by
    show (allF (laidF r p.1 p.2) q)[k]?.getD 0 = byteF (stepB k (r[k]?.getD 0) p) k q
    rw [allF_byte q, laidF_byte]
theorem allF_append (r : List Int) (a b : List Piece) : allF r (a ++ b) = allF (allF r a) b := List.foldl_append
/-- a piece in two parts -/
theorem laidF_parts (r : List Int) (n c : Nat) (d : List Int) (h : c ≤ d.length) : laidF (laidF r n (d.take c)) (n + c) (d.drop c) = laidF r n d := by
  have l1 := laidF_len r (n, d.take c)
  have l2 := laidF_len (laidF r n (d.take c)) (n + c, d.drop c)
  have l3 := laidF_len r (n, d)
  simp only [List.length_take, List.length_drop] at l1 l2 l3
  refine ext_getD ?_ fun k hk => ?_
  · rw [l2, l3, l1]
    split <;> split <;> split <;> omega
  · rw [laidF_byte _ (n + c, d.drop c), laidF_byte r (n, d.take c), laidF_byte r (n, d)]
    unfold stepB
    simp only [List.length_take, List.length_drop, List.getD_eq_getElem?_getD, List.getElem?_drop]
    by_cases h1 : n + c ≤ k ∧ k < n + c + (d.length - c)
    · rw [if_pos h1, if_pos (by omega)]
      congr 2
      omega
    · rw [if_neg h1]
      by_cases h2 : n ≤ k ∧ k < n + min c d.length
      · rw [if_pos h2, if_pos (by omega), List.getElem?_take_of_lt (by omega)]
      · rw [if_neg h2, if_neg (by omega)]
theorem allF_parts (r : List Int) (a b : List Piece) (n c : Nat) (d : List Int) (h : c ≤ d.length) :
    allF r (a ++ [(n, d.take c), (n + c, d.drop c)] ++ b) = allF r (a ++ [(n, d)] ++ b) := by
  rw [allF_append, allF_append, allF_append, allF_append]
  show allF (laidF (laidF (allF r a) n (d.take c)) (n + c) (d.drop c)) b = allF (laidF (allF r a) n d) b
  rw [laidF_parts _ _ _ _ h]
def Small (p : Piece) : Prop := p.1 ≤ 340 ∧ p.2.length ≤ 400 ∧ Bytes p.2
theorem bytes_getD {bs : List Int} (h : Bytes bs) (k : Nat) : 0 ≤ bs[k]?.getD 0 ∧ bs[k]?.getD 0 ≤ 255 := by
  cases e : bs[k]? with
  | none => exact ⟨by decide, by decide⟩
  | some b =>
    obtain ⟨hk, rfl⟩ := List.getElem?_eq_some_iff.mp e
    exact h _ (List.getElem_mem hk)
theorem bytes_of {bs : List Int} (h : ∀ k, k < bs.length → 0 ≤ bs[k]?.getD 0 ∧ bs[k]?.getD 0 ≤ 255) : Bytes bs := fun b hb => by
  obtain ⟨k, hk, rfl⟩ := List.getElem_of_mem hb
  have := h k hk
  rw [List.getElem?_eq_getElem hk] at this
  exact this
theorem laid_bytes {r : List Int} {p : Piece} (hr : Bytes r) (hp : Bytes p.2) : Bytes (laidF r p.1 p.2) := bytes_of fun k _ => by
  rw [laidF_byte]
  unfold stepB
  split
  · rw [List.getD_eq_getElem?_getD]; exact bytes_getD hp _
  · exact bytes_getD hr k
theorem allF_good : ∀ (ps : List Piece) (r : List Int), Bytes r → r.length ≤ 740 → (∀ p ∈ ps, Small p) → Bytes (allF r ps) ∧ (allF r ps).length ≤ 740
  | [], r, hb, hl, _ => ⟨hb, hl⟩
  | p :: q, r, hb, hl, hp => by
    have h1 := hp p (List.mem_cons_self ..)
    refine allF_good q (laidF r p.1 p.2) (laid_bytes hb h1.2.2) ?_ (fun z hz => hp z (List.mem_cons_of_mem _ hz))
    exact laidF_le ⟨hl, by have := h1.1; have := h1.2.1; omega⟩

/-! pieces in the heap -/
def PieceAt (H : Hp) (v : V) (p : Piece) : Prop := ∃ T D : Addr, v = .ref T ∧ H T = some (.tup [.int (p.1 : Nat), .ref D]) ∧ H D = some (.lst (p.2.map V.int))
def Pieces (H : Hp) (vs : List V) (ps : List Piece) : Prop := vs.length = ps.length ∧ ∀ (i : Nat) (v : V) (p : Piece), vs[i]? = some v → ps[i]? = some p → PieceAt H v p
theorem PieceAt.mono {H H' : Hp} {v : V} {p : Piece} (s : Same H H') (h : PieceAt H v p) : PieceAt H' v p := by
  obtain ⟨T, D, e, h1, h2⟩ := h
  exact ⟨T, D, e, s _ _ h1, s _ _ h2⟩
theorem Pieces.mono {H H' : Hp} {vs : List V} {ps : List Piece} (s : Same H H') (h : Pieces H vs ps) : Pieces H' vs ps :=
  ⟨h.1, fun i v p a b => (h.2 i v p a b).mono s⟩
theorem Pieces.at {H : Hp} {vs : List V} {ps : List Piece} {i : Nat} {v : V} (h : Pieces H vs ps) (e : vs[i]? = some v) : ∃ hi : i < ps.length, PieceAt H v ps[i] := by
  have hi : i < ps.length := by
    have := (List.getElem?_eq_some_iff.mp e).1
    rw [h.1] at this; exact this
  exact ⟨hi, h.2 i v _ e (List.getElem?_eq_getElem hi)⟩
theorem Pieces.nil {H : Hp} : Pieces H [] [] := ⟨rfl, fun i v p a => by simp at a⟩
theorem Pieces.append {H : Hp} {vs us : List V} {ps qs : List Piece} (h : Pieces H vs ps) (k : Pieces H us qs) : Pieces H (vs ++ us) (ps ++ qs) := by
  refine ⟨by rw [List.length_append, List.length_append, h.1, k.1], fun i v p a b => ?_⟩
  by_cases hi : i < vs.length
  · rw [List.getElem?_append_left hi] at a
    rw [List.getElem?_append_left (by rw [← h.1]; exact hi)] at b
    exact h.2 i v p a b
  · rw [List.getElem?_append_right (by omega)] at a
    rw [List.getElem?_append_right (by rw [← h.1]; omega), ← h.1] at b
    exact k.2 _ v p a b
theorem Pieces.one {H : Hp} {v : V} {p : Piece} (h : PieceAt H v p) : Pieces H [v] [p] := ⟨rfl, fun i w q a b => by
  cases i with
  | zero =>
    have e1 : v = w := Option.some.inj a
    have e2 : p = q := Option.some.inj b
    rw [← e1, ← e2]; exact h
  | succ i => simp at a⟩
theorem Pieces.take {H : Hp} {vs : List V} {ps : List Piece} (h : Pieces H vs ps) (n : Nat) : Pieces H (vs.take n) (ps.take n) := by
  refine ⟨by rw [List.length_take, List.length_take, h.1], fun i v p a b => ?_⟩
  have hi : i < n := by
    have := (List.getElem?_eq_some_iff.mp a).1
    rw [List.length_take] at this; omega
  rw [List.getElem?_take_of_lt hi] at a b
  exact h.2 i v p a b
theorem Pieces.drop {H : Hp} {vs : List V} {ps : List Piece} (h : Pieces H vs ps) (n : Nat) : Pieces H (vs.drop n) (ps.drop n) := by
  refine ⟨by rw [List.length_drop, List.length_drop, h.1], fun i v p a b => ?_⟩
  rw [List.getElem?_drop] at a b
  exact h.2 _ v p a b
theorem cut_to (xs : List V) (n : Nat) (h : n ≤ xs.length) : cutV xs none (some (n : Int)) = xs.take n := by
  unfold cutV
  rw [HT.sIx_none, HT.sIx_nat, Nat.min_eq_left h]; rfl
theorem cut_from (xs : List V) (n : Nat) (h : n ≤ xs.length) : cutV xs (some (n : Int)) none = xs.drop n := by
  unfold cutV
  rw [HT.sIx_none, HT.sIx_nat, Nat.min_eq_left h]
  exact List.take_of_length_le (by rw [List.length_drop]; omega)
theorem split_at {α : Type} {ps : List α} {i : Nat} (hi : i < ps.length) : ps.take i ++ [ps[i]] ++ ps.drop (i + 1) = ps := by
  rw [List.append_assoc]
  show ps.take i ++ (ps[i] :: ps.drop (i + 1)) = ps
  rw [List.getElem_cons_drop, List.take_append_drop]
theorem foldl_next {α β : Type} (f : β → α → β) (b : β) (xs : List α) (i : Nat) (hi : i < xs.length) : (xs.take (i + 1)).foldl f b = f ((xs.take i).foldl f b) xs[i] := by
  rw [List.take_add_one, List.getElem?_eq_getElem hi, List.foldl_append]; rfl

def spBytesM (K : PySem.W.Frag) : Sp := fun vs H Q _ => ∃ (p m : Addr) (n : Int) (o : HO) (ms : List Int), vs = [.ref p, .ref m] ∧ H p = some o ∧ PoolO n o ∧ n ≤ 900000000 ∧ SqL K H m (ms.map V.int) ∧ p ≠ m ∧ ms ≠ [] ∧ ms.length ≤ 100 ∧ (∀ z ∈ ms, 0 ≤ z ∧ z ≤ 400) ∧
  ∀ (H' : Hp) (q : Addr) (bs : List Int) (o' : HO), H q = none → H' q = some (.lst (bs.map V.int)) → H' p = some o' → PoolO (n + 1000) o' → Kp [p] H H' → (∃ z ∈ ms, (bs.length : Int) = z) → Bytes bs → Q (.ref q) H'
def spDueP (K : PySem.W.Frag) : Sp := fun vs H Q _ => ∃ (a b : Addr) (r : List Int) (us : List V) (ps : List Piece), vs = [.ref a, .ref b] ∧ SqL K H a (r.map V.int) ∧ SqL K H b us ∧ Pieces H us ps ∧ r.length ≤ 740 ∧ Bytes r ∧ (∀ p ∈ ps, Small p) ∧ ps.length ≤ 100 ∧
  ∀ (H' : Hp) (q : Addr), H q = none → H' q = some (.lst ((allF r ps).map V.int)) → Same H H' → Q (.ref q) H'
/-! what stands apart from some places -/
def mask (qs : List Addr) (H : Hp) : Hp := fun b => if b ∈ qs then none else H b
theorem mask_le (qs : List Addr) (H : Hp) : Same (mask qs H) H := fun b o e => by
  unfold mask at e
  split at e
  · cases e
  · exact e
theorem mask_upd {qs : List Addr} {H : Hp} {q : Addr} {o : HO} (h : q ∈ qs) : mask qs (upd H q o) = mask qs H := by
  funext b
  unfold mask
  split
  · rfl
  · next n =>
    have : b ≠ q := fun z => n (by rw [z]; exact h)
    rw [upd_ne this]
theorem mask_kp {qs : List Addr} {H H' : Hp} (k : Kp qs H H') : Same (mask qs H) (mask qs H') := fun b o e => by
  unfold mask at e ⊢
  split at e
  · cases e
  · next n => rw [if_neg n]; exact k b o n e
theorem mask_at {qs : List Addr} {H : Hp} {b : Addr} (h : b ∉ qs) : mask qs H b = H b := if_neg h
theorem Kp.sub {ps qs : List Addr} {H H' : Hp} (k : Kp ps H H') (h : ∀ x ∈ ps, x ∈ qs ∨ H x = none) : Kp qs H H' := fun b o n e => by
  refine k b o (fun z => ?_) e
  rcases h b z with h | h
  · exact n h
  · rw [h] at e; cases e
def Tiny (p : Piece) : Prop := p.1 ≤ 299 ∧ p.2.length ≤ 40 ∧ Bytes p.2
theorem Tiny.small {p : Piece} (h : Tiny p) : Small p := ⟨by have := h.1; omega, by have := h.2.1; omega, h.2.2⟩
end Sip
namespace Sip
open PySem PySem.Spec PyProof.Rows L2 TL

/-! an object with all that is its own (F): what a call may change -/
def Step (F : Addr → Prop) (H : Hp) (F' : Addr → Prop) (H' : Hp) : Prop := (∀ b o, ¬ F b → H b = some o → H' b = some o) ∧ ∀ b, F' b → F b ∨ H b = none
theorem Step.keep {F F' : Addr → Prop} {H H' : Hp} {b : Addr} {o : HO} (s : Step F H F' H') (n : ¬ F b) (e : H b = some o) : H' b = some o ∧ ¬ F' b :=
  ⟨s.1 b o n e, fun z => (s.2 b z).elim n fun q => by rw [q] at e; cases e⟩
/-- own objects made since H0 alone -/
theorem Step.since {F F' : Addr → Prop} {H0 H H' : Hp} (s : Step F H F' H') (a : Same H0 H) (n : ∀ b, F b → H0 b = none) : Same H0 H' ∧ ∀ b, F' b → H0 b = none := by
  refine ⟨fun b o e => s.1 b o (fun z => by rw [n b z] at e; cases e) (a b o e), fun b z => ?_⟩
  rcases s.2 b z with q | q
  · exact n b q
  · exact a.free q
theorem Step.of {F : Addr → Prop} {H H' : Hp} (s : Same H H') : Step F H F H' := ⟨fun b o _ e => s b o e, fun b z => .inl z⟩
theorem Step.trans {F F' F2 : Addr → Prop} {H H' H2 : Hp} (a : Step F H F' H') (b : Step F' H' F2 H2) : Step F H F2 H2 := by
  refine ⟨fun x o n e => b.1 x o (a.keep n e).2 (a.keep n e).1, fun x z => ?_⟩
  rcases b.2 x z with q | q
  · exact a.2 x q
  · by_cases f : F x
    · exact .inl f
    · cases e : H x with
      | none => exact .inr rfl
      | some o => rw [a.1 x o f e] at q; cases q

/-- a plain file in the heap, however it keeps its row: heap, address, what is its own, row, cursor -/
abbrev PP := Hp → Addr → (Addr → Prop) → List Int → Nat → Prop
structure IsPlain (C : Addr) (PA : PP) : Prop where
  loc : ∀ {H H' : Hp} {p : Addr} {F : Addr → Prop} {r : List Int} {c : Nat}, PA H p F r c → (∀ b o, F b → H b = some o → H' b = some o) → PA H' p F r c
  own : ∀ {H : Hp} {p : Addr} {F : Addr → Prop} {r : List Int} {c : Nat}, PA H p F r c → ∀ b, F b → ∃ o, H b = some o
  ins : ∀ {H : Hp} {p : Addr} {F : Addr → Prop} {r : List Int} {c : Nat}, PA H p F r c → ∃ dx fs, H p = some (.ins C dx fs) ∧ ∀ m ∈ (["read", "read_some", "peek", "readline", "write", "seek", "tell", "size", "row", "cut"] : List Str), fs.lookup m = none
theorem IsPlain.same {C : Addr} {PA : PP} (I : IsPlain C PA) {H H' : Hp} {p : Addr} {F : Addr → Prop} {r : List Int} {c : Nat} (h : PA H p F r c) (s : Same H H') : PA H' p F r c := I.loc h fun b o _ e => s b o e
theorem IsPlain.kp {C : Addr} {PA : PP} (I : IsPlain C PA) {H H' : Hp} {qs : List Addr} {p : Addr} {F : Addr → Prop} {r : List Int} {c : Nat} (h : PA H p F r c) (k : Kp qs H H') (n : ∀ q ∈ qs, ¬ F q) : PA H' p F r c :=
  I.loc h fun b o f e => k b o (fun z => n b z f) e
theorem IsPlain.new {C : Addr} {PA : PP} (I : IsPlain C PA) {H : Hp} {q p : Addr} {F : Addr → Prop} {r : List Int} {c : Nat} (h : PA H p F r c) (n : H q = none) : ¬ F q := fun f => by
  obtain ⟨o, e⟩ := I.own h q f
  rw [n] at e; cases e

def spPInit (K : PySem.W.Frag) (C : Addr) (PA : PP) : Sp := fun vs H Q _ => ∃ (p a dx : Addr) (r : List Int) (c : Nat), vs = [.ref p, .ref a, .int c] ∧ H p = some (.ins C dx []) ∧ H dx = some (.own p) ∧ SqL K H a (r.map V.int) ∧ p ≠ a ∧ r.length ≤ 400 ∧ c ≤ 4000 ∧
  ∀ (H' : Hp) (F' : Addr → Prop), PA H' p F' r c → Step (fun b => b = p ∨ b = dx) H F' H' → Q .non H'
def spPTell (PA : PP) : Sp := fun vs H Q _ => ∃ (p : Addr) (F : Addr → Prop) (r : List Int) (c : Nat), vs = [.ref p] ∧ PA H p F r c ∧ Q (.int c) H
def spPSize (PA : PP) : Sp := fun vs H Q _ => ∃ (p : Addr) (F : Addr → Prop) (r : List Int) (c : Nat), vs = [.ref p] ∧ PA H p F r c ∧ Q (.int r.length) H
def spPRow (PA : PP) : Sp := fun vs H Q _ => ∃ (p : Addr) (F : Addr → Prop) (r : List Int) (c : Nat), vs = [.ref p] ∧ PA H p F r c ∧ ∀ (H' : Hp) (q : Addr), H q = none → H' q = some (.lst (r.map V.int)) → Same H H' → Q (.ref q) H'
def spPSeek (PA : PP) : Sp := fun vs H Q _ => ∃ (p : Addr) (F : Addr → Prop) (r : List Int) (c g : Nat) (pl : Int) (st : Str), vs = [.ref p, .int pl, .str st] ∧ PA H p F r c ∧
  ((st = Str.ofString "head" ∧ (g : Int) = pl) ∨ (st = Str.ofString "here" ∧ (g : Int) = c + pl) ∨ (st = Str.ofString "tail" ∧ (g : Int) = r.length + pl)) ∧ g ≤ 4000 ∧ ∀ (H' : Hp) (F' : Addr → Prop), PA H' p F' r g → Step F H F' H' → Q (.int g) H'
def spPCut (PA : PP) : Sp := fun vs H Q _ => ∃ (p : Addr) (F : Addr → Prop) (r : List Int) (c g : Nat) (v : V), vs = [.ref p, v] ∧ PA H p F r c ∧ ((v = .non ∧ g = c) ∨ v = .int g) ∧ g ≤ 4000 ∧ ∀ (H' : Hp) (F' : Addr → Prop), PA H' p F' (r.take g) c → Step F H F' H' → Q .non H'
def spPWrite (PA : PP) : Sp := fun vs H Q _ => ∃ (p b : Addr) (F : Addr → Prop) (r : List Int) (c : Nat) (d : List Int), vs = [.ref p, .ref b] ∧ PA H p F r c ∧ ¬ F b ∧ H b = some (.lst (d.map V.int)) ∧ Bytes d ∧ r.length ≤ 4000 ∧ c ≤ 4000 ∧ d.length ≤ 400 ∧ (laidF r c d).length ≤ 4000 ∧
  ∀ (H' : Hp) (F' : Addr → Prop), PA H' p F' (laidF r c d) (c + d.length) → Step F H F' H' → Q (.int d.length) H'
/-- a place drawn for a row of n bytes -/
def spGoal (K : PySem.W.Frag) : Sp := fun vs H Q _ => ∃ (p x : Addr) (n : Int) (o : HO) (r : List Int), vs = [.ref p, .ref x] ∧ H p = some o ∧ PoolO n o ∧ n ≤ 900000000 ∧ SqL K H x (r.map V.int) ∧ p ≠ x ∧ r.length ≤ 5000 ∧
  ∀ (H' : Hp) (g : Nat) (o' : HO), g ≤ max (r.length + 20) 4000 → H' p = some o' → PoolO (n + 4) o' → Kp [p] H H' → Q (.int g) H'
def spSought (K : PySem.W.Frag) (PA : PP) : Sp := fun vs H Q _ => ∃ (p x : Addr) (F : Addr → Prop) (r : List Int) (c g : Nat) (way : Int), vs = [.ref p, .int way, .int g, .ref x, .int c] ∧ 0 ≤ way ∧ way ≤ 3 ∧ PA H p F r c ∧ SqL K H x (r.map V.int) ∧ g ≤ 4000 ∧
  ∀ (H' : Hp) (F' : Addr → Prop), PA H' p F' r g → Step F H F' H' → Q (.int g) H'
def spCutL (PA : PP) : Sp := fun vs H Q _ => ∃ (p : Addr) (F : Addr → Prop) (r : List Int) (c g : Nat) (way : Int), vs = [.ref p, .int way, .int g] ∧ 0 ≤ way ∧ way ≤ 2 ∧ (way < 2 → g = c) ∧ PA H p F r c ∧ g ≤ 4000 ∧
  ∀ (H' : Hp) (F' : Addr → Prop), PA H' p F' (r.take g) c → Step F H F' H' → Q .non H'
theorem take_cut (r : List Int) (g : Nat) : cutV (r.map V.int) none (some (g : Int)) = (r.take g).map V.int := by
  unfold cutV
  rw [HT.sIx_none, HT.sIx_nat, List.length_map, List.map_take]
  show (r.map V.int).take (min g r.length - 0) = _
  by_cases h : g ≤ r.length
  · rw [Nat.min_eq_left h]; rfl
  · rw [Nat.min_eq_right (by omega), List.take_of_length_le (by rw [List.length_map]; omega), List.take_of_length_le (by rw [List.length_map]; omega)]
theorem drop_cut (r : List Int) (g : Nat) : cutV (r.map V.int) (some (g : Int)) none = (r.drop g).map V.int := by
  unfold cutV
  rw [HT.sIx_none, HT.sIx_nat, List.length_map, List.map_drop]
  by_cases h : g ≤ r.length
  · rw [Nat.min_eq_left h]
    exact List.take_of_length_le (by rw [List.length_drop, List.length_map]; omega)
  · rw [Nat.min_eq_right (by omega), List.drop_of_length_le (by rw [List.length_map]; omega), List.drop_of_length_le (l := r.map V.int) (by rw [List.length_map]; omega)]
    simp
/-- one byte laid over by hand -/
theorem laid_one (r : List Int) (c : Nat) (v : Int) : (r ++ List.replicate (c - r.length) 0).take c ++ [v] ++ r.drop (c + 1) = laidF r c [v] := by
  rw [laidF_cons (by simp)]
  congr 1
  by_cases h : c + 1 ≤ r.length
  · rw [show c - r.length = 0 by omega]; simp
  · rw [List.drop_of_length_le (l := r) (by omega), List.drop_of_length_le]
    rw [List.length_append, List.length_replicate]
    show _ ≤ c + 1
    omega
end Sip
namespace Sip
open PySem PySem.Spec PyProof.Rows L2 TL
/-! a heap by name: what was made, what was written -/
theorem updG {H H' : Hp} {q : Addr} {o : HO} (g : upd H q o = H') (n : H q = none) : H' q = some o ∧ Same H H' := by
  subst g; exact ⟨upd_same, (Kp.new (ps := []) n).same⟩
theorem updK {H H' : Hp} {q : Addr} {o : HO} (g : upd H q o = H') : H' q = some o ∧ Kp [q] H H' := by
  subst g; exact ⟨upd_same, Kp.at (by simp)⟩
theorem neN {H : Hp} {p x : Addr} {o : HO} (n : H p = none) (e : H x = some o) : x ≠ p := ne_of_none e n
theorem neM {H : Hp} {p x : Addr} {o : HO} (n : H x = none) (e : H p = some o) : x ≠ p := (ne_of_none e n).symm
theorem kp1 {H H' : Hp} {p x : Addr} {o : HO} (k : Kp [p] H H') (n : x ≠ p) (e : H x = some o) : H' x = some o := k x o (by simpa using n) e
theorem sm1 {H H' : Hp} {x : Addr} {o : HO} (k : Same H H') (e : H x = some o) : H' x = some o := k x o e
theorem sqS {K : PySem.W.Frag} {H H' : Hp} {a : Addr} {l : List V} (s : Same H H') (h : SqL K H a l) : SqL K H' a l := s.seq h
theorem sqK {K : PySem.W.Frag} {H H' : Hp} {p a : Addr} {l : List V} (s : Kp [p] H H') (n : a ≠ p) (h : SqL K H a l) : SqL K H' a l := s.seq (by simpa using n) h
end Sip
namespace Sip
open PySem PySem.Spec PyProof.Rows L2 TL
theorem mapI_nil : ([] : List V) = List.map V.int [] := rfl
theorem mapI_cons {a : Int} {l : List V} {ms : List Int} (h : l = List.map V.int ms) : V.int a :: l = List.map V.int (a :: ms) := by rw [h]; rfl
theorem sq_lit {K : PySem.W.Frag} {H : Hp} {m : Addr} {l : List V} {ms : List Int} (h : H m = some (.lst l)) (e : l = ms.map V.int) : SqL K H m (ms.map V.int) := by rw [← e]; exact sq_at h
theorem hp_lit {H : Hp} {m : Addr} {l : List V} {ms : List Int} (h : H m = some (.lst l)) (e : l = ms.map V.int) : H m = some (.lst (ms.map V.int)) := by rw [← e]; exact h
end Sip
namespace Sip
open PySem PySem.Spec PyProof.Rows L2 TL
theorem iteFc {b : Bool} {A B : Prop} (e : b = false) (h : B) : if b = true then A else B := by subst e; exact iteF h
theorem iteTc {b : Bool} {A B : Prop} (e : b = true) (h : A) : if b = true then A else B := by subst e; exact iteT h
theorem free1 {H H' : Hp} {l : Addr} (h : H' l = none) (e : Same H H') : H l = none := e.free h
theorem same_tr {H H1 H2 : Hp} (b : Same H1 H2) (a : Same H H1) : Same H H2 := a.trans b
theorem step_sm {H H1 H2 : Hp} {p : Addr} (k : Kp [p] H1 H2) (n : H p = none) (s : Same H H1) : Same H H2 := step_same s n k
end Sip
namespace Sip
open PySem PySem.Spec PyProof.Rows L2 TL
theorem upd_get {H : Hp} {a b : Addr} {o u : HO} (n : b ≠ a) (e : H b = some u) : upd H a o b = some u := by rw [upd_ne n]; exact e
end Sip
namespace Sip
open PySem PySem.Spec PyProof.Rows L2 TL
/-- an object made: the older ones stay, and are not its own -/
theorem made_new {H H5 : Hp} {f dx : Addr} {o1 o2 : HO} {F : Addr → Prop} (st : Step (fun b => b = f ∨ b = dx) (upd (upd H dx o2) f o1) F H5) (nf : H f = none) (nd : H dx = none) : Same H H5 ∧ ∀ b o, H b = some o → ¬ F b := by
  have k : ∀ b o, H b = some o → H5 b = some o ∧ ¬ F b := fun b o e => by
    have bf : b ≠ f := ne_of_none e nf
    have bd : b ≠ dx := ne_of_none e nd
    exact st.keep (fun z => z.elim bf bd) (by rw [upd_ne bf, upd_ne bd]; exact e)
  exact ⟨fun b o e => (k b o e).1, fun b o e => (k b o e).2⟩
end Sip
namespace Sip
open PySem PySem.Spec PyProof.Rows L2 TL
theorem sqA {K : PySem.W.Frag} {H H' : Hp} {a : Addr} {l : List V} (h : SqL K H a l) (s : Same H H') : SqL K H' a l := s.seq h
end Sip
namespace Sip
open PySem PySem.Spec PyProof.Rows L2 TL
theorem sqB {K K' : PySem.W.Frag} {H H' : Hp} {a : Addr} {l : List V} (h : SqL K H a l) (s : Same H H') (e : K = K') : SqL K' H' a l := e ▸ s.seq h
end Sip
namespace Sip
open PySem PySem.Spec PyProof.Rows L2 TL
/-- what may be found by the way (no word over a frame) -/
class Wit (α : Type) : Prop where
  ok : True
instance : Wit V := ⟨trivial⟩
instance : Wit Int := ⟨trivial⟩
instance : Wit Nat := ⟨trivial⟩
instance : Wit Bool := ⟨trivial⟩
instance : Wit HO := ⟨trivial⟩
instance : Wit Str := ⟨trivial⟩
instance : Wit Value := ⟨trivial⟩
instance : Wit (Addr → Prop) := ⟨trivial⟩
instance {α β : Type} [Wit α] [Wit β] : Wit (α × β) := ⟨trivial⟩
instance {α : Type} [Wit α] : Wit (Option α) := ⟨trivial⟩
instance {α : Type} [Wit α] : Wit (List α) := ⟨trivial⟩
theorem exI {α : Type} [Wit α] {p : α → Prop} (a : α) (h : p a) : ∃ x, p x := ⟨a, h⟩
end Sip
namespace Sip
open PySem PySem.Spec PyProof.Rows L2 TL
theorem isi_ii {K : PySem.W.Frag} {v : Int} {H : Hp} {Q : VK} (h : Q (.bl true) H) : rIsi K [.int v, .ty "int"] H Q := ⟨.int v, .ty "int", _, _, true, rfl, .ty "int", .base (.int v), kit_ty (by decide +kernel), h⟩
theorem isi_ib {K : PySem.W.Frag} {v : Int} {H : Hp} {Q : VK} (h : Q (.bl false) H) : rIsi K [.int v, .ty "bool"] H Q := ⟨.int v, .ty "bool", _, _, false, rfl, .ty "bool", .base (.int v), kit_ty (by decide +kernel), h⟩
end Sip
namespace Sip
open PySem PySem.Spec PyProof.Rows L2

/-! del xs[lo:hi] -/
def delL {α : Type} (xs : List α) (a c : Nat) : List α := xs.take a ++ xs.drop (max a c)
theorem sel_filter {α : Type} (sel : Nat → Bool) (a c : Nat) (h : ∀ k, sel k = (decide (a ≤ k) && decide (k < c))) (xs : List α) :
    ∀ j, (xs.zipIdx j).filterMap (fun p => if sel p.2 = true then none else some p.1) = xs.take (a - j) ++ xs.drop (max (a - j) (c - j)) := by
  induction xs with
  | nil => intro j; simp
  | cons x r ih =>
    intro j
    rw [List.zipIdx_cons, List.filterMap_cons]
    have e := h j
    by_cases h1 : a ≤ j
    · by_cases h2 : j < c
      · rw [decide_eq_true h1, decide_eq_true h2] at e
        have e' : sel j = true := e
        simp only [e', if_true]
        rw [ih (j + 1)]
        have : a - j = 0 := by omega
        have : a - (j + 1) = 0 := by omega
        have : c - j = (c - (j + 1)) + 1 := by omega
        simp [*]
      · rw [decide_eq_true h1, decide_eq_false h2] at e
        have e' : ¬ (sel j = true) := by rw [e]; decide
        simp only [if_neg e']
        rw [ih (j + 1)]
        have : a - j = 0 := by omega
        have : a - (j + 1) = 0 := by omega
        have : c - j = 0 := by omega
        have : c - (j + 1) = 0 := by omega
        simp [*]
    · rw [decide_eq_false h1] at e
      have e' : ¬ (sel j = true) := by rw [e]; simp
      simp only [if_neg e']
      rw [ih (j + 1)]
      have e1 : a - j = (a - (j + 1)) + 1 := by omega
      have e2 : max (a - j) (c - j) = max (a - (j + 1)) (c - (j + 1)) + 1 := by omega
      rw [e2, e1, List.take_succ_cons, List.drop_succ_cons]
      rfl
def selF (a c : Nat) (i : Nat) : Bool :=
  if (1 : Int) > 0 then (a : Int) ≤ i && i < (c : Int) && (i - (a : Int)) % 1 == 0
  else (c : Int) < i && i ≤ (a : Int) && ((a : Int) - i) % (-1) == 0
theorem selF_eq (a c k : Nat) : selF a c k = (decide (a ≤ k) && decide (k < c)) := by
  unfold selF
  rw [if_pos (by decide)]
  have : ((k : Int) - (a : Int)) % 1 = 0 := by omega
  rw [this]
  simp
theorem selF_fun (a c : Nat) : (fun xs : Array Value => (List.filterMap (fun x => if selF a c x.snd = true then none else some x.fst) xs.toList.zipIdx).toArray) = fun t => (delL t.toList a c).toArray := by
  funext t
  have := sel_filter (selF a c) a c (selF_eq a c) t.toList 0
  rw [Nat.sub_zero, Nat.sub_zero] at this
  exact congrArg _ this
theorem sel_fun {sel : Nat → Bool} {a c : Nat} (h : ∀ k, sel k = selF a c k) : (fun xs : Array Value => (List.filterMap (fun x => if sel x.snd = true then none else some x.fst) xs.toList.zipIdx).toArray) = fun t => (delL t.toList a c).toArray := by
  have e : sel = selF a c := funext h
  subst e
  exact selF_fun a c
section
variable {pr : Program} {wd : World} {ar : Around} {er : Value → Shared → Prop} {s : Shared}
set_option maxHeartbeats 4000000 in
theorem del_slice {l z : Addr} {old : Array Value} {m a c : Nat} {lo hi : Option Int} {vl vu : Value} {Q : Unit → Shared → Prop}
    (eo : s.heap.get? l = some { cls := .type "list", data := .seq old m })
    (hz : s.heap.IsSliceOf z vl vu .none) (pl : IsPart vl lo) (pu : IsPart vu hi)
    (bd : sliceBounds lo hi none old.size = ((a : Int), (c : Int), 1)) (fit : old.size ≤ sizeLine)
    (k : Q () { s with heap := s.heap.update l (Obj.mapSeq fun t => (delL t.toList a c).toArray) }) :
    wpAny (model pr wd) ar (delItem (.ref l) (.ref z)) Q er s := by
  have lo' : s.heap.IsList l old := PySem.IsL.isList eo
  obtain ⟨oz, gz, cz, dz⟩ := id hz
  have tz : s.TypeIs (.ref z) "slice" := ⟨oz, gz, cz⟩
  refine wpAny_delItem_slot lo'.typeIs (by decide) PySem.F.slot_list_delitem ?_
  refine wpAny_call_entry PySem.F.slot_list_delitem lo'.typeIs PySem.F.entry_list_delitem ?_ (PySem.F.args_list_delitem_2 _ _)
  show wpAny _ _ (Builtin.List.listSubscript? (.ref z) >>= _) _ _ s
  refine wpAny_bind ?_
  unfold Builtin.List.listSubscript?
  refine wpAny_bind (wpAny_specialOf tz slice_no_index ?_)
  simp only [Option.isNone_none, if_true]
  refine wpAny_pure ?_
  show wpAny _ _ (typeOf (.ref z) >>= _) _ _ s
  refine wpAny_bind (wpAny_typeOf tz ?_)
  first
    | rw [if_neg (by decide)]
    | refine PySem.W.KFB.if_not (by decide) ?_
  rw [listSliceParts_eq]
  refine wpAny_bind (wpAny_bind (wpAny_field gz dz (x := .none) rfl (wpAny_bind (wpAny_listPart .none ?_))))
  rw [if_neg (show ¬ ((rawPart none == rawInt 0) = true) from Bool.false_ne_true)]
  refine wpAny_bind (wpAny_field gz dz (x := vl) rfl (wpAny_bind (wpAny_listPart pl ?_)))
  refine wpAny_bind (wpAny_field gz dz (x := vu) rfl (wpAny_bind (wpAny_listPart pu (wpAny_pure ?_))))
  unfold Builtin.List.listItems
  refine wpAny_bind (wpAny_bind (wpAny_seqItems eo rfl (wpAny_pure ?_)))
  have si := (sliceIndices_raw lo hi none old.size (by simp)).trans (congrArg (pure : Int × Int × Int → Sem (Int × Int × Int)) bd)
  refine wpAny_bind (wpAny_of_eq si ?_)
  refine wpAny_bind (wpAny_rule ?_)
  refine wpAny_bind ?_
  unfold Builtin.List.listUpdate
  simp only []
  rw [sel_fun (a := a) (c := c) (fun k => by with_unfolding_all rfl)]
  have zz : ((fun t : Array Value => (delL t.toList a c).toArray) old).size ≤ sizeLine + 1 := by
    show (delL old.toList a c).toArray.size ≤ _
    rw [List.size_toArray]
    unfold delL
    rw [List.length_append, List.length_take, List.length_drop, Array.length_toList]; omega
  refine wpAny_updateSeq (hz := fit) (_hz' := zz) eo rfl (wpAny_bind (wpAny_letGo ?_))
  first
    | with_reducible exact wpAny_pure ⟨.none, rfl, k⟩
    | exact wpAny_bind (wpAny_pure (wpAny_pure ⟨.none, rfl, k⟩))
    | exact wpAny_pure ⟨.none, rfl, k⟩
end
/-- what is left of a list whose part from lo to hi is deleted -/
def delV (xs : List V) (lo hi : Option Int) : List V := delL xs (HT.sIx xs.length 0 lo) (HT.sIx xs.length xs.length hi)
theorem bounds_sIx (lo hi : Option Int) (n : Nat) : sliceBounds lo hi none n = ((HT.sIx n 0 lo : Int), (HT.sIx n n hi : Int), 1) := by
  have f : ∀ (v : Option Int) (d : Nat), d ≤ n → (match v with | none => (d : Int) | some i => max 0 (min (if i < 0 then i + (n : Int) else i) (n : Int))) = (HT.sIx n d v : Int) ∨ (∃ i, v = some i ∧ i < 0 ∧ i + (n : Int) > n) := by
    intro v d hd
    cases v with
    | none => exact .inl rfl
    | some i =>
      left
      show max 0 (min (if i < 0 then i + (n : Int) else i) (n : Int)) = ((if i < 0 then (i + (n : Int)).toNat else min i.toNat n : Nat) : Int)
      split <;> omega
  have f1 := (f lo 0 (by omega)).resolve_right (by rintro ⟨i, _, h1, h2⟩; omega)
  have f2 := (f hi n (by omega)).resolve_right (by rintro ⟨i, _, h1, h2⟩; omega)
  rw [← f1, ← f2]
  unfold sliceBounds
  cases lo <;> cases hi <;> rfl
section
variable {X : Cx} {pos : Pos}
def tDelS (to : TE) (tl th : TO) : TS := fun D σ H => to σ H fun o H1 => tl σ H1 fun lo H2 => th σ H2 fun hi H3 => ∃ (l : Addr) (xs : List V), o = .ref l ∧ H3 l = some (.lst xs) ∧ D.nx σ (upd H3 l (.lst (delV xs lo hi)))
theorem ps_delS {o : Expr} {lo hi : Option Expr} {to : TE} {tl th : TO} {p2 tpos : Pos} (ho : PE X o to) (hl : PO X lo tl) (hh : PO X hi th) : PS X (.Delete [.Subscript o (.Slice lo hi none p2) tpos] pos) (tDelS to tl th) := by
  refine ⟨fun pins s σ H D I h => ?_⟩
  refine wpAny_Delete (wpAny_deleteEach_cons (wpAny_delete_Subscript (thn (ho.run pins s σ H _ I h) fun ov s1 ⟨x, H1, I1, r1, q1⟩ => ?_)))
  refine wpAny_Slice (thn (hl.run pins s1 σ H1 _ I1 q1) fun wl s2 ⟨l, H2, I2, pl, q2⟩ => ?_)
  refine thn (hh.run pins s2 σ H2 _ I2 q2) fun wu s3 ⟨uu, H3, I3, pu, q3⟩ => ?_
  rw [evalPart_none]
  refine wpAny_pure ?_
  obtain ⟨p, xs, rfl, hp, fin⟩ := q3
  cases r1
  have I4 : Inv X pins σ H3 { s3 with heap := s3.heap.push { cls := .type "slice", data := .fields #[wl, wu, .none] } } := I3.kept (t' := s3.toks) fun b ob e => Heap.get?_push_of_some _ e
  obtain ⟨z1, us1, n1, rv1, hz1, e1⟩ := I4.lstM hp
  have L1 := rv1.length
  refine del_slice (a := HT.sIx xs.length 0 l) (c := HT.sIx xs.length xs.length uu) e1 (Heap.IsSliceOf.new ..) pl pu (by rw [List.size_toArray, ← L1]; exact bounds_sIx _ _ _) (by rw [List.size_toArray]; omega) ?_
  refine wpAny_deleteEach_nil ⟨σ, _, ?_, fin⟩
  refine I4.lset (its' := delL us1 (HT.sIx xs.length 0 l) (HT.sIx xs.length xs.length uu)) (t' := s3.toks) hp e1 rfl (Vals.append (rv1.take _) (rv1.drop _)) ?_
  show (delL _ _ _).length ≤ _
  unfold delL
  rw [List.length_append, List.length_take, List.length_drop]
  omega
end
end Sip
namespace Sip
open PySem PySem.Spec PyProof.Rows L2 TL
/-- for i, x in enumerate(xs), the list standing -/
theorem for_enum {K : PySem.W.Frag} {a : Addr} {xs : List V} {g : TG} {tb : TS} {D : Ends} {σ : L2.St} {H : Hp} (Pv : Nat → L2.St → Hp → Prop) (h0 : Pv 0 σ H) (hl : ∀ i σ H, i ≤ xs.length → Pv i σ H → SqL K H a xs)
    (hs : ∀ i x σ H T, xs[i]? = some x → Pv i σ H → H T = none → g (.ref T) σ (upd H T (.tup [.int (i : Nat), x])) fun σ2 H2 => tb { D with nx := Pv (i + 1), ct := Pv (i + 1), bk := D.nx } σ2 H2) (hd : ∀ σ H, Pv xs.length σ H → D.nx σ H) :
    ∃ W : Nat → Nat → L2.St → Hp → Prop, (∃ m, W 0 m σ H) ∧ ∀ i m σ H, W i m σ H →
      ((Ite K a).stop i H ∧ D.nx σ H) ∨ ((Ite K a).go i H ∧ ∃ N : L2.St → Hp → Prop, (∀ σ' H', N σ' H' → ∃ m', m' < m ∧ W (i + 1) m' σ' H') ∧ ∀ x H', (Ite K a).yld i H x H' → g x σ H' fun σ2 H2 => tb { D with nx := N, ct := N, bk := D.nx } σ2 H2) := by
  refine ⟨fun i m σ H => m = xs.length - i ∧ i ≤ xs.length ∧ Pv i σ H, ⟨xs.length, by simp, Nat.zero_le _, h0⟩, ?_⟩
  rintro i m σ H ⟨rfl, hi, p⟩
  have q := hl i σ H hi p
  by_cases hlt : i < xs.length
  · refine .inr ⟨⟨xs, xs[i], q, by simp [hlt]⟩, Pv (i + 1), fun σ' H' p' => ⟨xs.length - (i + 1), by omega, rfl, hlt, p'⟩, fun x H' y => ?_⟩
    obtain ⟨T, y, rfl, nT, rfl, hy⟩ := y
    exact hs i y σ _ T (hy xs q) p nT
  · have e : i = xs.length := by omega
    subst e
    exact .inl ⟨⟨xs, q, Nat.le_refl _⟩, hd σ H p⟩
end Sip
namespace Sip
open PySem PySem.Spec PyProof.Rows L2 TL
section
variable {X : Cx} {e : Expr} {te : TE}
/-- a bound of a slice that may be None -/
def tPartO (te : TE) : TO := fun σ H Q => te σ H fun x H1 => ∃ k : Option Int, x = (match k with | none => .non | some i => .int i) ∧ Q k H1
theorem po_opt (h : PE X e te) : PO X (some e) (tPartO te) := by
  refine ⟨fun pins s σ H Q I hw => ?_⟩
  rw [evalPart_some]
  refine thn (h.run pins s σ H _ I hw) fun u s1 ⟨x, H1, I1, r1, q1⟩ => ?_
  obtain ⟨k, rfl, q⟩ := q1
  cases k with
  | none =>
    cases (show u = Value.none from r1)
    exact ⟨none, H1, I1, .none, q⟩
  | some i =>
    obtain ⟨t, rfl⟩ := (show ∃ t, u = Value.int i t from r1)
    exact ⟨some i, H1, I1, .int i t, q⟩
end
def cntV : Option Nat → V
  | none => .non
  | some n => .int n
def cntI : Option Nat → Option Int
  | none => none
  | some n => some n
theorem cntV_eq (k : Option Nat) : cntV k = (match cntI k with | none => V.non | some i => .int i) := by cases k <;> rfl
def takeO (k : Option Nat) (xs : List Int) : List Int := match k with
  | none => xs
  | some n => xs.take n
theorem cut_O (r : List Int) (k : Option Nat) : cutV (r.map V.int) none (cntI k) = (takeO k r).map V.int := by
  cases k with
  | none =>
    unfold cutV cntI takeO
    rw [HT.sIx_none, HT.sIx_none, List.length_map]
    show (r.map V.int).take (r.length - 0) = _
    exact List.take_of_length_le (by rw [List.length_map]; omega)
  | some n => exact take_cut r n
theorem takeO_len (k : Option Nat) (xs : List Int) : (takeO k xs).length ≤ xs.length := by
  cases k with
  | none => exact Nat.le_refl _
  | some n => show (xs.take n).length ≤ _; rw [List.length_take]; omega
def lineF (xs : List Int) : List Int := xs.take (xs.idxOf 10 + 1)
theorem lineF_no {xs : List Int} (h : (10 : Int) ∉ xs) : lineF xs = xs := by
  unfold lineF
  exact List.take_of_length_le (by rw [List.idxOf_eq_length h]; omega)
theorem idx_take (xs : List Int) (n : Nat) : (xs.take n).idxOf 10 = min (xs.idxOf 10) (xs.take n).length := by
  induction xs generalizing n with
  | nil => simp
  | cons x r ih =>
    cases n with
    | zero => simp
    | succ n =>
      rw [List.take_succ_cons, List.idxOf_cons, List.idxOf_cons, List.length_cons]
      by_cases h : x = 10
      · subst h; simp
      · have : (x == 10) = false := by simpa using h
        rw [this]
        simp only [cond_false]
        rw [ih n]; omega
theorem lineF_take (xs : List Int) (n : Nat) : lineF (xs.take n) = (lineF xs).take n := by
  unfold lineF
  rw [idx_take, List.take_take, List.take_take]
  rw [List.length_take]
  by_cases h : n ≤ xs.length
  · congr 1; omega
  · rw [List.take_of_length_le (l := xs) (by omega : xs.length ≤ n) |>.symm]
    by_cases g : xs.idxOf 10 < xs.length
    · rw [List.take_of_length_le (l := xs) (by omega : xs.length ≤ n)]; congr 1; omega
    · rw [List.take_of_length_le (l := xs) (by omega : xs.length ≤ n)]
      have : xs.idxOf 10 ≤ xs.length := List.idxOf_le_length
      rw [List.take_of_length_le (by omega), List.take_of_length_le (by omega)]
theorem lineF_O (xs : List Int) (k : Option Nat) : lineF (takeO k xs) = takeO k (lineF xs) := by
  cases k with
  | none => rfl
  | some n => exact lineF_take xs n
theorem inV_ten (xs : List Int) (v : Int) : inV (.int v) (xs.map V.int) = decide (v ∈ xs) := by
  unfold inV
  rw [List.any_map]
  rw [Bool.eq_iff_iff, List.any_eq_true, decide_eq_true_iff]
  constructor
  · rintro ⟨x, hx, e⟩
    have e1 : x = v := by
      have : eqV (.int x) (.int v) = true := e
      simpa [eqV] using this
    rw [← e1]; exact hx
  · intro h
    exact ⟨v, h, by show eqV (.int v) (.int v) = true; simp [eqV]⟩
theorem flat_ints (xs : List Int) : (xs.map V.int).all flatV = true := by
  rw [List.all_map, List.all_eq_true]
  intro x _
  rfl
theorem idx_facts {xs : List Int} {v : Int} (h : v ∈ xs) : (xs.map V.int)[xs.idxOf v]? = some (.int v) ∧ ∀ (m : Nat) (z : V), m < xs.idxOf v → (xs.map V.int)[m]? = some z → eqV z (.int v) = false := by
  have hl : xs.idxOf v < xs.length := List.idxOf_lt_length_of_mem h
  refine ⟨?_, fun m z hm hz => ?_⟩
  · rw [List.getElem?_map, List.getElem?_eq_getElem hl, List.getElem_idxOf hl]; rfl
  · rw [List.getElem?_map] at hz
    obtain ⟨y, hy, rfl⟩ := Option.map_eq_some_iff.mp hz
    have : y ≠ v := by
      intro e
      subst e
      have hm' : m < xs.length := by omega
      rw [List.getElem?_eq_getElem hm'] at hy
      have := List.not_of_lt_findIdx (p := (· == y)) (xs := xs) (i := m) hm
      have e2 : xs[m] = y := Option.some.inj hy
      rw [e2] at this
      simp at this
    show eqV (.int y) (.int v) = false
    simpa [eqV] using this
theorem mid_cut (r : List Int) (c n : Nat) : cutV (r.map V.int) (some (c : Int)) (some ((c + n : Nat) : Int)) = ((r.drop c).take n).map V.int := by
  unfold cutV
  rw [HT.sIx_nat, HT.sIx_nat, List.length_map, ← List.map_drop, ← List.map_take]
  congr 1
  by_cases h : c ≤ r.length
  · rw [Nat.min_eq_left h]
    by_cases g : c + n ≤ r.length
    · rw [Nat.min_eq_left g, Nat.add_sub_cancel_left]
    · rw [Nat.min_eq_right (by omega), List.take_of_length_le (by rw [List.length_drop]; omega), List.take_of_length_le (by rw [List.length_drop]; omega)]
  · rw [Nat.min_eq_right (by omega : r.length ≤ c), Nat.min_eq_right (by omega), List.drop_of_length_le (Nat.le_refl _), List.drop_of_length_le (by omega : r.length ≤ c)]
    simp
theorem past_le (r : List Int) (c n m : Nat) (h1 : r.length ≤ m) (h2 : c ≤ m) : c + ((r.drop c).take n).length ≤ m := by
  rw [List.length_take, List.length_drop]; omega
/-! promises of the reading calls -/
def spPPeek (PA : PP) : Sp := fun vs H Q _ => ∃ (p : Addr) (F : Addr → Prop) (r : List Int) (c : Nat) (k : Option Nat), vs = [.ref p, cntV k] ∧ PA H p F r c ∧
  ∀ (H' : Hp) (q : Addr), H q = none → H' q = some (.lst ((takeO k (r.drop c)).map V.int)) → Same H H' → Q (.ref q) H'
def spPRead (PA : PP) : Sp := fun vs H Q _ => ∃ (p : Addr) (F : Addr → Prop) (r : List Int) (c : Nat) (k : Option Nat), vs = [.ref p, cntV k] ∧ PA H p F r c ∧
  ∀ (H' : Hp) (F' : Addr → Prop) (q : Addr), PA H' p F' r (c + (takeO k (r.drop c)).length) → H q = none → ¬ F' q → H' q = some (.lst ((takeO k (r.drop c)).map V.int)) → Step F H F' H' → Q (.ref q) H'
def spPLine (PA : PP) : Sp := fun vs H Q _ => ∃ (p : Addr) (F : Addr → Prop) (r : List Int) (c : Nat) (k : Option Nat), vs = [.ref p, cntV k] ∧ PA H p F r c ∧ r.length ≤ 10000 ∧
  ∀ (H' : Hp) (F' : Addr → Prop) (q : Addr), PA H' p F' r (c + (takeO k (lineF (r.drop c))).length) → H q = none → ¬ F' q → H' q = some (.lst ((takeO k (lineF (r.drop c))).map V.int)) → Step F H F' H' → Q (.ref q) H'
def spFLine (K : PySem.W.Frag) : Sp := fun vs H Q _ => ∃ (a : Addr) (xs : List Int) (k : Option Nat), vs = [.ref a, cntV k] ∧ SqL K H a (xs.map V.int) ∧ xs.length ≤ 10000 ∧
  ∀ (H' : Hp) (q : Addr), H q = none → H' q = some (.lst ((takeO k (lineF xs)).map V.int)) → Same H H' → Q (.ref q) H'
def spCount : Sp := fun vs H Q _ => ∃ k : Option Nat, vs = [cntV k] ∧ Q .non H
def spAhead (PA : PP) : Sp := fun vs H Q _ => ∃ (p : Addr) (F : Addr → Prop) (r : List Int) (c : Nat), vs = [.ref p] ∧ PA H p F r c ∧
  ∀ (H' : Hp) (q : Addr), H q = none → H' q = some (.lst ((r.drop c).map V.int)) → Same H H' → Q (.ref q) H'
def spPassed (PA : PP) : Sp := fun vs H Q _ => ∃ (p t : Addr) (F : Addr → Prop) (r xs : List Int) (c : Nat), vs = [.ref p, .ref t] ∧ PA H p F r c ∧ ¬ F t ∧ H t = some (.lst (xs.map V.int)) ∧
  ∀ (H' : Hp) (F' : Addr → Prop), PA H' p F' r (c + xs.length) → ¬ F' t → H' t = some (.lst (xs.map V.int)) → Step F H F' H' → Q (.ref t) H'
end Sip
namespace Sip
open PySem PySem.Spec PyProof.Rows L2 TL
/-! ### tuples alike -/
section
variable {X : Cx}
def rEqS (K : PySem.W.Frag) : R2 := fun x y H Q => ∃ d, Dp K H x d ∧ Dp K H y d ∧ SeqAt.shaped d = true ∧ Q (.bl true) H
def rNeS (K : PySem.W.Frag) : R2 := fun x y H Q => ∃ d, Dp K H x d ∧ Dp K H y d ∧ SeqAt.shaped d = true ∧ Q (.bl false) H
theorem eqv_same {d : PyData} (h : SeqAt.shaped d = true) : PyData.eqv d d = true := SeqAt.eqv_refl d (SeqAt.canLay_of_shaped h)
theorem op_eqS (hu : X.A.units + 64 < cLine) : OpR X (compareOp .Eq) (rEqS X.K) := by
  intro pins s σ H x y v u Q I rx ry h
  obtain ⟨d, h1, h2, h3, q⟩ := h
  exact op_eqD hu pins s σ H x y v u Q I rx ry ⟨d, d, h1, h2, h3, h3, by rw [eqv_same h3]; exact q⟩
theorem op_neS (hu : X.A.units + 64 < cLine) : OpR X (compareOp .NotEq) (rNeS X.K) := by
  intro pins s σ H x y v u Q I rx ry h
  obtain ⟨d, h1, h2, h3, q⟩ := h
  exact op_neD hu pins s σ H x y v u Q I rx ry ⟨d, d, h1, h2, h3, h3, by rw [eqv_same h3]; exact q⟩
/-- == of two tuples of ints -/
def rEqTI (K : PySem.W.Frag) : R2 := fun x y H Q => ∃ (a b : Addr) (ns ms : List Int), x = .ref a ∧ y = .ref b ∧ SqT K H a (ns.map V.int) ∧ SqT K H b (ms.map V.int) ∧ Q (.bl (decide (ns = ms))) H
theorem lay_ints : ∀ ns : List Int, PyData.canLayAll0 (ns.map PyData.int) = true
  | [] => rfl
  | n :: r => by
    have := lay_ints r
    simp [PyData.canLayAll0, PyData.canLay0, this]
theorem eqv_ints : ∀ ns ms : List Int, PyData.eqvAll (ns.map PyData.int) (ms.map PyData.int) = decide (ns = ms)
  | [], [] => rfl
  | [], _ :: _ => by simp [PyData.eqvAll]
  | _ :: _, [] => by simp [PyData.eqvAll]
  | n :: r, m :: t => by
    show (PyData.eqv (.int n) (.int m) && PyData.eqvAll (r.map PyData.int) (t.map PyData.int)) = _
    rw [eqv_ints r t]
    show ((n == m) && decide (r = t)) = _
    by_cases h : n = m <;> by_cases g : r = t <;> simp [h, g]
end
theorem shaped_ints (ns : List Int) : SeqAt.shaped (.tuple (ns.map PyData.int)) = true := by
  unfold SeqAt.shaped
  rw [Bool.and_eq_true]
  refine ⟨lay_ints ns, decide_eq_true ?_⟩
  have : ∀ ms : List Int, PyData.depthAll (ms.map PyData.int) ≤ 1 := by
    intro ms
    induction ms with
    | nil => simp [PyData.depthAll]
    | cons m r ih => simp [PyData.depthAll, PyData.depth]; try omega
  have h := this ns
  show PyData.depth (.tuple (ns.map PyData.int)) ≤ 64
  simp [PyData.depth]; try omega
section
variable {X : Cx}
theorem op_eqTI (hu : X.A.units + 64 < cLine) : OpR X (compareOp .Eq) (rEqTI X.K) := by
  intro pins s σ H x y v u Q I rx ry h
  obtain ⟨a, b, ns, ms, rfl, rfl, ha, hb, q⟩ := h
  exact op_eqD hu pins s σ H _ _ v u Q I rx ry ⟨.tuple (ns.map PyData.int), .tuple (ms.map PyData.int), .tup ha (dp_ints ns), .tup hb (dp_ints ms), shaped_ints ns, shaped_ints ms, by
    rw [show PyData.eqv (.tuple (ns.map PyData.int)) (.tuple (ms.map PyData.int)) = decide (ns = ms) from eqv_ints ns ms]; exact q⟩
end
theorem dp4 {K : PySem.W.Frag} {H : Hp} {q : Addr} {w : Str} {a b c : Int} (h : SqT K H q [.str w, .int a, .int b, .int c]) : Dp K H (.ref q) (.tuple [.str w, .int a, .int b, .int c]) :=
  .tup h (.cons (.str _) (.cons (.int _) (.cons (.int _) (.cons (.int _) .nil))))
theorem sh4 {w : Str} (h : PyData.strOk w = true) (a b c : Int) : SeqAt.shaped (.tuple [.str w, .int a, .int b, .int c]) = true := by
  simp [SeqAt.shaped, PyData.canLay0, PyData.canLayAll0, PyData.depth, PyData.depthAll, h]
/-! ### the codes -/
inductive Cd
  | plain | steps | wide | turn
def Cd.w : Cd → Str
  | .plain => Str.ofString "plain"
  | .steps => Str.ofString "steps"
  | .wide => Str.ofString "wide"
  | .turn => Str.ofString "turn"
def skipT : List Int → Nat → Int → Nat × Int
  | [], p, s => (p, s)
  | x :: r, p, s => if 128 ≤ x then skipT r (p + 1) (x - 128) else (p, s)
def markW (row : List Int) (p : Nat) : Nat × Int :=
  if (row.drop p).take 2 = [254, 255] then (p + 2, 2) else if (row.drop p).take 2 = [255, 254] then (p + 2, 1) else (p, 2)
def goneF (c : Cd) (row : List Int) (p : Nat) (s : Int) : Nat × Int := match c with
  | .turn => skipT (row.drop p) p s
  | .wide => if s = 0 then markW row p else (p, s)
  | _ => (p, s)
def leadF (x : Int) : Nat × Int :=
  if x < 128 then (1, 0) else if x < 192 then (0, 0) else if x < 224 then (2, 192) else if x < 240 then (3, 224) else if x < 248 then (4, 240) else (0, 0)
def stepsW (n : Int) : List Int :=
  if n < 128 then [n] else if n < 2048 then [192 + n / 64, 128 + n % 64] else if n < 65536 then [224 + n / 4096, 128 + n / 64 % 64, 128 + n % 64]
  else [240 + n / 262144, 128 + n / 4096 % 64, 128 + n / 64 % 64, 128 + n % 64]
def foldS (s : Int) (xs : List Int) : Int := xs.foldl (fun s b => 64 * s + b - 128) s
def stepsAt (xs : List Int) : Int × Nat :=
  let l := leadF (xs.headD 0)
  let wr := xs.take l.1
  let sg := foldS (xs.headD 0 - l.2) (wr.drop 1)
  if stepsW sg = wr then (sg, l.1) else (0, 0)
def signF (c : Cd) (row : List Int) (b : Nat) (s : Int) : Int × Nat := match c with
  | .steps => stepsAt (row.drop b)
  | .wide => if row.length < b + 2 then (0, 0) else if s = 1 then (row.getD b 0 + 256 * row.getD (b + 1) 0, 2) else (256 * row.getD b 0 + row.getD (b + 1) 0, 2)
  | .turn => (128 * s + row.getD b 0, 1)
  | .plain => (row.getD b 0, 1)
def fourV (w : Str) (a : Int) (p : Nat) (s : Int) : List V := [.str w, .int a, .int p, .int s]
def tellF (row : List Int) (p : Nat) (s : Int) (g : Nat × Int) (t : Int × Nat) : List V :=
  if row.length ≤ g.1 then fourV (Str.ofString "end") 0 p s else if t.2 = 0 then fourV (Str.ofString "wrong") 0 (g.1 + 1) g.2 else fourV (Str.ofString "sign") t.1 (g.1 + t.2) g.2
def readF (c : Cd) (row : List Int) (p : Nat) (s : Int) : List V := tellF row p s (goneF c row p s) (signF c row (goneF c row p s).1 (goneF c row p s).2)
theorem readF_shape (c : Cd) (row : List Int) (p : Nat) (s : Int) : ∃ (w : Str) (a : Int) (p' : Nat) (s' : Int), readF c row p s = fourV w a p' s' ∧ PyData.strOk w = true := by
  unfold readF tellF
  split
  · exact ⟨_, _, _, _, rfl, by decide +kernel⟩
  · split
    · exact ⟨_, _, _, _, rfl, by decide +kernel⟩
    · exact ⟨_, _, _, _, rfl, by decide +kernel⟩
/-- two told tuples alike -/
theorem dp_read {K : PySem.W.Frag} {H : Hp} {a b : Addr} {c : Cd} {row : List Int} {p : Nat} {s : Int} (ha : SqT K H a (readF c row p s)) (hb : SqT K H b (readF c row p s)) : ∃ d, Dp K H (.ref a) d ∧ Dp K H (.ref b) d ∧ SeqAt.shaped d = true := by
  obtain ⟨w, x, p', s', e, h⟩ := readF_shape c row p s
  rw [e] at ha hb
  exact ⟨_, dp4 ha, dp4 hb, sh4 h _ _ _⟩
/-! promises -/
def newT (H : Hp) (vs : List V) (Q : VK) : Prop := ∀ (H' : Hp) (q : Addr), H q = none → H' q = some (.tup vs) → Same H H' → Q (.ref q) H'
def spChk : Sp := fun vs H Q _ => ∃ c : Cd, vs = [.str c.w] ∧ ∀ H', Same H H' → Q .non H'
def spBT (K : PySem.W.Frag) : Sp := fun vs H Q _ => ∃ (a : Addr) (row : List Int) (p : Nat) (s : Int), vs = [.ref a, .int p, .int s] ∧ SqL K H a (row.map V.int) ∧ newT H [.int (skipT (row.drop p) p s).1, .int (skipT (row.drop p) p s).2] Q
def spBM (K : PySem.W.Frag) : Sp := fun vs H Q _ => ∃ (a : Addr) (row : List Int) (p : Nat), vs = [.ref a, .int p] ∧ SqL K H a (row.map V.int) ∧ newT H [.int (markW row p).1, .int (markW row p).2] Q
def spGone (K : PySem.W.Frag) : Sp := fun vs H Q _ => ∃ (a : Addr) (row : List Int) (p : Nat) (s : Int) (c : Cd), vs = [.ref a, .int p, .int s, .str c.w] ∧ SqL K H a (row.map V.int) ∧ newT H [.int (goneF c row p s).1, .int (goneF c row p s).2] Q
def spWideAt (K : PySem.W.Frag) : Sp := fun vs H Q _ => ∃ (a : Addr) (row : List Int) (b : Nat) (s : Int), vs = [.ref a, .int b, .int s] ∧ SqL K H a (row.map V.int) ∧ b < row.length ∧ newT H [.int (signF .wide row b s).1, .int (signF .wide row b s).2] Q
def spStepsAt (K : PySem.W.Frag) : Sp := fun vs H Q _ => ∃ (a : Addr) (row : List Int) (b : Nat), vs = [.ref a, .int b] ∧ SqL K H a (row.map V.int) ∧ b < row.length ∧ newT H [.int (stepsAt (row.drop b)).1, .int (stepsAt (row.drop b)).2] Q
def spLead : Sp := fun vs H Q _ => ∃ x : Int, vs = [.int x] ∧ newT H [.int (leadF x).1, .int (leadF x).2] Q
def spStepsW : Sp := fun vs H Q _ => ∃ n : Int, vs = [.int n] ∧ ∀ (H' : Hp) (q : Addr), H q = none → H' q = some (.lst ((stepsW n).map V.int)) → Same H H' → Q (.ref q) H'
def spSignAt (K : PySem.W.Frag) (ok : Cd → Prop) : Sp := fun vs H Q _ => ∃ (a : Addr) (row : List Int) (b : Nat) (s : Int) (c : Cd), vs = [.ref a, .int b, .int s, .str c.w] ∧ ok c ∧ SqL K H a (row.map V.int) ∧ b < row.length ∧ newT H [.int (signF c row b s).1, .int (signF c row b s).2] Q
def spReadS (K : PySem.W.Frag) (ok : Cd → Prop) : Sp := fun vs H Q _ => ∃ (a : Addr) (row : List Int) (p : Nat) (s : Int) (c : Cd), vs = [.ref a, .int p, .int s, .str c.w] ∧ ok c ∧ SqL K H a (row.map V.int) ∧ newT H (readF c row p s) Q
end Sip
namespace Sip
open PySem PySem.Spec PyProof.Rows L2 TL
/-! the code steps: what is written is read -/
def baseF (m : Nat) : Int := match m with | 0 => 0 | 1 => 192 | 2 => 224 | _ => 240
theorem stepsW_back {s : Int} (h0 : 0 ≤ s) (h1 : s < 2097152) : ∃ (x : Int) (r : List Int) (m : Nat), stepsW s = x :: r ∧ r.length = m ∧ m ≤ 3 ∧ leadF x = (m + 1, baseF m) ∧ foldS (x - baseF m) r = s ∧ ∀ b ∈ x :: r, 0 ≤ b ∧ b ≤ 255 := by
  unfold stepsW
  by_cases a : s < 128
  · rw [if_pos a]
    refine ⟨s, [], 0, rfl, rfl, by omega, ?_, ?_, ?_⟩
    · unfold leadF baseF; rw [if_pos a]; rfl
    · show s - 0 = s; omega
    · intro b hb; rw [List.mem_singleton.mp hb]; omega
  · rw [if_neg a]
    by_cases b : s < 2048
    · rw [if_pos b]
      refine ⟨_, _, 1, rfl, rfl, by omega, ?_, ?_, ?_⟩
      · unfold leadF baseF; rw [if_neg (by omega), if_neg (by omega), if_pos (by omega)]; rfl
      · show 64 * (192 + s / 64 - 192) + (128 + s % 64) - 128 = s; omega
      · intro b hb; simp only [List.mem_cons, List.mem_nil_iff, or_false] at hb; rcases hb with rfl | rfl <;> omega
    · rw [if_neg b]
      by_cases c : s < 65536
      · rw [if_pos c]
        refine ⟨_, _, 2, rfl, rfl, by omega, ?_, ?_, ?_⟩
        · unfold leadF baseF; rw [if_neg (by omega), if_neg (by omega), if_neg (by omega), if_pos (by omega)]; rfl
        · show 64 * (64 * (224 + s / 4096 - 224) + (128 + s / 64 % 64) - 128) + (128 + s % 64) - 128 = s; omega
        · intro b hb; simp only [List.mem_cons, List.mem_nil_iff, or_false] at hb; rcases hb with rfl | rfl | rfl <;> omega
      · rw [if_neg c]
        refine ⟨_, _, 3, rfl, rfl, by omega, ?_, ?_, ?_⟩
        · unfold leadF baseF; rw [if_neg (by omega), if_neg (by omega), if_neg (by omega), if_neg (by omega), if_pos (by omega)]; rfl
        · show 64 * (64 * (64 * (240 + s / 262144 - 240) + (128 + s / 4096 % 64) - 128) + (128 + s / 64 % 64) - 128) + (128 + s % 64) - 128 = s; omega
        · intro b hb; simp only [List.mem_cons, List.mem_nil_iff, or_false] at hb; rcases hb with rfl | rfl | rfl | rfl <;> omega
def sgM (xs : List Int) (m : Nat) : Int := foldS (xs.headD 0 - baseF m) ((xs.take (m + 1)).drop 1)
def condM (xs : List Int) (m : Nat) : Prop := 0 ≤ sgM xs m ∧ sgM xs m < 2097152 ∧ stepsW (sgM xs m) = xs.take (m + 1)
theorem cond_at {xs : List Int} {m : Nat} (h : condM xs m) : stepsAt xs = (sgM xs m, (xs.take (m + 1)).length) ∧ (xs.take (m + 1)).length ≠ 0 := by
  obtain ⟨h0, h1, h2⟩ := h
  obtain ⟨x, r, k, e, lr, k3, el, ef, _⟩ := stepsW_back h0 h1
  rw [h2] at e
  generalize sgM xs m = s at *
  cases xs with
  | nil => simp at e
  | cons y t =>
    rw [List.take_succ_cons] at e h2 ⊢
    obtain ⟨rfl, er⟩ := List.cons.inj e
    have lt : (t.take m).length = k := by rw [er]; exact lr
    have et : t.take k = t.take m := by
      rw [← lt, List.length_take]
      by_cases g : m ≤ t.length
      · rw [Nat.min_eq_left g]
      · rw [Nat.min_eq_right (by omega), List.take_of_length_le (Nat.le_refl _), List.take_of_length_le (by omega)]
    refine ⟨?_, by simp⟩
    unfold stepsAt
    show (if stepsW (foldS (y - (leadF y).2) (((y :: t).take (leadF y).1).drop 1)) = (y :: t).take (leadF y).1 then _ else _) = _
    rw [el]
    dsimp only
    rw [List.take_succ_cons, List.drop_succ_cons, List.drop_zero, et, er, ef, h2, er, if_pos rfl, List.length_cons, lr]
    show (foldS (y - (leadF y).2) (List.drop 1 (List.take (leadF y).1 (y :: t))), (leadF y).1) = _
    rw [el]
    dsimp only
    rw [List.take_succ_cons, List.drop_succ_cons, List.drop_zero, et, er, ef]
theorem at_cond {xs : List Int} (hn : xs ≠ []) (nn : ∀ b ∈ xs, 0 ≤ b) (h : ∀ m, m < 4 → ¬ condM xs m) : stepsAt xs = (0, 0) := by
  cases xs with
  | nil => exact absurd rfl hn
  | cons x t =>
    have x0 := nn x (by simp)
    unfold stepsAt
    show (if stepsW (foldS (x - (leadF x).2) (((x :: t).take (leadF x).1).drop 1)) = (x :: t).take (leadF x).1 then _ else _) = _
    have lead : (leadF x).1 = 0 ∨ ∃ m, m < 4 ∧ leadF x = (m + 1, baseF m) ∧ (m = 0 → x < 128) ∧ (0 < m → 192 ≤ x) ∧ (m = 3 → x < 248) := by
      unfold leadF
      by_cases a : x < 128
      · rw [if_pos a]; exact .inr ⟨0, by omega, rfl, fun _ => a, by omega, by omega⟩
      · rw [if_neg a]
        by_cases b : x < 192
        · rw [if_pos b]; exact .inl rfl
        · rw [if_neg b]
          by_cases c : x < 224
          · rw [if_pos c]; exact .inr ⟨1, by omega, rfl, by omega, by omega, by omega⟩
          · rw [if_neg c]
            by_cases d : x < 240
            · rw [if_pos d]; exact .inr ⟨2, by omega, rfl, by omega, by omega, by omega⟩
            · rw [if_neg d]
              by_cases e : x < 248
              · rw [if_pos e]; exact .inr ⟨3, by omega, rfl, by omega, by omega, fun _ => e⟩
              · rw [if_neg e]; exact .inl rfl
    have ne : ∀ s, stepsW s ≠ [] := by
      intro s; unfold stepsW; split
      · simp
      · split
        · simp
        · split <;> simp
    rcases lead with l0 | ⟨m, m4, el, ma, mb, mc⟩
    · rw [l0, List.take_zero, if_neg (ne _)]
    · rw [el]
      dsimp only
      refine if_neg fun e => h m m4 ?_
      have es : sgM (x :: t) m = foldS (x - baseF m) (((x :: t).take (m + 1)).drop 1) := rfl
      rw [← es] at e
      refine ⟨?_, ?_, e⟩
      · by_cases hs : sgM (x :: t) m < 0
        · exfalso
          have e1 : stepsW (sgM (x :: t) m) = [sgM (x :: t) m] := by unfold stepsW; rw [if_pos (by omega)]
          rw [e1, List.take_succ_cons] at e
          have := (List.cons.inj e).1
          omega
        · omega
      · by_cases hs : sgM (x :: t) m < 2097152
        · exact hs
        · exfalso
          have e1 : stepsW (sgM (x :: t) m) = [240 + sgM (x :: t) m / 262144, 128 + sgM (x :: t) m / 4096 % 64, 128 + sgM (x :: t) m / 64 % 64, 128 + sgM (x :: t) m % 64] := by
            unfold stepsW; rw [if_neg (by omega), if_neg (by omega), if_neg (by omega)]
          rw [e1, List.take_succ_cons] at e
          obtain ⟨e2, e3⟩ := List.cons.inj e
          have l3 : (t.take m).length = 3 := by rw [← e3]; rfl
          rw [List.length_take] at l3
          have : m = 3 := by omega
          have := mc this
          omega
/-- the digits of sixty-four behind the first i ones, the eldest ahead -/
def restF (n : Int) : Nat → List Int
  | 0 => []
  | i + 1 => (128 + (n / 64 ^ i) % 64) :: restF n i
theorem restF_len (n : Int) (i : Nat) : (restF n i).length = i := by
  induction i with
  | zero => rfl
  | succ i ih => show (restF n i).length + 1 = _; rw [ih]
theorem restF_nn (n : Int) (i : Nat) : ∀ b ∈ restF n i, 0 ≤ b := by
  induction i with
  | zero => intro b hb; cases hb
  | succ i ih =>
    intro b hb
    rcases List.mem_cons.mp hb with rfl | hb
    · have := Int.emod_nonneg (n / 64 ^ i) (show (64 : Int) ≠ 0 by decide); omega
    · exact ih b hb
theorem div_next (n : Int) (i : Nat) : n / 64 ^ i / 64 = n / 64 ^ (i + 1) := by
  rw [Int.ediv_ediv_of_nonneg (Int.pow_nonneg (by decide)), Int.pow_succ]
theorem restF3 (n : Int) : restF n 3 = [128 + n / 4096 % 64, 128 + n / 64 % 64, 128 + n % 64] := by
  show [128 + (n / 4096) % 64, 128 + (n / 64) % 64, 128 + (n / 1) % 64] = _
  rw [Int.ediv_one]
theorem restF2 (n : Int) : restF n 2 = [128 + n / 64 % 64, 128 + n % 64] := by
  show [128 + (n / 64) % 64, 128 + (n / 1) % 64] = _
  rw [Int.ediv_one]
theorem restF1 (n : Int) : restF n 1 = [128 + n % 64] := by
  show [128 + (n / 1) % 64] = _
  rw [Int.ediv_one]
theorem foldS_snoc (s : Int) (xs : List Int) (x : Int) : foldS s (xs ++ [x]) = 64 * foldS s xs + x - 128 := by
  unfold foldS; rw [List.foldl_append]; rfl
def sizeF : Cd → Int
  | .plain => 256
  | .steps => 2097152
  | .wide => 65536
  | .turn => 16384
theorem sizeF_b (c : Cd) : 256 ≤ sizeF c ∧ sizeF c ≤ 2097152 := by cases c <;> decide
/-! promises of a law's own defs about signs -/
def spSignL : Sp := fun vs H Q _ => ∃ (p : Addr) (n : Int) (o : HO) (c : Cd), vs = [.ref p, .str c.w] ∧ H p = some o ∧ PoolO n o ∧ n ≤ 900000000 ∧
  ∀ (H' : Hp) (g : Int) (o' : HO), 0 ≤ g → g < sizeF c → H' p = some o' → PoolO (n + 3) o' → Kp [p] H H' → Q (.int g) H'
def spStepsL : Sp := fun vs H Q _ => ∃ n : Int, vs = [.int n] ∧ 0 ≤ n ∧ n < 2097152 ∧ ∀ (H' : Hp) (q : Addr), H q = none → H' q = some (.lst ((stepsW n).map V.int)) → Same H H' → Q (.ref q) H'
def spStepsRd (K : PySem.W.Frag) : Sp := fun vs H Q _ => ∃ (x : Addr) (row : List Int) (p : Nat), vs = [.ref x, .int p] ∧ SqL K H x (row.map V.int) ∧ p < row.length ∧ (∀ b ∈ row, 0 ≤ b) ∧ row.length ≤ 1000 ∧ newT H (readF .steps row p 0) Q
end Sip
namespace Sip
open PySem PySem.Spec PyProof.Rows L2 TL
def manyF (n : Int) : Nat := if n < 2048 then 1 else if n < 65536 then 2 else 3
theorem manyF_b (n : Int) : 1 ≤ manyF n ∧ manyF n ≤ 3 := by unfold manyF; split; · omega
                                                            split <;> omega
theorem many_val (n : Int) : (1 : Int) + (if decide (n > 2047) = true then 1 else 0) + (if decide (n > 65535) = true then 1 else 0) = (manyF n : Int) := by
  unfold manyF
  by_cases a : n < 2048
  · rw [if_pos a, if_neg (by simp; omega), if_neg (by simp; omega)]; rfl
  · by_cases b : n < 65536
    · rw [if_neg a, if_pos b, if_pos (by simp; omega), if_neg (by simp; omega)]; rfl
    · rw [if_neg a, if_neg b, if_pos (by simp; omega), if_pos (by simp; omega)]; rfl
theorem stepsW_rest {n : Int} (h : 128 ≤ n) : stepsW n = (baseF (manyF n) + n / 64 ^ manyF n) :: restF n (manyF n) := by
  unfold stepsW manyF
  rw [if_neg (by omega)]
  by_cases a : n < 2048
  · rw [if_pos a, if_pos a, restF1]; rfl
  · rw [if_neg a, if_neg a]
    by_cases b : n < 65536
    · rw [if_pos b, if_pos b, restF2]; rfl
    · rw [if_neg b, if_neg b, restF3]; rfl
theorem base_at {m : Nat} (h1 : 1 ≤ m) (h3 : m ≤ 3) : atI [V.int 192, .int 224, .int 240] ((m : Int) - 1) = some (.int (baseF m)) := by
  rcases (show m = 1 ∨ m = 2 ∨ m = 3 by omega) with rfl | rfl | rfl <;> rfl
theorem base_at0 {m : Nat} (h3 : m ≤ 3) : atI [V.int 0, .int 192, .int 224, .int 240] (m : Int) = some (.int (baseF m)) := by
  rcases (show m = 0 ∨ m = 1 ∨ m = 2 ∨ m = 3 by omega) with rfl | rfl | rfl | rfl <;> rfl
def sizesK : List (Key × V) := [(Sum.inr (Str.ofString "plain"), .int 256), (Sum.inr (Str.ofString "steps"), .int 2097152), (Sum.inr (Str.ofString "wide"), .int 65536), (Sum.inr (Str.ofString "turn"), .int 16384)]
theorem sizes_at (c : Cd) : valV (mergeK [] sizesK) (Sum.inr c.w) = some (.int (sizeF c)) := by
  cases c <;> kernel_rfl
theorem edges_nn : ∀ y ∈ ([0, 127, 128, 255, 2047, 2048, 65535, 65536, 2097151, 65279, 65534, 65533, 16383] : List Int), 0 ≤ y := by decide
end Sip
namespace Sip
open PySem PySem.Spec PyProof.Rows L2 TL
/-! writing signs -/
def signW (c : Cd) (g s : Int) : List Int × Int := match c with
  | .plain => ([g], s)
  | .steps => (stepsW g, s)
  | .wide => if s = 1 then ([g % 256, g / 256], 1) else if s = 2 then ([g / 256, g % 256], 2) else ([254, 255, g / 256, g % 256], 2)
  | .turn => if g / 128 = s then ([g % 128], g / 128) else ([128 + g / 128, g % 128], g / 128)
def writeF (c : Cd) : List Int → Int → List Int × Int
  | [], s => ([], s)
  | g :: r, s => ((signW c g s).1 ++ (writeF c r (signW c g s).2).1, (writeF c r (signW c g s).2).2)
def VS (c : Cd) (s : Int) : Prop := match c with
  | .wide => 0 ≤ s ∧ s ≤ 2
  | _ => True
theorem writeF_snoc (c : Cd) : ∀ (xs : List Int) (g s : Int), writeF c (xs ++ [g]) s = ((writeF c xs s).1 ++ (signW c g (writeF c xs s).2).1, (signW c g (writeF c xs s).2).2)
  | [], g, s => by simp [writeF]
  | x :: r, g, s => by
    show ((signW c x s).1 ++ (writeF c (r ++ [g]) (signW c x s).2).1, (writeF c (r ++ [g]) (signW c x s).2).2) = _
    rw [writeF_snoc c r g]
    simp [writeF]
theorem writeF_app (c : Cd) : ∀ (xs ys : List Int) (s : Int), writeF c (xs ++ ys) s = ((writeF c xs s).1 ++ (writeF c ys (writeF c xs s).2).1, (writeF c ys (writeF c xs s).2).2)
  | [], ys, s => by simp [writeF]
  | x :: r, ys, s => by
    show ((signW c x s).1 ++ (writeF c (r ++ ys) (signW c x s).2).1, (writeF c (r ++ ys) (signW c x s).2).2) = _
    rw [writeF_app c r ys]
    simp [writeF]
theorem writeF_one (c : Cd) (g s : Int) : writeF c [g] s = signW c g s := by
  show ((signW c g s).1 ++ [], (signW c g s).2) = _
  rw [List.append_nil]
theorem signW_vs {c : Cd} {g s : Int} (h : VS c s) : VS c (signW c g s).2 := by
  cases c with
  | wide =>
    show 0 ≤ (signW .wide g s).2 ∧ (signW .wide g s).2 ≤ 2
    unfold signW
    dsimp only
    split
    · show (0 : Int) ≤ 1 ∧ (1 : Int) ≤ 2; decide
    · split
      · show (0 : Int) ≤ 2 ∧ (2 : Int) ≤ 2; decide
      · show (0 : Int) ≤ 2 ∧ (2 : Int) ≤ 2; decide
  | plain => trivial
  | steps => trivial
  | turn => trivial
theorem writeF_vs {c : Cd} : ∀ {xs : List Int} {s : Int}, VS c s → VS c (writeF c xs s).2
  | [], s, h => h
  | x :: r, s, h => writeF_vs (xs := r) (signW_vs h)
theorem signW_len {c : Cd} {g s : Int} (g0 : 0 ≤ g) (g1 : g < sizeF c) : 0 < (signW c g s).1.length ∧ (signW c g s).1.length ≤ 4 := by
  cases c with
  | plain =>
    show 0 < 1 ∧ 1 ≤ 4
    decide
  | steps =>
    obtain ⟨x, r, m, e, lr, m3, _, _, _⟩ := stepsW_back g0 g1
    show 0 < (stepsW g).length ∧ (stepsW g).length ≤ 4
    rw [e, List.length_cons]; omega
  | wide =>
    unfold signW
    dsimp only
    split
    · show 0 < 2 ∧ 2 ≤ 4; decide
    · split
      · show 0 < 2 ∧ 2 ≤ 4; decide
      · show 0 < 4 ∧ 4 ≤ 4; decide
  | turn =>
    unfold signW
    dsimp only
    split
    · show 0 < 1 ∧ 1 ≤ 4; decide
    · show 0 < 2 ∧ 2 ≤ 4; decide
theorem signW_nn {c : Cd} {g s : Int} (g0 : 0 ≤ g) (g1 : g < sizeF c) : ∀ b ∈ (signW c g s).1, 0 ≤ b := by
  cases c with
  | plain => intro b hb; rw [List.mem_singleton.mp hb]; exact g0
  | steps =>
    obtain ⟨x, r, m, e, _, _, _, _, hb⟩ := stepsW_back g0 g1
    intro b h
    exact (hb b (by rw [← e]; exact h)).1
  | wide =>
    unfold signW
    dsimp only
    split
    · intro b hb; simp only [List.mem_cons, List.mem_nil_iff, or_false] at hb; rcases hb with rfl | rfl <;> omega
    · split
      · intro b hb; simp only [List.mem_cons, List.mem_nil_iff, or_false] at hb; rcases hb with rfl | rfl <;> omega
      · intro b hb; simp only [List.mem_cons, List.mem_nil_iff, or_false] at hb; rcases hb with rfl | rfl | rfl | rfl <;> omega
  | turn =>
    unfold signW
    dsimp only
    split
    · intro b hb; rw [List.mem_singleton.mp hb]; omega
    · intro b hb; simp only [List.mem_cons, List.mem_nil_iff, or_false] at hb; rcases hb with rfl | rfl <;> omega
theorem getD_at (A : List Int) (x : Int) (B : List Int) : (A ++ x :: B).getD A.length 0 = x := by
  rw [List.getD_eq_getElem?_getD, List.getElem?_append_right (Nat.le_refl _), Nat.sub_self]; rfl
theorem getD_at1 (A : List Int) (x y : Int) (B : List Int) : (A ++ x :: y :: B).getD (A.length + 1) 0 = y := by
  rw [List.getD_eq_getElem?_getD, List.getElem?_append_right (by omega), Nat.add_sub_cancel_left]; rfl
theorem drop_at (A B : List Int) : (A ++ B).drop A.length = B := by simp
theorem tell_sign {row : List Int} {p : Nat} {s : Int} {b : Nat} {sb g : Int} {n : Nat} (hb : b < row.length) (hn : n ≠ 0) : tellF row p s (b, sb) (g, n) = fourV (Str.ofString "sign") g (b + n) sb := by
  unfold tellF
  rw [if_neg (show ¬ row.length ≤ b by omega), if_neg (show ¬ (n = 0) from hn)]
/-- what is written of a sign is read as it -/
theorem read_written {c : Cd} {g s : Int} (g0 : 0 ≤ g) (g1 : g < sizeF c) (hs : VS c s) (A B : List Int) :
    readF c (A ++ (signW c g s).1 ++ B) A.length s = fourV (Str.ofString "sign") g (A.length + (signW c g s).1.length) (signW c g s).2 := by
  unfold readF
  cases c with
  | plain =>
    show tellF (A ++ [g] ++ B) A.length s (A.length, s) ((A ++ [g] ++ B).getD A.length 0, 1) = _
    rw [List.append_assoc]
    show tellF (A ++ g :: B) A.length s (A.length, s) ((A ++ g :: B).getD A.length 0, 1) = _
    rw [getD_at, tell_sign (by simp) (by decide)]
    rfl
  | steps =>
    show tellF (A ++ stepsW g ++ B) A.length s (A.length, s) (stepsAt ((A ++ stepsW g ++ B).drop A.length)) = fourV _ g (A.length + (stepsW g).length) s
    obtain ⟨x, r, m, e, lr, m3, el, ef, _⟩ := stepsW_back g0 g1
    rw [List.append_assoc, drop_at]
    have hw : (stepsW g).length = m + 1 := by rw [e, List.length_cons, lr]
    have et : (stepsW g ++ B).take (m + 1) = stepsW g := by rw [← hw, List.take_left]
    have hsg : sgM (stepsW g ++ B) m = g := by
      unfold sgM
      rw [et, e]
      exact ef
    have hc : condM (stepsW g ++ B) m := ⟨by rw [hsg]; exact g0, by rw [hsg]; exact g1, by rw [hsg, et]⟩
    obtain ⟨ea, ne⟩ := cond_at hc
    rw [hsg, et] at ea
    rw [et] at ne
    rw [ea, tell_sign (by simp [e]) ne]
  | turn =>
    show tellF _ A.length s (skipT ((A ++ (signW .turn g s).1 ++ B).drop A.length) A.length s) _ = _
    have g128 := Int.emod_nonneg g (show (128 : Int) ≠ 0 by decide)
    have g129 := Int.emod_lt_of_pos g (show (0 : Int) < 128 by decide)
    have gd : 0 ≤ g / 128 := Int.ediv_nonneg g0 (by decide)
    by_cases h : g / 128 = s
    · have ew : signW .turn g s = ([g % 128], g / 128) := if_pos h
      rw [ew, List.append_assoc]
      show tellF (A ++ (g % 128) :: B) A.length s (goneF .turn (A ++ (g % 128) :: B) A.length s) (signF .turn (A ++ (g % 128) :: B) (goneF .turn (A ++ (g % 128) :: B) A.length s).1 (goneF .turn (A ++ (g % 128) :: B) A.length s).2) = fourV _ g (A.length + 1) (g / 128)
      have eg : goneF .turn (A ++ (g % 128) :: B) A.length s = (A.length, s) := by
        show skipT ((A ++ (g % 128) :: B).drop A.length) A.length s = _
        rw [drop_at]
        show (if 128 ≤ g % 128 then _ else _) = _
        rw [if_neg (by omega)]
      rw [eg]
      show tellF (A ++ (g % 128) :: B) A.length s (A.length, s) (128 * s + (A ++ (g % 128) :: B).getD A.length 0, 1) = _
      rw [getD_at, tell_sign (by simp) (by decide), ← h, show 128 * (g / 128) + g % 128 = g by omega]
    · have ew : signW .turn g s = ([128 + g / 128, g % 128], g / 128) := if_neg h
      rw [ew, List.append_assoc]
      show tellF (A ++ (128 + g / 128) :: (g % 128) :: B) A.length s (goneF .turn (A ++ (128 + g / 128) :: (g % 128) :: B) A.length s) (signF .turn (A ++ (128 + g / 128) :: (g % 128) :: B) (goneF .turn (A ++ (128 + g / 128) :: (g % 128) :: B) A.length s).1 (goneF .turn (A ++ (128 + g / 128) :: (g % 128) :: B) A.length s).2) = fourV _ g (A.length + 2) (g / 128)
      have eg : goneF .turn (A ++ (128 + g / 128) :: (g % 128) :: B) A.length s = (A.length + 1, g / 128) := by
        show skipT ((A ++ (128 + g / 128) :: (g % 128) :: B).drop A.length) A.length s = _
        rw [drop_at]
        show (if 128 ≤ 128 + g / 128 then (if 128 ≤ g % 128 then _ else _) else _) = _
        rw [if_pos (by omega), if_neg (by omega), show 128 + g / 128 - 128 = g / 128 by omega]
      rw [eg]
      show tellF (A ++ (128 + g / 128) :: (g % 128) :: B) A.length s (A.length + 1, g / 128) (128 * (g / 128) + (A ++ (128 + g / 128) :: (g % 128) :: B).getD (A.length + 1) 0, 1) = _
      rw [getD_at1, tell_sign (by simp) (by decide), show 128 * (g / 128) + g % 128 = g by omega]
  | wide =>
    obtain ⟨s0, s2⟩ := (show 0 ≤ s ∧ s ≤ 2 from hs)
    have wd : ∀ (A' B' : List Int) (x y : Int) (sb : Int), signF .wide (A' ++ x :: y :: B') A'.length sb = (if sb = 1 then (x + 256 * y, 2) else (256 * x + y, 2)) := by
      intro A' B' x y sb
      show (if (A' ++ x :: y :: B').length < A'.length + 2 then _ else if sb = 1 then ((A' ++ x :: y :: B').getD A'.length 0 + 256 * (A' ++ x :: y :: B').getD (A'.length + 1) 0, 2) else (256 * (A' ++ x :: y :: B').getD A'.length 0 + (A' ++ x :: y :: B').getD (A'.length + 1) 0, 2)) = _
      rw [if_neg (by rw [List.length_append, List.length_cons, List.length_cons]; omega), getD_at, getD_at1]
    rcases (show s = 0 ∨ s = 1 ∨ s = 2 by omega) with rfl | rfl | rfl
    · have ew : signW .wide g 0 = ([254, 255, g / 256, g % 256], 2) := rfl
      rw [ew, List.append_assoc]
      show tellF (A ++ 254 :: 255 :: (g / 256) :: (g % 256) :: B) A.length 0 (goneF .wide (A ++ 254 :: 255 :: (g / 256) :: (g % 256) :: B) A.length 0) (signF .wide (A ++ 254 :: 255 :: (g / 256) :: (g % 256) :: B) (goneF .wide (A ++ 254 :: 255 :: (g / 256) :: (g % 256) :: B) A.length 0).1 (goneF .wide (A ++ 254 :: 255 :: (g / 256) :: (g % 256) :: B) A.length 0).2) = fourV _ g (A.length + 4) 2
      have eg : goneF .wide (A ++ 254 :: 255 :: (g / 256) :: (g % 256) :: B) A.length 0 = (A.length + 2, 2) := by
        show markW _ _ = _
        unfold markW
        rw [drop_at, if_pos (show List.take 2 (254 :: 255 :: (g / 256) :: (g % 256) :: B) = [254, 255] from rfl)]
      rw [eg]
      have ea : A ++ 254 :: 255 :: (g / 256) :: (g % 256) :: B = (A ++ [254, 255]) ++ (g / 256) :: (g % 256) :: B := by rw [List.append_assoc]; rfl
      have el : (A ++ [254, 255]).length = A.length + 2 := by rw [List.length_append]; rfl
      have := wd (A ++ [254, 255]) B (g / 256) (g % 256) 2
      rw [← ea, el, if_neg (by decide)] at this
      show tellF _ _ _ (A.length + 2, 2) (signF .wide _ (A.length + 2) 2) = _
      rw [this, tell_sign (by simp) (by decide), show 256 * (g / 256) + g % 256 = g by omega]
    · have ew : signW .wide g 1 = ([g % 256, g / 256], 1) := rfl
      rw [ew, List.append_assoc]
      show tellF (A ++ (g % 256) :: (g / 256) :: B) A.length 1 (A.length, 1) (signF .wide (A ++ (g % 256) :: (g / 256) :: B) A.length 1) = fourV _ g (A.length + 2) 1
      rw [wd, if_pos rfl, tell_sign (by simp) (by decide), show g % 256 + 256 * (g / 256) = g by omega]
    · have ew : signW .wide g 2 = ([g / 256, g % 256], 2) := rfl
      rw [ew, List.append_assoc]
      show tellF (A ++ (g / 256) :: (g % 256) :: B) A.length 2 (A.length, 2) (signF .wide (A ++ (g / 256) :: (g % 256) :: B) A.length 2) = fourV _ g (A.length + 2) 2
      rw [wd, if_neg (by decide), tell_sign (by simp) (by decide), show 256 * (g / 256) + g % 256 = g by omega]
theorem readF_end {c : Cd} {row : List Int} {p : Nat} {s : Int} (h : row.length ≤ p) : readF c row p s = fourV (Str.ofString "end") 0 p s := by
  have g : row.length ≤ (goneF c row p s).1 := by
    have e : row.drop p = [] := List.drop_of_length_le h
    unfold goneF
    cases c with
    | turn => show _ ≤ (skipT (row.drop p) p s).1; rw [e]; exact h
    | wide =>
      show _ ≤ (if s = 0 then markW row p else (p, s)).1
      split
      · unfold markW; rw [e]; simp; exact h
      · exact h
    | plain => exact h
    | steps => exact h
  unfold readF tellF
  rw [if_pos g]
/-! promises of the laws' own defs -/
def CODES : List V := [.str (Str.ofString "plain"), .str (Str.ofString "steps"), .str (Str.ofString "wide"), .str (Str.ofString "turn")]
theorem codes_at {i : Int} (h0 : 0 ≤ i) (h1 : i < 4) : ∃ c : Cd, atI CODES i = some (.str c.w) := by
  rcases (show i = 0 ∨ i = 1 ∨ i = 2 ∨ i = 3 by omega) with rfl | rfl | rfl | rfl
  · exact ⟨.plain, rfl⟩
  · exact ⟨.steps, rfl⟩
  · exact ⟨.wide, rfl⟩
  · exact ⟨.turn, rfl⟩
def spCodes : Sp := fun vs H Q _ => ∃ u : Unit, vs = [] ∧ ∀ (q : Addr), H q = none → Q (.ref q) (upd H q (.lst CODES))
def spState : Sp := fun vs H Q _ => ∃ (p : Addr) (n : Int) (o : HO) (c : Cd), vs = [.ref p, .str c.w] ∧ H p = some o ∧ PoolO n o ∧ n ≤ 900000000 ∧
  ∀ (H' : Hp) (s : Int) (o' : HO), VS c s → 0 ≤ s → s < 128 → H' p = some o' → PoolO (n + 3) o' → Kp [p] H H' → Q (.int s) H'
def spWriteL (K : PySem.W.Frag) : Sp := fun vs H Q _ => ∃ (a : Addr) (gs : List Int) (s : Int) (c : Cd), vs = [.ref a, .int s, .str c.w] ∧ SqL K H a (gs.map V.int) ∧ gs.length ≤ 200 ∧ VS c s ∧ (∀ g ∈ gs, 0 ≤ g ∧ g < sizeF c) ∧
  ∀ (H' : Hp) (q w : Addr), H q = none → H w = none → q ≠ w → H' q = some (.tup [.ref w, .int (writeF c gs s).2]) → H' w = some (.lst ((writeF c gs s).1.map V.int)) → Same H H' → Q (.ref q) H'
end Sip
namespace Sip
open PySem PySem.Spec PyProof.Rows L2 TL
def spWholeI : Sp := fun vs H Q _ => ∃ v : Int, vs = [.int v] ∧ Q (.bl true) H
def spLastS : Sp := fun vs H Q _ => ∃ c : Cd, vs = [.str c.w] ∧ Q (.int (sizeF c - 1)) H
def newW (H : Hp) (W : List Int × Int) (Q : VK) : Prop := ∀ (H' : Hp) (q w : Addr), H q = none → H w = none → q ≠ w → H' q = some (.tup [.ref w, .int W.2]) → H' w = some (.lst (W.1.map V.int)) → Same H H' → Q (.ref q) H'
def spWW : Sp := fun vs H Q _ => ∃ g s : Int, vs = [.int g, .int s] ∧ VS .wide s ∧ newW H (signW .wide g s) Q
def spTW : Sp := fun vs H Q _ => ∃ g s : Int, vs = [.int g, .int s] ∧ newW H (signW .turn g s) Q
def spSWr : Sp := fun vs H Q _ => ∃ (g s : Int) (c : Cd), vs = [.int g, .int s, .str c.w] ∧ VS c s ∧ newW H (signW c g s) Q
/-- a tuple of a row and a number -/
theorem shaped_row (ns : List Int) (v : Int) : SeqAt.shaped (.tuple [.list (ns.map PyData.int), .int v]) = true := by
  have h := shaped_ints ns
  unfold SeqAt.shaped at h ⊢
  rw [Bool.and_eq_true] at h ⊢
  obtain ⟨h1, h2⟩ := h
  have h1' : PyData.canLayAll0 (ns.map PyData.int) = true := lay_ints ns
  refine ⟨by simp [PyData.canLay0, PyData.canLayAll0, h1'], decide_eq_true ?_⟩
  have : ∀ ms : List Int, PyData.depthAll (ms.map PyData.int) ≤ 1 := by
    intro ms
    induction ms with
    | nil => simp [PyData.depthAll]
    | cons m r ih => simp [PyData.depthAll, PyData.depth]; try omega
  have h3 := this ns
  simp [PyData.depth, PyData.depthAll]; try omega
theorem dp_row {K : PySem.W.Frag} {H : Hp} {q w : Addr} {ns : List Int} {v : Int} (h : SqT K H q [.ref w, .int v]) (hw : SqL K H w (ns.map V.int)) : Dp K H (.ref q) (.tuple [.list (ns.map PyData.int), .int v]) :=
  .tup h (.cons (dp_lst hw) (.cons (.int _) .nil))
end Sip
namespace Sip
open PySem PySem.Spec PyProof.Rows L2 TL
/-! ### own errors that keep a value -/
/-- __init__(self, f): self.f = f -/
def spErr1 (C : Addr) (f : Str) : Sp := fun vs H Q _ => ∃ (a : Addr) (v : V), vs = [.ref a, v] ∧ H a = some (exo a C none) ∧ ∀ dx, H dx = none → dx ≠ a → Q .non (upd (upd H dx (exd dx [(f, v)])) a (exo a C (some dx)))
/-- what a raise of it asks, once its value stands -/
theorem mk1_fin {C : Addr} {f : Str} {H1 : Hp} {v : V} {Q : XK} (h : ∀ d, H1 d = none → Q (.ref C) (some d) (upd H1 d (.xd [(f, v)]))) :
    [v].length ≤ 1000 ∧ ∀ a, H1 a = none → spErr1 C f (.ref a :: ([v] ++ [])) (upd H1 a (exo a C none))
      (fun v H2 => v = .non ∧ ∃ (d : Addr) (fs : List (Str × V)), H2 a = some (exo a C (some d)) ∧ H2 d = some (exd d fs) ∧ H1 d = none ∧ Q (.ref C) (some d) (upd (del H2 a) d (.xd fs))) (fun _ _ _ => False) := by
  refine ⟨by show 1 ≤ 1000; decide, fun a na => ⟨a, v, rfl, upd_same, fun dx nd ne => ⟨rfl, dx, [(f, v)], upd_same, ?_, ?_, ?_⟩⟩⟩
  · rw [upd_ne ne]; exact upd_same
  · rw [upd_ne ne] at nd; exact nd
  · have nd' : H1 dx = none := by rw [upd_ne ne] at nd; exact nd
    have e : upd (del (upd (upd (upd H1 a (exo a C none)) dx (exd dx [(f, v)])) a (exo a C (some dx))) a) dx (.xd [(f, v)]) = upd H1 dx (.xd [(f, v)]) := by
      funext b
      by_cases hb : b = dx
      · subst hb; rw [upd_same, upd_same]
      · rw [upd_ne hb, upd_ne hb]
        by_cases ha : b = a
        · subst ha; rw [del_same, na]
        · rw [del_ne ha, upd_ne ha, upd_ne hb, upd_ne ha]
    rw [e]
    exact h dx nd'
section
variable {X : Cx}
/-- isinstance(e, c): e is the error that the suite holds, whatever it keeps -/
def rIsO (K : PySem.W.Frag) (cls : Value) (d : Option Addr) (a : Addr) : List V → Hp → VK → Prop := fun xs H Q => ∃ D : Addr, cls = .ref D ∧ ExcC K D ∧ (d = none ∨ ∃ dd fs, d = some dd ∧ H dd = some (.xd fs)) ∧ rIsE K D a xs H Q
theorem inst_of {a D : Addr} {oe : Obj} {d : Option Addr} {H : Hp} {s : Shared} {pins : List (Addr × Obj)} {σ : L2.St} {Y : Cx} (I : Inv Y pins σ H s) (ha : s.heap.get? a = some oe) (hz : Zc (.ref D) d oe) (hf : ∃ vs, oe.data = .fields vs)
    (hd : d = none ∨ ∃ dd fs, d = some dd ∧ H dd = some (.xd fs)) : ∃ od, PySem.W.InstAt s.heap a oe D od := by
  obtain ⟨vs, hv⟩ := hf
  obtain ⟨z1, z2⟩ := hz
  have nc : PySem.W.notCls oe = true := by unfold PySem.W.notCls; rw [hv]
  rcases hd with rfl | ⟨dd, fs, rfl, ed⟩
  · refine ⟨none, ha, z1, nc, ?_⟩
    rw [z2]; trivial
  · have ob : ObjOk Y.prog Y.w H s.heap dd (.xd fs) := I.hok dd _ ed
    obtain ⟨mA, hns, _⟩ := ob
    obtain ⟨od, ho, _⟩ := lookIn_ns hns
    refine ⟨some od, ha, z1, nc, ?_⟩
    rw [z2]; exact ho
theorem call_isO {a : Addr} {oe : Obj} {cls : Value} {d : Option Addr} {pn : List (Addr × Obj)} (hz : Zc cls d oe) (hf : ∃ vs, oe.data = .fields vs) : CallR (X.suite a ((a, oe) :: pn)) (.builtin "isinstance") (rIsO X.K cls d a) := by
  intro pins s σ H xs us Q I r h
  obtain ⟨D, rfl, C, hd, c, cv, b, rfl, hcv, e, q⟩ := h
  obtain ⟨u1, u2, rfl, r1, r2⟩ := vals2 r
  obtain rfl : u1 = Value.ref a := r1
  obtain rfl := hcv _ r2
  obtain ⟨ha, _⟩ := I.pin (a, oe) (List.mem_append_left _ List.mem_cons_self)
  obtain ⟨od, J⟩ := inst_of I ha hz hf hd
  have hcl : (PySem.W.clsIn X.K D).isSome = true := by
    obtain ⟨cd, h1, _⟩ := PySem.W.any_some C.hd
    rw [h1]; rfl
  exact PySem.W.kia_one (PySem.W.kitx_exc hcl C.hg C.hk C.hs C.ha C.hn C.ht C.hm) I.kIn J e (fun z => nomatch z) fun tk => ⟨.bl b, H, I.kept (t' := tk) fun _ _ z => z, rfl, q⟩
/-- e.f of that error -/
def tXf (K : PySem.W.Frag) (f : Str) (a : Addr) (cls : Value) (d : Option Addr) (te : TE) : TE := fun σ H Q => te σ H fun x H1 => ∃ (D dd : Addr) (fs : List (Str × V)) (v : V), x = .ref a ∧ cls = .ref D ∧ ExcC K D ∧ PySem.W.findIn K (.ref D) f = some none ∧ d = some dd ∧ H1 dd = some (.xd fs) ∧ fs.lookup f = some v ∧ Q v H1
theorem pe_xf {f : Str} {a : Addr} {oe : Obj} {cls : Value} {d : Option Addr} {pn : List (Addr × Obj)} {e : Expr} {te : TE} {pos : Pos} (hz : Zc cls d oe) (hf : ∃ vs, oe.data = .fields vs) (he : PE (X.suite a ((a, oe) :: pn)) e te)
    (hb : attributeBase e f X.env (eval e X.env) = eval e X.env := by rfl) : PE (X.suite a ((a, oe) :: pn)) (.Attribute e f pos) (tXf X.K f a cls d te) := by
  refine ⟨fun pins s σ H Q I h => attr_of hb (thn (he.run pins s σ H _ I h) fun u s1 hh => ?_)⟩
  obtain ⟨x, H1, I1, rx, D, dd, fs, v, rfl, rfl, C, no, rfl, ed, lk, q⟩ := hh
  obtain rfl : u = Value.ref a := rx
  obtain ⟨ha, _⟩ := I1.pin (a, oe) (List.mem_append_left _ List.mem_cons_self)
  have ob : ObjOk X.prog X.w H1 s1.heap dd (.xd fs) := I1.hok dd _ ed
  obtain ⟨mA, hns, hr⟩ := ob
  obtain ⟨od, ho, hl⟩ := lookIn_ns hns
  obtain ⟨v', hv', rv⟩ := RelO.some_of (v := v) (o := mA f) (by rw [← lk]; exact hr f)
  obtain ⟨vs, hd⟩ := hf
  have J : PySem.W.InstAt s1.heap a oe D (some od) := by
    refine ⟨ha, hz.1, ?_, ?_⟩
    · unfold PySem.W.notCls; rw [hd]
    · rw [hz.2]; exact ho
  exact HandSPX.exc_get I1.kIn J C.hg C.hk C.hs (PySem.W.findObj_own C.hd no rfl (by rw [hl, hv'])) (handed_of rv) ⟨v, H1, I1.tok _, rv, q⟩
end
/-! ### calls within a try -/
section
variable {X : Cx} {CX : CXT} {k n : Nat} {f : Addr} {fd : FuncData} {ps ks : List Str} {sp : Sp} {E : L2.St → XK} {x : Str} {p pos : Pos} {e : Expr} {es : List Expr} {kws : List Keyword} {t tk : TA} {g : List Value → List Value → List Value} {gV : List V → List V → List V}
def tCallNS (n m : Nat) (sp : Sp) (gV : List V → List V → List V) (E : L2.St → XK) (t tk : TA) : TE := fun σ H Q => t σ H fun vs H1 => tk σ H1 fun zs H2 => vs.length = n ∧ zs.length = m ∧ sp (gV vs zs) H2 Q (E σ)
theorem pe_callNS (F : FnOk X.prog X.w X.K X.mg X.base CX k f fd ps sp) (hr : Room k X.A) (hg : Gl X x) (hm : X.mg x = some (.ref f)) (hk : PySem.W.keepIn X.K (.ref f) = true) (hb : KBn X.K fd ps n ks g gV) (hx : ∀ σ, PassesAt CX X σ (E σ))
    (ha : PA X (e :: es) t) (hkw : PK X kws tk) (hall : (backToKw pos (keywordEach kws X.env)).all (·.1.isSome) = true := by rfl) (hks : (backToKw pos (keywordEach kws X.env)).filterMap (·.1) = ks := by rfl)
    (hdb : (x == ("__debug__" : Str)) = false := by decide) (he : starEach (e :: es) X.env = (false, eval e X.env) :: starEach es X.env := by rfl)
    (hpl : ((backTo pos (starEach (e :: es) X.env)).any (·.1) || (backToKw pos (keywordEach kws X.env)).any (·.1.isNone)) = false := by rfl) :
    PE X (.Call (.Name x p) (e :: es) kws pos) (tCallNS n ks.length sp gV E t tk) := by
  refine ⟨fun pins s σ H Q I h => wpAny_Call_Name_kw (ld_glob I hg hm ?_ hdb)⟩
  refine PySem.W.callWith_KW (h₀ := X.base) I.ok.mod.kin hk hall (thn (ha.run pos pins s σ H _ I h) fun us s1 ⟨vs, H1, I1, r, q⟩ => ?_) hpl he
  refine thn (hkw.run pos pins s1 σ H1 _ I1 q) fun ws s2 w2 => ?_
  obtain ⟨zs, H2, I2, rz, l1, l2, q2⟩ := w2
  refine ⟨I2.kIn, ?_⟩
  rw [hks]
  have bt := hb.to s2 us ws I2.kIn (r.length.symm.trans l1) (rz.length.symm.trans l2)
  refine wpAny_call (codeAny_mono (F.run X.A X.stack s2 H2 ⟨us, ks.zip ws⟩ (g us ws) (gV vs zs) Q (E σ) hr I2.env0 bt (hb.rel r rz) q2) fun out s' hq => ?_)
  match out, hq with
  | .error e, hq => exact hx σ pins H2 s2 e s' I2 hq
  | .ok (.ret u), hq => exact I2.after hq
  | .ok .next, hq => exact hq.elim
  | .ok .brk, hq => exact hq.elim
  | .ok .cont, hq => exact hq.elim
end
/-- a raising callee within a def that lets the error out -/
theorem passX {X : Cx} {E : XK} (tk : Takes X (fun cls d _ H => E cls d H)) : Passes (L2.CX X.prog X.w) X E := fun pins σ H s e s' I c => passes_call tk (fun _ _ _ _ h => h) pins σ H s e s' I c
end Sip
namespace Sip
open PySem PySem.Spec PyProof.Rows L2 TL
theorem kit_ownF {K : PySem.W.Frag} {C S : Addr} (h1 : PySem.W.isClsIn K S = true) (h2 : PySem.W.typeIn K (.ref S) = some (.type "type")) (h0 : PySem.W.subIn K (.ref C) (.ref C) = some true) (h3 : PySem.W.subIn K (.ref C) (.ref S) = some false) : PySem.W.kitOne K (.ref C) (.ref S) = some false := by
  have ne : C ≠ S := fun z => by
    rw [z] at h0 h3
    rw [h0] at h3
    cases h3
  have a : ((PySem.W.clsIn K S).isSome && PySem.W.typeIn K (.ref S) == some (.type "type")) = true := by
    have h1' : (PySem.W.clsIn K S).isSome = true := h1
    rw [h1', h2]; rfl
  unfold PySem.W.kitOne PySem.W.kitCls
  split
  · next h =>
    exfalso
    exact ne (by simpa using h)
  · exact (if_pos a).trans h3
/-- the written class of an own error straight beneath S -/
def IsExcObj (K : PySem.W.Frag) (C S : Addr) : Prop := ∃ nm q N bs bm sn sub ab col dd k0 k1 k2 k3 k5, K.lookup C = some (excClassObj nm q C N bs bm true sn sub ab col dd k0 k1 k2 k3 k5 "ValueError.__new__") ∧ PySem.HandSPX.refsVE bm = true
end Sip
namespace Sip
open PySem PySem.Spec PyProof.Rows L2 TL
def topS (i : Nat) : Stmt := PySem.Challenge.pw_sipstack_k47_no_sign.main.body.getD i (.Pass ⟨0, 0, 0, 0⟩)
abbrev s_iNoCode : Stmt := inClass (topS 4) 0
abbrev N_iNoCode : List Str := ["self", "word"]
abbrev P_iNoCode : List Str := ["self", "word"]
theorem sc_iNoCode : FnScope N_iNoCode P_iNoCode (defScope s_iNoCode) := ⟨rfl, rfl, rfl, by decide +kernel, rfl, by decide +kernel, by decide +kernel⟩
abbrev s_iNoSign : Stmt := inClass (topS 3) 0
abbrev N_iNoSign : List Str := ["self", "sign"]
abbrev P_iNoSign : List Str := ["self", "sign"]
theorem sc_iNoSign : FnScope N_iNoSign P_iNoSign (defScope s_iNoSign) := ⟨rfl, rfl, rfl, by decide +kernel, rfl, by decide +kernel, by decide +kernel⟩
abbrev s_whole : Stmt := topS 10
abbrev N_whole : List Str := ["thing"]
abbrev P_whole : List Str := ["thing"]
theorem sc_whole : FnScope N_whole P_whole (defScope s_whole) := ⟨rfl, rfl, rfl, by decide +kernel, rfl, by decide +kernel, by decide +kernel⟩
abbrev s_chk : Stmt := topS 17
abbrev N_chk : List Str := ["code"]
abbrev P_chk : List Str := ["code"]
theorem sc_chk : FnScope N_chk P_chk (defScope s_chk) := ⟨rfl, rfl, rfl, by decide +kernel, rfl, by decide +kernel, by decide +kernel⟩
abbrev s_lasts : Stmt := topS 18
abbrev N_lasts : List Str := ["code"]
abbrev P_lasts : List Str := ["code"]
theorem sc_lasts : FnScope N_lasts P_lasts (defScope s_lasts) := ⟨rfl, rfl, rfl, by decide +kernel, rfl, by decide +kernel, by decide +kernel⟩
abbrev s_swr : Stmt := topS 19
abbrev N_swr : List Str := ["sign", "state", "code"]
abbrev P_swr : List Str := ["sign", "state", "code"]
theorem sc_swr : FnScope N_swr P_swr (defScope s_swr) := ⟨rfl, rfl, rfl, by decide +kernel, rfl, by decide +kernel, by decide +kernel⟩
abbrev s_stw : Stmt := topS 20
abbrev N_stw : List Str := ["sign"]
abbrev P_stw : List Str := ["sign"]
theorem sc_stw : FnScope N_stw P_stw (defScope s_stw) := ⟨rfl, rfl, rfl, by decide +kernel, rfl, by decide +kernel, by decide +kernel⟩
abbrev s_ww : Stmt := topS 21
abbrev N_ww : List Str := ["sign", "state", "writing"]
abbrev P_ww : List Str := ["sign", "state"]
theorem sc_ww : FnScope N_ww P_ww (defScope s_ww) := ⟨rfl, rfl, rfl, by decide +kernel, rfl, by decide +kernel, by decide +kernel⟩
abbrev s_tw : Stmt := topS 22
abbrev N_tw : List Str := ["sign", "state", "page"]
abbrev P_tw : List Str := ["sign", "state"]
theorem sc_tw : FnScope N_tw P_tw (defScope s_tw) := ⟨rfl, rfl, rfl, by decide +kernel, rfl, by decide +kernel, by decide +kernel⟩
abbrev s_wsigns : Stmt := topS 16
abbrev N_wsigns : List Str := ["signs", "state", "code", "last", "row", "sign", "writing"]
abbrev P_wsigns : List Str := ["signs", "state", "code"]
theorem sc_wsigns : FnScope N_wsigns P_wsigns (defScope s_wsigns) := ⟨rfl, rfl, rfl, by decide +kernel, rfl, by decide +kernel, by decide +kernel⟩
abbrev s_pool : Stmt := topS 24
abbrev N_pool : List Str := ["_law_script", "_law_at", "_law_cell", "_law_digits"]
abbrev P_pool : List Str := ["_law_script", "_law_at"]
theorem sc_pool : FnScope N_pool P_pool (defScope s_pool) := ⟨rfl, rfl, rfl, by decide +kernel, rfl, by decide +kernel, by decide +kernel⟩
abbrev s_take : Stmt := topS 25
abbrev N_take : List Str := ["_law_pool_here", "_law_wide", "_law_found", "_law_seed"]
abbrev P_take : List Str := ["_law_pool_here", "_law_wide"]
theorem sc_take : FnScope N_take P_take (defScope s_take) := ⟨rfl, rfl, rfl, by decide +kernel, rfl, by decide +kernel, by decide +kernel⟩
abbrev s_lcodes : Stmt := topS 26
abbrev N_lcodes : List Str := []
abbrev P_lcodes : List Str := []
theorem sc_lcodes : FnScope N_lcodes P_lcodes (defScope s_lcodes) := ⟨rfl, rfl, rfl, by decide +kernel, rfl, by decide +kernel, by decide +kernel⟩
abbrev s_lstate : Stmt := topS 27
abbrev N_lstate : List Str := ["_law_pool_here", "_law_tongue"]
abbrev P_lstate : List Str := ["_law_pool_here", "_law_tongue"]
theorem sc_lstate : FnScope N_lstate P_lstate (defScope s_lstate) := ⟨rfl, rfl, rfl, by decide +kernel, rfl, by decide +kernel, by decide +kernel⟩
abbrev s_lsign : Stmt := topS 28
abbrev N_lsign : List Str := ["_law_pool_here", "_law_tongue", "_law_size", "_law_edges", "_law_way"]
abbrev P_lsign : List Str := ["_law_pool_here", "_law_tongue"]
theorem sc_lsign : FnScope N_lsign P_lsign (defScope s_lsign) := ⟨rfl, rfl, rfl, by decide +kernel, rfl, by decide +kernel, by decide +kernel⟩
abbrev s_lsteps : Stmt := topS 29
abbrev N_lsteps : List Str := ["_law_sign_here", "_law_many", "_law_rest", "_law_k"]
abbrev P_lsteps : List Str := ["_law_sign_here"]
theorem sc_lsteps : FnScope N_lsteps P_lsteps (defScope s_lsteps) := ⟨rfl, rfl, rfl, by decide +kernel, rfl, by decide +kernel, by decide +kernel⟩
abbrev s_lbytes : Stmt := topS 30
abbrev N_lbytes : List Str := ["_law_signs", "_law_state_here", "_law_tongue", "_law_row", "_law_sign_here"]
abbrev P_lbytes : List Str := ["_law_signs", "_law_state_here", "_law_tongue"]
theorem sc_lbytes : FnScope N_lbytes P_lbytes (defScope s_lbytes) := ⟨rfl, rfl, rfl, by decide +kernel, rfl, by decide +kernel, by decide +kernel⟩
abbrev s_strange : Stmt := topS 31
abbrev N_strange : List Str := ["_law_pool_here", "_law_tongue", "_law_size", "_law_way"]
abbrev P_strange : List Str := ["_law_pool_here", "_law_tongue"]
theorem sc_strange : FnScope N_strange P_strange (defScope s_strange) := ⟨rfl, rfl, rfl, by decide +kernel, rfl, by decide +kernel, by decide +kernel⟩
abbrev s_told : Stmt := topS 32
abbrev N_told : List Str := ["_law_signs", "_law_state_here", "_law_tongue", "_law_found", "e", "_law_kinds"]
abbrev P_told : List Str := ["_law_signs", "_law_state_here", "_law_tongue"]
theorem sc_told : FnScope N_told P_told (defScope s_told) := ⟨rfl, rfl, rfl, by decide +kernel, rfl, by decide +kernel, by decide +kernel⟩
abbrev s_law : Stmt := topS 33
abbrev N_law : List Str := ["_law_script", "_law_pool_here", "_law_tongue", "_law_state_here", "_law_many", "_law_signs", "_law_k", "_law_plain", "_law_strange_here", "_law_sign_here", "_law_handed", "_law_found", "_law_whole", "_law_due"]
abbrev P_law : List Str := ["_law_script"]
theorem sc_law : FnScope N_law P_law (defScope s_law) := ⟨rfl, rfl, rfl, by decide +kernel, rfl, by decide +kernel, by decide +kernel⟩
set_option maxHeartbeats 2000000

def isCode (z : Str) : Prop := ∃ c : Cd, z = c.w
def errQ (H : Hp) (E : XK) (C : Addr) (f : Str) (v : V) : Prop := ∀ (H' : Hp) (d : Addr), Same H H' → H' d = some (.xd [(f, v)]) → E (.ref C) (some d) H'
def spChkX (C : Addr) : Sp := fun vs H Q E => ∃ z : Str, vs = [.str z] ∧ (∀ c : Cd, z = c.w → ∀ H', Same H H' → Q .non H') ∧ (¬ isCode z → errQ H E C "word" (.str z))
def spFState (C : Addr) : Sp := fun vs H Q E => ∃ z : Str, vs = [.str z] ∧ (∀ c : Cd, z = c.w → ∀ H', Same H H' → Q (.int 0) H') ∧ (¬ isCode z → errQ H E C "word" (.str z))
def spRdX (K : PySem.W.Frag) (C : Addr) : Sp := fun vs H Q E => ∃ (a : Addr) (row : List Int) (p : Nat) (s : Int) (z : Str), vs = [.ref a, .int p, .int s, .str z] ∧ SqL K H a (row.map V.int) ∧ (∀ c : Cd, z = c.w → newT H (readF c row p s) Q) ∧ (¬ isCode z → errQ H E C "word" (.str z))
def spWriteX (K : PySem.W.Frag) (C D : Addr) : Sp := fun vs H Q E => ∃ (a : Addr) (gs : List Int) (s : Int) (z : Str), vs = [.ref a, .int s, .str z] ∧ SqL K H a (gs.map V.int) ∧ gs.length ≤ 200 ∧
  (∀ c : Cd, z = c.w → VS c s ∧ ((∀ g ∈ gs, 0 ≤ g ∧ g < sizeF c) → newW H (writeF c gs s) Q) ∧ ∀ (i : Nat) (g : Int), gs[i]? = some g → ¬ (0 ≤ g ∧ g < sizeF c) → (∀ x ∈ gs.take i, 0 ≤ x ∧ x < sizeF c) → errQ H E D "sign" (.int g)) ∧ (¬ isCode z → errQ H E C "word" (.str z))
theorem inC (z : Str) : inV (.str z) [.str (Str.ofString "plain"), .str (Str.ofString "steps"), .str (Str.ofString "wide"), .str (Str.ofString "turn")] = true ↔ isCode z := by
  unfold inV
  simp only [List.any_cons, List.any_nil]
  have q : ∀ y : Str, (eqV (.str y) (.str z) = true) ↔ y = z := fun y => by
    show (y == z) = true ↔ _
    exact beq_iff_eq
  simp only [Bool.or_eq_true, q, Bool.false_eq_true, or_false]
  constructor
  · rintro (h | h | h | h)
    · exact ⟨.plain, h.symm⟩
    · exact ⟨.steps, h.symm⟩
    · exact ⟨.wide, h.symm⟩
    · exact ⟨.turn, h.symm⟩
  · rintro ⟨c, rfl⟩
    cases c
    · exact .inl rfl
    · exact .inr (.inl rfl)
    · exact .inr (.inr (.inl rfl))
    · exact .inr (.inr (.inr rfl))
theorem errQ.mono {H H1 : Hp} {E : XK} {C : Addr} {f : Str} {v : V} (h : errQ H E C f v) (s : Same H H1) : errQ H1 E C f v := fun H' d s' e => h H' d (s.trans s') e
theorem errQ.raise {H : Hp} {E : XK} {C : Addr} {f : Str} {v : V} (h : errQ H E C f v) : ∀ d, H d = none → E (.ref C) (some d) (upd H d (.xd [(f, v)])) := fun d nd => h _ d (Kp.new (ps := []) nd).same upd_same
def Good (c : Cd) (gs : List Int) : Prop := ∀ g ∈ gs, 0 ≤ g ∧ g < sizeF c
theorem good_app {c : Cd} {a b : List Int} (ha : Good c a) (hb : Good c b) : Good c (a ++ b) := fun x hx => (List.mem_append.mp hx).elim (ha x) (hb x)
theorem good_one {c : Cd} {g : Int} (h0 : 0 ≤ g) (h1 : g < sizeF c) : Good c [g] := fun x hx => by rw [List.mem_singleton.mp hx]; exact ⟨h0, h1⟩
theorem writeF_len {c : Cd} : ∀ {gs : List Int} {s : Int}, Good c gs → (writeF c gs s).1.length ≤ 4 * gs.length
  | [], s, _ => Nat.zero_le _
  | g :: r, s, h => by
    have h1 := (signW_len (s := s) (h g (by simp)).1 (h g (by simp)).2).2
    have h2 := writeF_len (gs := r) (s := (signW c g s).2) (fun x hx => h x (List.mem_cons_of_mem _ hx))
    show ((signW c g s).1 ++ (writeF c r (signW c g s).2).1).length ≤ 4 * (r.length + 1)
    rw [List.length_append]; omega

theorem cpow_10_6 : CPow 10 6 := by unfold CPow; decide +kernel
theorem cpow_10_40 : CPow 10 40 := by unfold CPow; decide +kernel
def bad (c : Cd) (g : Int) : Prop := ¬ (0 ≤ g ∧ g < sizeF c)
def spStrange : Sp := fun vs H Q _ => ∃ (p : Addr) (n : Int) (o : HO) (c : Cd), vs = [.ref p, .str c.w] ∧ H p = some o ∧ PoolO n o ∧ n ≤ 900000000 ∧
  ∀ (H' : Hp) (g : Int) (o' : HO), bad c g → H' p = some o' → PoolO (n + 2) o' → Kp [p] H H' → Q (.int g) H'
def spTold (K : PySem.W.Frag) : Sp := fun vs H Q _ => ∃ (a : Addr) (gs : List Int) (s : Int) (c : Cd), vs = [.ref a, .int s, .str c.w] ∧ SqL K H a (gs.map V.int) ∧ gs.length ≤ 200 ∧ VS c s ∧
  (Good c gs → ∀ (H' : Hp) (q tq u : Addr), H' q = some (.tup [.str (Str.ofString "told"), .ref tq]) → H' tq = some (.tup [.ref u, .int (writeF c gs s).2]) → H' u = some (.lst ((writeF c gs s).1.map V.int)) → Same H H' → Q (.ref q) H') ∧
  (∀ (i : Nat) (g : Int), gs[i]? = some g → bad c g → Good c (gs.take i) → ∀ (H' : Hp) (q : Addr), H' q = some (.tup [.str (Str.ofString "refused"), .int g]) → Same H H' → Q (.ref q) H')
theorem first_bad {c : Cd} : ∀ gs : List Int, Good c gs ∨ ∃ i g, gs[i]? = some g ∧ bad c g ∧ Good c (gs.take i)
  | [] => .inl (fun _ h => nomatch h)
  | x :: r => by
    by_cases h : 0 ≤ x ∧ x < sizeF c
    · rcases first_bad r with g | ⟨i, g, h1, h2, h3⟩
      · exact .inl (good_app (a := [x]) (good_one h.1 h.2) g)
      · exact .inr ⟨i + 1, g, h1, h2, good_app (a := [x]) (good_one h.1 h.2) h3⟩
    · exact .inr ⟨0, x, rfl, h, fun _ h => nomatch h⟩
theorem dp_tfft {K : PySem.W.Frag} {H : Hp} {a b : Addr} (ha : H a = some (.lst [.bl true, .bl false, .bl false, .bl true])) (hb : H b = some (.lst [.bl true, .bl false, .bl false, .bl true])) : ∃ d, Dp K H (.ref a) d ∧ Dp K H (.ref b) d ∧ SeqAt.shaped d = true :=
  ⟨.list [.bool true, .bool false, .bool false, .bool true], .lst (sq_at ha) (.cons (.bl _) (.cons (.bl _) (.cons (.bl _) (.cons (.bl _) .nil)))), .lst (sq_at hb) (.cons (.bl _) (.cons (.bl _) (.cons (.bl _) (.cons (.bl _) .nil)))), by decide⟩

theorem w_inj {c d : Cd} (h : c.w = d.w) : d = c := by
  cases c <;> cases d <;> first | rfl | exact absurd h (by decide +kernel)
theorem shaped_told (ns : List Int) (v : Int) : SeqAt.shaped (.tuple [.str (Str.ofString "told"), .tuple [.list (ns.map PyData.int), .int v]]) = true := by
  have h := shaped_row ns v
  have hs : PyData.strOk (Str.ofString "told") = true := by decide +kernel
  have h1' : PyData.canLayAll0 (ns.map PyData.int) = true := lay_ints ns
  unfold SeqAt.shaped
  rw [Bool.and_eq_true]
  refine ⟨by simp [PyData.canLay0, PyData.canLayAll0, h1', hs], decide_eq_true ?_⟩
  have : ∀ ms : List Int, PyData.depthAll (ms.map PyData.int) ≤ 1 := by
    intro ms
    induction ms with
    | nil => simp [PyData.depthAll]
    | cons m r ih => simp [PyData.depthAll, PyData.depth]; try omega
  have h3 := this ns
  simp [PyData.depth, PyData.depthAll]; try omega
theorem dp_told {K : PySem.W.Frag} {H : Hp} {q q2 t t2 w w2 : Addr} {ns : List Int} {v : Int} (h : H q = some (.tup [.str (Str.ofString "told"), .ref t])) (ht : H t = some (.tup [.ref w, .int v])) (hw : H w = some (.lst (ns.map V.int))) (h2 : H q2 = some (.tup [.str (Str.ofString "told"), .ref t2])) (ht2 : H t2 = some (.tup [.ref w2, .int v])) (hw2 : H w2 = some (.lst (ns.map V.int))) : ∃ d, Dp K H (.ref q) d ∧ Dp K H (.ref q2) d ∧ SeqAt.shaped d = true :=
  ⟨_, .tup (.inl (.inl h)) (.cons (.str _) (.cons (dp_row (.inl (.inl ht)) (sq_at hw)) .nil)), .tup (.inl (.inl h2)) (.cons (.str _) (.cons (dp_row (.inl (.inl ht2)) (sq_at hw2)) .nil)), shaped_told _ _⟩
theorem dp_ref {K : PySem.W.Frag} {H : Hp} {q q2 : Addr} {g : Int} (h : H q = some (.tup [.str (Str.ofString "refused"), .int g])) (h2 : H q2 = some (.tup [.str (Str.ofString "refused"), .int g])) : ∃ d, Dp K H (.ref q) d ∧ Dp K H (.ref q2) d ∧ SeqAt.shaped d = true :=
  ⟨.tuple [.str (Str.ofString "refused"), .int g], .tup (.inl (.inl h)) (.cons (.str _) (.cons (.int _) .nil)), .tup (.inl (.inl h2)) (.cons (.str _) (.cons (.int _) .nil)), by
    have hs : PyData.strOk (Str.ofString "refused") = true := by decide +kernel
    simp [SeqAt.shaped, PyData.canLay0, PyData.canLayAll0, PyData.depth, PyData.depthAll, hs]⟩
/-- the signs that the plain ones have not: the first of them -/
theorem first_new {c : Cd} {PL : List Int} (gp : Good c PL) : ∀ (gs : List Int), (∀ x ∈ gs, (0 ≤ x ∧ x < sizeF c) → x ∈ PL) → (∃ x ∈ gs, bad c x) → ∃ (g : Int) (rest : List Int) (i : Nat), gs.filter (fun x => !decide (x ∈ PL)) = g :: rest ∧ gs[i]? = some g ∧ bad c g ∧ Good c (gs.take i)
  | [], _, ⟨x, hx, _⟩ => nomatch hx
  | y :: r, h, ⟨x, hx, hb⟩ => by
    by_cases hy : y ∈ PL
    · have gy := gp y hy
      have ex : ∃ x ∈ r, bad c x := by
        rcases List.mem_cons.mp hx with rfl | hx
        · exact absurd gy hb
        · exact ⟨x, hx, hb⟩
      obtain ⟨g, rest, i, h1, h2, h3, h4⟩ := first_new gp r (fun x hx => h x (List.mem_cons_of_mem _ hx)) ex
      refine ⟨g, rest, i + 1, ?_, h2, h3, good_app (a := [y]) (good_one gy.1 gy.2) h4⟩
      rw [List.filter_cons_of_neg (by simpa using hy)]; exact h1
    · refine ⟨y, r.filter (fun x => !decide (x ∈ PL)), 0, ?_, rfl, fun gy => hy (h y (by simp) gy), fun _ h => nomatch h⟩
      rw [List.filter_cons_of_pos (by simpa using hy)]
structure Tx (K : PySem.W.Frag) (mg : Str → Option Value) where
  C_SipError : Addr
  C_NoCode : Addr
  C_NoSign : Addr
  C_BadCode : Addr
  f_iNoCode : Addr
  fd_iNoCode : FuncData
  D_iNoCode : FunA K "__init__" "NoCode.__init__" s_iNoCode f_iNoCode fd_iNoCode
  f_iNoSign : Addr
  fd_iNoSign : FuncData
  D_iNoSign : FunA K "__init__" "NoSign.__init__" s_iNoSign f_iNoSign fd_iNoSign
  f_whole : Addr
  fd_whole : FuncData
  D_whole : Dg K mg "is_whole" s_whole f_whole fd_whole
  f_chk : Addr
  fd_chk : FuncData
  D_chk : Dg K mg "check_code" s_chk f_chk fd_chk
  f_lasts : Addr
  fd_lasts : FuncData
  D_lasts : Dg K mg "last_sign" s_lasts f_lasts fd_lasts
  f_swr : Addr
  fd_swr : FuncData
  D_swr : Dg K mg "sign_writing" s_swr f_swr fd_swr
  f_stw : Addr
  fd_stw : FuncData
  D_stw : Dg K mg "steps_writing" s_stw f_stw fd_stw
  f_ww : Addr
  fd_ww : FuncData
  D_ww : Dg K mg "wide_writing" s_ww f_ww fd_ww
  f_tw : Addr
  fd_tw : FuncData
  D_tw : Dg K mg "turn_writing" s_tw f_tw fd_tw
  f_wsigns : Addr
  fd_wsigns : FuncData
  D_wsigns : Dg K mg "write_signs" s_wsigns f_wsigns fd_wsigns
  f_pool : Addr
  fd_pool : FuncData
  D_pool : Dg K mg "_law_pool" s_pool f_pool fd_pool
  f_take : Addr
  fd_take : FuncData
  D_take : Dg K mg "_law_take" s_take f_take fd_take
  f_lcodes : Addr
  fd_lcodes : FuncData
  D_lcodes : Dg K mg "_law_codes" s_lcodes f_lcodes fd_lcodes
  f_lstate : Addr
  fd_lstate : FuncData
  D_lstate : Dg K mg "_law_state" s_lstate f_lstate fd_lstate
  f_lsign : Addr
  fd_lsign : FuncData
  D_lsign : Dg K mg "_law_sign" s_lsign f_lsign fd_lsign
  f_lsteps : Addr
  fd_lsteps : FuncData
  D_lsteps : Dg K mg "_law_steps" s_lsteps f_lsteps fd_lsteps
  f_lbytes : Addr
  fd_lbytes : FuncData
  D_lbytes : Dg K mg "_law_bytes" s_lbytes f_lbytes fd_lbytes
  f_strange : Addr
  fd_strange : FuncData
  D_strange : Dg K mg "_law_strange" s_strange f_strange fd_strange
  f_told : Addr
  fd_told : FuncData
  D_told : Dg K mg "_law_told" s_told f_told fd_told
  f_law : Addr
  fd_law : FuncData
  D_law : Dg K mg "law" s_law f_law fd_law
  g_SipError : mg "SipError" = some (.ref C_SipError)
  g_NoCode : mg "NoCode" = some (.ref C_NoCode)
  g_NoSign : mg "NoSign" = some (.ref C_NoSign)
  g_BadCode : mg "BadCode" = some (.ref C_BadCode)
  o_NoCode : OexC K C_NoCode
  e_NoCode : ExcC K C_NoCode
  n_NoCode : PySem.W.findIn K (.ref C_NoCode) "word" = some none
  ini_NoCode : PySem.W.findIn K (.ref C_NoCode) "__init__" = some (some (.ref f_iNoCode))
  tI_NoCode : PySem.W.typeIn K (.ref f_iNoCode) = some (.type "function")
  te_NoCode : PySem.W.exmOne K (.ref C_NoCode) (.ref C_SipError) = some true
  kV_NoCode : PySem.W.kitOne K (.ref C_NoCode) (.type "ValueError") = some true
  k_NoCode_NoSign : PySem.W.kitOne K (.ref C_NoCode) (.ref C_NoSign) = some false
  k_NoCode_NoCode : PySem.W.kitOne K (.ref C_NoCode) (.ref C_NoCode) = some true
  k_NoCode_BadCode : PySem.W.kitOne K (.ref C_NoCode) (.ref C_BadCode) = some false
  o_NoSign : OexC K C_NoSign
  e_NoSign : ExcC K C_NoSign
  n_NoSign : PySem.W.findIn K (.ref C_NoSign) "sign" = some none
  ini_NoSign : PySem.W.findIn K (.ref C_NoSign) "__init__" = some (some (.ref f_iNoSign))
  tI_NoSign : PySem.W.typeIn K (.ref f_iNoSign) = some (.type "function")
  te_NoSign : PySem.W.exmOne K (.ref C_NoSign) (.ref C_SipError) = some true
  kV_NoSign : PySem.W.kitOne K (.ref C_NoSign) (.type "ValueError") = some true
  k_NoSign_NoSign : PySem.W.kitOne K (.ref C_NoSign) (.ref C_NoSign) = some true
  k_NoSign_NoCode : PySem.W.kitOne K (.ref C_NoSign) (.ref C_NoCode) = some false
  k_NoSign_BadCode : PySem.W.kitOne K (.ref C_NoSign) (.ref C_BadCode) = some false
  bb_chk : Binds K fd_chk P_chk []
  bb_iNoCode : Binds K fd_iNoCode P_iNoCode []
  bb_iNoSign : Binds K fd_iNoSign P_iNoSign []
  bb_lasts : Binds K fd_lasts P_lasts []
  bb_lbytes : Binds K fd_lbytes P_lbytes []
  bb_lcodes : Binds K fd_lcodes P_lcodes []
  bb_lsign : Binds K fd_lsign P_lsign []
  bb_lstate : Binds K fd_lstate P_lstate []
  bb_lsteps : Binds K fd_lsteps P_lsteps []
  bb_pool : Binds K fd_pool P_pool []
  bb_strange : Binds K fd_strange P_strange []
  bb_stw : Binds K fd_stw P_stw []
  bb_swr : Binds K fd_swr P_swr []
  bb_take : Binds K fd_take P_take []
  bb_told : Binds K fd_told P_told []
  bb_tw : Binds K fd_tw P_tw []
  bb_whole : Binds K fd_whole P_whole []
  bb_ww : Binds K fd_ww P_ww []
  kb_wsigns_2_code : KBn K fd_wsigns P_wsigns 2 ["code"] (fun us ws => us ++ ws) (fun vs zs => vs ++ zs)
  t_PLAIN : Tok
  c_PLAIN : mg "PLAIN" = some (.str (Str.ofString "plain") t_PLAIN)
  t_STEPS : Tok
  c_STEPS : mg "STEPS" = some (.str (Str.ofString "steps") t_STEPS)
  t_WIDE : Tok
  c_WIDE : mg "WIDE" = some (.str (Str.ofString "wide") t_WIDE)
  t_TURN : Tok
  c_TURN : mg "TURN" = some (.str (Str.ofString "turn") t_TURN)
  t_LOW_FIRST : Tok
  c_LOW_FIRST : mg "LOW_FIRST" = some (.int 1 t_LOW_FIRST)
  t_HIGH_FIRST : Tok
  c_HIGH_FIRST : mg "HIGH_FIRST" = some (.int 2 t_HIGH_FIRST)
  t_TURNING : Tok
  c_TURNING : mg "TURNING" = some (.int 128 t_TURNING)
  a_HIGH_MARK : Addr
  c_HIGH_MARK : mg "HIGH_MARK" = some (.ref a_HIGH_MARK)
  q_HIGH_MARK : ∀ H : Hp, SqT K H a_HIGH_MARK [.int 254, .int 255]
  m_list : mg "list" = none
  m_len : mg "len" = none
  m_range : mg "range" = none
  m_int : mg "int" = none
  m_tuple : mg "tuple" = none
  m_bool : mg "bool" = none
  m_isinstance : mg "isinstance" = none
  m_ValueError : mg "ValueError" = none
section
variable {P : Program} {w : World} {K : PySem.W.Frag} {mg : Str → Option Value} {base : Heap}

theorem ok_pool (T : Tx K mg) : FnOk P w K mg base CX0 1 T.f_pool T.fd_pool P_pool (spPool K) := by
  have sz : sizeLine = 16777216 := sizeLine_eq
  refine T.D_pool.F.ok sc_pool (fun vs H Q E h => ?_) (fun cdv A outer s H vs Q E hr h => ?_)
  · obtain ⟨a, ns, i, rfl, _⟩ := h
    rfl
  · obtain ⟨a, ns, i, rfl, hS, h63, i0, i1, q⟩ := h
    refine ⟨_, (pss_cons (ps_set (i := 2) sc_pool.nd rfl (.inl rfl) pe_int)
      (C8.pss_cut (ps_if (pt_cmpR op_gt (pe_callB call_len_seq (by rfl) T.m_len PySem.boot_len (pa_cons (pv 0) pa_nil)) pe_int (nomark _)) (pss_one (ps_set (i := 2) sc_pool.nd rfl (.inl rfl) (pe_ix ix_list (pv 0) (pe_op op_mod (pv 1) (pe_callB call_len_seq (by rfl) T.m_len PySem.boot_len (pa_cons (pv 0) pa_nil))) (fun _ _ => rfl)))) pss_nil)
      (pss_cons (ps_set (i := 3) sc_pool.nd rfl (.inl rfl) pe_int)
      (C8.pss_cut (ps_if (PW.pt (pw_and (pt_cmpR op_ge (pv 2) (pe_op op_pow pe_int pe_int) (nomark _)) (pw_and1 (pt_cmpR op_lt (pv 1) (pe_callB call_len_seq (by rfl) T.m_len PySem.boot_len (pa_cons (pv 0) pa_nil)) (nomark _))))) (pss_one (ps_set (i := 3) sc_pool.nd rfl (.inl rfl) (pv 2))) pss_nil)
      (pss_one (ps_ret (pe_lst (pa_cons (pv 3) (pa_cons (pe_op op_mul pe_int (pv 1)) (pa_cons (pv 2) pa_nil)))))))))), ?_⟩
    refine ⟨fun σ' H' => H' = H ∧ ∃ c : Int, σ' = [some (.ref a), some (.int i), some (.int c), none], ?_, fun σ' H' hm => ?_⟩
    · refine ⟨.ref a, rfl, a, ns.map V.int, rfl, .inl hS, _, _, rfl, rfl, _, rfl, ite2 (fun e => ?_) (fun e => ?_)⟩
      · have e1 : (0 : Int) < ((ns.map V.int).length : Int) := of_decide_eq_true e
        rw [List.length_map] at e1
        obtain ⟨m, _, em, _⟩ := atI_int (ms := ns) (i := i % (ns.length : Int)) (Int.emod_nonneg _ (by omega)) (Int.emod_lt_of_pos _ e1)
        refine ⟨.ref a, rfl, .int i, rfl, .ref a, rfl, a, ns.map V.int, rfl, .inl hS, _, _, rfl, rfl, ?_, a, _, _, .int m, rfl, rfl, hS, ?_, rfl, m, rfl⟩
        · rw [List.length_map]; exact e1
        · rw [List.length_map]; exact em
      · exact ⟨rfl, 0, rfl⟩
    · obtain ⟨rfl, c, rfl⟩ := hm
      refine ⟨fun σ' H'' => H'' = H' ∧ ∃ d : Int, 0 ≤ d ∧ σ' = [some (.ref a), some (.int i), some (.int c), some (.int d)], ?_, fun σ' H'' hm => ?_⟩
      · refine ⟨.int c, rfl, _, _, rfl, rfl, ⟨by decide, by decide, by decide⟩, _, _, rfl, rfl, _, rfl, ite2 (fun e => ?_) (fun e => iteF ⟨rfl, 0, by decide, rfl⟩)⟩
        have e1 : ((10 : Int) ^ (18 : Int).toNat) ≤ c := of_decide_eq_true e
        refine ⟨.int i, rfl, .ref a, rfl, a, ns.map V.int, rfl, .inl hS, _, _, rfl, rfl, _, rfl, ite2 (fun e => ?_) (fun e => ⟨rfl, 0, by decide, rfl⟩)⟩
        exact ⟨.int c, rfl, rfl, c, Int.le_trans (by decide) e1, rfl⟩
      · obtain ⟨rfl, d, d0, rfl⟩ := hm
        refine ⟨.int d, rfl, .int i, rfl, _, _, rfl, rfl, .inl ⟨by decide, by decide⟩, .int c, rfl, by show (3 : Nat) ≤ sizeLine; decide, fun p np => q p _ np ⟨d, 1000 * i, c, rfl, d0, by omega, by omega⟩⟩


theorem ok_take (T : Tx K mg) : FnOk P w K mg base CX0 1 T.f_take T.fd_take P_take (spTake) := by
  have sz : sizeLine = 16777216 := sizeLine_eq
  refine T.D_take.F.ok sc_take (fun vs H Q E h => ?_) (fun cdv A outer s H vs Q E hr h => ?_)
  · obtain ⟨p, n, wd, o, rfl, _⟩ := h
    rfl
  · obtain ⟨p, n, wd, o, rfl, hp, ⟨d, c, x, rfl, d0, c0, cn⟩, n9, w0, w1, q⟩ := h
    refine ⟨_, (pss_cons (ps_if (pt_cmpR op_gt (pe_ix ix_list (pv 0) pe_int (fun _ _ => rfl)) pe_int (nomark _)) (pss_cons (ps_set (i := 2) sc_take.nd rfl (.inl rfl) (pe_op op_mod (pe_ix ix_list (pv 0) pe_int (fun _ _ => rfl)) (pv 1)))
      (pss_cons (ps_asg (pe_op op_fdiv (pe_ix ix_list (pv 0) pe_int (fun _ _ => rfl)) (pv 1)) (pg_sub (pv 0) pe_int set_list))
      (pss_one (ps_ret (pv 2))))) pss_nil)
      (pss_cons (ps_asg (pe_op op_add (pe_ix ix_list (pv 0) pe_int (fun _ _ => rfl)) pe_int) (pg_sub (pv 0) pe_int set_list))
      (pss_cons (ps_set (i := 3) sc_take.nd rfl (.inl rfl) (pe_op op_mod (pe_op op_pow (pe_op op_add (pe_op op_mod (pe_ix ix_list (pv 0) pe_int (fun _ _ => rfl)) pe_int) (pe_op op_mul pe_int (pe_ix ix_list (pv 0) pe_int (fun _ _ => rfl)))) pe_int) pe_int))
      (pss_cons (ps_set (i := 3) sc_take.nd rfl (.inl rfl) (pe_op op_add (pe_op op_mul (pv 3) pe_int) (pe_op op_mul (pe_op op_mul (pe_ix ix_list (pv 0) pe_int (fun _ _ => rfl)) (pe_ix ix_list (pv 0) pe_int (fun _ _ => rfl))) pe_int)))
      (pss_one (ps_ret (pe_op op_mod (pe_op op_fdiv (pe_op op_mod (pe_op op_add (pv 3) (pe_op op_fdivW (pe_ix ix_list (pv 0) pe_int (fun _ _ => rfl)) pe_int)) pe_int) pe_int) (pv 1)))))))), ?_⟩
    have S0 : SqL K H p [.int d, .int c, .int x] := sq_at hp
    refine ⟨.ref p, rfl, p, _, 0, .int d, rfl, rfl, S0, rfl, d, 0, rfl, rfl, _, rfl, ite2 (fun e => ?_) (fun e => ?_)⟩
    · refine ⟨.ref p, rfl, p, _, 0, .int d, rfl, rfl, S0, rfl, .int wd, rfl, d, wd, rfl, rfl, w0, ?_⟩
      refine ⟨.ref p, rfl, p, _, 0, .int d, rfl, rfl, S0, rfl, .int wd, rfl, d, wd, rfl, rfl, ⟨w0, w1⟩, ?_⟩
      refine ⟨.ref p, rfl, p, _, 0, 0, rfl, rfl, hp, rfl, .int (d % wd), rfl, ?_⟩
      exact q _ _ (Int.emod_nonneg _ (by omega)) (Int.emod_lt_of_pos _ w0) ⟨d / wd, c, x, rfl, Int.ediv_nonneg d0 (by omega), c0, by omega⟩
    · refine ⟨.ref p, rfl, p, _, 1, .int c, rfl, rfl, S0, rfl, c, 1, rfl, rfl, .ref p, rfl, p, _, 1, 1, rfl, rfl, hp, rfl, ?_⟩
      have S1 : SqL K (upd H p (.lst [.int d, .int (c + 1), .int x])) p [.int d, .int (c + 1), .int x] := sq_new
      have y0 : 0 ≤ x % 2147483647 := Int.emod_nonneg _ (by decide)
      have y1 : x % 2147483647 < 2147483647 := Int.emod_lt_of_pos _ (by decide)
      refine ⟨.ref p, rfl, p, _, 2, .int x, rfl, rfl, S1, rfl, x, _, rfl, rfl, by show (0 : Int) < 2147483647; decide, .ref p, rfl, p, _, 1, .int (c + 1), rfl, rfl, S1, rfl, 40503, c + 1, rfl, rfl, .inl ⟨by decide, by decide⟩, _, _, rfl, rfl, _, 5, rfl, rfl, ⟨by decide, by decide, ?_⟩, _, 2147483647, rfl, rfl, by show (0 : Int) < 2147483647; decide, ?_⟩
      · show (x % 2147483647 + 40503 * (c + 1)).natAbs < 18446744073709551616
        omega
      · refine ⟨_, rfl, _, 48271, rfl, rfl, .inr ⟨by decide, by decide⟩, .ref p, rfl, p, _, 1, .int (c + 1), rfl, rfl, S1, rfl, .ref p, rfl, p, _, 1, .int (c + 1), rfl, rfl, S1, rfl, c + 1, c + 1, rfl, rfl, .inl ⟨by omega, by omega⟩, _, 39373, rfl, rfl, .inr ⟨by decide, by decide⟩, _, _, rfl, rfl, ?_⟩
        refine ⟨_, rfl, .ref p, rfl, p, _, 2, .int x, rfl, rfl, S1, rfl, x, _, rfl, rfl, wide_div (b := 32) (by decide) (by decide) (by decide) (by decide), _, _, rfl, rfl, _, _, rfl, rfl, by show (0 : Int) < 1000000007; decide, _, 16, rfl, rfl, ⟨by decide, by decide⟩, .int wd, rfl, _, wd, rfl, rfl, w0, ?_⟩
        exact q _ _ (Int.emod_nonneg _ (by omega)) (Int.emod_lt_of_pos _ w0) ⟨d, c + 1, x, rfl, d0, by omega, by omega⟩


theorem ok_iNoCode (T : Tx K mg) : FnOk P w K mg base CX0 1 T.f_iNoCode T.fd_iNoCode P_iNoCode (spErr1 T.C_NoCode "word") := by
  have sz : sizeLine = 16777216 := sizeLine_eq
  refine T.D_iNoCode.ok sc_iNoCode (fun vs H Q E h => ?_) (fun cdv A outer s H vs Q E hr h => ?_)
  · obtain ⟨a, v, rfl, _⟩ := h
    rfl
  · obtain ⟨a, v, rfl, hA, q⟩ := h
    refine ⟨_, (pss_one (ps_ost (pv 0) (pv 1))), ?_⟩
    exact ⟨v, rfl, .ref a, rfl, a, T.C_NoCode, rfl, T.o_NoCode, T.n_NoCode, .inl ⟨hA, q⟩⟩

theorem ok_iNoSign (T : Tx K mg) : FnOk P w K mg base CX0 1 T.f_iNoSign T.fd_iNoSign P_iNoSign (spErr1 T.C_NoSign "sign") := by
  have sz : sizeLine = 16777216 := sizeLine_eq
  refine T.D_iNoSign.ok sc_iNoSign (fun vs H Q E h => ?_) (fun cdv A outer s H vs Q E hr h => ?_)
  · obtain ⟨a, v, rfl, _⟩ := h
    rfl
  · obtain ⟨a, v, rfl, hA, q⟩ := h
    refine ⟨_, (pss_one (ps_ost (pv 0) (pv 1))), ?_⟩
    exact ⟨v, rfl, .ref a, rfl, a, T.C_NoSign, rfl, T.o_NoSign, T.n_NoSign, .inl ⟨hA, q⟩⟩

theorem ok_chk (T : Tx K mg) : FnOk P w K mg base (L2.CX P w) 3 T.f_chk T.fd_chk P_chk (spChkX T.C_NoCode) := by
  have G_iNoCode := ok_iNoCode (P := P) (w := w) (base := base) T
  have sz : sizeLine = 16777216 := sizeLine_eq
  refine T.D_chk.F.okX sc_chk (fun vs H Q E h => ?_) (fun cdv A outer s H vs Q E hr h => ?_)
  · obtain ⟨z, rfl, _⟩ := h
    rfl
  · obtain ⟨z, rfl, q, qe⟩ := h
    refine ⟨_, (pss_one (ps_if (pt_cmpR op_notIn_seq (pv 0) (pe_tup (pa_cons (pe_glob (v := .str (Str.ofString "plain")) (by rfl) T.c_PLAIN ⟨_, rfl⟩) (pa_cons (pe_glob (v := .str (Str.ofString "steps")) (by rfl) T.c_STEPS ⟨_, rfl⟩) (pa_cons (pe_glob (v := .str (Str.ofString "wide")) (by rfl) T.c_WIDE ⟨_, rfl⟩) (pa_cons (pe_glob (v := .str (Str.ofString "turn")) (by rfl) T.c_TURN ⟨_, rfl⟩) pa_nil))))) rfl) (pss_one (ps_raise rfl (takes_of rfl rfl rfl rfl) (pmk_oex T.o_NoCode T.ini_NoCode T.tI_NoCode G_iNoCode (hr.mono (by decide)) T.bb_iNoCode .nil pass0 (by rfl) T.g_NoCode (pa_cons (pv 0) pa_nil)))) pss_nil)), ?_⟩
    refine ⟨_, rfl, by show (4 : Nat) ≤ sizeLine; omega, fun t nt => ?_⟩
    have s1 := (Kp.new (ps := []) (o := HO.tup [.str (Str.ofString "plain"), .str (Str.ofString "steps"), .str (Str.ofString "wide"), .str (Str.ofString "turn")]) nt).same
    refine ⟨t, _, rfl, .inr (.inl (.inl upd_same)), rfl, rfl, _, rfl, ?_⟩
    show if (!inV (.str z) [.str (Str.ofString "plain"), .str (Str.ofString "steps"), .str (Str.ofString "wide"), .str (Str.ofString "turn")]) = true then _ else _
    cases hin : inV (.str z) [.str (Str.ofString "plain"), .str (Str.ofString "steps"), .str (Str.ofString "wide"), .str (Str.ofString "turn")] with
    | true =>
      obtain ⟨c, ec⟩ := (inC z).mp hin
      exact iteF (q c ec _ s1)
    | false =>
      have nc : ¬ isCode z := fun h => by rw [(inC z).mpr h] at hin; cases hin
      exact iteT ⟨.str z, rfl, mk1_fin ((qe nc).mono s1).raise⟩

theorem ok_stw (T : Tx K mg) : FnOk P w K mg base CX0 1 T.f_stw T.fd_stw P_stw (spStepsW) := by
  have sz : sizeLine = 16777216 := sizeLine_eq
  refine T.D_stw.F.ok sc_stw (fun vs H Q E h => ?_) (fun cdv A outer s H vs Q E hr h => ?_)
  · obtain ⟨n, rfl, _⟩ := h
    rfl
  · obtain ⟨n, rfl, q⟩ := h
    refine ⟨_, (pss_cons (ps_if (pt_cmpR op_lt (pv 0) pe_int (nomark _)) (pss_one (ps_ret (pe_lst (pa_cons (pv 0) pa_nil)))) pss_nil)
      (pss_cons (ps_if (pt_cmpR op_lt (pv 0) pe_int (nomark _)) (pss_one (ps_ret (pe_lst (pa_cons (pe_op op_add pe_int (pe_op op_fdiv (pv 0) pe_int)) (pa_cons (pe_op op_add pe_int (pe_op op_mod (pv 0) pe_int)) pa_nil))))) pss_nil)
      (pss_cons (ps_if (pt_cmpR op_lt (pv 0) pe_int (nomark _)) (pss_one (ps_ret (pe_lst (pa_cons (pe_op op_add pe_int (pe_op op_fdiv (pv 0) pe_int)) (pa_cons (pe_op op_add pe_int (pe_op op_mod (pe_op op_fdiv (pv 0) pe_int) pe_int)) (pa_cons (pe_op op_add pe_int (pe_op op_mod (pv 0) pe_int)) pa_nil)))))) pss_nil)
      (pss_one (ps_ret (pe_lst (pa_cons (pe_op op_add pe_int (pe_op op_fdiv (pv 0) pe_int)) (pa_cons (pe_op op_add pe_int (pe_op op_mod (pe_op op_fdiv (pv 0) pe_int) pe_int)) (pa_cons (pe_op op_add pe_int (pe_op op_mod (pe_op op_fdiv (pv 0) pe_int) pe_int)) (pa_cons (pe_op op_add pe_int (pe_op op_mod (pv 0) pe_int)) pa_nil)))))))))), ?_⟩
    unfold stepsW at q
    refine ⟨.int n, rfl, _, _, rfl, rfl, _, rfl, ite2 (fun e => ?_) (fun e => ?_)⟩
    · rw [if_pos (of_decide_eq_true e)] at q
      exact ⟨.int n, rfl, by show (1 : Nat) ≤ sizeLine; omega, fun z nz => q _ z nz upd_same (Kp.new (ps := []) nz).same⟩
    rw [if_neg (fun z => e (decide_eq_true z))] at q
    refine ⟨.int n, rfl, _, _, rfl, rfl, _, rfl, ite2 (fun e => ?_) (fun e => ?_)⟩
    · rw [if_pos (of_decide_eq_true e)] at q
      exact ⟨.int n, rfl, _, _, rfl, rfl, ⟨by decide, by decide⟩, _, _, rfl, rfl, .int n, rfl, _, _, rfl, rfl, (show (0 : Int) < 64 by decide), _, _, rfl, rfl, by show (2 : Nat) ≤ sizeLine; omega, fun z nz => q _ z nz upd_same (Kp.new (ps := []) nz).same⟩
    rw [if_neg (fun z => e (decide_eq_true z))] at q
    refine ⟨.int n, rfl, _, _, rfl, rfl, _, rfl, ite2 (fun e => ?_) (fun e => ?_)⟩
    · rw [if_pos (of_decide_eq_true e)] at q
      exact ⟨.int n, rfl, _, _, rfl, rfl, ⟨by decide, by decide⟩, _, _, rfl, rfl, .int n, rfl, _, _, rfl, rfl, ⟨by decide, by decide⟩, _, _, rfl, rfl, (show (0 : Int) < 64 by decide), _, _, rfl, rfl, .int n, rfl, _, _, rfl, rfl, (show (0 : Int) < 64 by decide), _, _, rfl, rfl, by show (3 : Nat) ≤ sizeLine; omega, fun z nz => q _ z nz upd_same (Kp.new (ps := []) nz).same⟩
    rw [if_neg (fun z => e (decide_eq_true z))] at q
    exact ⟨.int n, rfl, _, _, rfl, rfl, ⟨by decide, by decide⟩, _, _, rfl, rfl, .int n, rfl, _, _, rfl, rfl, ⟨by decide, by decide⟩, _, _, rfl, rfl, (show (0 : Int) < 64 by decide), _, _, rfl, rfl, .int n, rfl, _, _, rfl, rfl, ⟨by decide, by decide⟩, _, _, rfl, rfl, (show (0 : Int) < 64 by decide), _, _, rfl, rfl, .int n, rfl, _, _, rfl, rfl, (show (0 : Int) < 64 by decide), _, _, rfl, rfl, by show (4 : Nat) ≤ sizeLine; omega, fun z nz => q _ z nz upd_same (Kp.new (ps := []) nz).same⟩

theorem ok_whole (T : Tx K mg) : FnOk P w K mg base CX0 1 T.f_whole T.fd_whole P_whole (spWholeI) := by
  have sz : sizeLine = 16777216 := sizeLine_eq
  refine T.D_whole.F.ok sc_whole (fun vs H Q E h => ?_) (fun cdv A outer s H vs Q E hr h => ?_)
  · obtain ⟨v, rfl, _⟩ := h
    rfl
  · obtain ⟨v, rfl, q⟩ := h
    refine ⟨_, (pss_one (ps_ret (pe_and (pe_callB (id := "isinstance") (r := rIsi K) call_isi (by rfl) T.m_isinstance (by decide +kernel) (pa_cons (pv 0) (pa_cons (pe_bltn (v := .ty "int") (by rfl) T.m_int (by decide +kernel) rfl) pa_nil))) (pe_one (pe_not (pe_callB (id := "isinstance") (r := rIsi K) call_isi (by rfl) T.m_isinstance (by decide +kernel) (pa_cons (pv 0) (pa_cons (pe_bltn (v := .ty "bool") (by rfl) T.m_bool (by decide +kernel) rfl) pa_nil)))))))), ?_⟩
    refine ⟨.int v, rfl, .int v, .ty "int", _, _, true, rfl, .ty "int", .base (.int v), kit_ty (by decide +kernel), true, rfl, ?_⟩
    exact ⟨.int v, rfl, .int v, .ty "bool", _, _, false, rfl, .ty "bool", .base (.int v), kit_ty (by decide +kernel), false, rfl, q⟩

theorem ok_lasts (T : Tx K mg) : FnOk P w K mg base CX0 1 T.f_lasts T.fd_lasts P_lasts (spLastS) := by
  have sz : sizeLine = 16777216 := sizeLine_eq
  refine T.D_lasts.F.ok sc_lasts (fun vs H Q E h => ?_) (fun cdv A outer s H vs Q E hr h => ?_)
  · obtain ⟨c, rfl, _⟩ := h
    rfl
  · obtain ⟨c, rfl, q⟩ := h
    refine ⟨_, (pss_cons (ps_if (pt_cmpR op_eq (pv 0) (pe_glob (v := .str (Str.ofString "steps")) (by rfl) T.c_STEPS ⟨_, rfl⟩) (nomark _)) (pss_one (ps_ret pe_int)) pss_nil)
      (pss_cons (ps_if (pt_cmpR op_eq (pv 0) (pe_glob (v := .str (Str.ofString "wide")) (by rfl) T.c_WIDE ⟨_, rfl⟩) (nomark _)) (pss_one (ps_ret pe_int)) pss_nil)
      (pss_cons (ps_if (pt_cmpR op_eq (pv 0) (pe_glob (v := .str (Str.ofString "turn")) (by rfl) T.c_TURN ⟨_, rfl⟩) (nomark _)) (pss_one (ps_ret pe_int)) pss_nil)
      (pss_one (ps_ret pe_int))))), ?_⟩
    cases c with
    | steps =>
      refine ⟨_, rfl, rfl, _, rfl, iteTc (by decide +kernel) ?_⟩
      exact q
    | wide =>
      refine ⟨_, rfl, rfl, _, rfl, iteFc (by decide +kernel) ?_⟩
      refine ⟨_, rfl, rfl, _, rfl, iteTc (by decide +kernel) ?_⟩
      exact q
    | turn =>
      refine ⟨_, rfl, rfl, _, rfl, iteFc (by decide +kernel) ?_⟩
      refine ⟨_, rfl, rfl, _, rfl, iteFc (by decide +kernel) ?_⟩
      refine ⟨_, rfl, rfl, _, rfl, iteTc (by decide +kernel) ?_⟩
      exact q
    | plain =>
      refine ⟨_, rfl, rfl, _, rfl, iteFc (by decide +kernel) ?_⟩
      refine ⟨_, rfl, rfl, _, rfl, iteFc (by decide +kernel) ?_⟩
      refine ⟨_, rfl, rfl, _, rfl, iteFc (by decide +kernel) ?_⟩
      exact q

theorem ok_ww (T : Tx K mg) : FnOk P w K mg base CX0 1 T.f_ww T.fd_ww P_ww (spWW) := by
  have sz : sizeLine = 16777216 := sizeLine_eq
  refine T.D_ww.F.ok sc_ww (fun vs H Q E h => ?_) (fun cdv A outer s H vs Q E hr h => ?_)
  · obtain ⟨g, s0, rfl, _⟩ := h
    rfl
  · obtain ⟨g, s0, rfl, vs, q⟩ := h
    refine ⟨_, (pss_cons (ps_if (pt_cmpR op_eq (pv 1) (pe_glob (v := .int 1) (by rfl) T.c_LOW_FIRST ⟨_, rfl⟩) (nomark _)) (pss_one (ps_ret (pe_tup (pa_cons (pe_lst (pa_cons (pe_op op_mod (pv 0) pe_int) (pa_cons (pe_op op_fdiv (pv 0) pe_int) pa_nil))) (pa_cons (pe_glob (v := .int 1) (by rfl) T.c_LOW_FIRST ⟨_, rfl⟩) pa_nil))))) pss_nil)
      (pss_cons (ps_set (i := 2) sc_ww.nd rfl (.inl rfl) (pe_lst (pa_cons (pe_op op_fdiv (pv 0) pe_int) (pa_cons (pe_op op_mod (pv 0) pe_int) pa_nil))))
      (pss_cons (ps_if (pt_cmpR op_eq (pv 1) (pe_glob (v := .int 2) (by rfl) T.c_HIGH_FIRST ⟨_, rfl⟩) (nomark _)) (pss_one (ps_ret (pe_tup (pa_cons (pv 2) (pa_cons (pe_glob (v := .int 2) (by rfl) T.c_HIGH_FIRST ⟨_, rfl⟩) pa_nil))))) pss_nil)
      (pss_one (ps_ret (pe_tup (pa_cons (pe_lst (StX.pa_star (pe_glob (v := .ref T.a_HIGH_MARK) (by rfl) T.c_HIGH_MARK rfl) (StX.pa_star (pv 2) pa_nil))) (pa_cons (pe_glob (v := .int 2) (by rfl) T.c_HIGH_FIRST ⟨_, rfl⟩) pa_nil)))))))), ?_⟩
    obtain ⟨v0, v2⟩ := (show 0 ≤ s0 ∧ s0 ≤ 2 from vs)
    refine ⟨.int s0, rfl, rfl, _, rfl, ite2 (fun e => ?_) (fun e => ?_)⟩
    · have e1 : s0 = 1 := V.int.inj (of_decide_eq_true e)
      subst e1
      refine ⟨.int g, rfl, _, _, rfl, rfl, (show (0 : Int) < 256 by decide), .int g, rfl, _, _, rfl, rfl, ⟨by decide, by decide⟩, by show (2 : Nat) ≤ sizeLine; omega, fun l nl => ?_⟩
      have s1 := (Kp.new (ps := []) (o := HO.lst [.int (g % 256), .int (g / 256)]) nl).same
      refine ⟨by show (2 : Nat) ≤ sizeLine; omega, fun z nz => ?_⟩
      have lz : l ≠ z := ne_of_none (upd_same : upd H l (.lst [.int (g % 256), .int (g / 256)]) l = some (.lst [.int (g % 256), .int (g / 256)])) nz
      exact q _ z l (s1.free nz) nl lz.symm upd_same (by rw [upd_ne lz]; exact upd_same) (s1.trans (Kp.new (ps := []) nz).same)
    have e1 : s0 ≠ 1 := fun z => e (decide_eq_true (by rw [z]))
    refine ⟨.int g, rfl, _, _, rfl, rfl, ⟨by decide, by decide⟩, .int g, rfl, _, _, rfl, rfl, (show (0 : Int) < 256 by decide), by show (2 : Nat) ≤ sizeLine; omega, fun l nl => ?_⟩
    have s1 := (Kp.new (ps := []) (o := HO.lst [.int (g / 256), .int (g % 256)]) nl).same
    refine ⟨.int s0, rfl, rfl, _, rfl, ite2 (fun e => ?_) (fun e => ?_)⟩
    · have e2 : s0 = 2 := V.int.inj (of_decide_eq_true e)
      subst e2
      refine ⟨.ref l, rfl, by show (2 : Nat) ≤ sizeLine; omega, fun z nz => ?_⟩
      have lz : l ≠ z := ne_of_none (upd_same : upd H l (.lst [.int (g / 256), .int (g % 256)]) l = some (.lst [.int (g / 256), .int (g % 256)])) nz
      exact q _ z l (s1.free nz) nl lz.symm upd_same (by rw [upd_ne lz]; exact upd_same) (s1.trans (Kp.new (ps := []) nz).same)
    have e2 : s0 ≠ 2 := fun z => e (decide_eq_true (by rw [z]))
    have e0 : s0 = 0 := by omega
    subst e0
    refine ⟨T.a_HIGH_MARK, _, rfl, .inl (T.q_HIGH_MARK _), .ref l, rfl, l, _, rfl, .inr (.inl (.inl upd_same)), by show (4 : Nat) ≤ sizeLine; omega, fun m nm => ?_⟩
    have s2 := s1.trans (Kp.new (ps := []) (o := HO.lst [.int 254, .int 255, .int (g / 256), .int (g % 256)]) nm).same
    refine ⟨by show (2 : Nat) ≤ sizeLine; omega, fun z nz => ?_⟩
    have lz : m ≠ z := ne_of_none (upd_same : upd (upd H l (.lst [.int (g / 256), .int (g % 256)])) m (.lst [.int 254, .int 255, .int (g / 256), .int (g % 256)]) m = _) nz
    exact q _ z m (s2.free nz) (s1.free nm) lz.symm upd_same (by rw [upd_ne lz]; exact upd_same) (s2.trans (Kp.new (ps := []) nz).same)

theorem ok_tw (T : Tx K mg) : FnOk P w K mg base CX0 1 T.f_tw T.fd_tw P_tw (spTW) := by
  have sz : sizeLine = 16777216 := sizeLine_eq
  refine T.D_tw.F.ok sc_tw (fun vs H Q E h => ?_) (fun cdv A outer s H vs Q E hr h => ?_)
  · obtain ⟨g, s0, rfl, _⟩ := h
    rfl
  · obtain ⟨g, s0, rfl, q⟩ := h
    refine ⟨_, (pss_cons (ps_set (i := 2) sc_tw.nd rfl (.inl rfl) (pe_op op_fdiv (pv 0) pe_int))
      (pss_cons (ps_if (pt_cmpR op_eq (pv 2) (pv 1) (nomark _)) (pss_one (ps_ret (pe_tup (pa_cons (pe_lst (pa_cons (pe_op op_mod (pv 0) pe_int) pa_nil)) (pa_cons (pv 2) pa_nil))))) pss_nil)
      (pss_one (ps_ret (pe_tup (pa_cons (pe_lst (pa_cons (pe_op op_add (pe_glob (v := .int 128) (by rfl) T.c_TURNING ⟨_, rfl⟩) (pv 2)) (pa_cons (pe_op op_mod (pv 0) pe_int) pa_nil))) (pa_cons (pv 2) pa_nil))))))), ?_⟩
    refine ⟨.int g, rfl, _, _, rfl, rfl, ⟨by decide, by decide⟩, ?_⟩
    refine ⟨.int (g / 128), rfl, .int s0, rfl, rfl, _, rfl, ite2 (fun e => ?_) (fun e => ?_)⟩
    · have e1 : g / 128 = s0 := V.int.inj (of_decide_eq_true e)
      have eg : signW .turn g s0 = ([g % 128], g / 128) := if_pos e1
      rw [eg] at q
      refine ⟨.int g, rfl, _, _, rfl, rfl, (show (0 : Int) < 128 by decide), by show (1 : Nat) ≤ sizeLine; omega, fun l nl => ?_⟩
      have s1 := (Kp.new (ps := []) (o := HO.lst [.int (g % 128)]) nl).same
      refine ⟨.int (g / 128), rfl, by show (2 : Nat) ≤ sizeLine; omega, fun z nz => ?_⟩
      have lz : l ≠ z := ne_of_none (upd_same : upd H l (.lst [.int (g % 128)]) l = some (.lst [.int (g % 128)])) nz
      exact q _ z l (s1.free nz) nl lz.symm upd_same (by rw [upd_ne lz]; exact upd_same) (s1.trans (Kp.new (ps := []) nz).same)
    · have e1 : g / 128 ≠ s0 := fun z => e (decide_eq_true (by rw [z]))
      have eg : signW .turn g s0 = ([128 + g / 128, g % 128], g / 128) := if_neg e1
      rw [eg] at q
      refine ⟨.int (g / 128), rfl, _, _, rfl, rfl, .int g, rfl, _, _, rfl, rfl, (show (0 : Int) < 128 by decide), by show (2 : Nat) ≤ sizeLine; omega, fun l nl => ?_⟩
      have s1 := (Kp.new (ps := []) (o := HO.lst [.int (128 + g / 128), .int (g % 128)]) nl).same
      refine ⟨.int (g / 128), rfl, by show (2 : Nat) ≤ sizeLine; omega, fun z nz => ?_⟩
      have lz : l ≠ z := ne_of_none (upd_same : upd H l (.lst [.int (128 + g / 128), .int (g % 128)]) l = some (.lst [.int (128 + g / 128), .int (g % 128)])) nz
      exact q _ z l (s1.free nz) nl lz.symm upd_same (by rw [upd_ne lz]; exact upd_same) (s1.trans (Kp.new (ps := []) nz).same)

theorem ok_swr (T : Tx K mg) : FnOk P w K mg base CX0 2 T.f_swr T.fd_swr P_swr (spSWr) := by
  have G_ww := ok_ww (P := P) (w := w) (base := base) T
  have G_tw := ok_tw (P := P) (w := w) (base := base) T
  have G_stw := ok_stw (P := P) (w := w) (base := base) T
  have sz : sizeLine = 16777216 := sizeLine_eq
  refine T.D_swr.F.ok sc_swr (fun vs H Q E h => ?_) (fun cdv A outer s H vs Q E hr h => ?_)
  · obtain ⟨g, s0, c, rfl, _⟩ := h
    rfl
  · obtain ⟨g, s0, c, rfl, vs, q⟩ := h
    refine ⟨_, (pss_cons (ps_if (pt_cmpR op_eq (pv 2) (pe_glob (v := .str (Str.ofString "steps")) (by rfl) T.c_STEPS ⟨_, rfl⟩) (nomark _)) (pss_one (ps_ret (pe_tup (pa_cons (pe_call G_stw (hr.mono (by decide)) (by rfl) T.D_stw.g T.D_stw.F.kp T.bb_stw .nil pass0 (pa_cons (pv 0) pa_nil)) (pa_cons (pv 1) pa_nil))))) pss_nil)
      (pss_cons (ps_if (pt_cmpR op_eq (pv 2) (pe_glob (v := .str (Str.ofString "wide")) (by rfl) T.c_WIDE ⟨_, rfl⟩) (nomark _)) (pss_one (ps_ret (pe_call G_ww (hr.mono (by decide)) (by rfl) T.D_ww.g T.D_ww.F.kp T.bb_ww .nil pass0 (pa_cons (pv 0) (pa_cons (pv 1) pa_nil))))) pss_nil)
      (pss_cons (ps_if (pt_cmpR op_eq (pv 2) (pe_glob (v := .str (Str.ofString "turn")) (by rfl) T.c_TURN ⟨_, rfl⟩) (nomark _)) (pss_one (ps_ret (pe_call G_tw (hr.mono (by decide)) (by rfl) T.D_tw.g T.D_tw.F.kp T.bb_tw .nil pass0 (pa_cons (pv 0) (pa_cons (pv 1) pa_nil))))) pss_nil)
      (pss_one (ps_ret (pe_tup (pa_cons (pe_lst (pa_cons (pv 0) pa_nil)) (pa_cons (pv 1) pa_nil)))))))), ?_⟩
    cases c with
    | steps =>
      refine ⟨_, rfl, rfl, _, rfl, iteTc (by decide +kernel) ?_⟩
      refine ⟨.int g, rfl, g, rfl, fun H1 l nl el s1 => ?_⟩
      refine ⟨.int s0, rfl, by show (2 : Nat) ≤ sizeLine; omega, fun z nz => ?_⟩
      have lz : l ≠ z := ne_of_none el nz
      exact q _ z l (s1.free nz) nl lz.symm upd_same (by rw [upd_ne lz]; exact el) (s1.trans (Kp.new (ps := []) nz).same)
    | wide =>
      refine ⟨_, rfl, rfl, _, rfl, iteFc (by decide +kernel) ?_⟩
      refine ⟨_, rfl, rfl, _, rfl, iteTc (by decide +kernel) ?_⟩
      exact ⟨.int g, rfl, .int s0, rfl, g, s0, rfl, vs, q⟩
    | turn =>
      refine ⟨_, rfl, rfl, _, rfl, iteFc (by decide +kernel) ?_⟩
      refine ⟨_, rfl, rfl, _, rfl, iteFc (by decide +kernel) ?_⟩
      refine ⟨_, rfl, rfl, _, rfl, iteTc (by decide +kernel) ?_⟩
      exact ⟨.int g, rfl, .int s0, rfl, g, s0, rfl, q⟩
    | plain =>
      refine ⟨_, rfl, rfl, _, rfl, iteFc (by decide +kernel) ?_⟩
      refine ⟨_, rfl, rfl, _, rfl, iteFc (by decide +kernel) ?_⟩
      refine ⟨_, rfl, rfl, _, rfl, iteFc (by decide +kernel) ?_⟩
      refine ⟨.int g, rfl, by show (1 : Nat) ≤ sizeLine; omega, fun l nl => ?_⟩
      have s1 := (Kp.new (ps := []) (o := HO.lst [.int g]) nl).same
      refine ⟨.int s0, rfl, by show (2 : Nat) ≤ sizeLine; omega, fun z nz => ?_⟩
      have lz : l ≠ z := ne_of_none (upd_same : upd H l (.lst [.int g]) l = some (.lst [.int g])) nz
      exact q _ z l (s1.free nz) nl lz.symm upd_same (by rw [upd_ne lz]; exact upd_same) (s1.trans (Kp.new (ps := []) nz).same)

theorem ok_wsigns (T : Tx K mg) : FnOk P w K mg base (L2.CX P w) 5 T.f_wsigns T.fd_wsigns P_wsigns (spWriteX K T.C_NoCode T.C_NoSign) := by
  have G_chk := ok_chk (P := P) (w := w) (base := base) T
  have G_lasts := ok_lasts (P := P) (w := w) (base := base) T
  have G_whole := ok_whole (P := P) (w := w) (base := base) T
  have G_swr := ok_swr (P := P) (w := w) (base := base) T
  have G_iNoSign := ok_iNoSign (P := P) (w := w) (base := base) T
  have sz : sizeLine = 16777216 := sizeLine_eq
  refine T.D_wsigns.F.okX sc_wsigns (fun vs H Q E h => ?_) (fun cdv A outer s H vs Q E hr h => ?_)
  · obtain ⟨a, gs, s0, z, rfl, _⟩ := h
    rfl
  · obtain ⟨a, gs, s0, z, rfl, hA, lg, q, qe⟩ := h
    refine ⟨_, (pss_cons (ps_expr (pe_call G_chk (hr.mono (by decide)) (by rfl) T.D_chk.g T.D_chk.F.kp T.bb_chk .nil (Sip.passX (takes_of rfl rfl rfl rfl)) (pa_cons (pv 2) pa_nil)))
      (pss_cons (ps_set (i := 3) sc_wsigns.nd rfl (.inl rfl) (pe_call G_lasts (hr.mono (by decide)) (by rfl) T.D_lasts.g T.D_lasts.F.kp T.bb_lasts .nil pass0 (pa_cons (pv 2) pa_nil)))
      (pss_cons (ps_set (i := 4) sc_wsigns.nd rfl (.inl rfl) (pe_lst pa_nil))
      (pss_cons (ps_for (passes_of rfl) rfl (pi_list (pv 0)) (pg_name (i := 5) sc_wsigns.nd rfl (.inl rfl)) (pss_cons (ps_if (PW.pt (pw_or (pt_not (pt_val (pe_call G_whole (hr.mono (by decide)) (by rfl) T.D_whole.g T.D_whole.F.kp T.bb_whole .nil pass0 (pa_cons (pv 5) pa_nil)))) (pw_or1 (pt_not (pt_chain op_le op_le pe_int (pv 5) (pv 3)))))) (pss_one (ps_raise rfl (takes_of rfl rfl rfl rfl) (pmk_oex T.o_NoSign T.ini_NoSign T.tI_NoSign G_iNoSign (hr.mono (by decide)) T.bb_iNoSign .nil pass0 (by rfl) T.g_NoSign (pa_cons (pv 5) pa_nil)))) pss_nil)
      (pss_cons (ps_asg (pe_call G_swr (hr.mono (by decide)) (by rfl) T.D_swr.g T.D_swr.F.kp T.bb_swr .nil pass0 (pa_cons (pv 5) (pa_cons (pv 1) (pa_cons (pv 2) pa_nil)))) (pg_tup rfl (pgs_cons (pg_name (i := 6) sc_wsigns.nd rfl (.inl rfl)) (pgs_cons (pg_name (i := 1) sc_wsigns.nd rfl (.inl rfl)) pgs_nil))))
      (pss_one (ps_expr (pe_bm PySem.F.plainAttrs_list PySem.F.slot_list_extend PySem.F.type_list_extend mt_extend (pv 4) (pa_cons (pv 6) pa_nil)))))))
      (pss_one (ps_ret (pe_tup (pa_cons (pv 4) (pa_cons (pv 1) pa_nil))))))))), ?_⟩
    refine ⟨_, rfl, z, rfl, fun c ez H1 s1 => ?_, qe⟩
    subst ez
    obtain ⟨vs0, q, qs⟩ := q c rfl
    refine ⟨_, rfl, c, rfl, ?_⟩
    refine ⟨Nat.zero_le _, fun w nw => ?_⟩
    have s2 := s1.trans (Kp.new (ps := []) (o := HO.lst []) nw).same
    refine ⟨.ref a, rfl, a, rfl, ⟨_, s2.seq hA⟩, ?_⟩
    refine for_list (xs := gs.map V.int) (fun i σ H' => ∃ (y z : Option V), σ = [some (.ref a), some (.int (writeF c (gs.take i) s0).2), some (.str c.w), some (.int (sizeF c - 1)), some (.ref w), y, z] ∧ H' w = some (.lst ((writeF c (gs.take i) s0).1.map V.int)) ∧ (writeF c (gs.take i) s0).1.length ≤ 4 * i ∧ Same H H' ∧ ∀ x ∈ gs.take i, 0 ≤ x ∧ x < sizeF c) ⟨none, none, rfl, upd_same, Nat.le_refl _, s2, (fun x hx => nomatch hx)⟩ (fun i σ H' _ hW => ?_) (fun i x σ H' hx hW => ?_) (fun σ H' hW => ?_)
    · obtain ⟨_, _, _, _, _, s, _⟩ := hW
      exact s.seq hA
    · obtain ⟨y, z, rfl, ew, lw, sm, gd⟩ := hW
      rw [List.getElem?_map] at hx
      obtain ⟨g, hgx, rfl⟩ := Option.map_eq_some_iff.mp hx
      have hi : i < gs.length := (List.getElem?_eq_some_iff.mp hgx).1
      by_cases hg01 : 0 ≤ g ∧ g < sizeF c
      rotate_left
      · have eq := qs i g hgx hg01 gd
        refine ⟨.int g, rfl, g, rfl, _, rfl, iteF ?_⟩
        refine ⟨.int g, rfl, _, _, rfl, rfl, _, rfl, ?_⟩
        by_cases h0 : 0 ≤ g
        · rw [if_pos (decide_eq_true h0)]
          refine ⟨.int (sizeF c - 1), rfl, _, _, rfl, rfl, _, rfl, ?_⟩
          rw [show decide (g ≤ sizeF c - 1) = false from decide_eq_false (by omega)]
          exact iteT ⟨.int g, rfl, mk1_fin (eq.mono sm).raise⟩
        · rw [if_neg (by simpa using h0)]
          exact ⟨_, rfl, iteT ⟨.int g, rfl, mk1_fin (eq.mono sm).raise⟩⟩
      obtain ⟨g0, g1⟩ := hg01
      have gd' : ∀ x ∈ gs.take (i + 1), 0 ≤ x ∧ x < sizeF c := fun x hx => by
        rw [List.take_add_one, hgx] at hx
        rcases List.mem_append.mp hx with hx | hx
        · exact gd x hx
        · have e : x = g := by simpa using hx
          rw [e]; exact ⟨g0, g1⟩
      have vs1 : VS c (writeF c (gs.take i) s0).2 := writeF_vs vs0
      have et : gs.take (i + 1) = gs.take i ++ [g] := by rw [List.take_add_one, hgx]; rfl
      have lw' := (signW_len (c := c) (s := (writeF c (gs.take i) s0).2) g0 g1).2
      rw [et, writeF_snoc]
      dsimp only
      generalize writeF c (gs.take i) s0 = RS at *
      obtain ⟨R, st⟩ := RS
      dsimp only at lw lw' vs1 ew ⊢
      refine ⟨.int g, rfl, g, rfl, _, rfl, iteF ?_⟩
      refine ⟨.int g, rfl, _, _, rfl, rfl, _, rfl, ?_⟩
      rw [if_pos (decide_eq_true g0)]
      refine ⟨.int (sizeF c - 1), rfl, _, _, rfl, rfl, _, rfl, ?_⟩
      rw [show decide (g ≤ sizeF c - 1) = true from decide_eq_true (by omega)]
      refine iteF ⟨.int g, rfl, .int st, rfl, .str c.w, rfl, g, st, c, rfl, vs1, fun H2 tq u ntq nu qu etq eu s3 => ?_⟩
      generalize signW c g st = W at *
      obtain ⟨WR, st'⟩ := W
      dsimp only at etq eu lw' ⊢
      refine ⟨tq, _, rfl, .inl (.inl etq), rfl, _, _, rfl, _, _, rfl, rfl, ?_⟩
      refine ⟨.ref w, rfl, .inl ⟨rfl, _, sq_at (s3 _ _ ew)⟩, .ref u, rfl, w, u, _, _, rfl, rfl, s3 _ _ ew, eu, by rw [List.length_map, List.length_map]; omega, ?_⟩
      exact ⟨_, _, rfl, by rw [upd_same, List.map_append], by rw [List.length_append]; omega, put_same (sm.trans s3) (s1.free nw), et ▸ gd'⟩
    · obtain ⟨y, z, rfl, ew, lw, sm, gd⟩ := hW
      rw [List.length_map, List.take_of_length_le (Nat.le_refl _)] at *
      have q := q gd
      refine ⟨.ref w, rfl, .int _, rfl, by show (2 : Nat) ≤ sizeLine; omega, fun z nz => ?_⟩
      have wz : w ≠ z := ne_of_none ew nz
      exact q _ z w (sm.free nz) (s1.free nw) wz.symm upd_same (by rw [upd_ne wz]; exact ew) (sm.trans (Kp.new (ps := []) nz).same)

theorem ok_lsteps (T : Tx K mg) : FnOk P w K mg base CX0 1 T.f_lsteps T.fd_lsteps P_lsteps (spStepsL) := by
  have sz : sizeLine = 16777216 := sizeLine_eq
  refine T.D_lsteps.F.ok sc_lsteps (fun vs H Q E h => ?_) (fun cdv A outer s H vs Q E hr h => ?_)
  · obtain ⟨n, rfl, _⟩ := h
    rfl
  · obtain ⟨n, rfl, n0, n1, q⟩ := h
    refine ⟨_, (pss_cons (ps_if (pt_cmpR op_lt (pv 0) pe_int (nomark _)) (pss_one (ps_ret (pe_lst (pa_cons (pv 0) pa_nil)))) pss_nil)
      (pss_cons (ps_set (i := 1) sc_lsteps.nd rfl (.inl rfl) (pe_op op_add (pe_op op_add pe_int (pe_callTy call_int1 (by rfl) T.m_int (by decide +kernel) (pa_cons (pe_cmpR op_gt (pv 0) pe_int (nomark _)) pa_nil))) (pe_callTy call_int1 (by rfl) T.m_int (by decide +kernel) (pa_cons (pe_cmpR op_gt (pv 0) pe_int (nomark _)) pa_nil))))
      (pss_cons (ps_set (i := 2) sc_lsteps.nd rfl (.inl rfl) (pe_lst pa_nil))
      (pss_cons (ps_for PassesOwn.never rfl (pi_range1 (by rfl) T.m_range (pa_cons (pv 1) pa_nil)) (pg_name (i := 3) sc_lsteps.nd rfl (.inl rfl)) (pss_cons (ps_set (i := 2) sc_lsteps.nd rfl (.inl rfl) (pe_op op_cat (pe_lst (pa_cons (pe_op op_add pe_int (pe_op op_mod (pv 0) pe_int)) pa_nil)) (pv 2)))
      (pss_one (ps_set (i := 0) sc_lsteps.nd rfl (.inl rfl) (pe_op op_fdiv (pv 0) pe_int)))))
      (pss_one (ps_ret (pe_op op_cat (pe_lst (pa_cons (pe_op op_add (pe_ix ix_list (pe_lst (pa_cons pe_int (pa_cons pe_int (pa_cons pe_int pa_nil)))) (pe_op op_sub (pv 1) pe_int) (fun _ _ => rfl)) (pv 0)) pa_nil)) (pv 2)))))))), ?_⟩
    refine ⟨.int n, rfl, _, _, rfl, rfl, _, rfl, ite2 (fun e => ?_) (fun e => ?_)⟩
    · have e1 : n < 128 := of_decide_eq_true e
      refine ⟨.int n, rfl, by show (1 : Nat) ≤ sizeLine; omega, fun z nz => q _ z nz ?_ (Kp.new (ps := []) nz).same⟩
      rw [upd_same]; unfold stepsW; rw [if_pos e1]; rfl
    have n128 : 128 ≤ n := by
      have : ¬ (n < 128) := fun z => e (decide_eq_true z)
      omega
    rw [stepsW_rest n128] at q
    obtain ⟨m1, m3⟩ := manyF_b n
    refine ⟨.int n, rfl, _, _, rfl, rfl, .inr ⟨_, rfl, _, _, rfl, rfl, .int n, rfl, _, _, rfl, rfl, .inr ⟨_, rfl, _, _, rfl, rfl, ?_⟩⟩⟩
    rw [show (fun i j : Int => V.int (i + j)) ((1 : Int) + (if decide (n > 2047) = true then 1 else 0)) (if decide (n > 65535) = true then 1 else 0) = V.int (manyF n : Nat) from congrArg V.int (many_val n)]
    generalize manyF n = m at *
    refine ⟨Nat.zero_le _, fun a na => ?_⟩
    refine ⟨.int m, rfl, m, rfl, by omega, by omega, ?_⟩
    rw [Int.toNat_natCast]
    refine for_range (lo := 0) (n := m) (fun i σ H' => ∃ (r : Addr) (y : Option V), σ = [some (.int (n / 64 ^ i)), some (.int m), some (.ref r), y] ∧ H r = none ∧ H' r = some (.lst ((restF n i).map V.int)) ∧ Same H H') ⟨a, none, ?_, na, upd_same, (Kp.new (ps := []) na).same⟩ (fun i σ H' hi hW => ?_) (fun σ H' hW => ?_)
    · show _ = [some (V.int (n / 1)), _, _, _]
      rw [Int.ediv_one]; rfl
    · obtain ⟨r, y, rfl, nr, er, s1⟩ := hW
      refine ⟨.int (n / 64 ^ i), rfl, _, _, rfl, rfl, (show (0 : Int) < 64 by decide), _, _, rfl, rfl, by show (1 : Nat) ≤ sizeLine; omega, fun l nl => ?_⟩
      have s2 := (Kp.new (ps := []) (o := HO.lst [.int (128 + n / 64 ^ i % 64)]) nl).same
      refine ⟨.ref r, rfl, l, r, _, _, rfl, rfl, upd_same, s2 _ _ er, ?_, fun z nz => ?_⟩
      · rw [List.length_map, restF_len]; show 1 + i ≤ _; omega
      · refine ⟨.int (n / 64 ^ i), rfl, _, _, rfl, rfl, ⟨by decide, by decide⟩, ?_⟩
        have s12 := s1.trans s2
        refine ⟨z, some (.int (0 + (i : Int))), ?_, s12.free nz, by rw [upd_same]; rfl, s12.trans (Kp.new (ps := []) nz).same⟩
        rw [← div_next]; rfl
    · obtain ⟨r, y, rfl, nr, er, s1⟩ := hW
      refine ⟨by show (3 : Nat) ≤ sizeLine; omega, fun l nl => ?_⟩
      have s2 := (Kp.new (ps := []) (o := HO.lst [.int 192, .int 224, .int 240]) nl).same
      refine ⟨.int m, rfl, _, _, rfl, rfl, l, _, _, .int (baseF m), rfl, rfl, .inl (.inl upd_same), base_at m1 m3, .int (n / 64 ^ m), rfl, _, _, rfl, rfl, by show (1 : Nat) ≤ sizeLine; omega, fun l2 nl2 => ?_⟩
      have s3 := (Kp.new (ps := []) (o := HO.lst [.int (baseF m + n / 64 ^ m)]) nl2).same
      refine ⟨.ref r, rfl, l2, r, _, _, rfl, rfl, upd_same, s3 _ _ (s2 _ _ er), ?_, fun z nz => ?_⟩
      · rw [List.length_map, restF_len]; show 1 + m ≤ _; omega
      · have s13 := (s1.trans s2).trans s3
        exact q _ z (s13.free nz) (by rw [upd_same]; rfl) (s13.trans (Kp.new (ps := []) nz).same)

theorem ok_lsign (T : Tx K mg) : FnOk P w K mg base CX0 2 T.f_lsign T.fd_lsign P_lsign (spSignL) := by
  have G_take := ok_take (P := P) (w := w) (base := base) T
  have sz : sizeLine = 16777216 := sizeLine_eq
  refine T.D_lsign.F.ok sc_lsign (fun vs H Q E h => ?_) (fun cdv A outer s H vs Q E hr h => ?_)
  · obtain ⟨p, n, o, c, rfl, _⟩ := h
    rfl
  · obtain ⟨p, n, o, c, rfl, hp, hP, n9, q⟩ := h
    refine ⟨_, (pss_cons (ps_set (i := 2) sc_lsign.nd rfl (.inl rfl) (pe_dget (hu_of hr) (pe_disp (pps_cons pe_str pe_int (pps_cons pe_str pe_int (pps_cons pe_str pe_int (pps_cons pe_str pe_int pps_nil)))) (by rfl) (by rfl) (fun z => by cases z) (by decide)) (pv 1) (fun _ _ => rfl)))
      (pss_cons (ps_set (i := 3) sc_lsign.nd rfl (.inl rfl) (pe_lst (pa_cons pe_int (pa_cons pe_int (pa_cons pe_int (pa_cons pe_int (pa_cons pe_int (pa_cons pe_int (pa_cons pe_int (pa_cons pe_int (pa_cons pe_int (pa_cons pe_int (pa_cons pe_int (pa_cons pe_int (pa_cons pe_int pa_nil)))))))))))))))
      (pss_cons (ps_set (i := 4) sc_lsign.nd rfl (.inl rfl) (pe_call G_take (hr.mono (by decide)) (by rfl) T.D_take.g T.D_take.F.kp T.bb_take .nil pass0 (pa_cons (pv 0) (pa_cons pe_int pa_nil))))
      (pss_cons (ps_if (pt_cmpR op_lt (pv 4) pe_int (nomark _)) (pss_one (ps_ret (pe_ix ix_list (pe_lst (pa_cons pe_int (pa_cons pe_int (pa_cons (pe_op op_mod (pe_ix ix_list (pv 3) (pe_call G_take (hr.mono (by decide)) (by rfl) T.D_take.g T.D_take.F.kp T.bb_take .nil pass0 (pa_cons (pv 0) (pa_cons pe_int pa_nil))) (fun _ _ => rfl)) (pv 2)) pa_nil)))) (pv 4) (fun _ _ => rfl)))) pss_nil)
      (pss_one (ps_ret (pe_call G_take (hr.mono (by decide)) (by rfl) T.D_take.g T.D_take.F.kp T.bb_take .nil pass0 (pa_cons (pv 0) (pa_cons (pe_ix ix_list (pe_lst (pa_cons pe_int (pa_cons (pv 2) pa_nil))) (pe_callTy call_int1 (by rfl) T.m_int (by decide +kernel) (pa_cons (pe_cmpR op_gt (pv 4) pe_int (nomark _)) pa_nil)) (fun _ _ => rfl)) pa_nil))))))))), ?_⟩
    obtain ⟨z256, zmax⟩ := sizeF_b c
    intro d nd
    have s1 := (Kp.new (ps := []) (o := HO.dK []) nd).same
    refine ⟨upd_same, sizesK, rfl, by decide, ?_⟩
    rw [L2.upd_upd]
    have s1 := (Kp.new (ps := []) (o := HO.dK (mergeK [] sizesK)) nd).same
    refine ⟨.str c.w, rfl, d, .int (sizeF c), rfl, ?_, ?_⟩
    · rw [← sizes_at c]
      exact DGet.k (k := Sum.inr c.w) upd_same
    generalize upd H d (.dK (mergeK [] sizesK)) = H1 at s1 ⊢
    refine ⟨by show (13 : Nat) ≤ sizeLine; omega, fun e ne => ?_⟩
    have s2 := (Kp.new (ps := []) (o := HO.lst [V.int 0, V.int 127, V.int 128, V.int 255, V.int 2047, V.int 2048, V.int 65535, V.int 65536, V.int 2097151, V.int 65279, V.int 65534, V.int 65533, V.int 16383]) ne).same
    have ee : (upd H1 e (.lst [V.int 0, V.int 127, V.int 128, V.int 255, V.int 2047, V.int 2048, V.int 65535, V.int 65536, V.int 2097151, V.int 65279, V.int 65534, V.int 65533, V.int 16383])) e = some (.lst ([0, 127, 128, 255, 2047, 2048, 65535, 65536, 2097151, 65279, 65534, 65533, 16383].map V.int)) := upd_same
    have pe : p ≠ e := ne_of_none (s1 _ _ hp) ne
    have s12 := s1.trans s2
    revert ee s12
    generalize upd H1 e (.lst [V.int 0, V.int 127, V.int 128, V.int 255, V.int 2047, V.int 2048, V.int 65535, V.int 65536, V.int 2097151, V.int 65279, V.int 65534, V.int 65533, V.int 16383]) = H2
    intro ee s12
    refine ⟨.ref p, rfl, p, n, 6, o, rfl, s12 _ _ hp, hP, by omega, by decide, by decide, fun w o1 w0 w1 hP1 => ?_⟩
    have k1 : Kp [p] H (upd H2 p o1) := (Kp.of s12).trans (Kp.at (by simp))
    refine ⟨.int w, rfl, _, _, rfl, rfl, _, rfl, ite2 (fun h => ?_) (fun h => ?_)⟩
    · have w3 : w < 3 := of_decide_eq_true h
      refine ⟨.ref e, rfl, .ref p, rfl, p, _, 13, o1, rfl, upd_same, hP1, by omega, by decide, by decide, fun r o2 r0 r1 hP2 => ?_⟩
      obtain ⟨z, zm, ez, _⟩ := atI_int (ms := [0, 127, 128, 255, 2047, 2048, 65535, 65536, 2097151, 65279, 65534, 65533, 16383]) (i := r) r0 r1
      have z0 := edges_nn z zm
      rw [upd_upd]
      have k2 : Kp [p] H (upd H2 p o2) := (Kp.of s12).trans (Kp.at (by simp))
      refine ⟨e, _, r, .int z, rfl, rfl, sq_at (by rw [upd_ne pe.symm]; exact ee), ez, .int (sizeF c), rfl, _, _, rfl, rfl, (show (0 : Int) < sizeF c by omega), by show (3 : Nat) ≤ sizeLine; omega, fun l nl => ?_⟩
      obtain ⟨g, gm, eg, _⟩ := atI_int (ms := [10, 13, z % sizeF c]) (i := w) w0 (by show w < 3; exact w3)
      have gb : 0 ≤ g ∧ g < sizeF c := by
        have a1 := Int.emod_nonneg z (show sizeF c ≠ 0 by omega)
        have a2 := Int.emod_lt_of_pos z (show 0 < sizeF c by omega)
        simp only [List.mem_cons, List.mem_nil_iff, or_false] at gm
        rcases gm with rfl | rfl | rfl <;> omega
      have pl : p ≠ l := ne_of_none (upd_same : (upd H2 p o2) p = some o2) nl
      exact ⟨.int w, rfl, l, _, _, .int g, rfl, rfl, .inl (.inl (by rw [upd_same]; rfl)), eg, q _ g o2 gb.1 gb.2 (by rw [upd_ne pl]; exact upd_same) (hP2.up (by omega)) (k2.trans (Kp.new nl))⟩
    · refine ⟨.ref p, rfl, .int (sizeF c), rfl, by show (2 : Nat) ≤ sizeLine; omega, fun l nl => ?_⟩
      have pl : p ≠ l := ne_of_none (upd_same : (upd H2 p o1) p = some o1) nl
      have ez : ∃ z : Int, 0 < z ∧ z ≤ sizeF c ∧ atI [V.int 140, .int (sizeF c)] (if decide (w > 3) = true then 1 else 0) = some (.int z) := by
        by_cases g : w > 3
        · rw [if_pos (decide_eq_true g)]; exact ⟨sizeF c, by omega, by omega, rfl⟩
        · rw [if_neg (by simpa using g)]; exact ⟨140, by omega, by omega, rfl⟩
      obtain ⟨z, z0, z1, ez⟩ := ez
      refine ⟨.int w, rfl, _, _, rfl, rfl, .inr ⟨_, rfl, l, _, _, .int z, rfl, rfl, .inl (.inl upd_same), ez, p, _, z, o1, rfl, by rw [upd_ne pl]; exact upd_same, hP1, by omega, z0, by omega, fun g o2 g0 g1 hP2 => ?_⟩⟩
      exact q _ g o2 g0 (by omega) upd_same (hP2.up (by omega)) ((k1.trans (Kp.new nl)).trans (Kp.at (by simp)))

theorem ok_lcodes (T : Tx K mg) : FnOk P w K mg base CX0 1 T.f_lcodes T.fd_lcodes P_lcodes (spCodes) := by
  have sz : sizeLine = 16777216 := sizeLine_eq
  refine T.D_lcodes.F.ok sc_lcodes (fun vs H Q E h => ?_) (fun cdv A outer s H vs Q E hr h => ?_)
  · obtain ⟨u, rfl, _⟩ := h
    rfl
  · obtain ⟨u, rfl, q⟩ := h
    refine ⟨_, (pss_one (ps_ret (pe_lst (pa_cons pe_str (pa_cons pe_str (pa_cons pe_str (pa_cons pe_str pa_nil))))))), ?_⟩
    exact ⟨by show (4 : Nat) ≤ sizeLine; omega, fun z nz => q z nz⟩

theorem ok_lstate (T : Tx K mg) : FnOk P w K mg base CX0 2 T.f_lstate T.fd_lstate P_lstate (spState) := by
  have G_take := ok_take (P := P) (w := w) (base := base) T
  have sz : sizeLine = 16777216 := sizeLine_eq
  refine T.D_lstate.F.ok sc_lstate (fun vs H Q E h => ?_) (fun cdv A outer s H vs Q E hr h => ?_)
  · obtain ⟨p, n, o, c, rfl, _⟩ := h
    rfl
  · obtain ⟨p, n, o, c, rfl, hp, hP, n9, q⟩ := h
    refine ⟨_, (pss_cons (ps_if (pt_cmpR op_eq (pv 1) pe_str (nomark _)) (pss_one (ps_ret (pe_call G_take (hr.mono (by decide)) (by rfl) T.D_take.g T.D_take.F.kp T.bb_take .nil pass0 (pa_cons (pv 0) (pa_cons pe_int pa_nil))))) pss_nil)
      (pss_cons (ps_if (pt_cmpR op_eq (pv 1) pe_str (nomark _)) (pss_one (ps_ret (pe_ix ix_list (pe_lst (pa_cons pe_int (pa_cons (pe_call G_take (hr.mono (by decide)) (by rfl) T.D_take.g T.D_take.F.kp T.bb_take .nil pass0 (pa_cons (pv 0) (pa_cons pe_int pa_nil))) pa_nil))) (pe_call G_take (hr.mono (by decide)) (by rfl) T.D_take.g T.D_take.F.kp T.bb_take .nil pass0 (pa_cons (pv 0) (pa_cons pe_int pa_nil))) (fun _ _ => rfl)))) pss_nil)
      (pss_one (ps_ret pe_int)))), ?_⟩
    have zero : VS c 0 := by cases c <;> first | trivial | exact ⟨by decide, by decide⟩
    cases c with
    | wide =>
      refine ⟨_, rfl, rfl, _, rfl, iteTc (by decide +kernel) ?_⟩
      refine ⟨.ref p, rfl, p, n, 3, o, rfl, hp, hP, by omega, by decide, by decide, fun w o1 w0 w1 hP1 => ?_⟩
      exact q _ w o1 ⟨w0, by omega⟩ w0 (by omega) upd_same (hP1.up (by omega)) (Kp.at (by simp))
    | turn =>
      refine ⟨_, rfl, rfl, _, rfl, iteFc (by decide +kernel) ?_⟩
      refine ⟨_, rfl, rfl, _, rfl, iteTc (by decide +kernel) ?_⟩
      refine ⟨.ref p, rfl, p, n, 128, o, rfl, hp, hP, by omega, by decide, by decide, fun w o1 w0 w1 hP1 => ?_⟩
      refine ⟨by show (2 : Nat) ≤ sizeLine; omega, fun l nl => ?_⟩
      have pl : p ≠ l := ne_of_none (upd_same : (upd H p o1) p = some o1) nl
      refine ⟨.ref p, rfl, p, _, 2, o1, rfl, by rw [upd_ne pl]; exact upd_same, hP1, by omega, by decide, by decide, fun r o2 r0 r1 hP2 => ?_⟩
      obtain ⟨m, mm, em, _⟩ := atI_int (ms := [0, w]) (i := r) r0 r1
      have mb : 0 ≤ m ∧ m < 128 := by
        simp only [List.mem_cons, List.mem_nil_iff, or_false] at mm
        rcases mm with rfl | rfl <;> omega
      exact ⟨l, _, r, .int m, rfl, rfl, .inl (.inl (by rw [upd_ne pl.symm, upd_same]; rfl)), em, q _ m o2 trivial mb.1 mb.2 upd_same (hP2.up (by omega)) (((Kp.at (by simp)).trans (Kp.new nl)).trans (Kp.at (by simp)))⟩
    | plain =>
      refine ⟨_, rfl, rfl, _, rfl, iteFc (by decide +kernel) ?_⟩
      refine ⟨_, rfl, rfl, _, rfl, iteFc (by decide +kernel) ?_⟩
      exact q _ 0 o trivial (by omega) (by omega) hp (hP.up (by omega)) (Kp.refl _ _)
    | steps =>
      refine ⟨_, rfl, rfl, _, rfl, iteFc (by decide +kernel) ?_⟩
      refine ⟨_, rfl, rfl, _, rfl, iteFc (by decide +kernel) ?_⟩
      exact q _ 0 o trivial (by omega) (by omega) hp (hP.up (by omega)) (Kp.refl _ _)

theorem ok_lbytes (T : Tx K mg) : FnOk P w K mg base CX0 2 T.f_lbytes T.fd_lbytes P_lbytes (spWriteL K) := by
  have G_lsteps := ok_lsteps (P := P) (w := w) (base := base) T
  have sz : sizeLine = 16777216 := sizeLine_eq
  refine T.D_lbytes.F.ok sc_lbytes (fun vs H Q E h => ?_) (fun cdv A outer s H vs Q E hr h => ?_)
  · obtain ⟨a, gs, s0, c, rfl, _⟩ := h
    rfl
  · obtain ⟨a, gs, s0, c, rfl, hA, lg, vs0, hg, q⟩ := h
    refine ⟨_, (pss_cons (ps_set (i := 3) sc_lbytes.nd rfl (.inl rfl) (pe_lst pa_nil))
      (pss_cons (ps_for PassesOwn.never rfl (pi_list (pv 0)) (pg_name (i := 4) sc_lbytes.nd rfl (.inl rfl)) (pss_one (ps_if (pt_cmpR op_eq (pv 2) pe_str (nomark _)) (pss_one (ps_expr (pe_bm PySem.F.plainAttrs_list PySem.F.slot_list_append PySem.F.type_list_append mt_append (pv 3) (pa_cons (pv 4) pa_nil)))) (pss_one (ps_if (pt_cmpR op_eq (pv 2) pe_str (nomark _)) (pss_one (ps_set (i := 3) sc_lbytes.nd rfl (.inl rfl) (pe_op op_cat (pv 3) (pe_call G_lsteps (hr.mono (by decide)) (by rfl) T.D_lsteps.g T.D_lsteps.F.kp T.bb_lsteps .nil pass0 (pa_cons (pv 4) pa_nil))))) (pss_one (ps_if (pt_cmpR op_eq (pv 2) pe_str (nomark _)) (C8.pss_cut (ps_if (pt_cmpR op_eq (pv 1) pe_int (nomark _)) (pss_cons (ps_set (i := 3) sc_lbytes.nd rfl (.inl rfl) (pe_op op_cat (pv 3) (pe_lst (pa_cons pe_int (pa_cons pe_int pa_nil)))))
      (pss_one (ps_set (i := 1) sc_lbytes.nd rfl (.inl rfl) pe_int))) pss_nil)
      (pss_one (ps_set (i := 3) sc_lbytes.nd rfl (.inl rfl) (pe_op op_cat (pv 3) (pe_ix ix_list (pe_lst (pa_cons (pe_lst (pa_cons (pe_op op_mod (pv 4) pe_int) (pa_cons (pe_op op_fdiv (pv 4) pe_int) pa_nil))) (pa_cons (pe_lst (pa_cons (pe_op op_fdiv (pv 4) pe_int) (pa_cons (pe_op op_mod (pv 4) pe_int) pa_nil))) pa_nil))) (pe_op op_sub (pv 1) pe_int) (fun _ _ => rfl)))))) (C8.pss_cut (ps_if (pt_cmpR op_ne (pe_op op_fdiv (pv 4) pe_int) (pv 1) (nomark _)) (pss_one (ps_expr (pe_bm PySem.F.plainAttrs_list PySem.F.slot_list_append PySem.F.type_list_append mt_append (pv 3) (pa_cons (pe_op op_add pe_int (pe_op op_fdiv (pv 4) pe_int)) pa_nil)))) pss_nil)
      (pss_cons (ps_set (i := 1) sc_lbytes.nd rfl (.inl rfl) (pe_op op_fdiv (pv 4) pe_int))
      (pss_one (ps_expr (pe_bm PySem.F.plainAttrs_list PySem.F.slot_list_append PySem.F.type_list_append mt_append (pv 3) (pa_cons (pe_op op_mod (pv 4) pe_int) pa_nil)))))))))))))
      (pss_one (ps_ret (pe_tup (pa_cons (pv 3) (pa_cons (pv 1) pa_nil))))))), ?_⟩
    refine ⟨Nat.zero_le _, fun w nw => ?_⟩
    have s1 := (Kp.new (ps := []) (o := HO.lst []) nw).same
    refine ⟨.ref a, rfl, a, rfl, ⟨_, s1.seq hA⟩, ?_⟩
    refine for_list (xs := gs.map V.int) (fun i σ H' => ∃ (w : Addr) (y : Option V), σ = [some (.ref a), some (.int (writeF c (gs.take i) s0).2), some (.str c.w), some (.ref w), y] ∧ H w = none ∧ H' w = some (.lst ((writeF c (gs.take i) s0).1.map V.int)) ∧ (writeF c (gs.take i) s0).1.length ≤ 4 * i ∧ Same H H') ⟨w, none, rfl, nw, upd_same, Nat.le_refl _, s1⟩ (fun i σ H' _ hW => ?_) (fun i x σ H' hx hW => ?_) (fun σ H' hW => ?_)
    · obtain ⟨_, _, _, _, _, _, s⟩ := hW
      exact s.seq hA
    · obtain ⟨w, y, rfl, nw, ew, lw, s1⟩ := hW
      rw [List.getElem?_map] at hx
      obtain ⟨g, hgx, rfl⟩ := Option.map_eq_some_iff.mp hx
      have hi : i < gs.length := (List.getElem?_eq_some_iff.mp hgx).1
      obtain ⟨g0, g1⟩ := hg g (List.mem_of_getElem? hgx)
      have vs1 : VS c (writeF c (gs.take i) s0).2 := writeF_vs vs0
      have et : gs.take (i + 1) = gs.take i ++ [g] := by rw [List.take_add_one, hgx]; rfl
      have lw' := (signW_len (c := c) (s := (writeF c (gs.take i) s0).2) g0 g1).2
      rw [et, writeF_snoc]
      dsimp only
      generalize writeF c (gs.take i) s0 = RS at *
      obtain ⟨R, st⟩ := RS
      dsimp only at lw lw' vs1 ew ⊢
      have fit : (R.map V.int).length + 10 < sizeLine := by rw [List.length_map]; omega
      -- how a turn ends
      have fin : ∀ (H2 : Hp) (z : Addr) (ys : List Int) (st' : Int) (y' : Option V), signW c g st = (ys, st') → H z = none → H2 z = some (.lst ((R ++ ys).map V.int)) → Same H H2 → ∃ (w : Addr) (y : Option V), [some (V.ref a), some (.int st'), some (.str c.w), some (.ref z), y'] = [some (V.ref a), some (.int (signW c g st).2), some (.str c.w), some (.ref w), y] ∧ H w = none ∧ H2 w = some (.lst ((R ++ (signW c g st).1).map V.int)) ∧ (R ++ (signW c g st).1).length ≤ 4 * (i + 1) ∧ Same H H2 := by
        intro H2 z ys st' y' e nz ez s
        rw [e] at lw' ⊢
        exact ⟨z, y', rfl, nz, ez, by rw [List.length_append]; dsimp only at lw' ⊢; omega, s⟩
      cases c with
      | plain =>
        refine ⟨_, rfl, rfl, _, rfl, iteTc (by decide +kernel) ?_⟩
        refine ⟨.ref w, rfl, .inl ⟨rfl, _, sq_at ew⟩, .int g, rfl, w, _, _, rfl, rfl, ew, by omega, ?_⟩
        exact fin _ w [g] st _ rfl nw (by rw [upd_same, List.map_append]; rfl) (put_same s1 nw)
      | steps =>
        refine ⟨_, rfl, rfl, _, rfl, iteFc (by decide +kernel) ?_⟩
        refine ⟨_, rfl, rfl, _, rfl, iteTc (by decide +kernel) ?_⟩
        refine ⟨.ref w, rfl, .int g, rfl, g, rfl, g0, g1, fun H2 u nu eu s2 => ?_⟩
        have lu : (stepsW g).length ≤ 4 := lw'
        refine ⟨w, u, _, _, rfl, rfl, s2 _ _ ew, eu, by rw [List.length_map (as := stepsW g)]; omega, fun z nz => ?_⟩
        have s12 := s1.trans s2
        exact fin _ z (stepsW g) st _ rfl (s12.free nz) (by rw [upd_same, List.map_append]) (s12.trans (Kp.new (ps := []) nz).same)
      | wide =>
        refine ⟨_, rfl, rfl, _, rfl, iteFc (by decide +kernel) ?_⟩
        refine ⟨_, rfl, rfl, _, rfl, iteFc (by decide +kernel) ?_⟩
        refine ⟨_, rfl, rfl, _, rfl, iteTc (by decide +kernel) ?_⟩
        obtain ⟨v0, v2⟩ := (show 0 ≤ st ∧ st ≤ 2 from vs1)
        refine ⟨fun σ' H2 => ∃ (w' : Addr) (pre : List Int) (t : Int), σ' = [some (V.ref a), some (.int t), some (.str Cd.wide.w), some (.ref w'), some (.int g)] ∧ H w' = none ∧ H2 w' = some (.lst ((R ++ pre).map V.int)) ∧ pre.length ≤ 2 ∧ (t = 1 ∨ t = 2) ∧ signW .wide g st = (pre ++ (if t = 1 then [g % 256, g / 256] else [g / 256, g % 256]), t) ∧ Same H H2, ?_, fun σ' H2 hm => ?_⟩
        · refine ⟨.int st, rfl, rfl, _, rfl, ite2 (fun e => ?_) (fun e => ?_)⟩
          · have e0 : st = 0 := V.int.inj (of_decide_eq_true e)
            subst e0
            refine ⟨.ref w, rfl, by show (2 : Nat) ≤ sizeLine; omega, fun l nl => ?_⟩
            have t1 := (Kp.new (ps := []) (o := HO.lst [.int 254, .int 255]) nl).same
            refine ⟨w, l, _, _, rfl, rfl, t1 _ _ ew, upd_same, by show _ + 2 ≤ _; omega, fun z nz => ?_⟩
            have s12 := s1.trans t1
            exact ⟨z, [254, 255], 2, rfl, s12.free nz, by rw [upd_same, List.map_append]; rfl, by decide, .inr rfl, rfl, s12.trans (Kp.new (ps := []) nz).same⟩
          · have e0 : st ≠ 0 := fun z => e (decide_eq_true (by rw [z]))
            refine ⟨w, [], st, rfl, nw, by rw [List.append_nil]; exact ew, by decide, by omega, ?_, s1⟩
            rcases (show st = 1 ∨ st = 2 by omega) with rfl | rfl <;> rfl
        · obtain ⟨w', pre, t, rfl, nw', ew', lp, t12, esw, s2⟩ := hm
          refine ⟨.ref w', rfl, .int g, rfl, _, _, rfl, rfl, (show (0 : Int) < 256 by decide), .int g, rfl, _, _, rfl, rfl, ⟨by decide, by decide⟩, by show (2 : Nat) ≤ sizeLine; omega, fun l1 nl1 => ?_⟩
          have t1 := (Kp.new (ps := []) (o := HO.lst [.int (g % 256), .int (g / 256)]) nl1).same
          refine ⟨.int g, rfl, _, _, rfl, rfl, ⟨by decide, by decide⟩, .int g, rfl, _, _, rfl, rfl, (show (0 : Int) < 256 by decide), by show (2 : Nat) ≤ sizeLine; omega, fun l2 nl2 => ?_⟩
          have t2 := (Kp.new (ps := []) (o := HO.lst [.int (g / 256), .int (g % 256)]) nl2).same
          refine ⟨by show (2 : Nat) ≤ sizeLine; omega, fun l3 nl3 => ?_⟩
          have t3 := (Kp.new (ps := []) (o := HO.lst [.ref l1, .ref l2]) nl3).same
          have pick : ∃ l : Addr, atI [V.ref l1, .ref l2] (t - 1) = some (.ref l) ∧ upd (upd (upd H2 l1 (.lst [.int (g % 256), .int (g / 256)])) l2 (.lst [.int (g / 256), .int (g % 256)])) l3 (.lst [.ref l1, .ref l2]) l = some (.lst ((if t = 1 then [g % 256, g / 256] else [g / 256, g % 256]).map V.int)) := by
            rcases t12 with rfl | rfl
            · exact ⟨l1, rfl, t3 _ _ (t2 _ _ upd_same)⟩
            · exact ⟨l2, rfl, t3 _ _ upd_same⟩
          obtain ⟨l, el, eL⟩ := pick
          have l2' : ((if t = 1 then [g % 256, g / 256] else [g / 256, g % 256]) : List Int).length = 2 := by split <;> rfl
          refine ⟨.int t, rfl, _, _, rfl, rfl, l3, _, _, .ref l, rfl, rfl, .inl (.inl upd_same), el, w', l, _, _, rfl, rfl, t3 _ _ (t2 _ _ (t1 _ _ ew')), eL, ?_, fun z nz => ?_⟩
          · rw [List.length_map, List.length_append, List.length_map, l2']; rw [List.length_map] at fit; omega
          · have s23 := ((s2.trans t1).trans t2).trans t3
            exact fin _ z _ t _ esw (s23.free nz) (by rw [upd_same, ← List.map_append, List.append_assoc]) (s23.trans (Kp.new (ps := []) nz).same)
      | turn =>
        refine ⟨_, rfl, rfl, _, rfl, iteFc (by decide +kernel) ?_⟩
        refine ⟨_, rfl, rfl, _, rfl, iteFc (by decide +kernel) ?_⟩
        refine ⟨_, rfl, rfl, _, rfl, iteFc (by decide +kernel) ?_⟩
        refine ⟨fun σ' H2 => ∃ (pre : List Int), σ' = [some (V.ref a), some (.int st), some (.str Cd.turn.w), some (.ref w), some (.int g)] ∧ H2 w = some (.lst ((R ++ pre).map V.int)) ∧ pre.length ≤ 1 ∧ signW .turn g st = (pre ++ [g % 128], g / 128) ∧ Same H H2, ?_, fun σ' H2 hm => ?_⟩
        · refine ⟨.int g, rfl, _, _, rfl, rfl, ⟨by decide, by decide⟩, .int st, rfl, rfl, _, rfl, ?_⟩
          by_cases h : g / 128 = st
          · refine iteNS (show V.int (g / 128) = V.int st by rw [h]) ⟨[], rfl, by rw [List.append_nil]; exact ew, by decide, if_pos h, s1⟩
          · refine iteTc (by rw [show decide (V.int (g / 128) = V.int st) = false from decide_eq_false (fun z => h (V.int.inj z))]; rfl) ?_
            refine ⟨.ref w, rfl, .inl ⟨rfl, _, sq_at ew⟩, .int g, rfl, _, _, rfl, rfl, ⟨by decide, by decide⟩, _, _, rfl, rfl, w, _, _, rfl, rfl, ew, by omega, ?_⟩
            exact ⟨[128 + g / 128], rfl, by rw [upd_same, List.map_append]; rfl, by show 1 ≤ 1; omega, if_neg h, put_same s1 nw⟩
        · obtain ⟨pre, rfl, ew2, lp, esw, s2⟩ := hm
          refine ⟨.int g, rfl, _, _, rfl, rfl, ⟨by decide, by decide⟩, .ref w, rfl, .inl ⟨rfl, _, sq_at ew2⟩, .int g, rfl, _, _, rfl, rfl, (show (0 : Int) < 128 by decide), w, _, _, rfl, rfl, ew2, by rw [List.length_map, List.length_append]; rw [List.length_map] at fit; omega, ?_⟩
          exact fin _ w _ (g / 128) _ esw nw (by rw [upd_same, ← List.append_assoc, List.map_append (l₁ := R ++ pre)]; rfl) (put_same s2 nw)
    · obtain ⟨w, y, rfl, nw, ew, lw, s1⟩ := hW
      rw [List.length_map, List.take_of_length_le (Nat.le_refl _)] at *
      refine ⟨.ref w, rfl, .int _, rfl, by show (2 : Nat) ≤ sizeLine; omega, fun z nz => ?_⟩
      have wz : w ≠ z := ne_of_none ew nz
      exact q _ z w (s1.free nz) nw wz.symm upd_same (by rw [upd_ne wz]; exact ew) (s1.trans (Kp.new (ps := []) nz).same)

theorem ok_strange (T : Tx K mg) : FnOk P w K mg base CX0 2 T.f_strange T.fd_strange P_strange (spStrange) := by
  have G_take := ok_take (P := P) (w := w) (base := base) T
  have sz : sizeLine = 16777216 := sizeLine_eq
  refine T.D_strange.F.ok sc_strange (fun vs H Q E h => ?_) (fun cdv A outer s H vs Q E hr h => ?_)
  · obtain ⟨p, n, o, c, rfl, _⟩ := h
    rfl
  · obtain ⟨p, n, o, c, rfl, hp, hP, n9, q⟩ := h
    refine ⟨_, (pss_cons (ps_set (i := 2) sc_strange.nd rfl (.inl rfl) (pe_dget (hu_of hr) (pe_disp (pps_cons pe_str pe_int (pps_cons pe_str pe_int (pps_cons pe_str pe_int (pps_cons pe_str pe_int pps_nil)))) (by rfl) (by rfl) (fun z => by cases z) (by decide)) (pv 1) (fun _ _ => rfl)))
      (pss_cons (ps_set (i := 3) sc_strange.nd rfl (.inl rfl) (pe_call G_take (hr.mono (by decide)) (by rfl) T.D_take.g T.D_take.F.kp T.bb_take .nil pass0 (pa_cons (pv 0) (pa_cons pe_int pa_nil))))
      (pss_cons (ps_if (pt_cmpR op_eq (pv 3) pe_int (nomark _)) (pss_one (ps_ret (pe_op op_sub (pe_un un_neg pe_int) (pe_call G_take (hr.mono (by decide)) (by rfl) T.D_take.g T.D_take.F.kp T.bb_take .nil pass0 (pa_cons (pv 0) (pa_cons pe_int pa_nil)))))) pss_nil)
      (pss_cons (ps_if (pt_cmpR op_eq (pv 3) pe_int (nomark _)) (pss_one (ps_ret (pv 2))) pss_nil)
      (pss_cons (ps_if (pt_cmpR op_eq (pv 3) pe_int (nomark _)) (pss_one (ps_ret (pe_op op_add (pv 2) (pe_call G_take (hr.mono (by decide)) (by rfl) T.D_take.g T.D_take.F.kp T.bb_take .nil pass0 (pa_cons (pv 0) (pa_cons (pe_op op_pow pe_int pe_int) pa_nil)))))) pss_nil)
      (pss_one (ps_ret (pe_op op_add (pe_op op_pow pe_int pe_int) (pe_call G_take (hr.mono (by decide)) (by rfl) T.D_take.g T.D_take.F.kp T.bb_take .nil pass0 (pa_cons (pv 0) (pa_cons pe_int pa_nil))))))))))), ?_⟩
    obtain ⟨z256, zmax⟩ := sizeF_b c
    intro d nd
    refine ⟨upd_same, sizesK, rfl, by decide, ?_⟩
    rw [L2.upd_upd]
    have s1 := (Kp.new (ps := []) (o := HO.dK (mergeK [] sizesK)) nd).same
    refine ⟨.str c.w, rfl, d, .int (sizeF c), rfl, ?_, ?_⟩
    · rw [← sizes_at c]
      exact DGet.k (k := Sum.inr c.w) upd_same
    generalize upd H d (.dK (mergeK [] sizesK)) = H1 at s1 ⊢
    refine ⟨.ref p, rfl, p, n, 4, o, rfl, s1 _ _ hp, hP, by omega, by decide, by decide, fun w o1 w0 w1 hP1 => ?_⟩
    have k1 : Kp [p] H (upd H1 p o1) := (Kp.of s1).trans (Kp.at (by simp))
    refine ⟨.int w, rfl, rfl, _, rfl, ite2 (fun _ => ?_) (fun _ => ?_)⟩
    · refine ⟨_, rfl, .ref p, rfl, p, _, 1000, o1, rfl, upd_same, hP1, by omega, by decide, by decide, fun v o2 v0 v1 hP2 => ⟨_, _, rfl, rfl, ?_⟩⟩
      exact q _ (-1 - v) o2 (fun h => by omega) upd_same (hP2.up (by omega)) (k1.trans (Kp.at (by simp)))
    refine ⟨.int w, rfl, rfl, _, rfl, ite2 (fun _ => ?_) (fun _ => ?_)⟩
    · exact ⟨.int (sizeF c), rfl, q _ _ o1 (fun h => by omega) upd_same (hP1.up (by omega)) k1⟩
    refine ⟨.int w, rfl, rfl, _, rfl, ite2 (fun _ => ?_) (fun _ => ?_)⟩
    · refine ⟨.int (sizeF c), rfl, .ref p, rfl, _, _, rfl, rfl, cpow_10_6, p, _, 1000000, o1, rfl, upd_same, hP1, by omega, by decide, by decide, fun v o2 v0 v1 hP2 => ⟨_, _, rfl, rfl, ?_⟩⟩
      exact q _ (sizeF c + v) o2 (fun h => by omega) upd_same (hP2.up (by omega)) (k1.trans (Kp.at (by simp)))
    · refine ⟨_, _, rfl, rfl, cpow_10_40, .ref p, rfl, p, _, 1000, o1, rfl, upd_same, hP1, by omega, by decide, by decide, fun v o2 v0 v1 hP2 => ⟨_, _, rfl, rfl, ?_⟩⟩
      exact q _ (10 ^ 40 + v) o2 (fun h => by omega) upd_same (hP2.up (by omega)) (k1.trans (Kp.at (by simp)))

theorem ok_told (T : Tx K mg) : FnOk P w K mg base CX0 6 T.f_told T.fd_told P_told (spTold K) := by
  have G_wsigns := ok_wsigns (P := P) (w := w) (base := base) T
  have sz : sizeLine = 16777216 := sizeLine_eq
  refine T.D_told.F.ok sc_told (fun vs H Q E h => ?_) (fun cdv A outer s H vs Q E hr h => ?_)
  · obtain ⟨a, gs, s0, c, rfl, _⟩ := h
    rfl
  · obtain ⟨a, gs, s0, c, rfl, hA, lg, vs0, q, qb⟩ := h
    refine ⟨_, (pss_cons (ps_set (i := 3) sc_told.nd rfl (.inl rfl) (pe_tup (pa_cons pe_str (pa_cons pe_non pa_nil))))
      (pss_cons (ps_try_as (i := 4) rfl rfl sc_told.nd rfl rfl ⟨rfl, by decide, .inl T.g_SipError⟩ takes0 (fun W pn xe tk _ => (pss_one (ps_set (i := 3) sc_told.nd rfl (.inl rfl) (pe_tup (pa_cons pe_str (pa_cons (by exact (Sip.pe_callNS G_wsigns (hr.mono (by decide)) (by rfl) T.D_wsigns.g T.D_wsigns.F.kp T.kb_wsigns_2_code (fun σ => passAt tk σ) (by exact (pa_cons (pv 0) (pa_cons (pv 1) pa_nil))) (by exact (pk_cons (pv 2) pk_nil)))) pa_nil)))))) (fun a oe cls d pn hz hf => (pss_cons (ps_set (i := 5) sc_told.nd rfl (.inl rfl) (pe_lst (pa_cons (pe_callB (id := "isinstance") (r := Sip.rIsO K cls d a) (Sip.call_isO hz hf) (by rfl) T.m_isinstance (by decide +kernel) (pa_cons (pv 4) (pa_cons (pe_glob (v := .ref T.C_NoSign) (by rfl) T.g_NoSign rfl) pa_nil))) (pa_cons (pe_callB (id := "isinstance") (r := Sip.rIsO K cls d a) (Sip.call_isO hz hf) (by rfl) T.m_isinstance (by decide +kernel) (pa_cons (pv 4) (pa_cons (pe_glob (v := .ref T.C_NoCode) (by rfl) T.g_NoCode rfl) pa_nil))) (pa_cons (pe_callB (id := "isinstance") (r := Sip.rIsO K cls d a) (Sip.call_isO hz hf) (by rfl) T.m_isinstance (by decide +kernel) (pa_cons (pv 4) (pa_cons (pe_glob (v := .ref T.C_BadCode) (by rfl) T.g_BadCode rfl) pa_nil))) (pa_cons (pe_callB (id := "isinstance") (r := Sip.rIsO K cls d a) (Sip.call_isO hz hf) (by rfl) T.m_isinstance (by decide +kernel) (pa_cons (pv 4) (pa_cons (pe_bltn (v := .ty "ValueError") (by rfl) T.m_ValueError (by decide +kernel) rfl) pa_nil))) pa_nil))))))
      (pss_cons (ps_set (i := 3) sc_told.nd rfl (.inl rfl) (pe_tup (pa_cons pe_str (pa_cons pe_non pa_nil))))
      (pss_one (ps_if (pt_cmpR (show OpR _ (compareOp .Eq) (Sip.rEqS K) from Sip.op_eqS (by exact hr.units)) (pv 5) (pe_lst (pa_cons pe_bl (pa_cons pe_bl (pa_cons pe_bl (pa_cons pe_bl pa_nil))))) (nomark _)) (pss_one (ps_set (i := 3) sc_told.nd rfl (.inl rfl) (pe_tup (pa_cons pe_str (pa_cons (show PE _ _ (Sip.tXf K "sign" a cls d _) from Sip.pe_xf (f := "sign") hz hf (pv 4)) pa_nil))))) pss_nil))))))
      (pss_one (ps_ret (pv 3))))), ?_⟩
    refine ⟨by show (2 : Nat) ≤ sizeLine; omega, fun t0 nt0 => ?_⟩
    have s1 := (Kp.new (ps := []) (o := HO.tup [.str (Str.ofString "told"), .non]) nt0).same
    generalize upd H t0 (.tup [.str (Str.ofString "told"), .non]) = H0 at s1 ⊢
    refine ⟨.ref a, rfl, .int s0, rfl, .str c.w, rfl, rfl, rfl, a, gs, s0, c.w, rfl, s1.seq hA, lg, fun c' ec => ?_, fun nc => absurd ⟨c, rfl⟩ nc⟩
    obtain rfl := w_inj ec
    refine ⟨vs0, fun gd H2 tq u ntq nu qu etq eu s2 => ?_, fun i g hi hb gd H2 d s2 hd => ?_⟩
    · refine ⟨by show (2 : Nat) ≤ sizeLine; omega, fun t nt => ?_⟩
      have t1 := (Kp.new (ps := []) (o := HO.tup [.str (Str.ofString "told"), .ref tq]) nt).same
      exact ⟨.ref t, rfl, q gd _ t tq u upd_same (t1 _ _ etq) (t1 _ _ eu) ((s1.trans s2).trans t1)⟩
    · refine ⟨true, T.te_NoSign, fun _ e ne => ?_, fun h => nomatch h⟩
      have b1 := s1.trans s2
      refine ⟨.ref e, rfl, T.C_NoSign, rfl, T.e_NoSign, .inr ⟨d, _, rfl, hd⟩, .ref T.C_NoSign, .ref T.C_NoSign, true, rfl, (fun u h => h), T.k_NoSign_NoSign, ?_⟩
      refine ⟨.ref e, rfl, T.C_NoSign, rfl, T.e_NoSign, .inr ⟨d, _, rfl, hd⟩, .ref T.C_NoCode, .ref T.C_NoCode, false, rfl, (fun u h => h), T.k_NoSign_NoCode, ?_⟩
      refine ⟨.ref e, rfl, T.C_NoSign, rfl, T.e_NoSign, .inr ⟨d, _, rfl, hd⟩, .ref T.C_BadCode, .ref T.C_BadCode, false, rfl, (fun u h => h), T.k_NoSign_BadCode, ?_⟩
      refine ⟨.ref e, rfl, T.C_NoSign, rfl, T.e_NoSign, .inr ⟨d, _, rfl, hd⟩, .ty "ValueError", .type "ValueError", true, rfl, (fun u h => h), T.kV_NoSign, ?_⟩
      refine ⟨by show (4 : Nat) ≤ sizeLine; omega, fun kl nkl => ?_⟩
      have t1 := (Kp.new (ps := []) (o := HO.lst [.bl true, .bl false, .bl false, .bl true]) nkl).same
      have ek : (upd H2 kl (.lst [.bl true, .bl false, .bl false, .bl true])) kl = some (.lst [.bl true, .bl false, .bl false, .bl true]) := upd_same
      have hd2 := t1 _ _ hd
      have b2 := b1.trans t1
      generalize upd H2 kl (.lst [.bl true, .bl false, .bl false, .bl true]) = H3 at ek hd2 b2 ⊢
      refine ⟨by show (2 : Nat) ≤ sizeLine; omega, fun t nt => ?_⟩
      have t2 := (Kp.new (ps := []) (o := HO.tup [.str (Str.ofString "odd"), .non]) nt).same
      have ek4 := t2 _ _ ek
      have hd4 := t2 _ _ hd2
      have b3 := b2.trans t2
      generalize upd H3 t (.tup [.str (Str.ofString "odd"), .non]) = H4 at ek4 hd4 b3 ⊢
      refine ⟨.ref kl, rfl, by show (4 : Nat) ≤ sizeLine; omega, fun l9 nl9 => ?_⟩
      have t3 := (Kp.new (ps := []) (o := HO.lst [.bl true, .bl false, .bl false, .bl true]) nl9).same
      obtain ⟨dd, d1, d2, d3⟩ := dp_tfft (K := K) (t3 _ _ ek4) upd_same
      refine ⟨dd, d1, d2, d3, true, rfl, iteT ?_⟩
      refine ⟨.ref e, rfl, T.C_NoSign, d, _, .int g, rfl, rfl, T.e_NoSign, T.n_NoSign, rfl, t3 _ _ hd4, (by kernel_rfl), by show (2 : Nat) ≤ sizeLine; omega, fun t5 nt5 => ?_⟩
      have t4 := (Kp.new (ps := []) (o := HO.tup [.str (Str.ofString "refused"), .int g]) nt5).same
      exact ⟨.ref t5, rfl, qb i g hi hb gd _ t5 upd_same ((b3.trans t3).trans t4)⟩

theorem ok_law (T : Tx K mg) : FnOk P w K mg base CX0 7 T.f_law T.fd_law P_law (spLaw K) := by
  have G_pool := ok_pool (P := P) (w := w) (base := base) T
  have G_lstate := ok_lstate (P := P) (w := w) (base := base) T
  have G_take := ok_take (P := P) (w := w) (base := base) T
  have G_told := ok_told (P := P) (w := w) (base := base) T
  have G_lcodes := ok_lcodes (P := P) (w := w) (base := base) T
  have G_lsign := ok_lsign (P := P) (w := w) (base := base) T
  have G_lbytes := ok_lbytes (P := P) (w := w) (base := base) T
  have G_strange := ok_strange (P := P) (w := w) (base := base) T
  have sz : sizeLine = 16777216 := sizeLine_eq
  refine T.D_law.F.ok sc_law (fun vs H Q E h => ?_) (fun cdv A outer s H vs Q E hr h => ?_)
  · obtain ⟨a, ns, rfl, _⟩ := h
    rfl
  · obtain ⟨a, ns, rfl, hS, h63, q⟩ := h
    refine ⟨_, (pss_cons (ps_set (i := 1) sc_law.nd rfl (.inr rfl) (pe_call G_pool (hr.mono (by decide)) (by rfl) T.D_pool.g T.D_pool.F.kp T.bb_pool .nil pass0 (pa_cons (pv 0) (pa_cons pe_int pa_nil))))
      (pss_cons (ps_set (i := 2) sc_law.nd rfl (.inr rfl) (pe_ix ix_list (pe_call0 G_lcodes (hr.mono (by decide)) (by rfl) T.D_lcodes.g T.D_lcodes.F.kp T.bb_lcodes .nil pass0) (pe_call G_take (hr.mono (by decide)) (by rfl) T.D_take.g T.D_take.F.kp T.bb_take .nil pass0 (pa_cons (pv 1) (pa_cons pe_int pa_nil))) (fun _ _ => rfl)))
      (pss_cons (ps_set (i := 3) sc_law.nd rfl (.inl rfl) (pe_call G_lstate (hr.mono (by decide)) (by rfl) T.D_lstate.g T.D_lstate.F.kp T.bb_lstate .nil pass0 (pa_cons (pv 1) (pa_cons (pv 2) pa_nil))))
      (pss_cons (ps_set (i := 4) sc_law.nd rfl (.inl rfl) (pe_call G_take (hr.mono (by decide)) (by rfl) T.D_take.g T.D_take.F.kp T.bb_take .nil pass0 (pa_cons (pv 1) (pa_cons pe_int pa_nil))))
      (pss_cons (ps_setLc (i := 5) (own := [("_law_k", 6)]) (g := gName 6) (tt := tYes) (by rfl) sc_law.nd rfl rfl (sw_true rfl rfl rfl (by decide +kernel)) (pi_range1 (by rfl) T.m_range (pa_cons (pe_call G_take (hr.mono (by decide)) (by rfl) T.D_take.g T.D_take.F.kp T.bb_take .nil pass0 (pa_cons (pv 1) (pa_cons pe_int pa_nil))) pa_nil)) (blkOk_by (own := [("_law_k", 6)]) (N := N_law) (sc := defScope s_law) (by decide +kernel)) (fun _ _ _ _ _ => pg_name (i := 6) sc_law.nd rfl (Or.inl rfl)) (fun _ _ _ _ _ => pts_nil) (fun _ _ _ _ _ => (pe_call G_lsign (hr.mono (by decide)) (by rfl) T.D_lsign.g T.D_lsign.F.kp T.bb_lsign .nil pass0 (pa_cons (pv 1) (pa_cons (pv 2) pa_nil)))))
      (pss_cons (ps_set (i := 1) sc_law.nd rfl (.inr rfl) (pe_call G_pool (hr.mono (by decide)) (by rfl) T.D_pool.g T.D_pool.F.kp T.bb_pool .nil pass0 (pa_cons (pv 0) (pa_cons pe_int pa_nil))))
      (C8.pss_cut (ps_set (i := 7) sc_law.nd rfl (.inr rfl) (pe_callTy call_list_of (by rfl) T.m_list (by decide +kernel) (pa_cons (pv 5) pa_nil)))
      (C8.pss_cut (ps_for PassesOwn.never rfl (pi_range1 (by rfl) T.m_range (pa_cons (pv 4) pa_nil)) (pg_name (i := 6) sc_law.nd rfl (.inl rfl)) (pss_one (ps_expr (pe_bm PySem.F.plainAttrs_list PySem.F.slot_list_insert PySem.F.type_list_insert mt_insert (pv 5) (pa_cons (pe_call G_take (hr.mono (by decide)) (by rfl) T.D_take.g T.D_take.F.kp T.bb_take .nil pass0 (pa_cons (pv 1) (pa_cons (pe_op op_add (pe_callB call_len_seq (by rfl) T.m_len PySem.boot_len (pa_cons (pv 5) pa_nil)) pe_int) pa_nil))) (pa_cons (pe_call G_strange (hr.mono (by decide)) (by rfl) T.D_strange.g T.D_strange.F.kp T.bb_strange .nil pass0 (pa_cons (pv 1) (pa_cons (pv 2) pa_nil))) pa_nil))))))
      (pss_cons (ps_setLc (i := 8) (own := [("_law_sign_here", 9)]) (g := gName 9) (by rfl) sc_law.nd rfl rfl (sw_true rfl rfl rfl (by decide +kernel)) (pi_list (pv 5)) (blkOk_by (own := [("_law_sign_here", 9)]) (N := N_law) (sc := defScope s_law) (by decide +kernel)) (fun _ _ _ _ _ => pg_name (i := 9) sc_law.nd rfl (Or.inl rfl)) (fun _ _ _ _ _ => (pts_one (pt_cmpR (show OpR _ (compareOp .NotIn) (rIn K true) from op_notIn_seq) (pv 9) (pv 7) rfl))) (fun _ _ _ _ _ => (pv 9)))
      (pss_cons (ps_set (i := 10) sc_law.nd rfl (.inl rfl) (pe_callTy call_list_of (by rfl) T.m_list (by decide +kernel) (pa_cons (pv 5) pa_nil)))
      (C8.pss_cut (ps_set (i := 11) sc_law.nd rfl (.inl rfl) (pe_call G_told (hr.mono (by decide)) (by rfl) T.D_told.g T.D_told.F.kp T.bb_told .nil pass0 (pa_cons (pv 10) (pa_cons (pv 3) (pa_cons (pv 2) pa_nil)))))
      (pss_cons (ps_if (pt_cmpR (op_neI hr.units) (pv 10) (pv 5) (nomark _)) (pss_one (ps_ret pe_bl)) pss_nil)
      (pss_cons (ps_set (i := 12) sc_law.nd rfl (.inl rfl) (pe_tup (pa_cons pe_str (pa_cons (pe_call G_lbytes (hr.mono (by decide)) (by rfl) T.D_lbytes.g T.D_lbytes.F.kp T.bb_lbytes .nil pass0 (pa_cons (pv 7) (pa_cons (pv 3) (pa_cons (pv 2) pa_nil)))) pa_nil))))
      (pss_cons (ps_set (i := 13) sc_law.nd rfl (.inl rfl) (pv 12))
      (C8.pss_cut (ps_if (pt_cmpR op_gt (pv 4) pe_int (nomark _)) (pss_one (ps_set (i := 13) sc_law.nd rfl (.inl rfl) (pe_tup (pa_cons pe_str (pa_cons (pe_ix ix_list (pv 8) pe_int (fun _ _ => rfl)) pa_nil))))) pss_nil)
      (pss_one (ps_ret (pe_and (pe_cmpR (Sip.op_eqS hr.units) (pv 11) (pv 13) (nomark _)) (pe_one (pe_cmpR (Sip.op_eqS hr.units) (pe_call G_told (hr.mono (by decide)) (by rfl) T.D_told.g T.D_told.F.kp T.bb_told .nil pass0 (pa_cons (pv 7) (pa_cons (pv 3) (pa_cons (pv 2) pa_nil)))) (pv 12) (nomark _))))))))))))))))))))), ?_⟩
    refine ⟨.ref a, rfl, a, ns, 0, rfl, hS, h63, by decide, by decide, fun p o1 np hP1 => ?_⟩
    have s1 : Same H (upd H p o1) := (Kp.new (ps := []) np).same
    refine ⟨(), rfl, fun cl ncl => ?_⟩
    have pcl : p ≠ cl := ne_of_none (upd_same : (upd H p o1) p = some o1) ncl
    refine ⟨.ref p, rfl, p, _, 4, o1, rfl, by rw [upd_ne pcl]; exact upd_same, hP1, by omega, by decide, by decide, fun r o2 r0 r1 hP2 => ?_⟩
    obtain ⟨c, ec⟩ := codes_at r0 r1
    have s2 : Same H (upd (upd (upd H p o1) cl (.lst CODES)) p o2) := put_same (s1.trans (Kp.new (ps := []) ncl).same) np
    refine ⟨cl, _, r, .str c.w, rfl, rfl, .inl (.inl (by rw [upd_ne pcl.symm, upd_same])), ec, ?_⟩
    have ep2 : (upd (upd (upd H p o1) cl (.lst CODES)) p o2) p = some o2 := upd_same
    generalize upd (upd (upd H p o1) cl (.lst CODES)) p o2 = H1 at s2 ep2 ⊢
    refine ⟨.ref p, rfl, .str c.w, rfl, p, _, o2, c, rfl, ep2, hP2, by omega, fun H2 st o3 vst st0 st1 ep3 hP3 k3 => ?_⟩
    have s3 : Same H H2 := step_same s2 np k3
    refine ⟨.ref p, rfl, p, _, 3, o3, rfl, ep3, hP3, by omega, by decide, by decide, fun many o4 mn0 mn1 hP4 => ?_⟩
    obtain ⟨many, rfl⟩ := Int.eq_ofNat_of_zero_le mn0
    have s4 : Same H (upd H2 p o4) := put_same s3 np
    refine ⟨.ref p, rfl, p, _, 11, o4, rfl, upd_same, hP4, by omega, by decide, by decide, fun z o5 z0 z1 hP5 => ?_⟩
    rw [L2.upd_upd]
    refine ⟨z, rfl, by omega, by omega, fun A nA => ?_⟩
    have pA : p ≠ A := ne_of_none (upd_same : (upd H2 p o5) p = some o5) nA
    have s5 : Same H (upd H2 p o5) := put_same s3 np
    refine lc_range (lo := 0) (n := z.toNat) (fun j H' => ∃ (bs : List Int) (o : HO), H' A = some (.lst (bs.map V.int)) ∧ bs.length = j ∧ Good c bs ∧ H' p = some o ∧ PoolO (20 + 3 * j) o ∧ Same H H') ⟨[], o5, upd_same, rfl, (fun b hb => nomatch hb), by rw [upd_ne pA]; exact upd_same, hP5.up (by omega), s5.trans (Kp.new (ps := []) nA).same⟩ (fun j H' hj hP => ?_) (fun H5 hP => ?_)
    · obtain ⟨bs, o, eA, lb, gb, ep, hPo, sm⟩ := hP
      refine ⟨rfl, .ref p, rfl, .str c.w, rfl, p, _, o, c, rfl, ep, hPo, by omega, fun H6 g o' g0 g1 ep' hP' k' => ?_⟩
      have sm' : Same H H6 := step_same sm np k'
      refine ⟨_, k' _ _ (by simpa using pA.symm) eA, by rw [List.length_map]; omega, ?_⟩
      exact ⟨bs ++ [g], o', by rw [upd_same, List.map_append]; rfl, by rw [List.length_append, lb]; rfl, good_app gb (good_one g0 g1), by rw [upd_ne pA]; exact ep', hP'.up (by omega), put_same sm' (s5.free nA)⟩
    obtain ⟨PL, o6, eA, l1, gP, _, _, s6⟩ := hP
    refine ⟨.ref a, rfl, a, ns, 1, rfl, s6.seq hS, h63, by decide, by decide, fun p2 o7 np2 hP7 => ?_⟩
    have Ap2 : A ≠ p2 := ne_of_none eA np2
    have eA7 : (upd H5 p2 o7) A = some (.lst (PL.map V.int)) := by rw [upd_ne Ap2]; exact eA
    have ep7 : (upd H5 p2 o7) p2 = some o7 := upd_same
    generalize upd H5 p2 o7 = H7 at eA7 ep7 ⊢
    refine ⟨fun σ' H' => ∃ PA : Addr, σ' = [some (.ref a), some (.ref p2), some (.str c.w), some (.int st), some (.int many), some (.ref A), none, some (.ref PA), none, none, none, none, none, none] ∧ H' A = some (.lst (PL.map V.int)) ∧ H' PA = some (.lst (PL.map V.int)) ∧ H' p2 = some o7 ∧ A ≠ PA ∧ p2 ≠ PA, ?_, fun σ' H8 hm => ?_⟩
    · refine ⟨.ref A, rfl, A, _, rfl, .inl (sq_at eA7), fun PA nPA => ?_⟩
      have t1 := (Kp.new (ps := []) (o := HO.lst (PL.map V.int)) nPA).same
      exact ⟨PA, rfl, t1 _ _ eA7, upd_same, t1 _ _ ep7, ne_of_none eA7 nPA, ne_of_none ep7 nPA⟩
    obtain ⟨PA, rfl, eA8, ePA8, ep8, APA, pPA⟩ := hm
    refine ⟨fun σ' H' => ∃ (gs : List Int) (y : Option V), σ' = [some (.ref a), some (.ref p2), some (.str c.w), some (.int st), some (.int many), some (.ref A), y, some (.ref PA), none, none, none, none, none, none] ∧ H' A = some (.lst (gs.map V.int)) ∧ H' PA = some (.lst (PL.map V.int)) ∧ gs.length ≤ 20 ∧ (∀ x ∈ gs, (0 ≤ x ∧ x < sizeF c) → x ∈ PL) ∧ (many = 0 → gs = PL) ∧ (0 < many → ∃ x ∈ gs, bad c x), ?_, fun σ' H9 hm => ?_⟩
    · refine ⟨.int many, rfl, many, rfl, by omega, by omega, ?_⟩
      rw [Int.toNat_natCast]
      refine for_range (lo := 0) (n := many) (fun i σ H' => ∃ (gs : List Int) (y : Option V) (o : HO), σ = [some (.ref a), some (.ref p2), some (.str c.w), some (.int st), some (.int many), some (.ref A), y, some (.ref PA), none, none, none, none, none, none] ∧ H' A = some (.lst (gs.map V.int)) ∧ H' PA = some (.lst (PL.map V.int)) ∧ H' p2 = some o ∧ PoolO (2000 + 3 * i) o ∧ gs.length = PL.length + i ∧ (∀ x ∈ gs, (0 ≤ x ∧ x < sizeF c) → x ∈ PL) ∧ (i = 0 → gs = PL) ∧ (0 < i → ∃ x ∈ gs, bad c x)) ⟨PL, none, o7, rfl, eA8, ePA8, ep8, hP7.up (by omega), rfl, (fun x hx _ => hx), (fun _ => rfl), (fun h => absurd h (by omega))⟩ (fun i σ H' hi hW => ?_) (fun σ H' hW => ?_)
      · obtain ⟨gs, y, o, rfl, eA, ePA, ep, hPo, lg, h1, h2, h3⟩ := hW
        refine ⟨.ref A, rfl, .inl ⟨rfl, _, sq_at eA⟩, .ref p2, rfl, .ref A, rfl, A, _, rfl, .inl (sq_at eA), _, _, rfl, rfl, p2, _, _, o, rfl, ep, hPo, by omega, by rw [List.length_map]; omega, by rw [List.length_map]; omega, fun j o' j0 j1 hP' => ?_⟩
        rw [List.length_map] at j1
        obtain ⟨j, rfl⟩ := Int.eq_ofNat_of_zero_le j0
        have eA' : (upd H' p2 o') A = some (.lst (gs.map V.int)) := by rw [upd_ne Ap2]; exact eA
        have ePA' : (upd H' p2 o') PA = some (.lst (PL.map V.int)) := by rw [upd_ne pPA.symm]; exact ePA
        refine ⟨.ref p2, rfl, .str c.w, rfl, p2, _, o', c, rfl, upd_same, hP', by omega, fun H3 g o'' hb ep3 hP3 k3 => ?_⟩
        have eA3 := k3 _ _ (by simpa using Ap2) eA'
        have ePA3 := k3 _ _ (by simpa using pPA.symm) ePA'
        refine ⟨A, gs.map V.int, (j : Int), .int g, rfl, rfl, eA3, by rw [List.length_map]; omega, by omega, by omega, ?_⟩
        rw [Int.toNat_natCast]
        refine ⟨gs.take j ++ [g] ++ gs.drop j, _, o'', rfl, ?_, by rw [upd_ne APA.symm]; exact ePA3, by rw [upd_ne Ap2.symm]; exact ep3, hP3.up (by omega), ?_, ?_, (fun h => absurd h (by omega)), fun _ => ⟨g, by simp, hb⟩⟩
        · rw [upd_same, List.map_append, List.map_append, List.map_take, List.map_drop]; rfl
        · rw [List.length_append, List.length_append, List.length_take, List.length_drop]; show _ + 1 + _ = _; omega
        · intro x hx gx
          rcases List.mem_append.mp hx with hx | hx
          · rcases List.mem_append.mp hx with hx | hx
            · exact h1 x (List.mem_of_mem_take hx) gx
            · rw [List.mem_singleton.mp hx] at gx; exact absurd gx hb
          · exact h1 x (List.mem_of_mem_drop hx) gx
      · obtain ⟨gs, y, o, rfl, eA, ePA, ep, hPo, lg, h1, h2, h3⟩ := hW
        exact ⟨gs, y, rfl, eA, ePA, by omega, h1, h2, h3⟩
    obtain ⟨gs, y, rfl, eA9, ePA9, lg, h1, h2, h3⟩ := hm
    clear eA8 ePA8 ep8 eA7 ep7 eA s6 s5 s4 s3 s2 s1
    -- the strange ones
    refine ⟨.ref A, rfl, A, rfl, ⟨_, sq_at eA9⟩, fun D nD => ?_⟩
    have AD : A ≠ D := ne_of_none eA9 nD
    have PD : PA ≠ D := ne_of_none ePA9 nD
    refine lc_list (K := K) (a := A) (xs := gs.map V.int) (fun i H' => H' D = some (.lst (((gs.take i).filter (fun x => !decide (x ∈ PL))).map V.int)) ∧ H' A = some (.lst (gs.map V.int)) ∧ H' PA = some (.lst (PL.map V.int))) ⟨upd_same, by rw [upd_ne AD]; exact eA9, by rw [upd_ne PD]; exact ePA9⟩ (fun i H' _ h => sq_at h.2.1) (fun i x H' hx hP => ?_) (fun HA hP => ?_)
    · obtain ⟨eD, eA', ePA'⟩ := hP
      rw [List.getElem?_map] at hx
      obtain ⟨v, hv, rfl⟩ := Option.map_eq_some_iff.mp hx
      refine ⟨rfl, .int v, rfl, .ref PA, rfl, PA, _, rfl, .inl (sq_at ePA'), rfl, flat_ints _, _, rfl, ?_⟩
      rw [show (if true = true then !inV (V.int v) (PL.map V.int) else inV (V.int v) (PL.map V.int)) = !decide (v ∈ PL) from congrArg (fun b => !b) (inV_ten PL v)]
      have et : (gs.take (i + 1)).filter (fun x => !decide (x ∈ PL)) = (gs.take i).filter (fun x => !decide (x ∈ PL)) ++ [v].filter (fun x => !decide (x ∈ PL)) := by
        rw [List.take_add_one, hv, List.filter_append]; rfl
      rw [et]
      by_cases hm : v ∈ PL
      · rw [decide_eq_true hm]
        refine iteF ⟨?_, eA', ePA'⟩
        rw [List.filter_cons_of_neg (by simpa using hm), List.filter_nil, List.append_nil]; exact eD
      · rw [decide_eq_false hm]
        have lf : ((gs.take i).filter (fun x => !decide (x ∈ PL))).length ≤ 20 := Nat.le_trans (List.length_filter_le _ _) (by rw [List.length_take]; omega)
        refine iteT ⟨.int v, rfl, _, eD, by rw [List.length_map]; omega, ?_, by rw [upd_ne AD]; exact eA', by rw [upd_ne PD]; exact ePA'⟩
        rw [upd_same, List.filter_cons_of_pos (by simpa using hm), List.filter_nil, List.map_append]; rfl
    obtain ⟨eD, eA, ePA⟩ := hP
    have eT : gs.take (gs.map V.int).length = gs := by rw [List.length_map, List.take_of_length_le (Nat.le_refl _)]
    rw [eT] at eD
    refine ⟨.ref A, rfl, A, _, rfl, .inl (sq_at eA), fun h nh => ?_⟩
    have t1 := (Kp.new (ps := []) (o := HO.lst (gs.map V.int)) nh).same
    have eh : (upd HA h (.lst (gs.map V.int))) h = some (.lst (gs.map V.int)) := upd_same
    have eA2 := t1 _ _ eA
    have ePA2 := t1 _ _ ePA
    have eD2 := t1 _ _ eD
    generalize upd HA h (.lst (gs.map V.int)) = HB at eh eA2 ePA2 eD2 ⊢
    -- what is told of them
    refine ⟨fun σ' H' => ∃ (fq : Addr), σ' = [some (.ref a), some (.ref p2), some (.str c.w), some (.int st), some (.int many), some (.ref A), y, some (.ref PA), some (.ref D), none, some (.ref h), some (.ref fq), none, none] ∧ Same HB H' ∧ ((many = 0 → ∃ tq u : Addr, H' fq = some (.tup [.str (Str.ofString "told"), .ref tq]) ∧ H' tq = some (.tup [.ref u, .int (writeF c PL st).2]) ∧ H' u = some (.lst ((writeF c PL st).1.map V.int))) ∧ (0 < many → ∃ (g : Int) (rest : List Int), gs.filter (fun x => !decide (x ∈ PL)) = g :: rest ∧ H' fq = some (.tup [.str (Str.ofString "refused"), .int g]))), ?_, fun σ' HC hm => ?_⟩
    · refine ⟨.ref h, rfl, .int st, rfl, .str c.w, rfl, h, gs, st, c, rfl, sq_at eh, by omega, vst, fun gd H' fq tq u e1 e2 e3 sm => ?_, fun i g hi hb gd H' fq e1 sm => ?_⟩
      · refine ⟨fq, rfl, sm, fun m0 => ?_, fun m0 => ?_⟩
        · rw [h2 m0] at e2 e3
          exact ⟨tq, u, e1, e2, e3⟩
        · obtain ⟨x, hx, hb⟩ := h3 m0
          exact absurd (gd x hx) hb
      · refine ⟨fq, rfl, sm, fun m0 => ?_, fun m0 => ?_⟩
        · rw [h2 m0] at hi
          exact absurd (gP g (List.mem_of_getElem? hi)) hb
        · obtain ⟨g', rest, j, f1, f2, f3, f4⟩ := first_new gP gs h1 (h3 m0)
          have e : g = g' := by
            rcases Nat.lt_trichotomy i j with lt | rfl | lt
            · have : g ∈ gs.take j := by
                rw [List.mem_take_iff_getElem]
                obtain ⟨hl, e⟩ := List.getElem?_eq_some_iff.mp hi
                exact ⟨i, by omega, e⟩
              exact absurd (f4 g this) hb
            · rw [hi] at f2; exact Option.some.inj f2
            · have : g' ∈ gs.take i := by
                rw [List.mem_take_iff_getElem]
                obtain ⟨hl, e⟩ := List.getElem?_eq_some_iff.mp f2
                exact ⟨j, by omega, e⟩
              exact absurd (gd g' this) f3
          rw [e] at e1
          exact ⟨g', rest, f1, e1⟩
    obtain ⟨fq, rfl, sC, w0, w1⟩ := hm
    have ehC := sC _ _ eh
    have eAC := sC _ _ eA2
    have ePAC := sC _ _ ePA2
    have eDC := sC _ _ eD2
    refine ⟨.ref h, rfl, .ref A, rfl, h, A, gs, gs, rfl, rfl, sq_at ehC, sq_at eAC, _, rfl, iteFc (by simp) ?_⟩
    have lP : PL.length ≤ 200 := by omega
    refine ⟨.ref PA, rfl, .int st, rfl, .str c.w, rfl, PA, PL, st, c, rfl, sq_at ePAC, lP, vst, gP, fun HD bq bw nbq nbw bqw ebq ebw sD => ?_⟩
    refine ⟨by show (2 : Nat) ≤ sizeLine; omega, fun wq nwq => ?_⟩
    have t2 := (Kp.new (ps := []) (o := HO.tup [.str (Str.ofString "told"), .ref bq]) nwq).same
    have ewq : (upd HD wq (.tup [.str (Str.ofString "told"), .ref bq])) wq = some (.tup [.str (Str.ofString "told"), .ref bq]) := upd_same
    have ebq2 := t2 _ _ ebq
    have ebw2 := t2 _ _ ebw
    have sE := sD.trans t2
    have ePAE := sE _ _ ePAC
    have eDE := sE _ _ eDC
    generalize upd HD wq (.tup [.str (Str.ofString "told"), .ref bq]) = HE at ewq ebq2 ebw2 sE ePAE eDE ⊢
    refine ⟨.ref wq, rfl, ?_⟩
    refine ⟨fun σ' H' => ∃ (dq : Addr), σ' = [some (.ref a), some (.ref p2), some (.str c.w), some (.int st), some (.int many), some (.ref A), y, some (.ref PA), some (.ref D), none, some (.ref h), some (.ref fq), some (.ref wq), some (.ref dq)] ∧ Same HE H' ∧ ∃ d, Dp K H' (.ref fq) d ∧ Dp K H' (.ref dq) d ∧ SeqAt.shaped d = true, ?_, fun σ' HF hm => ?_⟩
    · refine ⟨.int many, rfl, _, _, rfl, rfl, _, rfl, ?_⟩
      by_cases m0 : 0 < many
      · rw [show decide ((many : Int) > 0) = true from decide_eq_true (by omega)]
        obtain ⟨g, rest, f1, e1⟩ := w1 m0
        rw [f1] at eDE
        refine iteT ⟨.ref D, rfl, D, _, _, .int g, rfl, rfl, sq_at eDE, atI_nat (j := 0) rfl, by show (2 : Nat) ≤ sizeLine; omega, fun dq ndq => ?_⟩
        have t3 := (Kp.new (ps := []) (o := HO.tup [.str (Str.ofString "refused"), .int g]) ndq).same
        exact ⟨dq, rfl, t3, dp_ref (t3 _ _ (sE _ _ e1)) upd_same⟩
      · rw [show decide ((many : Int) > 0) = false from decide_eq_false (by omega)]
        obtain ⟨tq, u, e1, e2, e3⟩ := w0 (by omega)
        exact iteF ⟨wq, rfl, Same.refl _, dp_told (sE _ _ e1) (sE _ _ e2) (sE _ _ e3) ewq ebq2 ebw2⟩
    obtain ⟨dq, rfl, sF, d, d1, d2, d3⟩ := hm
    refine ⟨.ref fq, rfl, .ref dq, rfl, d, d1, d2, d3, _, rfl, iteT ?_⟩
    refine ⟨.ref PA, rfl, .int st, rfl, .str c.w, rfl, PA, PL, st, c, rfl, sq_at (sF _ _ ePAE), lP, vst, fun _ HG gq tq u e1 e2 e3 sG => ?_, fun i g hi hb _ => absurd (gP g (List.mem_of_getElem? hi)) hb⟩
    have sFG := sF.trans sG
    obtain ⟨d, d1, d2, d3⟩ := dp_told (K := K) e1 e2 e3 (sFG _ _ ewq) (sFG _ _ ebq2) (sFG _ _ ebw2)
    exact ⟨.ref wq, rfl, d, d1, d2, d3, q _⟩
end
theorem all_mk {l : PySem.W.OpenLaw} {w : World} {K : PySem.W.Frag} {h : Heap} {mg : Str → Option Value} {fa C_SipError C_NoCode C_NoSign C_BadCode f_iNoCode f_iNoSign f_whole f_chk f_lasts f_swr f_stw f_ww f_tw f_wsigns K_wsigns f_pool f_take f_lcodes f_lstate f_lsign f_lsteps f_lbytes f_strange f_told f_law A_HIGH_MARK : Addr} (X : K.In h) (G : h.Ns mainGlobals mg) (hfa : mg "law" = some (.ref fa))
    {od_iNoCode an_iNoCode : Option Addr} {sl_iNoCode : Array (Option Value)} {oc_iNoCode dc_iNoCode pm_iNoCode cd_iNoCode ct_iNoCode : Value}
    {kV_iNoCode : Value}
    {od_iNoSign an_iNoSign : Option Addr} {sl_iNoSign : Array (Option Value)} {oc_iNoSign dc_iNoSign pm_iNoSign cd_iNoSign ct_iNoSign : Value}
    {kV_iNoSign : Value}
    {od_whole an_whole : Option Addr} {sl_whole : Array (Option Value)} {oc_whole dc_whole pm_whole cd_whole ct_whole : Value}
    {kV_whole : Value}
    {od_chk an_chk : Option Addr} {sl_chk : Array (Option Value)} {oc_chk dc_chk pm_chk cd_chk ct_chk : Value}
    {kV_chk : Value}
    {od_lasts an_lasts : Option Addr} {sl_lasts : Array (Option Value)} {oc_lasts dc_lasts pm_lasts cd_lasts ct_lasts : Value}
    {kV_lasts : Value}
    {od_swr an_swr : Option Addr} {sl_swr : Array (Option Value)} {oc_swr dc_swr pm_swr cd_swr ct_swr : Value}
    {kV_swr : Value}
    {od_stw an_stw : Option Addr} {sl_stw : Array (Option Value)} {oc_stw dc_stw pm_stw cd_stw ct_stw : Value}
    {kV_stw : Value}
    {od_ww an_ww : Option Addr} {sl_ww : Array (Option Value)} {oc_ww dc_ww pm_ww cd_ww ct_ww : Value}
    {kV_ww : Value}
    {od_tw an_tw : Option Addr} {sl_tw : Array (Option Value)} {oc_tw dc_tw pm_tw cd_tw ct_tw : Value}
    {kV_tw : Value}
    {od_wsigns an_wsigns : Option Addr} {sl_wsigns : Array (Option Value)} {oc_wsigns dc_wsigns pm_wsigns cd_wsigns ct_wsigns : Value}
    {kk_wsigns_0 : Tok}
    {od_pool an_pool : Option Addr} {sl_pool : Array (Option Value)} {oc_pool dc_pool pm_pool cd_pool ct_pool : Value}
    {kV_pool : Value}
    {od_take an_take : Option Addr} {sl_take : Array (Option Value)} {oc_take dc_take pm_take cd_take ct_take : Value}
    {kV_take : Value}
    {od_lcodes an_lcodes : Option Addr} {sl_lcodes : Array (Option Value)} {oc_lcodes dc_lcodes pm_lcodes cd_lcodes ct_lcodes : Value}
    {kV_lcodes : Value}
    {od_lstate an_lstate : Option Addr} {sl_lstate : Array (Option Value)} {oc_lstate dc_lstate pm_lstate cd_lstate ct_lstate : Value}
    {kV_lstate : Value}
    {od_lsign an_lsign : Option Addr} {sl_lsign : Array (Option Value)} {oc_lsign dc_lsign pm_lsign cd_lsign ct_lsign : Value}
    {kV_lsign : Value}
    {od_lsteps an_lsteps : Option Addr} {sl_lsteps : Array (Option Value)} {oc_lsteps dc_lsteps pm_lsteps cd_lsteps ct_lsteps : Value}
    {kV_lsteps : Value}
    {od_lbytes an_lbytes : Option Addr} {sl_lbytes : Array (Option Value)} {oc_lbytes dc_lbytes pm_lbytes cd_lbytes ct_lbytes : Value}
    {kV_lbytes : Value}
    {od_strange an_strange : Option Addr} {sl_strange : Array (Option Value)} {oc_strange dc_strange pm_strange cd_strange ct_strange : Value}
    {kV_strange : Value}
    {od_told an_told : Option Addr} {sl_told : Array (Option Value)} {oc_told dc_told pm_told cd_told ct_told : Value}
    {kV_told : Value}
    {od_law an_law : Option Addr} {sl_law : Array (Option Value)} {oc_law dc_law pm_law cd_law ct_law : Value}
    {kV_law : Value}
    {t_PLAIN : Tok}
    {t_STEPS : Tok}
    {t_WIDE : Tok}
    {t_TURN : Tok}
    {t_LOW_FIRST : Tok}
    {t_HIGH_FIRST : Tok}
    {t_TURNING : Tok}
    {tt_HIGH_MARK_0 tt_HIGH_MARK_1 : Tok}
    {ud_HIGH_MARK : Option Addr} {un_HIGH_MARK : Nat} {us_HIGH_MARK : Array (Option Value)}
    (qa_SipError : PySem.W.nsIn K mainGlobals "SipError" = some (some (.ref C_SipError)))
    (qa_NoCode : PySem.W.nsIn K mainGlobals "NoCode" = some (some (.ref C_NoCode)))
    (qa_NoSign : PySem.W.nsIn K mainGlobals "NoSign" = some (some (.ref C_NoSign)))
    (qa_BadCode : PySem.W.nsIn K mainGlobals "BadCode" = some (some (.ref C_BadCode)))
    (sb_SipError : PySem.W.subIn K (.ref C_SipError) (.type "BaseException") = some true)
    (sh_SipError : PySem.W.hasDictIn K C_SipError = true)
    (st_SipError : PySem.W.typeIn K (.ref C_SipError) = some (.type "type"))
    (jc_NoSign : PySem.W.isClsIn K C_NoSign = true)
    (jt_NoSign : PySem.W.typeIn K (.ref C_NoSign) = some (.type "type"))
    (jc_NoCode : PySem.W.isClsIn K C_NoCode = true)
    (jt_NoCode : PySem.W.typeIn K (.ref C_NoCode) = some (.type "type"))
    (jc_BadCode : PySem.W.isClsIn K C_BadCode = true)
    (jt_BadCode : PySem.W.typeIn K (.ref C_BadCode) = some (.type "type"))
    (xo_NoCode : Sip.IsExcObj K C_NoCode C_SipError)
    (sa_NoCode : PySem.W.findIn K (.ref C_NoCode) "__setattr__" = some (some (.builtin "object.__setattr__")))
    (ex_NoCode : PySem.W.subIn K (.ref C_NoCode) (.type "BaseException") = some true)
    (ty_NoCode : PySem.W.typeIn K (.ref C_NoCode) = some (.type "type"))
    (kx_NoCode : PySem.W.keepIn K (.ref C_NoCode) = true)
    (hg_NoCode : PySem.W.findIn K (.ref C_NoCode) "__getattribute__" = some (some (.builtin "BaseException.__getattribute__")))
    (hk_NoCode : PySem.W.findIn K (.ref C_NoCode) "__getattr__" = some none)
    (hd_NoCode : PySem.W.hasDictIn K C_NoCode = true)
    (ha_NoCode : PySem.W.findIn K (.ref C_NoCode) "__class__" = some (some (.builtin "object.__class__")))
    (hn_NoCode : PySem.W.specialIn K (.builtin "object.__class__") "__get__" = some (some (.builtin "getset_descriptor.__get__")))
    (ht_NoCode : PySem.W.takesIn K (.builtin "object.__class__") = some true)
    (hm_NoCode : PySem.W.mroIn K C_NoCode (.type "object") = some true)
    (no_NoCode : PySem.W.findIn K (.ref C_NoCode) "word" = some none)
    (ss_NoCode : PySem.W.subIn K (.ref C_NoCode) (.ref C_SipError) = some true)
    (se_NoCode : PySem.W.subIn K (.ref C_NoCode) (.ref C_NoCode) = some true)
    (sv_NoCode : PySem.W.subIn K (.ref C_NoCode) (.type "ValueError") = some true)
    (su_NoCode_NoSign : PySem.W.subIn K (.ref C_NoCode) (.ref C_NoSign) = some false)
    (su_NoCode_BadCode : PySem.W.subIn K (.ref C_NoCode) (.ref C_BadCode) = some false)
    (xo_NoSign : Sip.IsExcObj K C_NoSign C_SipError)
    (sa_NoSign : PySem.W.findIn K (.ref C_NoSign) "__setattr__" = some (some (.builtin "object.__setattr__")))
    (ex_NoSign : PySem.W.subIn K (.ref C_NoSign) (.type "BaseException") = some true)
    (ty_NoSign : PySem.W.typeIn K (.ref C_NoSign) = some (.type "type"))
    (kx_NoSign : PySem.W.keepIn K (.ref C_NoSign) = true)
    (hg_NoSign : PySem.W.findIn K (.ref C_NoSign) "__getattribute__" = some (some (.builtin "BaseException.__getattribute__")))
    (hk_NoSign : PySem.W.findIn K (.ref C_NoSign) "__getattr__" = some none)
    (hd_NoSign : PySem.W.hasDictIn K C_NoSign = true)
    (ha_NoSign : PySem.W.findIn K (.ref C_NoSign) "__class__" = some (some (.builtin "object.__class__")))
    (hn_NoSign : PySem.W.specialIn K (.builtin "object.__class__") "__get__" = some (some (.builtin "getset_descriptor.__get__")))
    (ht_NoSign : PySem.W.takesIn K (.builtin "object.__class__") = some true)
    (hm_NoSign : PySem.W.mroIn K C_NoSign (.type "object") = some true)
    (no_NoSign : PySem.W.findIn K (.ref C_NoSign) "sign" = some none)
    (ss_NoSign : PySem.W.subIn K (.ref C_NoSign) (.ref C_SipError) = some true)
    (se_NoSign : PySem.W.subIn K (.ref C_NoSign) (.ref C_NoSign) = some true)
    (sv_NoSign : PySem.W.subIn K (.ref C_NoSign) (.type "ValueError") = some true)
    (su_NoSign_NoCode : PySem.W.subIn K (.ref C_NoSign) (.ref C_NoCode) = some false)
    (su_NoSign_BadCode : PySem.W.subIn K (.ref C_NoSign) (.ref C_BadCode) = some false)
    (a_iNoCode : PySem.W.findIn K (.ref C_NoCode) "__init__" = some (some (.ref f_iNoCode)))
    (i_iNoCode : PySem.W.typeIn K (.ref f_iNoCode) = some (.type "function"))
    (l_iNoCode : K.lookup f_iNoCode = some ⟨oc_iNoCode, od_iNoCode, .func (PySem.W.fnOf "__init__" "NoCode.__init__" (defArgs s_iNoCode) (defBody s_iNoCode) (defScope s_iNoCode) .none kV_iNoCode dc_iNoCode pm_iNoCode an_iNoCode cd_iNoCode ct_iNoCode), sl_iNoCode⟩)
    (c_iNoCode : PySem.W.codeIn K cd_iNoCode "NoCode.__init__" = true)
    (k_iNoCode : PySem.W.keepIn K (.ref f_iNoCode) = true)
    (a_iNoSign : PySem.W.findIn K (.ref C_NoSign) "__init__" = some (some (.ref f_iNoSign)))
    (i_iNoSign : PySem.W.typeIn K (.ref f_iNoSign) = some (.type "function"))
    (l_iNoSign : K.lookup f_iNoSign = some ⟨oc_iNoSign, od_iNoSign, .func (PySem.W.fnOf "__init__" "NoSign.__init__" (defArgs s_iNoSign) (defBody s_iNoSign) (defScope s_iNoSign) .none kV_iNoSign dc_iNoSign pm_iNoSign an_iNoSign cd_iNoSign ct_iNoSign), sl_iNoSign⟩)
    (c_iNoSign : PySem.W.codeIn K cd_iNoSign "NoSign.__init__" = true)
    (k_iNoSign : PySem.W.keepIn K (.ref f_iNoSign) = true)
    (a_whole : PySem.W.nsIn K mainGlobals "is_whole" = some (some (.ref f_whole)))
    (l_whole : K.lookup f_whole = some ⟨oc_whole, od_whole, .func (PySem.W.fnOf "is_whole" "is_whole" (defArgs s_whole) (defBody s_whole) (defScope s_whole) .none kV_whole dc_whole pm_whole an_whole cd_whole ct_whole), sl_whole⟩)
    (c_whole : PySem.W.codeIn K cd_whole "is_whole" = true)
    (k_whole : PySem.W.keepIn K (.ref f_whole) = true)
    (a_chk : PySem.W.nsIn K mainGlobals "check_code" = some (some (.ref f_chk)))
    (l_chk : K.lookup f_chk = some ⟨oc_chk, od_chk, .func (PySem.W.fnOf "check_code" "check_code" (defArgs s_chk) (defBody s_chk) (defScope s_chk) .none kV_chk dc_chk pm_chk an_chk cd_chk ct_chk), sl_chk⟩)
    (c_chk : PySem.W.codeIn K cd_chk "check_code" = true)
    (k_chk : PySem.W.keepIn K (.ref f_chk) = true)
    (a_lasts : PySem.W.nsIn K mainGlobals "last_sign" = some (some (.ref f_lasts)))
    (l_lasts : K.lookup f_lasts = some ⟨oc_lasts, od_lasts, .func (PySem.W.fnOf "last_sign" "last_sign" (defArgs s_lasts) (defBody s_lasts) (defScope s_lasts) .none kV_lasts dc_lasts pm_lasts an_lasts cd_lasts ct_lasts), sl_lasts⟩)
    (c_lasts : PySem.W.codeIn K cd_lasts "last_sign" = true)
    (k_lasts : PySem.W.keepIn K (.ref f_lasts) = true)
    (a_swr : PySem.W.nsIn K mainGlobals "sign_writing" = some (some (.ref f_swr)))
    (l_swr : K.lookup f_swr = some ⟨oc_swr, od_swr, .func (PySem.W.fnOf "sign_writing" "sign_writing" (defArgs s_swr) (defBody s_swr) (defScope s_swr) .none kV_swr dc_swr pm_swr an_swr cd_swr ct_swr), sl_swr⟩)
    (c_swr : PySem.W.codeIn K cd_swr "sign_writing" = true)
    (k_swr : PySem.W.keepIn K (.ref f_swr) = true)
    (a_stw : PySem.W.nsIn K mainGlobals "steps_writing" = some (some (.ref f_stw)))
    (l_stw : K.lookup f_stw = some ⟨oc_stw, od_stw, .func (PySem.W.fnOf "steps_writing" "steps_writing" (defArgs s_stw) (defBody s_stw) (defScope s_stw) .none kV_stw dc_stw pm_stw an_stw cd_stw ct_stw), sl_stw⟩)
    (c_stw : PySem.W.codeIn K cd_stw "steps_writing" = true)
    (k_stw : PySem.W.keepIn K (.ref f_stw) = true)
    (a_ww : PySem.W.nsIn K mainGlobals "wide_writing" = some (some (.ref f_ww)))
    (l_ww : K.lookup f_ww = some ⟨oc_ww, od_ww, .func (PySem.W.fnOf "wide_writing" "wide_writing" (defArgs s_ww) (defBody s_ww) (defScope s_ww) .none kV_ww dc_ww pm_ww an_ww cd_ww ct_ww), sl_ww⟩)
    (c_ww : PySem.W.codeIn K cd_ww "wide_writing" = true)
    (k_ww : PySem.W.keepIn K (.ref f_ww) = true)
    (a_tw : PySem.W.nsIn K mainGlobals "turn_writing" = some (some (.ref f_tw)))
    (l_tw : K.lookup f_tw = some ⟨oc_tw, od_tw, .func (PySem.W.fnOf "turn_writing" "turn_writing" (defArgs s_tw) (defBody s_tw) (defScope s_tw) .none kV_tw dc_tw pm_tw an_tw cd_tw ct_tw), sl_tw⟩)
    (c_tw : PySem.W.codeIn K cd_tw "turn_writing" = true)
    (k_tw : PySem.W.keepIn K (.ref f_tw) = true)
    (a_wsigns : PySem.W.nsIn K mainGlobals "write_signs" = some (some (.ref f_wsigns)))
    (l_wsigns : K.lookup f_wsigns = some ⟨oc_wsigns, od_wsigns, .func (PySem.W.fnOf "write_signs" "write_signs" (defArgs s_wsigns) (defBody s_wsigns) (defScope s_wsigns) .none (.ref K_wsigns) dc_wsigns pm_wsigns an_wsigns cd_wsigns ct_wsigns), sl_wsigns⟩)
    (c_wsigns : PySem.W.codeIn K cd_wsigns "write_signs" = true)
    (k_wsigns : PySem.W.keepIn K (.ref f_wsigns) = true)
    (w_wsigns_0 : PySem.W.nsIn K K_wsigns "code" = some (some (.str (Str.ofString "steps") kk_wsigns_0)))
    (a_pool : PySem.W.nsIn K mainGlobals "_law_pool" = some (some (.ref f_pool)))
    (l_pool : K.lookup f_pool = some ⟨oc_pool, od_pool, .func (PySem.W.fnOf "_law_pool" "_law_pool" (defArgs s_pool) (defBody s_pool) (defScope s_pool) .none kV_pool dc_pool pm_pool an_pool cd_pool ct_pool), sl_pool⟩)
    (c_pool : PySem.W.codeIn K cd_pool "_law_pool" = true)
    (k_pool : PySem.W.keepIn K (.ref f_pool) = true)
    (a_take : PySem.W.nsIn K mainGlobals "_law_take" = some (some (.ref f_take)))
    (l_take : K.lookup f_take = some ⟨oc_take, od_take, .func (PySem.W.fnOf "_law_take" "_law_take" (defArgs s_take) (defBody s_take) (defScope s_take) .none kV_take dc_take pm_take an_take cd_take ct_take), sl_take⟩)
    (c_take : PySem.W.codeIn K cd_take "_law_take" = true)
    (k_take : PySem.W.keepIn K (.ref f_take) = true)
    (a_lcodes : PySem.W.nsIn K mainGlobals "_law_codes" = some (some (.ref f_lcodes)))
    (l_lcodes : K.lookup f_lcodes = some ⟨oc_lcodes, od_lcodes, .func (PySem.W.fnOf "_law_codes" "_law_codes" (defArgs s_lcodes) (defBody s_lcodes) (defScope s_lcodes) .none kV_lcodes dc_lcodes pm_lcodes an_lcodes cd_lcodes ct_lcodes), sl_lcodes⟩)
    (c_lcodes : PySem.W.codeIn K cd_lcodes "_law_codes" = true)
    (k_lcodes : PySem.W.keepIn K (.ref f_lcodes) = true)
    (a_lstate : PySem.W.nsIn K mainGlobals "_law_state" = some (some (.ref f_lstate)))
    (l_lstate : K.lookup f_lstate = some ⟨oc_lstate, od_lstate, .func (PySem.W.fnOf "_law_state" "_law_state" (defArgs s_lstate) (defBody s_lstate) (defScope s_lstate) .none kV_lstate dc_lstate pm_lstate an_lstate cd_lstate ct_lstate), sl_lstate⟩)
    (c_lstate : PySem.W.codeIn K cd_lstate "_law_state" = true)
    (k_lstate : PySem.W.keepIn K (.ref f_lstate) = true)
    (a_lsign : PySem.W.nsIn K mainGlobals "_law_sign" = some (some (.ref f_lsign)))
    (l_lsign : K.lookup f_lsign = some ⟨oc_lsign, od_lsign, .func (PySem.W.fnOf "_law_sign" "_law_sign" (defArgs s_lsign) (defBody s_lsign) (defScope s_lsign) .none kV_lsign dc_lsign pm_lsign an_lsign cd_lsign ct_lsign), sl_lsign⟩)
    (c_lsign : PySem.W.codeIn K cd_lsign "_law_sign" = true)
    (k_lsign : PySem.W.keepIn K (.ref f_lsign) = true)
    (a_lsteps : PySem.W.nsIn K mainGlobals "_law_steps" = some (some (.ref f_lsteps)))
    (l_lsteps : K.lookup f_lsteps = some ⟨oc_lsteps, od_lsteps, .func (PySem.W.fnOf "_law_steps" "_law_steps" (defArgs s_lsteps) (defBody s_lsteps) (defScope s_lsteps) .none kV_lsteps dc_lsteps pm_lsteps an_lsteps cd_lsteps ct_lsteps), sl_lsteps⟩)
    (c_lsteps : PySem.W.codeIn K cd_lsteps "_law_steps" = true)
    (k_lsteps : PySem.W.keepIn K (.ref f_lsteps) = true)
    (a_lbytes : PySem.W.nsIn K mainGlobals "_law_bytes" = some (some (.ref f_lbytes)))
    (l_lbytes : K.lookup f_lbytes = some ⟨oc_lbytes, od_lbytes, .func (PySem.W.fnOf "_law_bytes" "_law_bytes" (defArgs s_lbytes) (defBody s_lbytes) (defScope s_lbytes) .none kV_lbytes dc_lbytes pm_lbytes an_lbytes cd_lbytes ct_lbytes), sl_lbytes⟩)
    (c_lbytes : PySem.W.codeIn K cd_lbytes "_law_bytes" = true)
    (k_lbytes : PySem.W.keepIn K (.ref f_lbytes) = true)
    (a_strange : PySem.W.nsIn K mainGlobals "_law_strange" = some (some (.ref f_strange)))
    (l_strange : K.lookup f_strange = some ⟨oc_strange, od_strange, .func (PySem.W.fnOf "_law_strange" "_law_strange" (defArgs s_strange) (defBody s_strange) (defScope s_strange) .none kV_strange dc_strange pm_strange an_strange cd_strange ct_strange), sl_strange⟩)
    (c_strange : PySem.W.codeIn K cd_strange "_law_strange" = true)
    (k_strange : PySem.W.keepIn K (.ref f_strange) = true)
    (a_told : PySem.W.nsIn K mainGlobals "_law_told" = some (some (.ref f_told)))
    (l_told : K.lookup f_told = some ⟨oc_told, od_told, .func (PySem.W.fnOf "_law_told" "_law_told" (defArgs s_told) (defBody s_told) (defScope s_told) .none kV_told dc_told pm_told an_told cd_told ct_told), sl_told⟩)
    (c_told : PySem.W.codeIn K cd_told "_law_told" = true)
    (k_told : PySem.W.keepIn K (.ref f_told) = true)
    (a_law : PySem.W.nsIn K mainGlobals "law" = some (some (.ref f_law)))
    (l_law : K.lookup f_law = some ⟨oc_law, od_law, .func (PySem.W.fnOf "law" "law" (defArgs s_law) (defBody s_law) (defScope s_law) .none kV_law dc_law pm_law an_law cd_law ct_law), sl_law⟩)
    (c_law : PySem.W.codeIn K cd_law "law" = true)
    (k_law : PySem.W.keepIn K (.ref f_law) = true)
    (v_PLAIN : PySem.W.nsIn K mainGlobals "PLAIN" = some (some (.str (Str.ofString "plain") t_PLAIN)))
    (v_STEPS : PySem.W.nsIn K mainGlobals "STEPS" = some (some (.str (Str.ofString "steps") t_STEPS)))
    (v_WIDE : PySem.W.nsIn K mainGlobals "WIDE" = some (some (.str (Str.ofString "wide") t_WIDE)))
    (v_TURN : PySem.W.nsIn K mainGlobals "TURN" = some (some (.str (Str.ofString "turn") t_TURN)))
    (v_LOW_FIRST : PySem.W.nsIn K mainGlobals "LOW_FIRST" = some (some (.int 1 t_LOW_FIRST)))
    (v_HIGH_FIRST : PySem.W.nsIn K mainGlobals "HIGH_FIRST" = some (some (.int 2 t_HIGH_FIRST)))
    (v_TURNING : PySem.W.nsIn K mainGlobals "TURNING" = some (some (.int 128 t_TURNING)))
    (v_HIGH_MARK : PySem.W.nsIn K mainGlobals "HIGH_MARK" = some (some (.ref A_HIGH_MARK)))
    (lt_HIGH_MARK : K.lookup A_HIGH_MARK = some ⟨.type "tuple", ud_HIGH_MARK, .seq #[.int 254 tt_HIGH_MARK_0, .int 255 tt_HIGH_MARK_1] un_HIGH_MARK, us_HIGH_MARK⟩)
    (z_list : PySem.W.nsIn K mainGlobals "list" = some none)
    (z_len : PySem.W.nsIn K mainGlobals "len" = some none)
    (z_range : PySem.W.nsIn K mainGlobals "range" = some none)
    (z_int : PySem.W.nsIn K mainGlobals "int" = some none)
    (z_tuple : PySem.W.nsIn K mainGlobals "tuple" = some none)
    (z_bool : PySem.W.nsIn K mainGlobals "bool" = some none)
    (z_isinstance : PySem.W.nsIn K mainGlobals "isinstance" = some none)
    (z_ValueError : PySem.W.nsIn K mainGlobals "ValueError" = some none) :
    ∃ fd : FuncData, (∀ (s : Shared) (v : Value), BindsTo s fd ⟨[v], []⟩ [("_law_script", v)]) ∧ ∀ base : Heap, K.In base → base.Ns mainGlobals mg → FnOk l.prog w K mg base CX0 7 fa fd ["_law_script"] (spLaw K) := by
  have e := hfa.symm.trans (PySem.W.mg_of X G a_law)
  cases e
  have F_iNoCode := funA_mk (st := s_iNoCode) l_iNoCode c_iNoCode k_iNoCode
  have F_iNoSign := funA_mk (st := s_iNoSign) l_iNoSign c_iNoSign k_iNoSign
  have F_whole := funA_mk (st := s_whole) l_whole c_whole k_whole
  have F_chk := funA_mk (st := s_chk) l_chk c_chk k_chk
  have F_lasts := funA_mk (st := s_lasts) l_lasts c_lasts k_lasts
  have F_swr := funA_mk (st := s_swr) l_swr c_swr k_swr
  have F_stw := funA_mk (st := s_stw) l_stw c_stw k_stw
  have F_ww := funA_mk (st := s_ww) l_ww c_ww k_ww
  have F_tw := funA_mk (st := s_tw) l_tw c_tw k_tw
  have F_wsigns := funA_mk (st := s_wsigns) l_wsigns c_wsigns k_wsigns
  have F_pool := funA_mk (st := s_pool) l_pool c_pool k_pool
  have F_take := funA_mk (st := s_take) l_take c_take k_take
  have F_lcodes := funA_mk (st := s_lcodes) l_lcodes c_lcodes k_lcodes
  have F_lstate := funA_mk (st := s_lstate) l_lstate c_lstate k_lstate
  have F_lsign := funA_mk (st := s_lsign) l_lsign c_lsign k_lsign
  have F_lsteps := funA_mk (st := s_lsteps) l_lsteps c_lsteps k_lsteps
  have F_lbytes := funA_mk (st := s_lbytes) l_lbytes c_lbytes k_lbytes
  have F_strange := funA_mk (st := s_strange) l_strange c_strange k_strange
  have F_told := funA_mk (st := s_told) l_told c_told k_told
  have F_law := funA_mk (st := s_law) l_law c_law k_law
  have q_HIGH_MARK : ∀ H : Hp, SqT K H A_HIGH_MARK [.int 254, .int 255] := fun _ => .inr ⟨_, _, _, lt_HIGH_MARK, rfl, rfl, (show (2 : Nat) ≤ sizeLine by rw [sizeLine_eq]; decide), (.cons ⟨tt_HIGH_MARK_0, rfl⟩ (.cons ⟨tt_HIGH_MARK_1, rfl⟩ .nil))⟩
  have KW_wsigns : KwdV K (.ref K_wsigns) ([("code", .str (Str.ofString "steps"))] : List (Str × V)) := by
    refine .inr ⟨K_wsigns, rfl, fun q hq => ?_⟩
    simp only [List.mem_cons, List.mem_nil_iff, or_false] at hq
    rcases hq with rfl
    · exact ⟨_, w_wsigns_0, ⟨kk_wsigns_0, rfl⟩⟩
  have FD_wsigns : FunD K "write_signs" "write_signs" (defArgs s_wsigns) (defBody s_wsigns) (defScope s_wsigns) ([] : List V) ([("code", .str (Str.ofString "steps"))] : List (Str × V)) f_wsigns (PySem.W.fnOf "write_signs" "write_signs" (defArgs s_wsigns) (defBody s_wsigns) (defScope s_wsigns) .none (.ref K_wsigns) dc_wsigns pm_wsigns an_wsigns cd_wsigns ct_wsigns) := ⟨⟨_, _, _, _, _, _, _, _, _, _, rfl, l_wsigns, c_wsigns, .inl ⟨rfl, rfl⟩, KW_wsigns⟩, k_wsigns⟩
  have bb_chk : Binds K (PySem.W.fnOf "check_code" "check_code" (defArgs s_chk) (defBody s_chk) (defScope s_chk) .none kV_chk dc_chk pm_chk an_chk cd_chk ct_chk) P_chk [] := .all fun us hl => match us, hl with | [_], _ => rfl
  have bb_iNoCode : Binds K (PySem.W.fnOf "__init__" "NoCode.__init__" (defArgs s_iNoCode) (defBody s_iNoCode) (defScope s_iNoCode) .none kV_iNoCode dc_iNoCode pm_iNoCode an_iNoCode cd_iNoCode ct_iNoCode) P_iNoCode [] := .all fun us hl => match us, hl with | [_, _], _ => rfl
  have bb_iNoSign : Binds K (PySem.W.fnOf "__init__" "NoSign.__init__" (defArgs s_iNoSign) (defBody s_iNoSign) (defScope s_iNoSign) .none kV_iNoSign dc_iNoSign pm_iNoSign an_iNoSign cd_iNoSign ct_iNoSign) P_iNoSign [] := .all fun us hl => match us, hl with | [_, _], _ => rfl
  have bb_lasts : Binds K (PySem.W.fnOf "last_sign" "last_sign" (defArgs s_lasts) (defBody s_lasts) (defScope s_lasts) .none kV_lasts dc_lasts pm_lasts an_lasts cd_lasts ct_lasts) P_lasts [] := .all fun us hl => match us, hl with | [_], _ => rfl
  have bb_lbytes : Binds K (PySem.W.fnOf "_law_bytes" "_law_bytes" (defArgs s_lbytes) (defBody s_lbytes) (defScope s_lbytes) .none kV_lbytes dc_lbytes pm_lbytes an_lbytes cd_lbytes ct_lbytes) P_lbytes [] := .all fun us hl => match us, hl with | [_, _, _], _ => rfl
  have bb_lcodes : Binds K (PySem.W.fnOf "_law_codes" "_law_codes" (defArgs s_lcodes) (defBody s_lcodes) (defScope s_lcodes) .none kV_lcodes dc_lcodes pm_lcodes an_lcodes cd_lcodes ct_lcodes) P_lcodes [] := .all fun us hl => match us, hl with | [], _ => rfl
  have bb_lsign : Binds K (PySem.W.fnOf "_law_sign" "_law_sign" (defArgs s_lsign) (defBody s_lsign) (defScope s_lsign) .none kV_lsign dc_lsign pm_lsign an_lsign cd_lsign ct_lsign) P_lsign [] := .all fun us hl => match us, hl with | [_, _], _ => rfl
  have bb_lstate : Binds K (PySem.W.fnOf "_law_state" "_law_state" (defArgs s_lstate) (defBody s_lstate) (defScope s_lstate) .none kV_lstate dc_lstate pm_lstate an_lstate cd_lstate ct_lstate) P_lstate [] := .all fun us hl => match us, hl with | [_, _], _ => rfl
  have bb_lsteps : Binds K (PySem.W.fnOf "_law_steps" "_law_steps" (defArgs s_lsteps) (defBody s_lsteps) (defScope s_lsteps) .none kV_lsteps dc_lsteps pm_lsteps an_lsteps cd_lsteps ct_lsteps) P_lsteps [] := .all fun us hl => match us, hl with | [_], _ => rfl
  have bb_pool : Binds K (PySem.W.fnOf "_law_pool" "_law_pool" (defArgs s_pool) (defBody s_pool) (defScope s_pool) .none kV_pool dc_pool pm_pool an_pool cd_pool ct_pool) P_pool [] := .all fun us hl => match us, hl with | [_, _], _ => rfl
  have bb_strange : Binds K (PySem.W.fnOf "_law_strange" "_law_strange" (defArgs s_strange) (defBody s_strange) (defScope s_strange) .none kV_strange dc_strange pm_strange an_strange cd_strange ct_strange) P_strange [] := .all fun us hl => match us, hl with | [_, _], _ => rfl
  have bb_stw : Binds K (PySem.W.fnOf "steps_writing" "steps_writing" (defArgs s_stw) (defBody s_stw) (defScope s_stw) .none kV_stw dc_stw pm_stw an_stw cd_stw ct_stw) P_stw [] := .all fun us hl => match us, hl with | [_], _ => rfl
  have bb_swr : Binds K (PySem.W.fnOf "sign_writing" "sign_writing" (defArgs s_swr) (defBody s_swr) (defScope s_swr) .none kV_swr dc_swr pm_swr an_swr cd_swr ct_swr) P_swr [] := .all fun us hl => match us, hl with | [_, _, _], _ => rfl
  have bb_take : Binds K (PySem.W.fnOf "_law_take" "_law_take" (defArgs s_take) (defBody s_take) (defScope s_take) .none kV_take dc_take pm_take an_take cd_take ct_take) P_take [] := .all fun us hl => match us, hl with | [_, _], _ => rfl
  have bb_told : Binds K (PySem.W.fnOf "_law_told" "_law_told" (defArgs s_told) (defBody s_told) (defScope s_told) .none kV_told dc_told pm_told an_told cd_told ct_told) P_told [] := .all fun us hl => match us, hl with | [_, _, _], _ => rfl
  have bb_tw : Binds K (PySem.W.fnOf "turn_writing" "turn_writing" (defArgs s_tw) (defBody s_tw) (defScope s_tw) .none kV_tw dc_tw pm_tw an_tw cd_tw ct_tw) P_tw [] := .all fun us hl => match us, hl with | [_, _], _ => rfl
  have bb_whole : Binds K (PySem.W.fnOf "is_whole" "is_whole" (defArgs s_whole) (defBody s_whole) (defScope s_whole) .none kV_whole dc_whole pm_whole an_whole cd_whole ct_whole) P_whole [] := .all fun us hl => match us, hl with | [_], _ => rfl
  have bb_ww : Binds K (PySem.W.fnOf "wide_writing" "wide_writing" (defArgs s_ww) (defBody s_ww) (defScope s_ww) .none kV_ww dc_ww pm_ww an_ww cd_ww ct_ww) P_ww [] := .all fun us hl => match us, hl with | [_, _], _ => rfl
  have kb_wsigns_2_code : KBn K (PySem.W.fnOf "write_signs" "write_signs" (defArgs s_wsigns) (defBody s_wsigns) (defScope s_wsigns) .none (.ref K_wsigns) dc_wsigns pm_wsigns an_wsigns cd_wsigns ct_wsigns) P_wsigns 2 ["code"] (fun us ws => us ++ ws) (fun vs zs => vs ++ zs) := ⟨fun s us ws X l1 l2 => .of_eq (match us, ws, l1, l2 with | [_, _], [_], _, _ => rfl), fun r1 r2 => Vals.append r1 r2⟩
  let T : Tx K mg := ⟨C_SipError, C_NoCode, C_NoSign, C_BadCode, f_iNoCode, _, F_iNoCode, f_iNoSign, _, F_iNoSign, f_whole, _, ⟨F_whole, PySem.W.mg_of X G a_whole⟩, f_chk, _, ⟨F_chk, PySem.W.mg_of X G a_chk⟩, f_lasts, _, ⟨F_lasts, PySem.W.mg_of X G a_lasts⟩, f_swr, _, ⟨F_swr, PySem.W.mg_of X G a_swr⟩, f_stw, _, ⟨F_stw, PySem.W.mg_of X G a_stw⟩, f_ww, _, ⟨F_ww, PySem.W.mg_of X G a_ww⟩, f_tw, _, ⟨F_tw, PySem.W.mg_of X G a_tw⟩, f_wsigns, _, ⟨F_wsigns, PySem.W.mg_of X G a_wsigns⟩, f_pool, _, ⟨F_pool, PySem.W.mg_of X G a_pool⟩, f_take, _, ⟨F_take, PySem.W.mg_of X G a_take⟩, f_lcodes, _, ⟨F_lcodes, PySem.W.mg_of X G a_lcodes⟩, f_lstate, _, ⟨F_lstate, PySem.W.mg_of X G a_lstate⟩, f_lsign, _, ⟨F_lsign, PySem.W.mg_of X G a_lsign⟩, f_lsteps, _, ⟨F_lsteps, PySem.W.mg_of X G a_lsteps⟩, f_lbytes, _, ⟨F_lbytes, PySem.W.mg_of X G a_lbytes⟩, f_strange, _, ⟨F_strange, PySem.W.mg_of X G a_strange⟩, f_told, _, ⟨F_told, PySem.W.mg_of X G a_told⟩, fa, _, ⟨F_law, PySem.W.mg_of X G a_law⟩, PySem.W.mg_of X G qa_SipError, PySem.W.mg_of X G qa_NoCode, PySem.W.mg_of X G qa_NoSign, PySem.W.mg_of X G qa_BadCode, ⟨xo_NoCode, sa_NoCode, ex_NoCode, ty_NoCode, kx_NoCode⟩, ⟨hg_NoCode, hk_NoCode, ex_NoCode, hd_NoCode, ha_NoCode, hn_NoCode, ht_NoCode, hm_NoCode⟩, no_NoCode, a_iNoCode, i_iNoCode, PySem.W.exm_ref sb_SipError sh_SipError st_SipError ss_NoCode, Sip.kit_bltn (by decide +kernel) sv_NoCode, Sip.kit_ownF jc_NoSign jt_NoSign se_NoCode su_NoCode_NoSign, Sip.kit_own jc_NoCode jt_NoCode se_NoCode, Sip.kit_ownF jc_BadCode jt_BadCode se_NoCode su_NoCode_BadCode, ⟨xo_NoSign, sa_NoSign, ex_NoSign, ty_NoSign, kx_NoSign⟩, ⟨hg_NoSign, hk_NoSign, ex_NoSign, hd_NoSign, ha_NoSign, hn_NoSign, ht_NoSign, hm_NoSign⟩, no_NoSign, a_iNoSign, i_iNoSign, PySem.W.exm_ref sb_SipError sh_SipError st_SipError ss_NoSign, Sip.kit_bltn (by decide +kernel) sv_NoSign, Sip.kit_own jc_NoSign jt_NoSign se_NoSign, Sip.kit_ownF jc_NoCode jt_NoCode se_NoSign su_NoSign_NoCode, Sip.kit_ownF jc_BadCode jt_BadCode se_NoSign su_NoSign_BadCode, bb_chk, bb_iNoCode, bb_iNoSign, bb_lasts, bb_lbytes, bb_lcodes, bb_lsign, bb_lstate, bb_lsteps, bb_pool, bb_strange, bb_stw, bb_swr, bb_take, bb_told, bb_tw, bb_whole, bb_ww, kb_wsigns_2_code, t_PLAIN, PySem.W.mg_of X G v_PLAIN, t_STEPS, PySem.W.mg_of X G v_STEPS, t_WIDE, PySem.W.mg_of X G v_WIDE, t_TURN, PySem.W.mg_of X G v_TURN, t_LOW_FIRST, PySem.W.mg_of X G v_LOW_FIRST, t_HIGH_FIRST, PySem.W.mg_of X G v_HIGH_FIRST, t_TURNING, PySem.W.mg_of X G v_TURNING, A_HIGH_MARK, PySem.W.mg_of X G v_HIGH_MARK, q_HIGH_MARK, PySem.W.mg_none_of X G z_list, PySem.W.mg_none_of X G z_len, PySem.W.mg_none_of X G z_range, PySem.W.mg_none_of X G z_int, PySem.W.mg_none_of X G z_tuple, PySem.W.mg_none_of X G z_bool, PySem.W.mg_none_of X G z_isinstance, PySem.W.mg_none_of X G z_ValueError⟩
  exact ⟨_, fun s v => .of_eq rfl, fun base _ _ => ok_law T⟩
end Sip
open PySem PySem.W PyProof.Rows
set_option maxHeartbeats 0 in
theorem PySem.Challenge.cw_sipstack_k47_no_sign_holds : PySem.Challenge.rw_sipstack_k47_no_sign.Holds := by
  w_on; o_law; k_head; (case hw => w_witness2)
  k_fill
  refine L2.walk_of (l := PySem.Challenge.rw_sipstack_k47_no_sign) (n := 63) (k := 7) (x := "_law_script") (CX := fun _ => L2.CX0) (sp := fun w => Sip.spLaw _) rfl (by decide) rfl ⟨rfl, by decide, by decide⟩ (fun w h Y => PySem.W.kIn_of Y) ?F (fun _ _ a ns hl _ hS => ⟨a, ns, rfl, hS, hl, fun _ => rfl⟩) (fun _ _ _ _ _ h => h)
  case F =>
    intro w mg fa h KX G hmg
    refine' Sip.all_mk KX G hmg ?qa_SipError ?qa_NoCode ?qa_NoSign ?qa_BadCode ?sb_SipError ?sh_SipError ?st_SipError ?jc_NoSign ?jt_NoSign ?jc_NoCode ?jt_NoCode ?jc_BadCode ?jt_BadCode ?xo_NoCode ?sa_NoCode ?ex_NoCode ?ty_NoCode ?kx_NoCode ?hg_NoCode ?hk_NoCode ?hd_NoCode ?ha_NoCode ?hn_NoCode ?ht_NoCode ?hm_NoCode ?no_NoCode ?ss_NoCode ?se_NoCode ?sv_NoCode ?su_NoCode_NoSign ?su_NoCode_BadCode ?xo_NoSign ?sa_NoSign ?ex_NoSign ?ty_NoSign ?kx_NoSign ?hg_NoSign ?hk_NoSign ?hd_NoSign ?ha_NoSign ?hn_NoSign ?ht_NoSign ?hm_NoSign ?no_NoSign ?ss_NoSign ?se_NoSign ?sv_NoSign ?su_NoSign_NoCode ?su_NoSign_BadCode ?a_iNoCode ?i_iNoCode ?l_iNoCode ?c_iNoCode ?k_iNoCode ?a_iNoSign ?i_iNoSign ?l_iNoSign ?c_iNoSign ?k_iNoSign ?a_whole ?l_whole ?c_whole ?k_whole ?a_chk ?l_chk ?c_chk ?k_chk ?a_lasts ?l_lasts ?c_lasts ?k_lasts ?a_swr ?l_swr ?c_swr ?k_swr ?a_stw ?l_stw ?c_stw ?k_stw ?a_ww ?l_ww ?c_ww ?k_ww ?a_tw ?l_tw ?c_tw ?k_tw ?a_wsigns ?l_wsigns ?c_wsigns ?k_wsigns ?w_wsigns_0 ?a_pool ?l_pool ?c_pool ?k_pool ?a_take ?l_take ?c_take ?k_take ?a_lcodes ?l_lcodes ?c_lcodes ?k_lcodes ?a_lstate ?l_lstate ?c_lstate ?k_lstate ?a_lsign ?l_lsign ?c_lsign ?k_lsign ?a_lsteps ?l_lsteps ?c_lsteps ?k_lsteps ?a_lbytes ?l_lbytes ?c_lbytes ?k_lbytes ?a_strange ?l_strange ?c_strange ?k_strange ?a_told ?l_told ?c_told ?k_told ?a_law ?l_law ?c_law ?k_law ?v_PLAIN ?v_STEPS ?v_WIDE ?v_TURN ?v_LOW_FIRST ?v_HIGH_FIRST ?v_TURNING ?v_HIGH_MARK ?lt_HIGH_MARK ?z_list ?z_len ?z_range ?z_int ?z_tuple ?z_bool ?z_isinstance ?z_ValueError
    (case qa_SipError => k_is)
    (case qa_NoCode => k_is)
    (case qa_NoSign => k_is)
    (case qa_BadCode => k_is)
    (case sb_SipError => k_is)
    (case sh_SipError => k_is)
    (case st_SipError => k_is)
    (case jc_NoSign => k_is)
    (case jt_NoSign => k_is)
    (case jc_NoCode => k_is)
    (case jt_NoCode => k_is)
    (case jc_BadCode => k_is)
    (case jt_BadCode => k_is)
    (case xo_NoCode => exact ⟨_, _, _, _, _, _, _, _, _, _, _, _, _, _, _, (by k_is), (by decide +kernel)⟩)
    (case sa_NoCode => k_is)
    (case ex_NoCode => k_is)
    (case ty_NoCode => k_is)
    (case kx_NoCode => k_is)
    (case hg_NoCode => k_is)
    (case hk_NoCode => k_is)
    (case hd_NoCode => k_is)
    (case ha_NoCode => k_is)
    (case hn_NoCode => k_is)
    (case ht_NoCode => k_is)
    (case hm_NoCode => k_is)
    (case no_NoCode => k_is)
    (case ss_NoCode => k_is)
    (case se_NoCode => k_is)
    (case sv_NoCode => k_is)
    (case su_NoCode_NoSign => k_is)
    (case su_NoCode_BadCode => k_is)
    (case xo_NoSign => exact ⟨_, _, _, _, _, _, _, _, _, _, _, _, _, _, _, (by k_is), (by decide +kernel)⟩)
    (case sa_NoSign => k_is)
    (case ex_NoSign => k_is)
    (case ty_NoSign => k_is)
    (case kx_NoSign => k_is)
    (case hg_NoSign => k_is)
    (case hk_NoSign => k_is)
    (case hd_NoSign => k_is)
    (case ha_NoSign => k_is)
    (case hn_NoSign => k_is)
    (case ht_NoSign => k_is)
    (case hm_NoSign => k_is)
    (case no_NoSign => k_is)
    (case ss_NoSign => k_is)
    (case se_NoSign => k_is)
    (case sv_NoSign => k_is)
    (case su_NoSign_NoCode => k_is)
    (case su_NoSign_BadCode => k_is)
    (case a_iNoCode => k_is)
    (case i_iNoCode => k_is)
    (case l_iNoCode => k_is)
    (case c_iNoCode => k_is)
    (case k_iNoCode => k_is)
    (case a_iNoSign => k_is)
    (case i_iNoSign => k_is)
    (case l_iNoSign => k_is)
    (case c_iNoSign => k_is)
    (case k_iNoSign => k_is)
    (case a_whole => k_is)
    (case l_whole => k_is)
    (case c_whole => k_is)
    (case k_whole => k_is)
    (case a_chk => k_is)
    (case l_chk => k_is)
    (case c_chk => k_is)
    (case k_chk => k_is)
    (case a_lasts => k_is)
    (case l_lasts => k_is)
    (case c_lasts => k_is)
    (case k_lasts => k_is)
    (case a_swr => k_is)
    (case l_swr => k_is)
    (case c_swr => k_is)
    (case k_swr => k_is)
    (case a_stw => k_is)
    (case l_stw => k_is)
    (case c_stw => k_is)
    (case k_stw => k_is)
    (case a_ww => k_is)
    (case l_ww => k_is)
    (case c_ww => k_is)
    (case k_ww => k_is)
    (case a_tw => k_is)
    (case l_tw => k_is)
    (case c_tw => k_is)
    (case k_tw => k_is)
    (case a_wsigns => k_is)
    (case l_wsigns => k_is)
    (case c_wsigns => k_is)
    (case k_wsigns => k_is)
    (case w_wsigns_0 => k_is)
    (case a_pool => k_is)
    (case l_pool => k_is)
    (case c_pool => k_is)
    (case k_pool => k_is)
    (case a_take => k_is)
    (case l_take => k_is)
    (case c_take => k_is)
    (case k_take => k_is)
    (case a_lcodes => k_is)
    (case l_lcodes => k_is)
    (case c_lcodes => k_is)
    (case k_lcodes => k_is)
    (case a_lstate => k_is)
    (case l_lstate => k_is)
    (case c_lstate => k_is)
    (case k_lstate => k_is)
    (case a_lsign => k_is)
    (case l_lsign => k_is)
    (case c_lsign => k_is)
    (case k_lsign => k_is)
    (case a_lsteps => k_is)
    (case l_lsteps => k_is)
    (case c_lsteps => k_is)
    (case k_lsteps => k_is)
    (case a_lbytes => k_is)
    (case l_lbytes => k_is)
    (case c_lbytes => k_is)
    (case k_lbytes => k_is)
    (case a_strange => k_is)
    (case l_strange => k_is)
    (case c_strange => k_is)
    (case k_strange => k_is)
    (case a_told => k_is)
    (case l_told => k_is)
    (case c_told => k_is)
    (case k_told => k_is)
    (case a_law => k_is)
    (case l_law => k_is)
    (case c_law => k_is)
    (case k_law => k_is)
    (case v_PLAIN => k_is)
    (case v_STEPS => k_is)
    (case v_WIDE => k_is)
    (case v_TURN => k_is)
    (case v_LOW_FIRST => k_is)
    (case v_HIGH_FIRST => k_is)
    (case v_TURNING => k_is)
    (case v_HIGH_MARK => k_is)
    (case lt_HIGH_MARK => k_is)
    (case z_list => k_is)
    (case z_len => k_is)
    (case z_range => k_is)
    (case z_int => k_is)
    (case z_tuple => k_is)
    (case z_bool => k_is)
    (case z_isinstance => k_is)
    (case z_ValueError => k_is)
