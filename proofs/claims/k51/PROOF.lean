import PyProof.Rows.All
import Wide.All
import OpenK.AllK
import Wide.FinOn
import HandS.List
import HandS.Codes
import HandS.Comp
import HandS.Iter
import HandS.Ends
import HandS.Text
import HandS.Words
import HandS.WordsList
import HandS.Wide
import HandS.IsInst
import HandS.FStr
import PyProof.FString3
import PyProof.Rows.StrIntSpec
import HandS.Walk
import HandS.Exc
import HandS.ExcOwn
import HandS.ExcIs
import HandS.WordsExc
import HandS.StrMore
import HandS.Defaults
import HandS.MakeKwOnly
import HandS.Flow
import HandS.Star
import HandS.Conv
import HandS.Deep
import HandS.Dict
import HandS.ExcInit
import KE.KExcIs
import PySem.Challenge.RW_sipstack_k51_line_ends_written
set_option Elab.async false
set_option linter.all false
set_option maxRecDepth 100000
namespace Sip
open PySem PySem.Spec PyProof.Rows L2

/-! a slice of step one in a list, laid over by another list; its end may lie behind the list's end -/
theorem clamp {a c n : Nat} (h1 : a ≤ c) (h2 : a ≤ n) :
    sliceBounds (some (a : Int)) (some (c : Int)) none n = ((a : Int), ((min c n : Nat) : Int), 1) := by
  have n1 : ¬ ((a : Int) < 0) := by omega
  have n2 : ¬ ((c : Int) < 0) := by omega
  simp only [sliceBounds, Option.getD_none, n1, n2, if_false, show (1 : Int) > 0 from by decide, if_true]
  refine Prod.ext ?_ (Prod.ext ?_ rfl)
  · show max 0 (min (a : Int) (n : Int)) = (a : Int)
    omega
  · show max 0 (min (c : Int) (n : Int)) = ((min c n : Nat) : Int)
    omega

section
variable {pr : Program} {wd : World} {ar : Around} {er : Value → Shared → Prop} {s : Shared}
set_option maxHeartbeats 4000000 in
theorem put_slice {l b z : Addr} {old new : Array Value} {m m2 a c : Nat} {vl vu : Value} {Q : Unit → Shared → Prop}
    (eo : s.heap.get? l = some { cls := .type "list", data := .seq old m })
    (en : s.heap.get? b = some { cls := .type "list", data := .seq new m2 }) (ne : l ≠ b)
    (hz : s.heap.IsSliceOf z vl vu .none) (pl : IsPart vl (some (a : Int))) (pu : IsPart vu (some (c : Int)))
    (ac : a ≤ c) (an : a ≤ old.size) (fit : old.size + new.size ≤ sizeLine)
    (k : Q () { s with heap := s.heap.update l (Obj.mapSeq fun t => t.extract 0 a ++ new ++ t.extract (min c old.size) t.size) }) :
    wpAny (model pr wd) ar (setItem (.ref l) (.ref z) (.ref b)) Q er s := by
  by_cases hc : c ≤ old.size
  · rw [Nat.min_eq_left hc] at k
    exact setItem_slice eo en ne hz pl pu ac hc fit k
  · have lo : s.heap.IsList l old := PySem.IsL.isList eo
    have ln : s.heap.IsList b new := PySem.IsL.isList en
    obtain ⟨oz, gz, cz, dz⟩ := id hz
    have tz : s.TypeIs (.ref z) "slice" := ⟨oz, gz, cz⟩
    have apart : Builtin.List.listSameRef (.ref l) (.ref b) = false := by
      unfold Builtin.List.listSameRef; exact beq_eq_false_iff_ne.mpr ne
    have zz : ((fun t : Array Value => t.extract 0 a ++ new ++ t.extract (min c old.size) t.size) old).size ≤ sizeLine + 1 := by
      simp only [Array.size_append, Array.size_extract]; omega
    have bd := clamp ac an
    have mx : (max (a : Int) ((min c old.size : Nat) : Int)).toNat = min c old.size := by omega
    unfold setItem
    try (with_reducible refine wpAny_holding ?_)
    try refine wpAny_bind (wpAny_pure ?_)
    refine wpAny_bind (wpAny_sequenceKey lo.typeIs (by decide) (wpAny_bind ?_))
    refine wpAny_callSpecial?_slot (name := Str.ofString "__setitem__") lo.typeIs slot_list_setitem ?_
    refine wpAny_call_entry slot_list_setitem lo.typeIs entry_list_setitem ?_ (args_list_setitem _ _ _)
    show wpAny _ _ (Builtin.List.listSubscript? (.ref z) >>= _) _ _ s
    refine wpAny_bind ?_
    unfold Builtin.List.listSubscript?
    refine wpAny_bind (wpAny_specialOf tz slice_no_index ?_)
    simp only [Option.isNone_none, if_true]
    refine wpAny_pure ?_
    show wpAny _ _ (typeOf (.ref z) >>= _) _ _ s
    refine wpAny_bind (wpAny_typeOf tz ?_)
    first
      | rw [if_neg (by decide)]
      | refine PySem.W.KFB.if_not (by decide) ?_
    rw [listSliceParts_eq]
    refine wpAny_bind (wpAny_bind (wpAny_field gz dz (x := .none) rfl (wpAny_bind (wpAny_listPart .none ?_))))
    rw [if_neg (show ¬ ((rawPart none == rawInt 0) = true) from Bool.false_ne_true)]
    refine wpAny_bind (wpAny_field gz dz (x := vl) rfl (wpAny_bind (wpAny_listPart pl ?_)))
    refine wpAny_bind (wpAny_field gz dz (x := vu) rfl (wpAny_bind (wpAny_listPart pu (wpAny_pure ?_))))
    first
      | simp only [apart, Bool.false_eq_true, if_false]
      | refine PySem.W.KFB.if_not apart ?_
    refine wpAny_bind ?_
    unfold Builtin.List.listAllItems
    refine wpAny_bind (wpAny_typeOf ln.typeIs ?_)
    first
      | refine PySem.W.KFB.if_so (by decide) ?_
      | rw [if_pos (by decide)]
    unfold Builtin.List.listItems
    refine wpAny_bind (wpAny_seqItems en rfl (wpAny_pure (wpAny_bind (wpAny_bind (wpAny_seqItems eo rfl (wpAny_pure ?_))))))
    have si := (sliceIndices_raw (some (a : Int)) (some (c : Int)) none old.size (by simp)).trans (congrArg (pure : Int × Int × Int → Sem (Int × Int × Int)) bd)
    refine wpAny_bind (wpAny_of_eq si ?_)
    show wpAny _ _ (if ((1 : Int) == 1) = true then _ else _) _ _ s
    rw [if_pos (by decide)]
    refine wpAny_bind (wpAny_rule ?_)
    first
      | simp only [notLongL fit, Bool.false_eq_true, if_false]
      | refine PySem.W.KFB.if_not (notLongL fit) ?_
    try refine wpAny_bind (wpAny_pure ?_)
    show wpAny _ _ (updateSeq l (fun t => t.extract 0 ((a : Int)).toNat ++ new ++ t.extract (max (a : Int) ((min c old.size : Nat) : Int)).toNat t.size) >>= _) _ _ s
    rw [mx, Int.toNat_natCast]
    refine wpAny_bind (wpAny_updateSeq (hz := Nat.le_trans (Nat.le_add_right _ _) fit) (_hz' := zz) eo rfl (wpAny_bind (wpAny_letGo ?_)))
    first
      | exact wpAny_bind (wpAny_pure (wpAny_pure ⟨.none, rfl, wpAny_pure k⟩))
      | exact wpAny_pure ⟨.none, rfl, wpAny_pure k⟩
end

section
variable {X : Cx}
theorem splice (xs ys : List Value) (a c : Nat) : xs.toArray.extract 0 a ++ ys.toArray ++ xs.toArray.extract (min c xs.toArray.size) xs.toArray.size = (xs.take a ++ ys ++ xs.drop c).toArray := by
  rw [splice_eq]
  congr 1
  by_cases h : c ≤ xs.length
  · rw [List.size_toArray, Nat.min_eq_left h]
  · rw [List.size_toArray, Nat.min_eq_right (by omega), List.drop_length, List.drop_of_length_le (by omega)]

/-- o[lo:hi] = v, both given, v another list -/
def gCut (to : TE) (tl th : TO) : TG := fun v σ H Q => to σ H fun o H1 => tl σ H1 fun lo H2 => th σ H2 fun hi H3 =>
  ∃ p q xs ys a c, o = .ref p ∧ v = .ref q ∧ lo = some a ∧ hi = some c ∧ H3 p = some (.lst xs) ∧ H3 q = some (.lst ys) ∧ p ≠ q ∧
    0 ≤ a ∧ a ≤ c ∧ a ≤ xs.length ∧ xs.length + ys.length ≤ sizeLine ∧ Q σ (upd H3 p (.lst (xs.take a.toNat ++ ys ++ xs.drop c.toNat)))

theorem pg_cut {o : Expr} {lo hi : Option Expr} {to : TE} {tl th : TO} {p2 pos : Pos} (ho : PE X o to) (hl : PO X lo tl) (hh : PO X hi th)
    (ha : ∀ v, assign (.Subscript o (.Slice lo hi none p2) pos) X.env v = (do
      let ov ← holding [v] (eval o X.env)
      let iv ← holding [v, ov] (eval (.Slice lo hi none p2) X.env)
      standAt pos
      holding [v, ov, iv] (setItem ov iv v)
      release [iv, v, ov] []) := by intro _; rfl) : PG X (.Subscript o (.Slice lo hi none p2) pos) (gCut to tl th) := by
  refine ⟨fun pins s σ H v u Q I r h => ?_⟩
  rw [ha]
  refine wpAny_bind (wpAny_holding (thn (ho.run pins s σ H _ I h) fun ov s1 ⟨x, H1, I1, r1, q1⟩ => wpAny_bind (wpAny_holding ?_)))
  refine wpAny_Slice (thn (hl.run pins s1 σ H1 _ I1 q1) fun wl s2 ⟨l, H2, I2, pl, q2⟩ => ?_)
  refine thn (hh.run pins s2 σ H2 _ I2 q2) fun wu s3 ⟨uu, H3, I3, pu, q3⟩ => ?_
  rw [evalPart_none]
  refine wpAny_pure ?_
  obtain ⟨p, q, xs, ys, a, c, rfl, rfl, rfl, rfl, hp, hq, pq, a0, ac, ax, fit, fin⟩ := q3
  cases r1
  cases r
  have I4 : Inv X pins σ H3 { s3 with heap := s3.heap.push { cls := .type "slice", data := .fields #[wl, wu, .none] } } := I3.kept (t' := s3.toks) fun b ob e => Heap.get?_push_of_some _ e
  refine wpAny_bind (wpAny_standAt (wpAny_bind (wpAny_holding ?_)))
  obtain ⟨z1, us1, n1, rv1, _, e1⟩ := I4.lstM hp
  obtain ⟨z2, us2, n2, rv2, _, e2⟩ := I4.lstM hq
  obtain ⟨a', rfl⟩ := Int.eq_ofNat_of_zero_le a0
  obtain ⟨c', rfl⟩ := Int.eq_ofNat_of_zero_le (Int.le_trans a0 ac)
  simp only [Int.toNat_natCast] at fin
  have L1 := rv1.length
  have L2' := rv2.length
  refine put_slice (a := a') (c := c') e1 e2 pq (Heap.IsSliceOf.new ..) pl pu (by omega) (by rw [List.size_toArray]; omega) (by rw [List.size_toArray, List.size_toArray]; omega) ?_
  refine wpAny_release ⟨σ, _, ?_, fin⟩
  refine I4.lset (its' := us1.take a' ++ us2 ++ us1.drop c') (t' := s3.toks) hp e1 (splice us1 us2 a' c') (Vals.append (Vals.append (rv1.take _) rv2) (rv1.drop _)) ?_
  rw [List.length_append, List.length_append, List.length_take, List.length_drop]
  omega
end
end Sip
namespace Sip
open PySem PySem.Spec PyProof.Rows L2

/-- a def of the text: where it stands, how it is called -/
structure Df (K : PySem.W.Frag) (mg : Str → Option Value) (x : Str) (st : Stmt) (ps : List Str) (f : Addr) (fd : FuncData) : Prop where
  F : Fun K x x st f fd
  b : Binds K fd ps []
  g : mg x = some (.ref f)

/-! heaps: all that was tracked stands, but at the places ps -/
def Kp (ps : List Addr) (H H' : Hp) : Prop := ∀ b o, b ∉ ps → H b = some o → H' b = some o
theorem Kp.refl (ps : List Addr) (H : Hp) : Kp ps H H := fun _ _ _ h => h
theorem Kp.trans {ps : List Addr} {H H1 H2 : Hp} (a : Kp ps H H1) (b : Kp ps H1 H2) : Kp ps H H2 := fun c o n h => b c o n (a c o n h)
theorem Kp.wide {ps qs : List Addr} {H H1 : Hp} (a : Kp ps H H1) (h : ∀ x ∈ ps, x ∈ qs) : Kp qs H H1 := fun c o n e => a c o (fun z => n (h c z)) e
theorem Kp.same {H H1 : Hp} (a : Kp [] H H1) : Same H H1 := fun c o e => a c o (fun h => nomatch h) e
theorem Kp.of {ps : List Addr} {H H1 : Hp} (a : Same H H1) : Kp ps H H1 := fun c o _ e => a c o e
theorem Kp.at {ps : List Addr} {H : Hp} {p : Addr} {o : HO} (h : p ∈ ps) : Kp ps H (upd H p o) := fun b x n e => by
  have hb : b ≠ p := fun z => n (by rw [z]; exact h)
  rw [upd_ne hb]; exact e
theorem Kp.new {ps : List Addr} {H : Hp} {p : Addr} {o : HO} (h : H p = none) : Kp ps H (upd H p o) := fun b x n e => by
  rw [upd_ne (ne_of_none e h)]; exact e
/-- a place that was new at H is written later -/
theorem Kp.put {ps : List Addr} {H H1 : Hp} {p : Addr} {o : HO} (k : Kp ps H H1) (h : H p = none) : Kp ps H (upd H1 p o) := fun b x n e => by
  rw [upd_ne (ne_of_none e h)]; exact k b x n e
theorem Kp.seq {ps : List Addr} {K : PySem.W.Frag} {H H1 : Hp} {a : Addr} {xs : List V} (k : Kp ps H H1) (n : a ∉ ps) (h : SqL K H a xs) : SqL K H1 a xs := by
  rcases h with (h | ⟨o, h⟩) | h
  · exact .inl (.inl (k _ _ n h))
  · exact .inl (.inr ⟨o, k _ _ n h⟩)
  · exact .inr h
theorem Kp.free {H H1 : Hp} {ps : List Addr} (k : Kp ps H H1) {q : Addr} (n : q ∉ ps) (h : H1 q = none) : H q = none := by
  cases e : H q with
  | none => rfl
  | some o => rw [k q o n e] at h; cases h
theorem sq_new {K : PySem.W.Frag} {H : Hp} {p : Addr} {xs : List V} : SqL K (upd H p (.lst xs)) p xs := .inl (.inl upd_same)
theorem sq_at {K : PySem.W.Frag} {H : Hp} {p : Addr} {xs : List V} (h : H p = some (.lst xs)) : SqL K H p xs := .inl (.inl h)
theorem upd_upd {H : Hp} {p : Addr} {a b : HO} : upd (upd H p a) p b = upd H p b := by
  funext x
  by_cases h : x = p
  · subst h; rw [upd_same, upd_same]
  · rw [upd_ne h, upd_ne h, upd_ne h]

/-! the law's own draws: a pool is a list of three ints -/
def PoolO (n : Int) (o : HO) : Prop := ∃ d c x : Int, o = .lst [.int d, .int c, .int x] ∧ 0 ≤ d ∧ 0 ≤ c ∧ c ≤ n
theorem PoolO.up {n m : Int} {o : HO} (h : PoolO n o) (l : n ≤ m) : PoolO m o := by
  obtain ⟨d, c, x, e, h1, h2, h3⟩ := h
  exact ⟨d, c, x, e, h1, h2, by omega⟩
def spTake : Sp := fun vs H Q _ => ∃ (p : Addr) (n wide : Int) (o : HO), vs = [.ref p, .int wide] ∧ H p = some o ∧ PoolO n o ∧ n ≤ 1000000000 ∧ 0 < wide ∧ wide < 1073741824 ∧
  ∀ (r : Int) (o' : HO), 0 ≤ r → r < wide → PoolO (n + 1) o' → Q (.int r) (upd H p o')
def spPool (K : PySem.W.Frag) : Sp := fun vs H Q _ => ∃ (a : Addr) (ns : List Int) (i : Int), vs = [.ref a, .int i] ∧ SqL K H a (ns.map V.int) ∧ ns.length ≤ 63 ∧ 0 ≤ i ∧ i ≤ 1000 ∧
  ∀ (p : Addr) (o : HO), H p = none → PoolO (1000 * i) o → Q (.ref p) (upd H p o)

/-! lists of ints -/
theorem atI_int {ms : List Int} {i : Int} (h0 : 0 ≤ i) (h1 : i < ms.length) : ∃ m, m ∈ ms ∧ atI (ms.map V.int) i = some (.int m) ∧ ms[i.toNat]? = some m := by
  obtain ⟨j, rfl⟩ := Int.eq_ofNat_of_zero_le h0
  have hj : j < ms.length := by omega
  refine ⟨ms[j], List.getElem_mem hj, atI_nat ?_, by rw [Int.toNat_natCast, List.getElem?_eq_getElem hj]⟩
  rw [List.getElem?_map, List.getElem?_eq_getElem hj]; rfl
theorem atI_intV {ms : List Int} {i : Int} (h0 : 0 ≤ i) (h1 : i < ms.length) : atI (ms.map V.int) i = some (.int (ms.getD i.toNat 0)) := by
  obtain ⟨m, _, e, g⟩ := atI_int h0 h1
  rw [e, List.getD_eq_getElem?_getD, g]; rfl
theorem dp_ints {K : PySem.W.Frag} {H : Hp} : ∀ ns : List Int, DpAll K H (ns.map V.int) (ns.map PyData.int)
  | [] => .nil
  | n :: r => .cons (.int n) (dp_ints r)
theorem dp_lst {K : PySem.W.Frag} {H : Hp} {a : Addr} {ns : List Int} (h : SqL K H a (ns.map V.int)) : Dp K H (.ref a) (.list (ns.map PyData.int)) := .lst h (dp_ints ns)
section
variable {X : Cx}
/-- == and != of two lists of ints -/
def rEqI (K : PySem.W.Frag) : R2 := fun x y H Q => ∃ (a b : Addr) (ns ms : List Int), x = .ref a ∧ y = .ref b ∧ SqL K H a (ns.map V.int) ∧ SqL K H b (ms.map V.int) ∧ Q (.bl (decide (ns = ms))) H
def rNeI (K : PySem.W.Frag) : R2 := fun x y H Q => ∃ (a b : Addr) (ns ms : List Int), x = .ref a ∧ y = .ref b ∧ SqL K H a (ns.map V.int) ∧ SqL K H b (ms.map V.int) ∧ Q (.bl (!decide (ns = ms))) H
theorem op_eqI (hu : X.A.units + 64 < cLine) : OpR X (compareOp .Eq) (rEqI X.K) := by
  intro pins s σ H x y v u Q I rx ry h
  obtain ⟨a, b, ns, ms, rfl, rfl, ha, hb, q⟩ := h
  cases rx; cases ry
  obtain ⟨us, rv, hl, _⟩ := I.list ha
  obtain ⟨ws, rw', hl', _⟩ := I.list hb
  exact PySem.W.eq_intsK hl.isList rv.ints hl'.isList rw'.ints hu ⟨.bl (decide (ns = ms)), H, I, rfl, q⟩
theorem op_neI (hu : X.A.units + 64 < cLine) : OpR X (compareOp .NotEq) (rNeI X.K) := by
  intro pins s σ H x y v u Q I rx ry h
  obtain ⟨a, b, ns, ms, rfl, rfl, ha, hb, q⟩ := h
  cases rx; cases ry
  obtain ⟨us, rv, hl, _⟩ := I.list ha
  obtain ⟨ws, rw', hl', _⟩ := I.list hb
  exact PySem.W.ne_intsK hl.isList rv.ints hl'.isList rw'.ints hu ⟨.bl (!decide (ns = ms)), H, I, rfl, q⟩
end
/-! a row laid over another one -/
def laidF (r : List Int) (n : Nat) (d : List Int) : List Int :=
  if d = [] then r else (r ++ List.replicate (n - r.length) 0).take n ++ d ++ (r ++ List.replicate (n - r.length) 0).drop (n + d.length)
theorem laidF_nil (r : List Int) (n : Nat) : laidF r n [] = r := if_pos rfl
theorem laidF_cons {r : List Int} {n : Nat} {d : List Int} (h : d ≠ []) : laidF r n d = (r ++ List.replicate (n - r.length) 0).take n ++ d ++ (r ++ List.replicate (n - r.length) 0).drop (n + d.length) := if_neg h
theorem laidF_length {r : List Int} {n : Nat} {d : List Int} (h : d ≠ []) : (laidF r n d).length = max r.length (n + d.length) := by
  rw [laidF_cons h, List.length_append, List.length_append, List.length_take, List.length_drop, List.length_append, List.length_replicate]
  omega
theorem pad_get (r : List Int) (m i : Nat) : (r ++ List.replicate m 0)[i]?.getD 0 = r.getD i 0 := by
  rw [List.getD_eq_getElem?_getD]
  by_cases h : i < r.length
  · rw [List.getElem?_append_left h]
  · rw [List.getElem?_append_right (by omega), List.getElem?_eq_none (l := r) (by omega)]
    by_cases h2 : i - r.length < m
    · rw [List.getElem?_replicate, if_pos h2]; rfl
    · rw [List.getElem?_eq_none (by rw [List.length_replicate]; omega)]
theorem laidF_getD {r : List Int} {n : Nat} {d : List Int} (h : d ≠ []) (i : Nat) : (laidF r n d)[i]?.getD 0 = if n ≤ i ∧ i < n + d.length then d.getD (i - n) 0 else r.getD i 0 := by
  have lt : ((r ++ List.replicate (n - r.length) 0).take n).length = n := by
    rw [List.length_take, List.length_append, List.length_replicate]; omega
  rw [laidF_cons h, List.append_assoc]
  by_cases h1 : i < n
  · rw [if_neg (by omega), List.getElem?_append_left (by rw [lt]; exact h1), List.getElem?_take_of_lt h1]
    exact pad_get r _ i
  · rw [List.getElem?_append_right (by rw [lt]; omega), lt]
    by_cases h2 : i < n + d.length
    · rw [if_pos ⟨by omega, h2⟩, List.getElem?_append_left (by omega), List.getD_eq_getElem?_getD]
    · rw [if_neg (by omega), List.getElem?_append_right (by omega), List.getElem?_drop, ← pad_get r (n - r.length) i]
      congr 2
      omega
theorem laidF_get {r : List Int} {n : Nat} {d : List Int} {i : Nat} (h : d ≠ []) (hi : i < (laidF r n d).length) : (laidF r n d)[i]? = some (if n ≤ i ∧ i < n + d.length then d.getD (i - n) 0 else r.getD i 0) := by
  rw [← laidF_getD h i, List.getElem?_eq_getElem hi]; rfl
theorem ext_getD {xs ys : List Int} (hl : xs.length = ys.length) (h : ∀ i, i < xs.length → xs[i]?.getD 0 = ys[i]?.getD 0) : xs = ys := by
  apply List.ext_getElem hl
  intro i h1 h2
  have := h i h1
  rw [List.getElem?_eq_getElem h1, List.getElem?_eq_getElem h2] at this
  exact this
/-- laid over once more: the same -/
theorem laidF_twice (r : List Int) (n : Nat) (d : List Int) : laidF (laidF r n d) n d = laidF r n d := by
  by_cases h : d = []
  · subst h; rw [laidF_nil, laidF_nil]
  · have l1 := laidF_length (r := r) (n := n) h
    have l2 := laidF_length (r := laidF r n d) (n := n) h
    refine ext_getD (by omega) fun i hi => ?_
    rw [laidF_getD h, laidF_getD h]
    split
    · rfl
    · next c => rw [List.getD_eq_getElem?_getD, laidF_getD h, if_neg c]
theorem flat_rep (m : Nat) (v : V) : (List.replicate m [v]).flatten = List.replicate m v := by
  induction m with
  | zero => rfl
  | succ m ih => rw [List.replicate_succ, List.flatten_cons, ih, List.replicate_succ]; rfl
theorem all_true (n : Nat) : (List.replicate n true).all id = true := by
  rw [List.all_eq_true]
  intro x hx
  exact (List.mem_replicate.mp hx).2
def spBytes : Sp := fun vs H Q _ => ∃ (p : Addr) (n : Int) (o : HO), vs = [.ref p] ∧ H p = some o ∧ PoolO n o ∧ n ≤ 900000000 ∧
  ∀ (H' : Hp) (q : Addr) (bs : List Int) (o' : HO), H q = none → H' q = some (.lst (bs.map V.int)) → H' p = some o' → PoolO (n + 1000) o' → Kp [p] H H' → bs.length ≤ 400 → (∀ b ∈ bs, 0 ≤ b ∧ b ≤ 255) → Q (.ref q) H'
def spLaid (K : PySem.W.Frag) : Sp := fun vs H Q _ => ∃ (a b : Addr) (r : List Int) (n : Nat) (d : List Int), vs = [.ref a, .int n, .ref b] ∧ SqL K H a (r.map V.int) ∧ H b = some (.lst (d.map V.int)) ∧ r.length ≤ 10000 ∧ n ≤ 4400 ∧ d.length ≤ 4400 ∧
  ∀ (H' : Hp) (q : Addr), H q = none → H' q = some (.lst ((laidF r n d).map V.int)) → Same H H' → Q (.ref q) H'
def spDue (K : PySem.W.Frag) : Sp := fun vs H Q _ => ∃ (a b : Addr) (r : List Int) (n : Nat) (d : List Int), vs = [.ref a, .int n, .ref b] ∧ SqL K H a (r.map V.int) ∧ SqL K H b (d.map V.int) ∧ r.length ≤ 10000 ∧ n ≤ 4400 ∧ d.length ≤ 4400 ∧
  ∀ (H' : Hp) (q : Addr), H q = none → H' q = some (.lst ((laidF r n d).map V.int)) → Same H H' → Q (.ref q) H'
def spFits (K : PySem.W.Frag) : Sp := fun vs H Q _ => ∃ (a b : Addr) (xs ys : List Int), vs = [.ref a, .ref b] ∧ H a = some (.lst (xs.map V.int)) ∧ SqL K H b (ys.map V.int) ∧ xs.length ≤ 100000 ∧
  ∀ H' : Hp, Same H H' → Q (.bl (decide (xs = ys))) H'
def spLaw (K : PySem.W.Frag) : Sp := fun vs H Q _ => ∃ (a : Addr) (ns : List Int), vs = [.ref a] ∧ SqL K H a (ns.map V.int) ∧ ns.length ≤ 63 ∧ ∀ H' : Hp, Q (.bl true) H'
theorem step_same {H H1 H2 : Hp} {p : Addr} (s : Same H H1) (n : H p = none) (k : Kp [p] H1 H2) : Same H H2 := fun b o e =>
  k b o (fun z => ne_of_none e n (List.mem_singleton.mp z)) (s b o e)
theorem put_same {H H1 : Hp} {p : Addr} {o : HO} (s : Same H H1) (n : H p = none) : Same H (upd H1 p o) := fun b x e => by
  rw [upd_ne (ne_of_none e n)]; exact s b x e
theorem ixN_zero {n : Nat} (h : 0 < n) : ixN n 0 = some 0 := by
  unfold ixN
  rw [if_pos (by decide), if_pos (by omega)]; rfl
theorem laidF_le {r d : List Int} {n m : Nat} (h : r.length ≤ m ∧ n + d.length ≤ m) : (laidF r n d).length ≤ m := by
  by_cases e : d = []
  · subst e; rw [laidF_nil]; exact h.1
  · rw [laidF_length e]; omega
end Sip
namespace Sip
open PySem PySem.Spec PyProof.Rows L2 PySem.Builtin PySem.Builtin.Str PySem.Builtin.Int PySem.Builtin.Float

def figs : List Nat := [48, 49, 50, 51, 52, 53, 54, 55, 56, 57, 97, 98, 99, 100, 101, 102]
/-- two figures of sixteen -/
def two (n : Nat) : Str := ⟨#[figs.getD (n / 16) 0, figs.getD (n % 16) 0]⟩
def hexSpec : FormatSpec := { fill := 48, align := 61, width := some 2, type := some 120 }
theorem hex_parse : parseFormatSpec (Str.ofString "02x").cps.toList "int" 62 = .ok hexSpec := by kernel_rfl
theorem hex_ascii : (((Str.ofString "02x").cps.toList.drop 1).any (· ≥ 128) || ((Str.ofString "02x").cps.getD 0 0 ≥ 128 && !([60, 62, 61, 94] : List Nat).contains ((Str.ofString "02x").cps.getD 1 0))) = false := by decide +kernel
theorem hex_some : ((Str.ofString "02x").length == 0) = false := by decide +kernel
theorem hex_ex : ∃ F : Int → Str, (∀ (a : Int) (t u : Tok), Gives («int.__format__» ⟨[.int a t, .str (Str.ofString "02x") u], []⟩) (.str (F a))) ∧ ∀ b : Fin 256, F (b.val : Int) = two b.val := by
  apply Exists.intro
  apply And.intro
  · intro a t u prog w A R s hq
    unfold «int.__format__»
    simp only [selfAndOne, noKeywords, Int.intOfSelf, asInt?, asStr?, List.isEmpty_nil, if_true, pure_bind, bind_pure, bind_assoc, hex_some, hex_ascii, Bool.false_eq_true, if_false,
      show (Value.str (Str.ofString "02x") u == Value.none) = false from rfl]
    refine wpAny_bind (wpAny_typeNameOf (T := "str") (typeIs_str _ _ _) (by decide) fun _ => wpAny_bind (wpAny_typeNameOfCut_int ?_))
    simp only [hex_parse]
    refine PySem.W.KFB.if_so (by decide +kernel) ?_
    show wpAny _ _ (retStr _) _ _ _
    unfold retStr
    exact wpAny_bind (wpAny_mkStr (wpAny_pure hq.2) hq.1)
  · decide +kernel
end Sip
namespace Sip
open PySem PySem.Spec PyProof.Rows L2 TL

section
variable {X : Cx}
/-- f'{b:02x}' of a byte -/
def tHex (te : TE) : TE := fun σ H Q => te σ H fun x H1 => ∃ b : Nat, b < 256 ∧ x = .int b ∧ Q (.str (two b)) H1
theorem pe_hex {e : Expr} {te : TE} {k : Nat} {p1 p2 p3 p4 : Pos} (he : PE X e te) :
    PE X (.JoinedStr [.FormattedValue e (-1) (some (.JoinedStr [.Constant (.str (Str.ofString "02x")) k p1] p2)) p3] p4) (tHex te) := by
  have hs : PE X (.JoinedStr [.Constant (.str (Str.ofString "02x")) k p1] p2) (tC (.str (Str.ofString "02x"))) := pe_joined1 pe_str
  obtain ⟨F, g1, g2⟩ := hex_ex
  refine ⟨fun pins s σ H Q I h => wpAny_JoinedStr_one (wpAny_FormattedValue_spec (thn (he.run pins s σ H _ I h) fun v s1 ⟨x, H1, I1, r1, q1⟩ => ?_))⟩
  obtain ⟨b, hb, rfl, q⟩ := q1
  obtain ⟨t, rfl⟩ := r1
  refine thn (hs.run pins s1 σ H1 (fun y H2 => y = .str (Str.ofString "02x") ∧ H2 = H1) I1 ⟨rfl, rfl⟩) fun u s2 ⟨y, H2, I2, r2, ey, eH⟩ => ?_
  subst ey eH
  obtain ⟨t2, rfl⟩ := r2
  have e2 : F (b : Int) = two b := g2 ⟨b, hb⟩
  refine ⟨_, _, rfl, wpAny_formatField_spec (x := F (b : Int)) hex_some (fun s' => typeIs_int s' _ _) PySem.F.slot_int_format PySem.F.entry_int_format PySem.F.args_int_format_2 (fun u => g1 b t u) ?_ (by rw [sizeLine_eq]; decide +kernel) (by rw [e2, sizeLine_eq]; show (2 : Nat) ≤ _; decide)⟩
  rw [e2]
  exact ⟨.str (two b), H2, (I2.tok _).tok _, ⟨_, rfl⟩, q⟩
end

/-! the text of a row, as codes -/
def twoL (b : Int) : List Nat := [figs.getD (b.toNat / 16) 0, figs.getD (b.toNat % 16) 0]
def txL (bs : List Int) : List Nat := bs.flatMap twoL
def tx (bs : List Int) : Str := ⟨(txL bs).toArray⟩
def Bytes (bs : List Int) : Prop := ∀ b ∈ bs, 0 ≤ b ∧ b ≤ 255
theorem txL_length : ∀ bs : List Int, (txL bs).length = 2 * bs.length
  | [] => rfl
  | b :: r => by
    show (twoL b ++ txL r).length = 2 * (r.length + 1)
    rw [List.length_append, txL_length r]
    show 2 + 2 * r.length = _
    omega
theorem tx_length (bs : List Int) : (tx bs).length = 2 * bs.length := by
  show (txL bs).toArray.size = _
  rw [List.size_toArray, txL_length]
theorem txL_append (a b : List Int) : txL (a ++ b) = txL a ++ txL b := List.flatMap_append
theorem tx_append (a b : List Int) : tx (a ++ b) = tx a ++ tx b := ext_toList (by
  show (txL (a ++ b)).toArray.toList = ((txL a).toArray ++ (txL b).toArray).toList
  rw [Array.toList_append, txL_append])
/-- a figure's worth -/
def wor (c : Nat) : Nat := figs.idxOf c
theorem wor_figs : ∀ j : Fin 16, wor (figs.getD j.val 0) = j.val := by decide
theorem twoL_back {b : Int} (h : 0 ≤ b ∧ b ≤ 255) : ∃ i j : Nat, i < 16 ∧ j < 16 ∧ twoL b = [figs.getD i 0, figs.getD j 0] ∧ b = 16 * (i : Int) + j :=
  ⟨b.toNat / 16, b.toNat % 16, by omega, by omega, rfl, by omega⟩
theorem figs_inj {i j : Nat} (hi : i < 16) (hj : j < 16) (e : figs.getD i 0 = figs.getD j 0) : i = j := by
  have a : wor (figs.getD i 0) = i := wor_figs ⟨i, hi⟩
  have b : wor (figs.getD j 0) = j := wor_figs ⟨j, hj⟩
  exact a.symm.trans ((congrArg wor e).trans b)
theorem txL_inj : ∀ {a b : List Int}, Bytes a → Bytes b → txL a = txL b → a = b
  | [], [], _, _, _ => rfl
  | [], y :: r, _, _, e => by cases e
  | x :: r, [], _, _, e => by cases e
  | x :: r, y :: q, ha, hb, e => by
    obtain ⟨i, j, hi, hj, e1, e2⟩ := twoL_back (ha x (List.mem_cons_self ..))
    obtain ⟨m, n, hm, hn, e3, e4⟩ := twoL_back (hb y (List.mem_cons_self ..))
    have e5 : twoL x ++ txL r = twoL y ++ txL q := e
    rw [e1, e3] at e5
    have e6 := List.cons.inj e5
    have e7 := List.cons.inj e6.2
    have k1 := figs_inj hi hm e6.1
    have k2 := figs_inj hj hn e7.1
    have k3 := txL_inj (fun z hz => ha z (List.mem_cons_of_mem _ hz)) (fun z hz => hb z (List.mem_cons_of_mem _ hz)) e7.2
    rw [e2, e4, k1, k2, k3]
theorem tx_inj {a b : List Int} (ha : Bytes a) (hb : Bytes b) (e : tx a = tx b) : a = b := txL_inj ha hb (by
  have := congrArg (fun s : Str => s.cps.toList) e
  exact this)
theorem tx_eq {a b : List Int} (ha : Bytes a) (hb : Bytes b) : decide (V.str (tx a) = V.str (tx b)) = decide (a = b) := by
  by_cases h : a = b
  · subst h; rw [decide_eq_true rfl, decide_eq_true rfl]
  · rw [decide_eq_false h, decide_eq_false]
    intro z
    exact h (tx_inj ha hb (V.str.inj z))
/-- joined from its parts -/
theorem join_two : ∀ bs : List Int, Str.join (Str.ofString "") (bs.map fun b => two b.toNat) = tx bs := fun bs => ext_toList (by
  show tl (Str.join (Str.ofString "") _) = txL bs
  rw [tl_join]
  have e0 : tl (Str.ofString "") = [] := by decide +kernel
  rw [e0, List.map_map]
  induction bs with
  | nil => rfl
  | cons b r ih =>
    cases r with
    | nil => show twoL b = twoL b ++ []; rw [List.append_nil]
    | cons c q =>
      show twoL b ++ ([] ++ joinL [] ((c :: q).map _)) = twoL b ++ txL (c :: q)
      rw [List.nil_append, ih])
/-- its signs by place -/
theorem txL_get : ∀ {bs : List Int} {i : Nat} {b : Int}, bs[i]? = some b → (txL bs)[2 * i]? = some (figs.getD (b.toNat / 16) 0) ∧ (txL bs)[2 * i + 1]? = some (figs.getD (b.toNat % 16) 0)
  | [], _, _, h => by simp at h
  | x :: r, 0, b, h => by
    have e : x = b := Option.some.inj h
    subst e
    exact ⟨rfl, rfl⟩
  | x :: r, i + 1, b, h => txL_get (bs := r) (i := i) (b := b) h
theorem tx_at {bs : List Int} {i : Nat} {b : Int} (h : bs[i]? = some b) : atI (tx bs).cps.toList ((2 * i : Nat) : Int) = some (figs.getD (b.toNat / 16) 0) ∧ atI (tx bs).cps.toList ((2 * i + 1 : Nat) : Int) = some (figs.getD (b.toNat % 16) 0) :=
  ⟨atI_nat (txL_get h).1, atI_nat (txL_get h).2⟩
def FIG : Str := Str.ofString "0123456789abcdef"
theorem fig_find : ∀ j : Fin 16, Txt.find FIG ⟨#[figs.getD j.val 0]⟩ = (j.val : Int) := by decide +kernel
theorem fig_at {j : Nat} (h : j < 16) : atI FIG.cps.toList (j : Int) = some (figs.getD j 0) := by
  have e : FIG.cps.toList = figs := by decide +kernel
  rw [e]
  refine atI_nat ?_
  rw [List.getD_eq_getElem?_getD, List.getElem?_eq_getElem (show j < figs.length from h)]; rfl
/-! slices of lists of ints -/
theorem cut_map (bs : List Int) (lo hi : Option Int) : ∃ cs : List Int, cutV (bs.map V.int) lo hi = cs.map V.int ∧ cs.length ≤ bs.length ∧ ∀ x ∈ cs, x ∈ bs := by
  refine ⟨(bs.drop (HT.sIx bs.length 0 lo)).take (HT.sIx bs.length bs.length hi - HT.sIx bs.length 0 lo), ?_, ?_, ?_⟩
  · unfold cutV
    rw [List.length_map, List.map_take, List.map_drop]
  · rw [List.length_take, List.length_drop]; omega
  · intro x hx
    exact List.mem_of_mem_drop (List.mem_of_mem_take hx)
theorem size_two (n : Nat) : Builtin.Range.rangeSize 0 ((2 * n : Nat) : Int) 2 = (n : Int) := by
  unfold Builtin.Range.rangeSize
  rw [if_pos (by decide)]
  split <;> omega
theorem range_two (n : Nat) (h : n ≤ 1000000) : RgC 0 ((2 * n : Nat) : Int) 2 n := by
  refine ⟨by decide, by decide, ?_, size_two n⟩
  have f : ∀ x : Int, 0 ≤ x → x ≤ 3000000 → Builtin.Range.rangeFitsLong x = true := fun x h0 h1 => by
    unfold Builtin.Range.rangeFitsLong
    rw [Bool.and_eq_true, decide_eq_true_eq, decide_eq_true_eq]
    omega
  unfold Builtin.Range.small
  rw [size_two, f 0 (by decide) (by decide), f ((2 * n : Nat) : Int) (by omega) (by omega), f 2 (by decide) (by decide), f (n : Int) (by omega) (by omega)]
  simp only [Bool.true_and, show (2 : Int) > 0 from by decide, if_true, Bool.or_eq_true, beq_iff_eq]
  exact .inr (f _ (by omega) (by omega))
end Sip
namespace Sip
open PySem PySem.Spec PyProof.Rows L2 TL
def spWorth : Sp := fun vs H Q _ => ∃ j : Nat, j < 16 ∧ vs = [.str ⟨#[figs.getD j 0]⟩] ∧ Q (.int j) H
def spRead : Sp := fun vs H Q _ => ∃ bs : List Int, vs = [.str (tx bs)] ∧ Bytes bs ∧ bs.length ≤ 8000 ∧ ∀ (H' : Hp) (p : Addr), H p = none → H' p = some (.lst (bs.map V.int)) → Same H H' → Q (.ref p) H'
def spTxt (K : PySem.W.Frag) : Sp := fun vs H Q _ => ∃ (a : Addr) (bs : List Int), vs = [.ref a] ∧ SqL K H a (bs.map V.int) ∧ Bytes bs ∧ bs.length ≤ 8000 ∧ ∀ H' : Hp, Same H H' → Q (.str (tx bs)) H'
theorem get_int {xs : List Int} {i : Nat} {x : V} (h : (xs.map V.int)[i]? = some x) : ∃ hi : i < xs.length, x = .int xs[i] := by
  have hi : i < xs.length := by
    have := (List.getElem?_eq_some_iff.mp h).1
    rwa [List.length_map] at this
  refine ⟨hi, ?_⟩
  rw [List.getElem?_map, List.getElem?_eq_getElem hi] at h
  exact (Option.some.inj h).symm
theorem sum_two : ∀ bs : List Int, ((bs.map fun b => two b.toNat).map (·.length)).sum = 2 * bs.length
  | [] => rfl
  | b :: r => by
    show 2 + ((r.map fun b => two b.toNat).map (·.length)).sum = 2 * (r.length + 1)
    rw [sum_two r]; omega
theorem fit_two (bs : List Int) (h : bs.length ≤ 8000) : ((bs.map fun b => two b.toNat).map (·.length)).sum + (bs.map fun b => two b.toNat).length * (Str.ofString "").length ≤ 16777216 := by
  rw [sum_two, show (Str.ofString "").length = 0 by decide +kernel]; omega
end Sip
namespace Sip
open PySem PySem.Spec PyProof.Rows L2 TL
def spAsked : Sp := fun vs H Q _ => ∃ (a : Addr) (bs : List Int), vs = [.ref a] ∧ H a = some (.lst (bs.map V.int)) ∧ Bytes bs ∧ bs.length ≤ 4000 ∧ ∀ H' : Hp, Same H H' → Q (.bl true) H'
end Sip
/-! a list comprehension whose element may raise: what is raised leaves the comprehension -/
namespace Sip
open PySem PySem.Spec PyProof.Rows L2

theorem note_same {e : Value} {a b : Env} (h : a.frame = b.frame) : noteFrame e a = noteFrame e b := by
  unfold noteFrame PySem.frameOf
  rw [h]

/-- a comprehension's end, either way -/
def endX (M : Model) (A : Around) (E : Value → Shared → Prop) (Q : Value → Shared → Prop) (acc : Value) (ce : Env) (r : Result) (s' : Shared) : Prop :=
  ∃ m, s'.heap.Ns ce.locals m ∧ ∀ h', Heap.SameBut ce.locals s'.heap h' → match r with
    | .ok _ => Q acc { s' with heap := h' }
    | .error x => wpAny M A (passOn "comprehension.variables-let-go" x ce : Sem Value) (fun _ _ => False) E { s' with heap := h' }

theorem comp_run {M : Model} {A : Around} {E : Value → Shared → Prop} {s : Shared} {env : Env} {e : Expr} {scope : Scope} {pos : Pos} {na fi : Sem Value} {g : Comprehension} {gs : List Comprehension} {cl : List (Str × Addr)} {Q : Value → Shared → Prop}
    (hg : clausesOf e = g :: gs) (hs : ∀ x, foldedSetIterable g.iter env x = pure x) (hcl : closureFor scope env = pure cl) (hk : scope.kind = .function)
    (hn : ∀ x ∈ scope.names, x.2 = .local → scope.names.lookup x.1 = some .local)
    (h : wpAny M A fi (fun x s1 => wpAny M A (pyIter x) (fun it s2 => wpAny M A na (fun acc s3 => wpAny M A (newFunctionEnv scope env.globals cl [] env.qual none .none (some env)) (fun ce s4 =>
      codeAny M A (.compStart e 0 it acc { ce with scope := relabel scope env }) (endX M A E Q acc { ce with scope := relabel scope env }) s4) E s3) E s2) E s1) E s) :
    wpAny M A (comprehension e scope env pos na false fi none) Q E s := by
  unfold comprehension
  rw [hcl, hg]
  refine wpAny_bind (wpAny_mono h (fun x s1 h1 => ?_) fun _ _ z => z)
  refine wpAny_bind (wpAny_standAt (wpAny_bind (wpAny_of_eq (hs x) ?_)))
  refine wpAny_bind (wpAny_holding (wpAny_mono h1 (fun it s2 h2 => ?_) fun _ _ z => z))
  refine wpAny_standIf (wpAny_bind (wpAny_mono h2 (fun acc s3 h3 => ?_) fun _ _ z => z))
  refine wpAny_bind (wpAny_pure (wpAny_bind (wpAny_mono h3 (fun ce s4 h4 => ?_) fun _ _ z => z)))
  dsimp only
  have vs : ∀ x ∈ (scope.names.filter fun x => (x.2 == .local || x.2 == .cell) && x.1 != (".0" : Str)).reverse, x.2 = .local → Env.kindOf { ce with scope := relabel scope env } x.1 = some .local :=
    fun x hx hl => lookup_relabel_local (hn x (List.mem_filter.mp (List.mem_reverse.mp hx)).1 hl)
  refine wpAny_holding (wpAny_bind (wpAny_attempt (wpAny_holding (wpAny_run (codeAny_mono h4 fun r s' hr => ?_)))))
  obtain ⟨m, nm, hr⟩ := hr
  cases r with
  | ok f => exact wpAny_bind (wpAny_holding (wpAny_comp_letGo (cenv := { ce with scope := relabel scope env }) hk _ s' m vs nm fun h' _ _ sb => wpAny_pure (hr h' sb)))
  | error x => exact wpAny_bind (wpAny_holding (wpAny_comp_letGo (cenv := { ce with scope := relabel scope env }) hk _ s' m vs nm fun h' _ _ sb => wpAny_mono (hr h' sb) (fun _ _ f => f.elim) fun _ _ z => z))

theorem frames_to {h h' B B' : Heap} : ∀ {l : List Env}, h.FunFrames B l → (∀ b ∈ frs l, ∀ o, h.get? b = some o → h'.get? b = some o) → (∀ b ∈ frs l, B'.get? b = none) → h'.FunFrames B' l
  | [], _, _, _ => trivial
  | v :: l, f, k, n => by
    obtain ⟨f1, ⟨L, o, f2, f3, f4, f5⟩, f6⟩ := f
    have up : ∀ b ∈ frs l, b ∈ frs (v :: l) := fun b hb => by
      obtain ⟨x, hx, q⟩ := List.mem_filterMap.mp hb
      exact List.mem_filterMap.mpr ⟨x, List.mem_cons_of_mem _ hx, q⟩
    have hL : L ∈ frs (v :: l) := List.mem_filterMap.mpr ⟨v, List.mem_cons_self, f2⟩
    exact ⟨f1, ⟨L, o, f2, n L hL, k L hL o f4, f5⟩, frames_to f6 (fun b hb => k b (up b hb)) fun b hb => n b (up b hb)⟩

section
variable {X : Cx} {pins : List (Addr × Obj)} {σ : L2.St} {H3 : Hp} {s3 : Shared}
set_option maxHeartbeats 1000000 in
theorem comp_out {scope : Scope} {ce : Env} {fp : List Addr} {W : WX} {E : XK} {pb : List (Addr × Obj)} {σb : L2.St} {Hb : Hp} {sb s' : Shared} {u acc : Value} {Q : Value → Shared → Prop}
    (I3 : Inv X pins σ H3 s3) (hst : X.stack = X.env :: X.outer) (hfr : X.env.frame = some X.env.locals) (tk : Takes X W) (hfp : ∀ b ∈ fp, FpOk X pins H3 b)
    (cf : ce.frame = X.env.frame) (cL : ce.locals = s3.heap.objs.size) (Ib : Inv (X.blk s3 H3 scope ce fp) pb σb Hb sb) (hE : ∀ cls d H', E cls d H' → W cls d σ H')
    (c : CX X.prog X.w X.stack Hb sb E u s') :
    notedBy (model X.prog X.w) X.A ce (fun e s'' => endX (model X.prog X.w) X.A X.xe Q acc ce (.error e) s'') u s' := by
  obtain ⟨a, B, H', cls, d, rfl, fl, hok, ub, na, os, ag, hw⟩ := c
  have hA : X.A.frames = some (X.env :: X.outer) := by rw [I3.ok.frames, hst]
  have Bu : Un (frs X.stack) fp H3 Hb s3.heap sb.heap := Ib.base
  have HbC : Hb ce.locals = none := Ib.free
  obtain ⟨m, ⟨oC, es, ep, eC, dC, rC⟩, _⟩ := Ib.loc
  have eC : sb.heap.get? ce.locals = some oC := eC
  have nC : ce.locals ∉ frs X.stack := fun z => by
    rcases List.mem_cons.mp (I3.stkSub _ z) with z | z
    · have := I3.lt
      rw [← z, cL] at this
      exact absurd this (Nat.lt_irrefl _)
    · exact I3.nofs (Nat.le_of_eq cL.symm) z
  have BC : B.get? ce.locals = some oC := ub.keep _ _ eC HbC nC
  have H'C : H' ce.locals = none := ub.free _ _ eC HbC
  have ffl : ∀ b ∈ frs X.stack, ∃ o, s'.heap.get? b = some o ∧ ∀ vs, o.data ≠ .fields vs := fun b hb => (fl.2.2.1.mem hb).2
  show wpAny _ _ (noteFrame (.ref a) ce) _ _ s'
  rw [note_same cf]
  have fl2 := fl
  rw [hst] at fl2
  refine HandSPX.looks_onZ Zc.steady hA hfr fl2 fun h1 hh up1 => ?_
  obtain ⟨st1, en1, ff1, tr1⟩ := hh
  refine ⟨m, ⟨oC, es, ep, st1 _ _ BC, dC, rC⟩, fun h' sbut => ?_⟩
  -- the ground without the comprehension's own names
  obtain ⟨B', b1, b2⟩ := restrict B fun b => !decide (b = ce.locals)
  have Bto : ∀ b o, B.get? b = some o → b ≠ ce.locals → B'.get? b = some o := fun b o e n => by
    rw [b1 b (by simp [n])]; exact e
  have Bof : ∀ b o, B'.get? b = some o → B.get? b = some o ∧ b ≠ ce.locals := fun b o e => by
    by_cases n : b = ce.locals
    · rw [b2 b (by simp [n])] at e; cases e
    · rw [b1 b (by simp [n])] at e; exact ⟨e, n⟩
  have Bno : ∀ b, B.get? b = none → B'.get? b = none ∧ b ≠ ce.locals := fun b e => by
    have n : b ≠ ce.locals := fun z => by rw [z, BC] at e; cases e
    exact ⟨by rw [b1 b (by simp [n])]; exact e, n⟩
  have st2 : B'.StaysIn h' := fun b o e => by
    obtain ⟨e1, n⟩ := Bof b o e
    rw [sbut.2 b n]; exact st1 b o e1
  have ff2 : h'.FunFrames B' (X.env :: X.outer) := frames_to ff1 (fun b hb o e => by
    rw [sbut.2 b (Bno b (ff1.mem hb).1).2]; exact e) fun b hb => (Bno b (ff1.mem hb).1).1
  have tr2 : HandSPX.TracedZ h' B' a (Zc cls d) (rawInt X.env.locals) := by
    obtain ⟨oe, vs, T, oT, ts, t1, t2, t3, t4, t5, t6, t7, t8, t9⟩ := tr1
    exact ⟨oe, vs, T, oT, ts, by rw [sbut.2 a (Bno a en1).2]; exact t1, t2, t3, t4, (Bno T t5).1, t6, by rw [sbut.2 T (Bno T t5).2]; exact t7, t8, t9⟩
  show wpAny _ _ (passOn "comprehension.variables-let-go" (.ref a) ce : Sem Value) _ _ _
  obtain ⟨oe, vs, T, oT, ts, t1, t2, t3, t4, t5, t6, t7, t8, t9⟩ := id tr2
  unfold PySem.passOn
  refine wpAny_bind (wpAny_field t1 t3 t4 ?_)
  rw [if_neg (show ¬ ((Value.ref T == Value.none) = true) from by simp)]
  try refine wpAny_bind (wpAny_pure ?_)
  refine wpAny_bind (HandSPX.setFlight_anyZ (s := { s' with heap := h' }) st2 ff2 tr2 fun h2 k1 k2 k3 k4 => wpAny_throw (tk _ _ ?_))
  rw [cf, hfr] at k3
  -- the state without it
  obtain ⟨G, g1, g2⟩ := restrict h2 fun b => (B'.get? b).isSome || decide (b ∈ frs X.stack)
  have gB : ∀ b o, B'.get? b = some o → G.get? b = some o := fun b o e => by
    rw [g1 b (by simp [e])]; exact k1 b o e
  have gF : ∀ b ∈ frs X.stack, G.get? b = h2.get? b := fun b hb => g1 b (by simp [hb])
  have og : ∀ b o, G.get? b = some o → h2.get? b = some o ∧ ((B'.get? b).isSome = true ∨ b ∈ frs X.stack) := fun b o e => by
    cases q : ((B'.get? b).isSome || decide (b ∈ frs X.stack)) with
    | false => rw [g2 b q] at e; cases e
    | true => rw [g1 b q] at e; exact ⟨e, by simpa [Bool.or_eq_true] using q⟩
  -- a frame's object through all of it
  have fr : ∀ b ∈ frs X.stack, ∀ o, s'.heap.get? b = some o → ∃ sl, h2.get? b = some { o with slots := sl } := fun b hb o e => by
    obtain ⟨o2, e2, nf⟩ := ffl b hb
    rw [e] at e2; cases e2
    obtain ⟨sl1, e3⟩ := up1 b o e nf
    have nb : b ≠ ce.locals := fun z => nC (z ▸ hb)
    rw [← sbut.2 b nb] at e3
    obtain ⟨sl2, e4⟩ := k4 b _ e3 nf
    exact ⟨sl2, e4⟩
  have lt3 : ∀ b o, s3.heap.get? b = some o → b ≠ ce.locals := fun b o e z => by
    have := Heap.lt_size e
    rw [z, cL] at this
    exact absurd this (Nat.lt_irrefl _)
  have U : Un (frs X.stack) fp H3 H' s3.heap G := by
    refine ⟨fun b o e n hb hx => ?_, fun b o e n hb hx => ?_, fun b o e n hx => ?_, fun b o e hx => ?_, fun b xs e => ub.tups b xs (Bu.tups b xs e), fun b o v e => ub.frzs b o v (Bu.frzs b o v e), fun b ps e => ?_⟩
    · exact gB b o (Bto b o (ub.keep b o (Bu.keep b o e n hb hx) (Bu.free b o e n hx) hb) (lt3 b o e))
    · obtain ⟨sl, e1⟩ := Bu.slot b o e n hb hx
      obtain ⟨sl1, e2⟩ := ub.slot b _ e1 hb
      obtain ⟨sl2, e3⟩ := fr b hb _ e2
      exact ⟨sl2, by rw [gF b hb]; exact e3⟩
    · obtain ⟨o1, e1⟩ := Bu.there b o e hx
      exact ub.free b o1 e1 (Bu.free b o e n hx)
    · obtain ⟨o1, e1⟩ := Bu.there b o e hx
      by_cases hb : b ∈ frs X.stack
      · obtain ⟨sl1, e2⟩ := ub.slot b _ e1 hb
        obtain ⟨sl2, e3⟩ := fr b hb _ e2
        exact ⟨_, by rw [gF b hb]; exact e3⟩
      · obtain ⟨o2, e2⟩ := ub.there b o1 e1 hb
        exact ⟨o2, gB b o2 (Bto b o2 e2 (lt3 b o e))⟩
    · obtain ⟨m1, e1⟩ := Bu.tbls b ps e
      obtain ⟨m2, e2⟩ := ub.tbls b _ e1
      exact ⟨m1 ++ m2, by rw [e2]; simp⟩
  have hokG : HOk X.prog X.w H' G := fun b o q => (hok b o q).stay (fun c v hc r => gB c v (Bto c v r fun z => by
    rcases hc with hc | hc
    · rw [← hc, z, H'C] at q; cases q
    · rw [z, H'C] at hc; cases hc)) (fun _ r => r) fun _ _ r => r
  have IX : Inv X pins σ H' { s3 with heap := G, gens := s'.gens, drawn := s'.drawn, toks := s'.toks } :=
    I3.call (ch := fp) U hokG ag fun b hb => ⟨(hfp b hb).2.2.2.1, (hfp b hb).2.1, (hfp b hb).2.2.2.2.1, (hfp b hb).2.2.2.2.2⟩
  refine ⟨a, B', _, pins, σ, H', cls, d, rfl, IX, fun b o e hb => ?_, Heap.UpToSlots.of_keeps fun b o e => (og b o e).1, .inr (.inr ⟨k1, (Bno a en1).1, by rw [hst]; exact k2, k3⟩), na, os.trans Ib.os, ag, hE _ _ _ hw⟩
  obtain ⟨e1, w1⟩ := og b o e
  rcases w1 with w1 | w1
  · obtain ⟨o2, q2⟩ := Option.isSome_iff_exists.mp w1
    have := k1 b o2 q2
    rw [e1] at this; cases this
    exact q2
  · exact absurd w1 hb
end

/-- another wish about what is raised -/
abbrev withX (X : Cx) (xe : Value → Shared → Prop) : Cx := { X with xe := xe }
theorem swapX {X : Cx} {pins : List (Addr × Obj)} {σ : L2.St} {H : Hp} {s : Shared} (xe : Value → Shared → Prop) (I : Inv X pins σ H s) : Inv (withX X xe) pins σ H s :=
  ⟨⟨I.ok.mod, I.ok.kind, I.ok.glob, I.ok.blt, I.ok.above, I.ok.inj, I.ok.has, I.ok.cab, I.ok.hd, I.ok.frames, I.ok.stk, I.ok.exf, I.ok.bs, I.ok.bsz, I.ok.noex, I.ok.exfs, I.ok.funs, I.ok.frf⟩,
    I.os, I.bare, I.base, I.loc, I.cell, I.free, I.freeC, I.pin, I.hok, I.len⟩
theorem unswapX {X : Cx} {pins : List (Addr × Obj)} {σ : L2.St} {H : Hp} {s : Shared} {xe : Value → Shared → Prop} (I : Inv (withX X xe) pins σ H s) : Inv X pins σ H s :=
  ⟨⟨I.ok.mod, I.ok.kind, I.ok.glob, I.ok.blt, I.ok.above, I.ok.inj, I.ok.has, I.ok.cab, I.ok.hd, I.ok.frames, I.ok.stk, I.ok.exf, I.ok.bs, I.ok.bsz, I.ok.noex, I.ok.exfs, I.ok.funs, I.ok.frf⟩,
    I.os, I.bare, I.base, I.loc, I.cell, I.free, I.freeC, I.pin, I.hok, I.len⟩
section
variable {X : Cx}
/-- [elt for target in iter], where elt may raise: W tells what is then wanted -/
def tLcX (wi : TI) (g : TG) (te : XK → TE) (vs : List Nat) (W : WX) : TE := fun σ H Q => tLc wi g tYes (te fun cls d H' => W cls d σ H') vs σ H Q
set_option maxHeartbeats 2000000 in
theorem pe_lcX {elt tg iter : Expr} {scope : Scope} {own : List (Str × Nat)} {pos : Pos} {wi : TI} {g : TG} {te : XK → TE} {W : WX} (hc : X.calm = true) (hst : X.stack = X.env :: X.outer) (hfr : X.env.frame = some X.env.locals) (tk : Takes X W) (hN : X.N.Nodup)
    (hi : PI X tg iter wi) (ok : BlkOk X.N X.env.scope scope own)
    (hg : ∀ (s : Shared) (H : Hp) (C : Addr) (cl : List (Str × Addr)) (fp : List Addr), PG (X.blk s H scope (compEnvC scope cl C X.env) fp) tg g)
    (he : ∀ (s : Shared) (H : Hp) (C : Addr) (cl : List (Str × Addr)) (fp : List Addr) (xe : Value → Shared → Prop) (E : XK), Passes (CX X.prog X.w) (withX (X.blk s H scope (compEnvC scope cl C X.env) fp) xe) E →
      PE (withX (X.blk s H scope (compEnvC scope cl C X.env) fp) xe) elt (te E))
    (hs : ∀ x, foldedSetIterable iter X.env x = pure x := by intro _; rfl) : PE X (.ListComp elt [⟨tg, iter, [], 0⟩] scope pos) (tLcX wi g te (own.map (·.2)) W) := by
  refine ⟨fun pins s σ H Q I h => ?_⟩
  have h : tLc wi g tYes (te fun cls d H' => W cls d σ H') (own.map (·.2)) σ H Q := h
  generalize hE : (fun cls d H' => W cls d σ H' : XK) = E at h
  have hEW : ∀ cls d H', E cls d H' → W cls d σ H' := fun cls d H' q => by rw [← hE] at q; exact q
  rw [eval_ListComp]
  have cells : ∀ y ∈ scope.names, y.2 = .free → ∃ c, X.env.cells.lookup y.1 = some c := fun y hy e => (ok.free y hy e).elim (fun k => I.ok.has _ (.inl k)) fun k => I.ok.has _ (.inr k)
  refine comp_run rfl hs (closure_ok cells) ok.kind (fun y hy e => by rw [ok.uniq y hy, e]) (thn (hi.run pins s σ H _ I h) fun xv s1 hx => ?_)
  refine thn hx fun itv s2 h2 => ?_
  obtain ⟨it, fp, tn, J, H2, rfl, I2, T, st2, f2, q⟩ := h2
  refine wpAny_newObj_type (newEnv_comp ?_) (by show 0 ≤ sizeLine; decide)
  generalize eD : s2.heap.objs.size = D
  have nD : H2 D = none := I2.hok.fresh (Nat.le_of_eq eD)
  obtain ⟨Wi, ⟨m0, w0⟩, turn⟩ := q D nD
  generalize es3 : ({ s2 with heap := s2.heap.push { cls := .type "list", data := .seq ([] : List Value).toArray } } : Shared) = s3
  have p3 : s3.heap = s2.heap.push { cls := .type "list", data := .seq ([] : List Value).toArray } := by rw [← es3]
  have I3 : Inv X pins σ (upd H2 D (.lst [])) s3 := by
    subst es3
    refine I2.laid (t' := s2.toks) (fun b o e => Heap.get?_push_of_some _ e) (Nat.le_of_eq eD) ⟨Nat.zero_le _, [], 0, .nil, ?_⟩
    subst eD
    exact Heap.get?_push_size _ rfl
  have f3 : ∀ b ∈ fp, FpOk X pins (upd H2 D (.lst [])) b ∧ b < s3.heap.objs.size := fun b hb => by
    obtain ⟨o, e, _⟩ := T.obj _ _ st2 b hb
    have lt := Heap.lt_size e
    refine ⟨⟨?_, (f2 b hb).2⟩, by rw [p3, Heap.size_push]; exact Nat.lt_succ_of_lt lt⟩
    rw [upd_ne (by rw [← eD]; exact Nat.ne_of_lt lt)]
    exact (f2 b hb).1
  have st3 : tn 0 s3.heap := T.keep _ _ _ st2 fun b _ o e => by rw [p3]; exact Heap.get?_push_of_some _ e
  have I4 := block_start I3 ok hN f3
  generalize ecl : cellsFrom (s3.heap.objs.size + 1) scope.names (cloFrom X.env.cells scope.names []) = cl at I4 ⊢
  have pg := hg s3 (upd H2 D (.lst [])) s3.heap.objs.size cl fp
  have pe := he s3 (upd H2 D (.lst [])) s3.heap.objs.size cl fp
  have nf : ∀ b ∈ fp, (upd H2 D (.lst [])) b = none := fun b hb => (f3 b hb).1.1
  show codeAny _ _ (.compStart (.ListComp elt [⟨tg, iter, [], 0⟩] scope pos) 0 (.ref it) (.ref D) (compEnvC scope cl s3.heap.objs.size X.env)) (endX (model X.prog X.w) X.A X.xe (EP X pins σ Q) (.ref D) (compEnvC scope cl s3.heap.objs.size X.env)) { s3 with heap := pushCells (s3.heap.push { cls := .type "dict", data := .dict #[] }) scope.names }
  generalize ece : compEnvC scope cl s3.heap.objs.size X.env = ce at I4 pg pe ⊢
  have cL : ce.locals = s3.heap.objs.size := by subst ece; rfl
  have cF : ce.frame = X.env.frame := by subst ece; rfl
  generalize eH3 : upd H2 D (.lst []) = H3 at I3 I4 pg pe w0 nf f3
  generalize es4 : ({ s3 with heap := pushCells (s3.heap.push { cls := .type "dict", data := .dict #[] }) scope.names } : Shared) = s4 at I4 ⊢
  have st4 : tn 0 s4.heap := T.keep _ _ _ st3 fun b _ o e => by rw [← es4]; exact pushCells_keeps _ _ _ _ (Heap.get?_push_of_some _ e)
  generalize eY : X.blk s3 H3 scope ce fp = Y at I4 pg pe
  have Yi : ∀ {σ' : L2.St} {H' : Hp} {s' : Shared}, Inv Y [] σ' H' s' → (∀ b ∈ fp, H' b = none) → ∀ b ∈ fp, FpOk Y [] H' b := fun {σ' H' s'} I' hn b hb => by
    subst eY
    exact ⟨hn b hb, (I'.ok.exf b hb).1, I'.ok.exfs b hb, .inl hb, fun x c e => (I'.ok.exf b hb).2 x c e, fun p hp => absurd (show p ∈ ([] : List (Addr × Obj)) ++ [] from hp) (by simp)⟩
  -- what is raised in the block
  have out : ∀ {pb : List (Addr × Obj)} {σb : L2.St} {Hb : Hp} {sb s' : Shared} {u : Value}, Inv Y pb σb Hb sb → CX X.prog X.w X.stack Hb sb E u s' →
      notedBy (model X.prog X.w) X.A ce (fun e s'' => endX (model X.prog X.w) X.A X.xe (EP X pins σ Q) (.ref D) ce (.error e) s'') u s' := fun {pb σb Hb sb s' u} Ib c => by
    subst eY
    exact comp_out I3 hst hfr tk (fun b hb => (f3 b hb).1) cF cL Ib hEW c
  have Yp : Y.prog = X.prog ∧ Y.w = X.w ∧ Y.K = X.K ∧ Y.A = X.A ∧ Y.env = ce ∧ Y.stack = X.stack ∧ Y.xe = (fun _ _ => False) := by subst eY; exact ⟨rfl, rfl, rfl, rfl, rfl, rfl, rfl⟩
  have back : ∀ {H5 : Hp} {s6 : Shared}, Inv Y [] (wipe σ (own.map (·.2))) H5 s6 → Inv X pins σ H5 s6 ∧ H5 s3.heap.objs.size = none ∧ ∃ m, s6.heap.Ns ce.locals m := fun {H5 s6} I6 => by
    subst eY
    refine ⟨I3.call' (ch := fp) I6.os I6.base I6.hok I6.bare fun b hb => ?_, ?_, ?_⟩
    · obtain ⟨⟨_, z1, _, z3, z4, z5⟩, _⟩ := f3 b hb
      exact ⟨z3, z1, z4, z5⟩
    · have z : H5 ce.locals = none := I6.free
      rw [cL] at z; exact z
    · obtain ⟨m, hn, _⟩ := I6.loc
      exact ⟨m, hn⟩
  subst eY
  have loop : codeAny (model X.prog X.w) X.A (.compLoop (.ListComp elt [⟨tg, iter, [], 0⟩] scope pos) 0 (.ref it) (.ref D) ce) (endX (model X.prog X.w) X.A X.xe (EP X pins σ Q) (.ref D) ce) s4 := by
    refine compLoop_any (fun n s' => ∃ i H', Inv (X.blk s3 H3 scope ce fp) [] (wipe σ (own.map (·.2))) H' s' ∧ tn i s'.heap ∧ (∀ b ∈ fp, H' b = none) ∧ Wi i n H') (fun n s5 hI => ?_) m0 ⟨0, H3, I4, st4, nf, w0⟩
    obtain ⟨i, H5, I5, st5, n5, w5⟩ := hI
    rcases turn i n H5 w5 with ⟨stop, qq⟩ | ⟨go, Nx, hNx, step⟩
    · refine thnF (T.done (X.blk s3 H3 scope ce fp) rfl rfl rfl hc i [] s5 _ H5 (fun _ _ => False) I5 (Yi I5 n5) st5 stop) fun r s6 ⟨hr, I6⟩ => ?_
      subst hr
      obtain ⟨I7, nC, m, hn⟩ := back I6
      refine ⟨m, hn, fun h' sb => ?_⟩
      obtain ⟨c0, c1, c2, c3, c4, c5⟩ := I3.fpOk (Nat.le_refl _) nC
      rw [cL] at sb
      exact ⟨.ref D, H5, I7.turned (t' := s6.toks) (fun b o hb e => (sb.2 b hb).trans e) c0 c1 c3 c4 c5, rfl, qq⟩
    · refine thnF (T.item (X.blk s3 H3 scope ce fp) rfl rfl rfl hc i [] s5 _ H5 (fun _ _ => False) I5 (Yi I5 n5) st5 go) fun r s6 ⟨u, hr, h6⟩ => ?_
      subst hr
      refine thnF h6 fun _ s7 ⟨x, H7, I7, r7, y7, st7, n7⟩ => ?_
      have I7p := I7.pinned (Yi I7 n7) (T.obj _ _ st7)
      refine thnF (pg.run _ s7 _ H7 x u _ I7p r7 (step x H7 y7)) fun _ s8 ⟨σ8, H8, I8, w8, q8⟩ => wpAny_tests_nil ?_
      have q9 : te E σ8 H8 fun y H4 => ∃ acc, H4 D = some (.lst acc) ∧ acc.length < sizeLine ∧ Nx (upd H4 D (.lst (acc ++ [y]))) := q8
      rw [if_pos rfl]
      have pe1 := pe (fun u s' => ∃ pb σb Hb sb, Inv (X.blk s3 H3 scope ce fp) pb σb Hb sb ∧ CX X.prog X.w X.stack Hb sb E u s') E (fun pb σb Hb sb e s' Ib c => ⟨pb, σb, Hb, sb, unswapX Ib, c⟩)
      refine wpAny_mono (pe1.run _ s8 σ8 H8 _ (swapX _ I8) q9) (fun z s10 hz => ?_) (fun e s' hx => ?_)
      · obtain ⟨yv, H10, I10, r10, acc, d10, z10, nx⟩ := hz
        refine app_ok (X := X.blk s3 H3 scope ce fp) (unswapX I10) d10 z10 r10 fun s11 I11 => ?_
        obtain ⟨m', hm, w'⟩ := hNx _ nx
        have pin : ∀ b ∈ fp, ∀ o, s7.heap.get? b = some o → s11.heap.get? b = some o ∧ (upd H10 D (.lst (acc ++ [yv]))) b = none := fun b hb o e => by
          have z := I11.pin (b, o) (List.mem_append_right _ (List.mem_append_right _ (mem_pinsAt hb e)))
          exact ⟨z.1, z.2.1⟩
        refine ⟨m', hm, i + 1, _, (I11.unpinned (pins := [])).weak (by rw [← w8, wipe_length]) (fun j v e => ?_), T.keep _ _ _ st7 fun b hb o e => (pin b hb o e).1, fun b hb => ?_, w'⟩
        · rw [← w8] at e
          exact (wipe_some e).1
        · obtain ⟨o, e, _⟩ := T.obj _ _ st7 b hb
          exact (pin b hb o e).2
      · obtain ⟨pb, σb, Hb, sb, Ib, c⟩ := hx
        exact out Ib c
  exact codeAny_compStart_list loop (T.self X.A 0 _ _ _ st4 loop)
end
end Sip
namespace Sip
open PySem PySem.Spec PyProof.Rows L2 TL

section
variable {X : Cx}
/-- X(), X an own error class without an __init__ of its own -/
theorem pmk_own0 {C : Addr} {bmB : List Value} {B newId initId : String} {x : Str} {p pos : Pos} (F : ExcBaseFacts B newId initId bmB) (q : PySem.W.excIn X.K C bmB newId = true) (gC : X.mg x = some (.ref C)) (kC : PySem.W.keepIn X.K (.ref C) = true)
    (r : Raises X (.ref C)) (hg : Gl X x) (hdb : (x == ("__debug__" : Str)) = false := by decide) : PMk X (.Call (.Name x p) [] [] pos) (fun _ H Q => Q (.ref C) none H) := by
  intro pins s σ H Q I h
  refine wpAny_Call_Name_kw (ld_glob I hg gC (PySem.W.callWith_K0 I.kIn kC ?_) hdb)
  obtain ⟨bm, N, nm, qn, bs, hdct, sn, sub, ab, col, dd, k0, k1, k2, k3, k5, mN, hC, hN, hni, T⟩ := exc_obj I.kIn q
  exact wpAny_call_exc_subT (rest := []) F T hC hN hni (fun h' e hm => mk_of I hm r h (I.hok.gone hm.new)) (Nat.zero_le _)
/-- isinstance(e, c), e the caught error, whose class is to be shown -/
def rIsX (K : PySem.W.Frag) (D : Addr) (cls : Value) (d : Option Addr) (a : Addr) : List V → Hp → VK → Prop := fun xs H Q => cls = .ref D ∧ d = none ∧ rIsE K D a xs H Q
theorem call_isX {a D : Addr} {oe : Obj} {cls : Value} {d : Option Addr} {pn : List (Addr × Obj)} (C : ExcC X.K D) (hz : Zc cls d oe) (hf : ∃ vs, oe.data = .fields vs) : CallR (X.suite a ((a, oe) :: pn)) (.builtin "isinstance") (rIsX X.K D cls d a) := by
  intro pins s σ H xs us Q I r h
  obtain ⟨rfl, rfl, h⟩ := h
  exact call_isE C hz hf pins s σ H xs us Q I r h
end
/-- what the text's error classes are: C the one that is raised, S the one above it -/
structure Errs (K : PySem.W.Frag) (mg : Str → Option Value) (C S : Addr) : Prop where
  gP : mg "NoRow" = some (.ref C)
  gS : mg "SipError" = some (.ref S)
  xP : PySem.W.excIn K C [.type "ValueError", .type "Exception", .type "BaseException", .type "object"] "ValueError.__new__" = true
  kP : PySem.W.keepIn K (.ref C) = true
  bP : PySem.W.subIn K (.ref C) (.type "BaseException") = some true
  tP : PySem.W.typeIn K (.ref C) = some (.type "type")
  te : PySem.W.exmOne K (.ref C) (.ref C) = some true
  i1 : PySem.W.kitOne K (.ref C) (.ref S) = some true
  i2 : PySem.W.kitOne K (.ref C) (.type "ValueError") = some true
  ec : ExcC K C

/-! texts of plain signs -/
def Asc (z : Str) : Prop := ∀ c ∈ z.cps.toList, c < 128
theorem asc_append {a b : Str} (ha : Asc a) (hb : Asc b) : Asc (a ++ b) := fun c hc => by
  have e : (a ++ b).cps.toList = a.cps.toList ++ b.cps.toList := tl_append a b
  rw [e] at hc
  exact (List.mem_append.mp hc).elim (ha c) (hb c)
theorem asc_cut {z : Str} (h : Asc z) (lo hi : Option Int) : Asc (cutS z lo hi) := fun c hc => by
  have e : (cutS z lo hi).cps.toList = (z.cps.toList.drop (HT.sIx z.length 0 lo)).take (HT.sIx z.length z.length hi - HT.sIx z.length 0 lo) := rfl
  rw [e] at hc
  exact h c (List.mem_of_mem_drop (List.mem_of_mem_take hc))
theorem up_small : ∀ c : Fin 128, up1 c.val < 128 := by decide +kernel
theorem asc_upper {z : Str} (h : Asc z) : Asc (Txt.upper z) ∧ (Txt.upper z).length = z.length := by
  rw [upper_ascii h]
  refine ⟨fun c hc => ?_, ?_⟩
  · have e : (z.cps.map up1).toList = z.cps.toList.map up1 := Array.toList_map ..
    have hc : c ∈ (z.cps.map up1).toList := hc
    rw [e] at hc
    obtain ⟨b, hb, rfl⟩ := List.mem_map.mp hc
    exact up_small ⟨b, h b hb⟩
  · show (z.cps.map up1).size = z.cps.size
    exact Array.size_map ..
theorem len_append (a b : Str) : (a ++ b).length = a.length + b.length := strLen_append ..
theorem asc_one {c : Nat} (h : c < 128) : Asc ⟨#[c]⟩ := fun x hx => by
  have : x ∈ [c] := hx
  rw [List.mem_singleton.mp this]; exact h

/-! which texts are read, and to what -/
theorem find_fig : ∀ c : Fin 128, Txt.find FIG ⟨#[c.val]⟩ = if c.val ∈ figs then (wor c.val : Int) else -1 := by decide +kernel
theorem index_fig : ∀ c : Fin 128, c.val ∈ figs → Txt.index0 FIG ⟨#[c.val]⟩ = some (wor c.val) := by decide +kernel
def okT (cs : List Nat) : Prop := cs.length % 2 = 0 ∧ ∀ c ∈ cs, c ∈ figs
def rd (cs : List Nat) (i : Nat) : Int := 16 * (wor (cs.getD (2 * i) 0) : Int) + (wor (cs.getD (2 * i + 1) 0) : Int)
def rdL (cs : List Nat) : List Int := (List.range (cs.length / 2)).map (rd cs)
theorem rdL_length (cs : List Nat) : (rdL cs).length = cs.length / 2 := by
  unfold rdL; rw [List.length_map, List.length_range]
theorem rdL_get {cs : List Nat} {i : Nat} (h : i < cs.length / 2) : (rdL cs)[i]? = some (rd cs i) := by
  unfold rdL; rw [List.getElem?_map, List.getElem?_range h]; rfl
theorem get_at {cs : List Nat} {i : Nat} (h : i < cs.length) : atI cs (i : Int) = some (cs.getD i 0) ∧ cs.getD i 0 ∈ cs := by
  have e : cs.getD i 0 = cs[i] := by rw [List.getD_eq_getElem?_getD, List.getElem?_eq_getElem h]; rfl
  rw [e]
  exact ⟨atI_nat (List.getElem?_eq_getElem h), List.getElem_mem h⟩
theorem len_codes (z : Str) : z.length = z.cps.toList.length := by
  show z.cps.size = _
  exact (Array.length_toList ..).symm
def spWorthX (C : Addr) : Sp := fun vs H Q E => ∃ c : Nat, c < 128 ∧ vs = [.str ⟨#[c]⟩] ∧ (c ∈ figs → Q (.int (wor c : Nat)) H) ∧ (c ∉ figs → E (.ref C) none H)
def spReadX (C : Addr) : Sp := fun vs H Q E => ∃ z : Str, vs = [.str z] ∧ Asc z ∧ z.length ≤ 1000 ∧
  (okT z.cps.toList → ∀ (H' : Hp) (p : Addr), H p = none → H' p = some (.lst ((rdL z.cps.toList).map V.int)) → Same H H' → Q (.ref p) H') ∧ (¬ okT z.cps.toList → ∀ H' : Hp, Same H H' → E (.ref C) none H')
def spDueT : Sp := fun vs H Q _ => ∃ z : Str, vs = [.str z] ∧ Asc z ∧ z.length ≤ 1000 ∧
  (okT z.cps.toList → ∀ (H' : Hp) (p : Addr), H p = none → H' p = some (.lst ((rdL z.cps.toList).map V.int)) → Same H H' → Q (.ref p) H') ∧ (¬ okT z.cps.toList → ∀ H' : Hp, Same H H' → Q .non H')
/-- a text drawn from a pool -/
def spDraw : Sp := fun vs H Q _ => ∃ (p : Addr) (n : Int) (o : HO), vs = [.ref p] ∧ H p = some o ∧ PoolO n o ∧ n ≤ 900000000 ∧
  ∀ (H' : Hp) (z : Str) (o' : HO), H' p = some o' → PoolO (n + 100) o' → Kp [p] H H' → Asc z → z.length ≤ 60 → Q (.str z) H'
def spSign : Sp := fun vs H Q _ => ∃ (p : Addr) (n : Int) (o : HO), vs = [.ref p] ∧ H p = some o ∧ PoolO n o ∧ n ≤ 999999000 ∧
  ∀ (c : Nat) (o' : HO), c < 128 → PoolO (n + 1) o' → Q (.str ⟨#[c]⟩) (upd H p o')
def spSpoilt : Sp := fun vs H Q _ => ∃ (p : Addr) (n : Int) (o : HO) (z : Str), vs = [.ref p, .str z] ∧ H p = some o ∧ PoolO n o ∧ n ≤ 999990000 ∧ Asc z ∧ z.length ≤ 100 ∧
  ∀ (y : Str) (o' : HO), Asc y → y.length ≤ z.length + 1 → PoolO (n + 3) o' → Q (.str y) (upd H p o')
def spAskedT : Sp := fun vs H Q _ => ∃ z : Str, vs = [.str z] ∧ Asc z ∧ z.length ≤ 1000 ∧ ∀ H' : Hp, Same H H' → Q (.bl true) H'
def SIGNS : Str := Str.ofString " !\"#$&'()*+,-./0123456789:;<=>?@ABCDEFGHIJKLMNOPQRSTUVWXYZ[\\]^_`abcdefghijklmnopqrstuvwxyz{|}~"
theorem signs_asc : SIGNS.cps.toList.length = 94 ∧ ∀ c ∈ SIGNS.cps.toList, c < 128 := by decide +kernel
def GIF : Str := Str.ofString "fedcba9876543210"
theorem gif_asc : GIF.cps.toList.length = 16 ∧ ∀ c ∈ GIF.cps.toList, c < 128 := by decide +kernel
theorem fig_asc : FIG.cps.toList.length = 16 ∧ ∀ c ∈ FIG.cps.toList, c < 128 := by decide +kernel
theorem str_at {z : Str} {n : Nat} (hz : z.cps.toList.length = n ∧ ∀ c ∈ z.cps.toList, c < 128) {r : Int} (r0 : 0 ≤ r) (r1 : r < n) : ∃ c, c < 128 ∧ atI z.cps.toList r = some c := by
  obtain ⟨j, rfl⟩ := Int.eq_ofNat_of_zero_le r0
  obtain ⟨e, m⟩ := get_at (cs := z.cps.toList) (i := j) (by rw [hz.1]; omega)
  exact ⟨_, hz.2 _ m, e⟩
end Sip
namespace Sip
open PySem PySem.Spec PyProof.Rows L2 TL
theorem cut_codes (z : Str) (lo hi : Option Int) : (cutS z lo hi).length = ((z.cps.toList.drop (HT.sIx z.length 0 lo)).take (HT.sIx z.length z.length hi - HT.sIx z.length 0 lo)).length := by
  rw [len_codes]; rfl
theorem cut_len1 (z : Str) {k : Nat} (h : k ≤ z.length) : (cutS z none (some (k : Int))).length = k := by
  have lc := len_codes z
  rw [cut_codes, HT.sIx_none, HT.sIx_nat, List.length_take, List.length_drop]; omega
theorem cut_len2 (z : Str) {k : Nat} (h : k ≤ z.length) : (cutS z (some (k : Int)) none).length = z.length - k := by
  have lc := len_codes z
  rw [cut_codes, HT.sIx_none, HT.sIx_nat, List.length_take, List.length_drop]; omega
theorem cut_len3 (z : Str) {k : Nat} (h : k ≤ z.length) : (cutS z (some ((k : Nat) + 1 : Int)) none).length ≤ z.length - k := by
  have lc := len_codes z
  rw [show ((k : Nat) + 1 : Int) = ((k + 1 : Nat) : Int) by omega, cut_codes, HT.sIx_none, HT.sIx_nat, List.length_take, List.length_drop]; omega
end Sip
namespace Sip
open PySem PySem.Spec PyProof.Rows L2 TL
theorem all_figs {cs : List Nat} : ((cs.map fun c => decide (c ∈ figs)).all id) = true ↔ ∀ c ∈ cs, c ∈ figs := by
  rw [List.all_eq_true]
  constructor
  · intro h c hc
    exact of_decide_eq_true (h _ (List.mem_map.mpr ⟨c, hc, rfl⟩))
  · intro h x hx
    obtain ⟨c, hc, rfl⟩ := List.mem_map.mp hx
    exact decide_eq_true (h c hc)
end Sip
namespace Sip
open PySem PySem.Spec PyProof.Rows L2 TL
theorem asc_nil : Asc (Str.ofString "") := fun c hc => by
  have e : (Str.ofString "").cps.toList = [] := by decide +kernel
  rw [e] at hc; cases hc
end Sip
namespace Sip
open PySem PySem.Spec PyProof.Rows L2 TL
theorem kit_own {K : PySem.W.Frag} {C S : Addr} (h1 : PySem.W.isClsIn K S = true) (h2 : PySem.W.typeIn K (.ref S) = some (.type "type")) (h3 : PySem.W.subIn K (.ref C) (.ref S) = some true) : PySem.W.kitOne K (.ref C) (.ref S) = some true := by
  have a : ((PySem.W.clsIn K S).isSome && PySem.W.typeIn K (.ref S) == some (.type "type")) = true := by
    have h1' : (PySem.W.clsIn K S).isSome = true := h1
    rw [h1', h2]; rfl
  unfold PySem.W.kitOne PySem.W.kitCls
  split
  · rfl
  · exact (if_pos a).trans h3
theorem kit_bltn {K : PySem.W.Frag} {C : Addr} {T : String} (h1 : PySem.W.kitMeta T = true) (h3 : PySem.W.subIn K (.ref C) (.type T) = some true) : PySem.W.kitOne K (.ref C) (.type T) = some true := by
  unfold PySem.W.kitOne PySem.W.kitCls
  split
  · rfl
  · exact (if_pos h1).trans h3
end Sip
namespace Sip
open PySem PySem.Spec PyProof.Rows L2 TL

/-- a def of the text, whatever its defaults -/
structure FunA (K : PySem.W.Frag) (x qual : Str) (st : Stmt) (f : Addr) (fd : FuncData) : Prop where
  ex : ∃ (oc : Value) (od : Option Addr) (dV kV doc pm : Value) (an : Option Addr) (cdv ct : Value) (osl : Array (Option Value)),
    fd = PySem.W.fnOf x qual (defArgs st) (defBody st) (defScope st) dV kV doc pm an cdv ct ∧ K.lookup f = some ⟨oc, od, .func fd, osl⟩ ∧ PySem.W.codeIn K cdv qual = true
  kp : PySem.W.keepIn K (.ref f) = true
section
variable {P : Program} {w : World} {K : PySem.W.Frag} {mg : Str → Option Value} {base : Heap} {x qual : Str} {st : Stmt} {f : Addr} {fd : FuncData} {N ps : List Str} {k : Nat} {sp : Sp}
theorem FunA.ok (F : FunA K x qual st f fd) (S : FnScope N ps (defScope st)) (len : ∀ vs H Q E, sp vs H Q E → vs.length = ps.length)
    (hb : ∀ (cdv : Value) (A : Around) (outer : List Env) (s : Shared) (H : Hp) (vs : List V) (Q : VK) (E : XK), Room k (A.deeper (envOfC qual (defScope st) s.heap.objs.size f cdv)) → sp vs H Q E →
      ∃ t, PSs (cxOf CX0 P w K mg base N qual (defScope st) f cdv A outer s H E).nox (defBody st) t ∧ t { nx := fun _ H' => Q .non H', rt := Q } (start N vs) H) : FnOk P w K mg base CX0 (k + 1) f fd ps sp := by
  obtain ⟨oc, od, dV, kV, doc, pm, an, cdv, ct, osl, rfl, lk, hcd⟩ := F.ex
  refine fn_of lk hcd S len fun A outer s H vs Q E hr hsp => ?_
  obtain ⟨t, h, q⟩ := hb cdv A outer s H vs Q E hr hsp
  exact ⟨t, h.nox, q⟩
theorem FunA.okX (F : FunA K x qual st f fd) (S : FnScope N ps (defScope st)) (len : ∀ vs H Q E, sp vs H Q E → vs.length = ps.length)
    (hb : ∀ (cdv : Value) (A : Around) (outer : List Env) (s : Shared) (H : Hp) (vs : List V) (Q : VK) (E : XK), Room k (A.deeper (envOfC qual (defScope st) s.heap.objs.size f cdv)) → sp vs H Q E →
      ∃ t, PSs (cxOf (L2.CX P w) P w K mg base N qual (defScope st) f cdv A outer s H E) (defBody st) t ∧ t { nx := fun _ H' => Q .non H', rt := Q } (start N vs) H) : FnOk P w K mg base (L2.CX P w) (k + 1) f fd ps sp := by
  obtain ⟨oc, od, dV, kV, doc, pm, an, cdv, ct, osl, rfl, lk, hcd⟩ := F.ex
  exact fn_of lk hcd S len fun A outer s H vs Q E hr hsp => hb cdv A outer s H vs Q E hr hsp
end
/-- o.m(e, .., k = v, ..) -/
def tMethN (C : Addr) (m : Str) (n j : Nat) (sp : Sp) (gV : List V → List V → List V) (E : XK) (ta : TE) (t tk : TA) : TE := fun σ H Q => ta σ H fun x H1 =>
  ∃ a dx fs, x = .ref a ∧ H1 a = some (.ins C dx fs) ∧ fs.lookup m = none ∧ t σ H1 fun vs H2 => tk σ H2 fun zs H3 => vs.length = n ∧ zs.length = j ∧ sp (gV (x :: vs) zs) H3 Q E
section
variable {X : Cx} {CX : CXT} {k n : Nat} {f C : Addr} {fd : FuncData} {ps ks : List Str} {sp : Sp} {E : XK} {m : Str} {apos pos : Pos} {o e : Expr} {es : List Expr} {kws : List Keyword} {ta : TE} {t tk : TA} {g : List Value → List Value → List Value} {gV : List V → List V → List V}
theorem pe_methN {pl : Sem Bool} (he : PE X o ta) (c : Cls X.K C) (hm : Meth X.K C m f) (F : FnOk X.prog X.w X.K X.mg X.base CX k f fd ps sp) (hr : Room k X.A) (hb : KBn X.K fd ps (n + 1) ks g gV) (hx : Passes CX X E) (ha : PA X (e :: es) t) (hkw : PK X kws tk)
    (hall : (backToKw pos (keywordEach kws X.env)).all (·.1.isSome) = true := by rfl) (hks : (backToKw pos (keywordEach kws X.env)).filterMap (·.1) = ks := by rfl) (hst : starEach (e :: es) X.env = (false, eval e X.env) :: starEach es X.env := by rfl)
    (hpl : ((backTo pos (starEach (e :: es) X.env)).any (·.1) || (backToKw pos (keywordEach kws X.env)).any (·.1.isNone)) = false := by rfl)
    (ht : eval (.Call (.Attribute o m apos) (e :: es) kws pos) X.env = (do
      let ov ← eval o X.env
      standAt apos.atName
      let (f, first) ← holding [ov] (getMethod ov m pl)
      callWith pos f first (backTo pos (starEach (e :: es) X.env)) (backToKw pos (keywordEach kws X.env))) := by rfl) :
    PE X (.Call (.Attribute o m apos) (e :: es) kws pos) (tMethN C m n ks.length sp gV E ta t tk) := by
  refine ⟨fun pins s σ H Q I h => ?_⟩
  refine PySem.W.methodCall_KW (pl := pl) (thn (he.run pins s σ H _ I h) fun u s1 ⟨x, H1, I1, rx, a, dx, fs, ex, ea, l, q⟩ => ?_) ht
  subst ex
  obtain rfl : u = Value.ref a := rx
  refine getmeth_ok I1 ea c hm l ?_
  refine PySem.W.callWith_KW (first := [.ref a]) (h₀ := X.base) I.ok.mod.kin hm.kp hall (thn (ha.run pos pins s1 σ H1 _ I1 q) fun us s2 ⟨vs, H2, I2, r, q2⟩ => ?_) hpl hst
  refine thn (hkw.run pos pins s2 σ H2 _ I2 q2) fun ws s3 ⟨zs, H3, I3, rz, l1, l2, q3⟩ => ⟨I3.kIn, ?_⟩
  rw [hks]
  exact run_fnN (us := .ref a :: us) (vs := .ref a :: vs) F hr hb hx I3 (.cons rfl r) rz (by rw [List.length_cons, l1]) l2 q3
end
/-- fields by name -/
abbrev Fs := List (Str × V)
example (h c d : V) : putF ("cursor" : Str) d ([("held", h), ("cursor", c)] : Fs) = ([("held", h), ("cursor", d)] : Fs) := by kernel_rfl
example (h c d : V) : putF ("cursor" : Str) d ([("held", h)] : Fs) = ([("held", h), ("cursor", d)] : Fs) := by kernel_rfl
end Sip
namespace Sip
open PySem PySem.Spec PyProof.Rows L2 TL
/-- a def of the top, a method of a class -/
structure Dg (K : PySem.W.Frag) (mg : Str → Option Value) (x : Str) (st : Stmt) (f : Addr) (fd : FuncData) : Prop where
  F : FunA K x x st f fd
  g : mg x = some (.ref f)
structure Mf (K : PySem.W.Frag) (C : Addr) (x qual : Str) (st : Stmt) (f : Addr) (fd : FuncData) : Prop where
  F : FunA K x qual st f fd
  m : Meth K C x f
theorem funA_mk {K : PySem.W.Frag} {x qual : Str} {st : Stmt} {f : Addr} {oc : Value} {od an : Option Addr} {osl : Array (Option Value)} {dV kV doc pm cdv ct : Value} (l : K.lookup f = some ⟨oc, od, .func (PySem.W.fnOf x qual (defArgs st) (defBody st) (defScope st) dV kV doc pm an cdv ct), osl⟩)
    (c : PySem.W.codeIn K cdv qual = true) (k : PySem.W.keepIn K (.ref f) = true) : FunA K x qual st f (PySem.W.fnOf x qual (defArgs st) (defBody st) (defScope st) dV kV doc pm an cdv ct) := ⟨⟨oc, od, dV, kV, doc, pm, an, cdv, ct, osl, rfl, l, c⟩, k⟩
end Sip
namespace Sip
open PySem PySem.Spec PyProof.Rows L2 TL

abbrev Piece := Nat × List Int
/-! all pieces laid one behind another -/
def allF (r : List Int) (ps : List Piece) : List Int := ps.foldl (fun acc p => laidF acc p.1 p.2) r
def mostF (m : Nat) (ps : List Piece) : Nat := ps.foldl (fun m p => if 0 < p.2.length then max m (p.1 + p.2.length) else m) m
def stepB (k : Nat) (b : Int) (p : Piece) : Int := if p.1 ≤ k ∧ k < p.1 + p.2.length then p.2.getD (k - p.1) 0 else b
def byteF (b : Int) (k : Nat) (ps : List Piece) : Int := ps.foldl (stepB k) b
theorem laidF_len (r : List Int) (p : Piece) : (laidF r p.1 p.2).length = if 0 < p.2.length then max r.length (p.1 + p.2.length) else r.length := by
  by_cases h : p.2 = []
  · rw [h, laidF_nil]; rfl
  · rw [laidF_length h, if_pos (List.length_pos_iff.mpr h)]
theorem laidF_byte (r : List Int) (p : Piece) (k : Nat) : (laidF r p.1 p.2)[k]?.getD 0 = stepB k (r[k]?.getD 0) p := by
  unfold stepB
  by_cases h : p.2 = []
  · rw [h, laidF_nil, if_neg (by simp)]
  · rw [laidF_getD h, List.getD_eq_getElem?_getD, List.getD_eq_getElem?_getD]
theorem allF_len : ∀ (ps : List Piece) (r : List Int), (allF r ps).length = mostF r.length ps
  | [], _ => rfl
  | p :: q, r => by
    show (allF (laidF r p.1 p.2) q).length = mostF (if 0 < p.2.length then max r.length (p.1 + p.2.length) else r.length) q
    rw [allF_len q, laidF_len]
theorem allF_byte : ∀ (ps : List Piece) (r : List Int) (k : Nat), (allF r ps)[k]?.getD 0 = byteF (r[k]?.getD 0) k ps
  | [], _, _ => rfl
  | p :: q, r, k => by
    show (allF (laidF r p.1 p.2) q)[k]?.getD 0 = byteF (stepB k (r[k]?.getD 0) p) k q
    rw [allF_byte q, laidF_byte]
theorem allF_append (r : List Int) (a b : List Piece) : allF r (a ++ b) = allF (allF r a) b := List.foldl_append
/-- a piece in two parts -/
theorem laidF_parts (r : List Int) (n c : Nat) (d : List Int) (h : c ≤ d.length) : laidF (laidF r n (d.take c)) (n + c) (d.drop c) = laidF r n d := by
  have l1 := laidF_len r (n, d.take c)
  have l2 := laidF_len (laidF r n (d.take c)) (n + c, d.drop c)
  have l3 := laidF_len r (n, d)
  simp only [List.length_take, List.length_drop] at l1 l2 l3
  refine ext_getD ?_ fun k hk => ?_
  · rw [l2, l3, l1]
    split <;> split <;> split <;> omega
  · rw [laidF_byte _ (n + c, d.drop c), laidF_byte r (n, d.take c), laidF_byte r (n, d)]
    unfold stepB
    simp only [List.length_take, List.length_drop, List.getD_eq_getElem?_getD, List.getElem?_drop]
    by_cases h1 : n + c ≤ k ∧ k < n + c + (d.length - c)
    · rw [if_pos h1, if_pos (by omega)]
      congr 2
      omega
    · rw [if_neg h1]
      by_cases h2 : n ≤ k ∧ k < n + min c d.length
      · rw [if_pos h2, if_pos (by omega), List.getElem?_take_of_lt (by omega)]
      · rw [if_neg h2, if_neg (by omega)]
theorem allF_parts (r : List Int) (a b : List Piece) (n c : Nat) (d : List Int) (h : c ≤ d.length) :
    allF r (a ++ [(n, d.take c), (n + c, d.drop c)] ++ b) = allF r (a ++ [(n, d)] ++ b) := by
  rw [allF_append, allF_append, allF_append, allF_append]
  show allF (laidF (laidF (allF r a) n (d.take c)) (n + c) (d.drop c)) b = allF (laidF (allF r a) n d) b
  rw [laidF_parts _ _ _ _ h]
def Small (p : Piece) : Prop := p.1 ≤ 340 ∧ p.2.length ≤ 400 ∧ Bytes p.2
theorem bytes_getD {bs : List Int} (h : Bytes bs) (k : Nat) : 0 ≤ bs[k]?.getD 0 ∧ bs[k]?.getD 0 ≤ 255 := by
  cases e : bs[k]? with
  | none => exact ⟨by decide, by decide⟩
  | some b =>
    obtain ⟨hk, rfl⟩ := List.getElem?_eq_some_iff.mp e
    exact h _ (List.getElem_mem hk)
theorem bytes_of {bs : List Int} (h : ∀ k, k < bs.length → 0 ≤ bs[k]?.getD 0 ∧ bs[k]?.getD 0 ≤ 255) : Bytes bs := fun b hb => by
  obtain ⟨k, hk, rfl⟩ := List.getElem_of_mem hb
  have := h k hk
  rw [List.getElem?_eq_getElem hk] at this
  exact this
theorem laid_bytes {r : List Int} {p : Piece} (hr : Bytes r) (hp : Bytes p.2) : Bytes (laidF r p.1 p.2) := bytes_of fun k _ => by
  rw [laidF_byte]
  unfold stepB
  split
  · rw [List.getD_eq_getElem?_getD]; exact bytes_getD hp _
  · exact bytes_getD hr k
theorem allF_good : ∀ (ps : List Piece) (r : List Int), Bytes r → r.length ≤ 740 → (∀ p ∈ ps, Small p) → Bytes (allF r ps) ∧ (allF r ps).length ≤ 740
  | [], r, hb, hl, _ => ⟨hb, hl⟩
  | p :: q, r, hb, hl, hp => by
    have h1 := hp p (List.mem_cons_self ..)
    refine allF_good q (laidF r p.1 p.2) (laid_bytes hb h1.2.2) ?_ (fun z hz => hp z (List.mem_cons_of_mem _ hz))
    exact laidF_le ⟨hl, by have := h1.1; have := h1.2.1; omega⟩

/-! pieces in the heap -/
def PieceAt (H : Hp) (v : V) (p : Piece) : Prop := ∃ T D : Addr, v = .ref T ∧ H T = some (.tup [.int (p.1 : Nat), .ref D]) ∧ H D = some (.lst (p.2.map V.int))
def Pieces (H : Hp) (vs : List V) (ps : List Piece) : Prop := vs.length = ps.length ∧ ∀ (i : Nat) (v : V) (p : Piece), vs[i]? = some v → ps[i]? = some p → PieceAt H v p
theorem PieceAt.mono {H H' : Hp} {v : V} {p : Piece} (s : Same H H') (h : PieceAt H v p) : PieceAt H' v p := by
  obtain ⟨T, D, e, h1, h2⟩ := h
  exact ⟨T, D, e, s _ _ h1, s _ _ h2⟩
theorem Pieces.mono {H H' : Hp} {vs : List V} {ps : List Piece} (s : Same H H') (h : Pieces H vs ps) : Pieces H' vs ps :=
  ⟨h.1, fun i v p a b => (h.2 i v p a b).mono s⟩
theorem Pieces.at {H : Hp} {vs : List V} {ps : List Piece} {i : Nat} {v : V} (h : Pieces H vs ps) (e : vs[i]? = some v) : ∃ hi : i < ps.length, PieceAt H v ps[i] := by
  have hi : i < ps.length := by
    have := (List.getElem?_eq_some_iff.mp e).1
    rw [h.1] at this; exact this
  exact ⟨hi, h.2 i v _ e (List.getElem?_eq_getElem hi)⟩
theorem Pieces.nil {H : Hp} : Pieces H [] [] := ⟨rfl, fun i v p a => by simp at a⟩
theorem Pieces.append {H : Hp} {vs us : List V} {ps qs : List Piece} (h : Pieces H vs ps) (k : Pieces H us qs) : Pieces H (vs ++ us) (ps ++ qs) := by
  refine ⟨by rw [List.length_append, List.length_append, h.1, k.1], fun i v p a b => ?_⟩
  by_cases hi : i < vs.length
  · rw [List.getElem?_append_left hi] at a
    rw [List.getElem?_append_left (by rw [← h.1]; exact hi)] at b
    exact h.2 i v p a b
  · rw [List.getElem?_append_right (by omega)] at a
    rw [List.getElem?_append_right (by rw [← h.1]; omega), ← h.1] at b
    exact k.2 _ v p a b
theorem Pieces.one {H : Hp} {v : V} {p : Piece} (h : PieceAt H v p) : Pieces H [v] [p] := ⟨rfl, fun i w q a b => by
  cases i with
  | zero =>
    have e1 : v = w := Option.some.inj a
    have e2 : p = q := Option.some.inj b
    rw [← e1, ← e2]; exact h
  | succ i => simp at a⟩
theorem Pieces.take {H : Hp} {vs : List V} {ps : List Piece} (h : Pieces H vs ps) (n : Nat) : Pieces H (vs.take n) (ps.take n) := by
  refine ⟨by rw [List.length_take, List.length_take, h.1], fun i v p a b => ?_⟩
  have hi : i < n := by
    have := (List.getElem?_eq_some_iff.mp a).1
    rw [List.length_take] at this; omega
  rw [List.getElem?_take_of_lt hi] at a b
  exact h.2 i v p a b
theorem Pieces.drop {H : Hp} {vs : List V} {ps : List Piece} (h : Pieces H vs ps) (n : Nat) : Pieces H (vs.drop n) (ps.drop n) := by
  refine ⟨by rw [List.length_drop, List.length_drop, h.1], fun i v p a b => ?_⟩
  rw [List.getElem?_drop] at a b
  exact h.2 _ v p a b
theorem cut_to (xs : List V) (n : Nat) (h : n ≤ xs.length) : cutV xs none (some (n : Int)) = xs.take n := by
  unfold cutV
  rw [HT.sIx_none, HT.sIx_nat, Nat.min_eq_left h]; rfl
theorem cut_from (xs : List V) (n : Nat) (h : n ≤ xs.length) : cutV xs (some (n : Int)) none = xs.drop n := by
  unfold cutV
  rw [HT.sIx_none, HT.sIx_nat, Nat.min_eq_left h]
  exact List.take_of_length_le (by rw [List.length_drop]; omega)
theorem split_at {α : Type} {ps : List α} {i : Nat} (hi : i < ps.length) : ps.take i ++ [ps[i]] ++ ps.drop (i + 1) = ps := by
  rw [List.append_assoc]
  show ps.take i ++ (ps[i] :: ps.drop (i + 1)) = ps
  rw [List.getElem_cons_drop, List.take_append_drop]
theorem foldl_next {α β : Type} (f : β → α → β) (b : β) (xs : List α) (i : Nat) (hi : i < xs.length) : (xs.take (i + 1)).foldl f b = f ((xs.take i).foldl f b) xs[i] := by
  rw [List.take_add_one, List.getElem?_eq_getElem hi, List.foldl_append]; rfl

def spBytesM (K : PySem.W.Frag) : Sp := fun vs H Q _ => ∃ (p m : Addr) (n : Int) (o : HO) (ms : List Int), vs = [.ref p, .ref m] ∧ H p = some o ∧ PoolO n o ∧ n ≤ 900000000 ∧ SqL K H m (ms.map V.int) ∧ p ≠ m ∧ ms ≠ [] ∧ ms.length ≤ 100 ∧ (∀ z ∈ ms, 0 ≤ z ∧ z ≤ 400) ∧
  ∀ (H' : Hp) (q : Addr) (bs : List Int) (o' : HO), H q = none → H' q = some (.lst (bs.map V.int)) → H' p = some o' → PoolO (n + 1000) o' → Kp [p] H H' → (∃ z ∈ ms, (bs.length : Int) = z) → Bytes bs → Q (.ref q) H'
def spDueP (K : PySem.W.Frag) : Sp := fun vs H Q _ => ∃ (a b : Addr) (r : List Int) (us : List V) (ps : List Piece), vs = [.ref a, .ref b] ∧ SqL K H a (r.map V.int) ∧ SqL K H b us ∧ Pieces H us ps ∧ r.length ≤ 740 ∧ Bytes r ∧ (∀ p ∈ ps, Small p) ∧ ps.length ≤ 100 ∧
  ∀ (H' : Hp) (q : Addr), H q = none → H' q = some (.lst ((allF r ps).map V.int)) → Same H H' → Q (.ref q) H'
/-! what stands apart from some places -/
def mask (qs : List Addr) (H : Hp) : Hp := fun b => if b ∈ qs then none else H b
theorem mask_le (qs : List Addr) (H : Hp) : Same (mask qs H) H := fun b o e => by
  unfold mask at e
  split at e
  · cases e
  · exact e
theorem mask_upd {qs : List Addr} {H : Hp} {q : Addr} {o : HO} (h : q ∈ qs) : mask qs (upd H q o) = mask qs H := by
  funext b
  unfold mask
  split
  · rfl
  · next n =>
    have : b ≠ q := fun z => n (by rw [z]; exact h)
    rw [upd_ne this]
theorem mask_kp {qs : List Addr} {H H' : Hp} (k : Kp qs H H') : Same (mask qs H) (mask qs H') := fun b o e => by
  unfold mask at e ⊢
  split at e
  · cases e
  · next n => rw [if_neg n]; exact k b o n e
theorem mask_at {qs : List Addr} {H : Hp} {b : Addr} (h : b ∉ qs) : mask qs H b = H b := if_neg h
theorem Kp.sub {ps qs : List Addr} {H H' : Hp} (k : Kp ps H H') (h : ∀ x ∈ ps, x ∈ qs ∨ H x = none) : Kp qs H H' := fun b o n e => by
  refine k b o (fun z => ?_) e
  rcases h b z with h | h
  · exact n h
  · rw [h] at e; cases e
def Tiny (p : Piece) : Prop := p.1 ≤ 299 ∧ p.2.length ≤ 40 ∧ Bytes p.2
theorem Tiny.small {p : Piece} (h : Tiny p) : Small p := ⟨by have := h.1; omega, by have := h.2.1; omega, h.2.2⟩
end Sip
namespace Sip
open PySem PySem.Spec PyProof.Rows L2 TL

/-! an object with all that is its own (F): what a call may change -/
def Step (F : Addr → Prop) (H : Hp) (F' : Addr → Prop) (H' : Hp) : Prop := (∀ b o, ¬ F b → H b = some o → H' b = some o) ∧ ∀ b, F' b → F b ∨ H b = none
theorem Step.keep {F F' : Addr → Prop} {H H' : Hp} {b : Addr} {o : HO} (s : Step F H F' H') (n : ¬ F b) (e : H b = some o) : H' b = some o ∧ ¬ F' b :=
  ⟨s.1 b o n e, fun z => (s.2 b z).elim n fun q => by rw [q] at e; cases e⟩
/-- own objects made since H0 alone -/
theorem Step.since {F F' : Addr → Prop} {H0 H H' : Hp} (s : Step F H F' H') (a : Same H0 H) (n : ∀ b, F b → H0 b = none) : Same H0 H' ∧ ∀ b, F' b → H0 b = none := by
  refine ⟨fun b o e => s.1 b o (fun z => by rw [n b z] at e; cases e) (a b o e), fun b z => ?_⟩
  rcases s.2 b z with q | q
  · exact n b q
  · exact a.free q
theorem Step.of {F : Addr → Prop} {H H' : Hp} (s : Same H H') : Step F H F H' := ⟨fun b o _ e => s b o e, fun b z => .inl z⟩
theorem Step.trans {F F' F2 : Addr → Prop} {H H' H2 : Hp} (a : Step F H F' H') (b : Step F' H' F2 H2) : Step F H F2 H2 := by
  refine ⟨fun x o n e => b.1 x o (a.keep n e).2 (a.keep n e).1, fun x z => ?_⟩
  rcases b.2 x z with q | q
  · exact a.2 x q
  · by_cases f : F x
    · exact .inl f
    · cases e : H x with
      | none => exact .inr rfl
      | some o => rw [a.1 x o f e] at q; cases q

/-- a plain file in the heap, however it keeps its row: heap, address, what is its own, row, cursor -/
abbrev PP := Hp → Addr → (Addr → Prop) → List Int → Nat → Prop
structure IsPlain (C : Addr) (PA : PP) : Prop where
  loc : ∀ {H H' : Hp} {p : Addr} {F : Addr → Prop} {r : List Int} {c : Nat}, PA H p F r c → (∀ b o, F b → H b = some o → H' b = some o) → PA H' p F r c
  own : ∀ {H : Hp} {p : Addr} {F : Addr → Prop} {r : List Int} {c : Nat}, PA H p F r c → ∀ b, F b → ∃ o, H b = some o
  ins : ∀ {H : Hp} {p : Addr} {F : Addr → Prop} {r : List Int} {c : Nat}, PA H p F r c → ∃ dx fs, H p = some (.ins C dx fs) ∧ ∀ m ∈ (["read", "read_some", "peek", "readline", "write", "seek", "tell", "size", "row", "cut"] : List Str), fs.lookup m = none
theorem IsPlain.same {C : Addr} {PA : PP} (I : IsPlain C PA) {H H' : Hp} {p : Addr} {F : Addr → Prop} {r : List Int} {c : Nat} (h : PA H p F r c) (s : Same H H') : PA H' p F r c := I.loc h fun b o _ e => s b o e
theorem IsPlain.kp {C : Addr} {PA : PP} (I : IsPlain C PA) {H H' : Hp} {qs : List Addr} {p : Addr} {F : Addr → Prop} {r : List Int} {c : Nat} (h : PA H p F r c) (k : Kp qs H H') (n : ∀ q ∈ qs, ¬ F q) : PA H' p F r c :=
  I.loc h fun b o f e => k b o (fun z => n b z f) e
theorem IsPlain.new {C : Addr} {PA : PP} (I : IsPlain C PA) {H : Hp} {q p : Addr} {F : Addr → Prop} {r : List Int} {c : Nat} (h : PA H p F r c) (n : H q = none) : ¬ F q := fun f => by
  obtain ⟨o, e⟩ := I.own h q f
  rw [n] at e; cases e

def spPInit (K : PySem.W.Frag) (C : Addr) (PA : PP) : Sp := fun vs H Q _ => ∃ (p a dx : Addr) (r : List Int) (c : Nat), vs = [.ref p, .ref a, .int c] ∧ H p = some (.ins C dx []) ∧ H dx = some (.own p) ∧ SqL K H a (r.map V.int) ∧ p ≠ a ∧ r.length ≤ 400 ∧ c ≤ 4000 ∧
  ∀ (H' : Hp) (F' : Addr → Prop), PA H' p F' r c → Step (fun b => b = p ∨ b = dx) H F' H' → Q .non H'
def spPTell (PA : PP) : Sp := fun vs H Q _ => ∃ (p : Addr) (F : Addr → Prop) (r : List Int) (c : Nat), vs = [.ref p] ∧ PA H p F r c ∧ Q (.int c) H
def spPSize (PA : PP) : Sp := fun vs H Q _ => ∃ (p : Addr) (F : Addr → Prop) (r : List Int) (c : Nat), vs = [.ref p] ∧ PA H p F r c ∧ Q (.int r.length) H
def spPRow (PA : PP) : Sp := fun vs H Q _ => ∃ (p : Addr) (F : Addr → Prop) (r : List Int) (c : Nat), vs = [.ref p] ∧ PA H p F r c ∧ ∀ (H' : Hp) (q : Addr), H q = none → H' q = some (.lst (r.map V.int)) → Same H H' → Q (.ref q) H'
def spPSeek (PA : PP) : Sp := fun vs H Q _ => ∃ (p : Addr) (F : Addr → Prop) (r : List Int) (c g : Nat) (pl : Int) (st : Str), vs = [.ref p, .int pl, .str st] ∧ PA H p F r c ∧
  ((st = Str.ofString "head" ∧ (g : Int) = pl) ∨ (st = Str.ofString "here" ∧ (g : Int) = c + pl) ∨ (st = Str.ofString "tail" ∧ (g : Int) = r.length + pl)) ∧ g ≤ 4000 ∧ ∀ (H' : Hp) (F' : Addr → Prop), PA H' p F' r g → Step F H F' H' → Q (.int g) H'
def spPCut (PA : PP) : Sp := fun vs H Q _ => ∃ (p : Addr) (F : Addr → Prop) (r : List Int) (c g : Nat) (v : V), vs = [.ref p, v] ∧ PA H p F r c ∧ ((v = .non ∧ g = c) ∨ v = .int g) ∧ g ≤ 4000 ∧ ∀ (H' : Hp) (F' : Addr → Prop), PA H' p F' (r.take g) c → Step F H F' H' → Q .non H'
def spPWrite (PA : PP) : Sp := fun vs H Q _ => ∃ (p b : Addr) (F : Addr → Prop) (r : List Int) (c : Nat) (d : List Int), vs = [.ref p, .ref b] ∧ PA H p F r c ∧ ¬ F b ∧ H b = some (.lst (d.map V.int)) ∧ Bytes d ∧ r.length ≤ 4000 ∧ c ≤ 4000 ∧ d.length ≤ 400 ∧ (laidF r c d).length ≤ 4000 ∧
  ∀ (H' : Hp) (F' : Addr → Prop), PA H' p F' (laidF r c d) (c + d.length) → Step F H F' H' → Q (.int d.length) H'
/-- a place drawn for a row of n bytes -/
def spGoal (K : PySem.W.Frag) : Sp := fun vs H Q _ => ∃ (p x : Addr) (n : Int) (o : HO) (r : List Int), vs = [.ref p, .ref x] ∧ H p = some o ∧ PoolO n o ∧ n ≤ 900000000 ∧ SqL K H x (r.map V.int) ∧ p ≠ x ∧ r.length ≤ 5000 ∧
  ∀ (H' : Hp) (g : Nat) (o' : HO), g ≤ max (r.length + 20) 4000 → H' p = some o' → PoolO (n + 4) o' → Kp [p] H H' → Q (.int g) H'
def spSought (K : PySem.W.Frag) (PA : PP) : Sp := fun vs H Q _ => ∃ (p x : Addr) (F : Addr → Prop) (r : List Int) (c g : Nat) (way : Int), vs = [.ref p, .int way, .int g, .ref x, .int c] ∧ 0 ≤ way ∧ way ≤ 3 ∧ PA H p F r c ∧ SqL K H x (r.map V.int) ∧ g ≤ 4000 ∧
  ∀ (H' : Hp) (F' : Addr → Prop), PA H' p F' r g → Step F H F' H' → Q (.int g) H'
def spCutL (PA : PP) : Sp := fun vs H Q _ => ∃ (p : Addr) (F : Addr → Prop) (r : List Int) (c g : Nat) (way : Int), vs = [.ref p, .int way, .int g] ∧ 0 ≤ way ∧ way ≤ 2 ∧ (way < 2 → g = c) ∧ PA H p F r c ∧ g ≤ 4000 ∧
  ∀ (H' : Hp) (F' : Addr → Prop), PA H' p F' (r.take g) c → Step F H F' H' → Q .non H'
theorem take_cut (r : List Int) (g : Nat) : cutV (r.map V.int) none (some (g : Int)) = (r.take g).map V.int := by
  unfold cutV
  rw [HT.sIx_none, HT.sIx_nat, List.length_map, List.map_take]
  show (r.map V.int).take (min g r.length - 0) = _
  by_cases h : g ≤ r.length
  · rw [Nat.min_eq_left h]; rfl
  · rw [Nat.min_eq_right (by omega), List.take_of_length_le (by rw [List.length_map]; omega), List.take_of_length_le (by rw [List.length_map]; omega)]
theorem drop_cut (r : List Int) (g : Nat) : cutV (r.map V.int) (some (g : Int)) none = (r.drop g).map V.int := by
  unfold cutV
  rw [HT.sIx_none, HT.sIx_nat, List.length_map, List.map_drop]
  by_cases h : g ≤ r.length
  · rw [Nat.min_eq_left h]
    exact List.take_of_length_le (by rw [List.length_drop, List.length_map]; omega)
  · rw [Nat.min_eq_right (by omega), List.drop_of_length_le (by rw [List.length_map]; omega), List.drop_of_length_le (l := r.map V.int) (by rw [List.length_map]; omega)]
    simp
/-- one byte laid over by hand -/
theorem laid_one (r : List Int) (c : Nat) (v : Int) : (r ++ List.replicate (c - r.length) 0).take c ++ [v] ++ r.drop (c + 1) = laidF r c [v] := by
  rw [laidF_cons (by simp)]
  congr 1
  by_cases h : c + 1 ≤ r.length
  · rw [show c - r.length = 0 by omega]; simp
  · rw [List.drop_of_length_le (l := r) (by omega), List.drop_of_length_le]
    rw [List.length_append, List.length_replicate]
    show _ ≤ c + 1
    omega
end Sip
namespace Sip
open PySem PySem.Spec PyProof.Rows L2 TL
/-! a heap by name: what was made, what was written -/
theorem updG {H H' : Hp} {q : Addr} {o : HO} (g : upd H q o = H') (n : H q = none) : H' q = some o ∧ Same H H' := by
  subst g; exact ⟨upd_same, (Kp.new (ps := []) n).same⟩
theorem updK {H H' : Hp} {q : Addr} {o : HO} (g : upd H q o = H') : H' q = some o ∧ Kp [q] H H' := by
  subst g; exact ⟨upd_same, Kp.at (by simp)⟩
theorem neN {H : Hp} {p x : Addr} {o : HO} (n : H p = none) (e : H x = some o) : x ≠ p := ne_of_none e n
theorem neM {H : Hp} {p x : Addr} {o : HO} (n : H x = none) (e : H p = some o) : x ≠ p := (ne_of_none e n).symm
theorem kp1 {H H' : Hp} {p x : Addr} {o : HO} (k : Kp [p] H H') (n : x ≠ p) (e : H x = some o) : H' x = some o := k x o (by simpa using n) e
theorem sm1 {H H' : Hp} {x : Addr} {o : HO} (k : Same H H') (e : H x = some o) : H' x = some o := k x o e
theorem sqS {K : PySem.W.Frag} {H H' : Hp} {a : Addr} {l : List V} (s : Same H H') (h : SqL K H a l) : SqL K H' a l := s.seq h
theorem sqK {K : PySem.W.Frag} {H H' : Hp} {p a : Addr} {l : List V} (s : Kp [p] H H') (n : a ≠ p) (h : SqL K H a l) : SqL K H' a l := s.seq (by simpa using n) h
end Sip
namespace Sip
open PySem PySem.Spec PyProof.Rows L2 TL
theorem mapI_nil : ([] : List V) = List.map V.int [] := rfl
theorem mapI_cons {a : Int} {l : List V} {ms : List Int} (h : l = List.map V.int ms) : V.int a :: l = List.map V.int (a :: ms) := by rw [h]; rfl
theorem sq_lit {K : PySem.W.Frag} {H : Hp} {m : Addr} {l : List V} {ms : List Int} (h : H m = some (.lst l)) (e : l = ms.map V.int) : SqL K H m (ms.map V.int) := by rw [← e]; exact sq_at h
theorem hp_lit {H : Hp} {m : Addr} {l : List V} {ms : List Int} (h : H m = some (.lst l)) (e : l = ms.map V.int) : H m = some (.lst (ms.map V.int)) := by rw [← e]; exact h
end Sip
namespace Sip
open PySem PySem.Spec PyProof.Rows L2 TL
theorem iteFc {b : Bool} {A B : Prop} (e : b = false) (h : B) : if b = true then A else B := by subst e; exact iteF h
theorem iteTc {b : Bool} {A B : Prop} (e : b = true) (h : A) : if b = true then A else B := by subst e; exact iteT h
theorem free1 {H H' : Hp} {l : Addr} (h : H' l = none) (e : Same H H') : H l = none := e.free h
theorem same_tr {H H1 H2 : Hp} (b : Same H1 H2) (a : Same H H1) : Same H H2 := a.trans b
theorem step_sm {H H1 H2 : Hp} {p : Addr} (k : Kp [p] H1 H2) (n : H p = none) (s : Same H H1) : Same H H2 := step_same s n k
end Sip
namespace Sip
open PySem PySem.Spec PyProof.Rows L2 TL
theorem upd_get {H : Hp} {a b : Addr} {o u : HO} (n : b ≠ a) (e : H b = some u) : upd H a o b = some u := by rw [upd_ne n]; exact e
end Sip
namespace Sip
open PySem PySem.Spec PyProof.Rows L2 TL
/-- an object made: the older ones stay, and are not its own -/
theorem made_new {H H5 : Hp} {f dx : Addr} {o1 o2 : HO} {F : Addr → Prop} (st : Step (fun b => b = f ∨ b = dx) (upd (upd H dx o2) f o1) F H5) (nf : H f = none) (nd : H dx = none) : Same H H5 ∧ ∀ b o, H b = some o → ¬ F b := by
  have k : ∀ b o, H b = some o → H5 b = some o ∧ ¬ F b := fun b o e => by
    have bf : b ≠ f := ne_of_none e nf
    have bd : b ≠ dx := ne_of_none e nd
    exact st.keep (fun z => z.elim bf bd) (by rw [upd_ne bf, upd_ne bd]; exact e)
  exact ⟨fun b o e => (k b o e).1, fun b o e => (k b o e).2⟩
end Sip
namespace Sip
open PySem PySem.Spec PyProof.Rows L2 TL
theorem sqA {K : PySem.W.Frag} {H H' : Hp} {a : Addr} {l : List V} (h : SqL K H a l) (s : Same H H') : SqL K H' a l := s.seq h
end Sip
namespace Sip
open PySem PySem.Spec PyProof.Rows L2 TL
theorem sqB {K K' : PySem.W.Frag} {H H' : Hp} {a : Addr} {l : List V} (h : SqL K H a l) (s : Same H H') (e : K = K') : SqL K' H' a l := e ▸ s.seq h
end Sip
namespace Sip
open PySem PySem.Spec PyProof.Rows L2 TL
/-- what may be found by the way (no word over a frame) -/
class Wit (α : Type) : Prop where
  ok : True
instance : Wit V := ⟨trivial⟩
instance : Wit Int := ⟨trivial⟩
instance : Wit Nat := ⟨trivial⟩
instance : Wit Bool := ⟨trivial⟩
instance : Wit HO := ⟨trivial⟩
instance : Wit Str := ⟨trivial⟩
instance : Wit Value := ⟨trivial⟩
instance : Wit (Addr → Prop) := ⟨trivial⟩
instance {α β : Type} [Wit α] [Wit β] : Wit (α × β) := ⟨trivial⟩
instance {α : Type} [Wit α] : Wit (Option α) := ⟨trivial⟩
instance {α : Type} [Wit α] : Wit (List α) := ⟨trivial⟩
theorem exI {α : Type} [Wit α] {p : α → Prop} (a : α) (h : p a) : ∃ x, p x := ⟨a, h⟩
end Sip
namespace Sip
open PySem PySem.Spec PyProof.Rows L2 TL
theorem isi_ii {K : PySem.W.Frag} {v : Int} {H : Hp} {Q : VK} (h : Q (.bl true) H) : rIsi K [.int v, .ty "int"] H Q := ⟨.int v, .ty "int", _, _, true, rfl, .ty "int", .base (.int v), kit_ty (by decide +kernel), h⟩
theorem isi_ib {K : PySem.W.Frag} {v : Int} {H : Hp} {Q : VK} (h : Q (.bl false) H) : rIsi K [.int v, .ty "bool"] H Q := ⟨.int v, .ty "bool", _, _, false, rfl, .ty "bool", .base (.int v), kit_ty (by decide +kernel), h⟩
end Sip
namespace Sip
open PySem PySem.Spec PyProof.Rows L2

/-! del xs[lo:hi] -/
def delL {α : Type} (xs : List α) (a c : Nat) : List α := xs.take a ++ xs.drop (max a c)
theorem sel_filter {α : Type} (sel : Nat → Bool) (a c : Nat) (h : ∀ k, sel k = (decide (a ≤ k) && decide (k < c))) (xs : List α) :
    ∀ j, (xs.zipIdx j).filterMap (fun p => if sel p.2 = true then none else some p.1) = xs.take (a - j) ++ xs.drop (max (a - j) (c - j)) := by
  induction xs with
  | nil => intro j; simp
  | cons x r ih =>
    intro j
    rw [List.zipIdx_cons, List.filterMap_cons]
    have e := h j
    by_cases h1 : a ≤ j
    · by_cases h2 : j < c
      · rw [decide_eq_true h1, decide_eq_true h2] at e
        have e' : sel j = true := e
        simp only [e', if_true]
        rw [ih (j + 1)]
        have : a - j = 0 := by omega
        have : a - (j + 1) = 0 := by omega
        have : c - j = (c - (j + 1)) + 1 := by omega
        simp [*]
      · rw [decide_eq_true h1, decide_eq_false h2] at e
        have e' : ¬ (sel j = true) := by rw [e]; decide
        simp only [if_neg e']
        rw [ih (j + 1)]
        have : a - j = 0 := by omega
        have : a - (j + 1) = 0 := by omega
        have : c - j = 0 := by omega
        have : c - (j + 1) = 0 := by omega
        simp [*]
    · rw [decide_eq_false h1] at e
      have e' : ¬ (sel j = true) := by rw [e]; simp
      simp only [if_neg e']
      rw [ih (j + 1)]
      have e1 : a - j = (a - (j + 1)) + 1 := by omega
      have e2 : max (a - j) (c - j) = max (a - (j + 1)) (c - (j + 1)) + 1 := by omega
      rw [e2, e1, List.take_succ_cons, List.drop_succ_cons]
      rfl
def selF (a c : Nat) (i : Nat) : Bool :=
  if (1 : Int) > 0 then (a : Int) ≤ i && i < (c : Int) && (i - (a : Int)) % 1 == 0
  else (c : Int) < i && i ≤ (a : Int) && ((a : Int) - i) % (-1) == 0
theorem selF_eq (a c k : Nat) : selF a c k = (decide (a ≤ k) && decide (k < c)) := by
  unfold selF
  rw [if_pos (by decide)]
  have : ((k : Int) - (a : Int)) % 1 = 0 := by omega
  rw [this]
  simp
theorem selF_fun (a c : Nat) : (fun xs : Array Value => (List.filterMap (fun x => if selF a c x.snd = true then none else some x.fst) xs.toList.zipIdx).toArray) = fun t => (delL t.toList a c).toArray := by
  funext t
  have := sel_filter (selF a c) a c (selF_eq a c) t.toList 0
  rw [Nat.sub_zero, Nat.sub_zero] at this
  exact congrArg _ this
theorem sel_fun {sel : Nat → Bool} {a c : Nat} (h : ∀ k, sel k = selF a c k) : (fun xs : Array Value => (List.filterMap (fun x => if sel x.snd = true then none else some x.fst) xs.toList.zipIdx).toArray) = fun t => (delL t.toList a c).toArray := by
  have e : sel = selF a c := funext h
  subst e
  exact selF_fun a c
section
variable {pr : Program} {wd : World} {ar : Around} {er : Value → Shared → Prop} {s : Shared}
set_option maxHeartbeats 4000000 in
theorem del_slice {l z : Addr} {old : Array Value} {m a c : Nat} {lo hi : Option Int} {vl vu : Value} {Q : Unit → Shared → Prop}
    (eo : s.heap.get? l = some { cls := .type "list", data := .seq old m })
    (hz : s.heap.IsSliceOf z vl vu .none) (pl : IsPart vl lo) (pu : IsPart vu hi)
    (bd : sliceBounds lo hi none old.size = ((a : Int), (c : Int), 1)) (fit : old.size ≤ sizeLine)
    (k : Q () { s with heap := s.heap.update l (Obj.mapSeq fun t => (delL t.toList a c).toArray) }) :
    wpAny (model pr wd) ar (delItem (.ref l) (.ref z)) Q er s := by
  have lo' : s.heap.IsList l old := PySem.IsL.isList eo
  obtain ⟨oz, gz, cz, dz⟩ := id hz
  have tz : s.TypeIs (.ref z) "slice" := ⟨oz, gz, cz⟩
  refine wpAny_delItem_slot lo'.typeIs (by decide) PySem.F.slot_list_delitem ?_
  refine wpAny_call_entry PySem.F.slot_list_delitem lo'.typeIs PySem.F.entry_list_delitem ?_ (PySem.F.args_list_delitem_2 _ _)
  show wpAny _ _ (Builtin.List.listSubscript? (.ref z) >>= _) _ _ s
  refine wpAny_bind ?_
  unfold Builtin.List.listSubscript?
  refine wpAny_bind (wpAny_specialOf tz slice_no_index ?_)
  simp only [Option.isNone_none, if_true]
  refine wpAny_pure ?_
  show wpAny _ _ (typeOf (.ref z) >>= _) _ _ s
  refine wpAny_bind (wpAny_typeOf tz ?_)
  first
    | rw [if_neg (by decide)]
    | refine PySem.W.KFB.if_not (by decide) ?_
  rw [listSliceParts_eq]
  refine wpAny_bind (wpAny_bind (wpAny_field gz dz (x := .none) rfl (wpAny_bind (wpAny_listPart .none ?_))))
  rw [if_neg (show ¬ ((rawPart none == rawInt 0) = true) from Bool.false_ne_true)]
  refine wpAny_bind (wpAny_field gz dz (x := vl) rfl (wpAny_bind (wpAny_listPart pl ?_)))
  refine wpAny_bind (wpAny_field gz dz (x := vu) rfl (wpAny_bind (wpAny_listPart pu (wpAny_pure ?_))))
  unfold Builtin.List.listItems
  refine wpAny_bind (wpAny_bind (wpAny_seqItems eo rfl (wpAny_pure ?_)))
  have si := (sliceIndices_raw lo hi none old.size (by simp)).trans (congrArg (pure : Int × Int × Int → Sem (Int × Int × Int)) bd)
  refine wpAny_bind (wpAny_of_eq si ?_)
  refine wpAny_bind (wpAny_rule ?_)
  refine wpAny_bind ?_
  unfold Builtin.List.listUpdate
  simp only []
  rw [sel_fun (a := a) (c := c) (fun k => by with_unfolding_all rfl)]
  have zz : ((fun t : Array Value => (delL t.toList a c).toArray) old).size ≤ sizeLine + 1 := by
    show (delL old.toList a c).toArray.size ≤ _
    rw [List.size_toArray]
    unfold delL
    rw [List.length_append, List.length_take, List.length_drop, Array.length_toList]; omega
  refine wpAny_updateSeq (hz := fit) (_hz' := zz) eo rfl (wpAny_bind (wpAny_letGo ?_))
  first
    | with_reducible exact wpAny_pure ⟨.none, rfl, k⟩
    | exact wpAny_bind (wpAny_pure (wpAny_pure ⟨.none, rfl, k⟩))
    | exact wpAny_pure ⟨.none, rfl, k⟩
end
/-- what is left of a list whose part from lo to hi is deleted -/
def delV (xs : List V) (lo hi : Option Int) : List V := delL xs (HT.sIx xs.length 0 lo) (HT.sIx xs.length xs.length hi)
theorem bounds_sIx (lo hi : Option Int) (n : Nat) : sliceBounds lo hi none n = ((HT.sIx n 0 lo : Int), (HT.sIx n n hi : Int), 1) := by
  have f : ∀ (v : Option Int) (d : Nat), d ≤ n → (match v with | none => (d : Int) | some i => max 0 (min (if i < 0 then i + (n : Int) else i) (n : Int))) = (HT.sIx n d v : Int) ∨ (∃ i, v = some i ∧ i < 0 ∧ i + (n : Int) > n) := by
    intro v d hd
    cases v with
    | none => exact .inl rfl
    | some i =>
      left
      show max 0 (min (if i < 0 then i + (n : Int) else i) (n : Int)) = ((if i < 0 then (i + (n : Int)).toNat else min i.toNat n : Nat) : Int)
      split <;> omega
  have f1 := (f lo 0 (by omega)).resolve_right (by rintro ⟨i, _, h1, h2⟩; omega)
  have f2 := (f hi n (by omega)).resolve_right (by rintro ⟨i, _, h1, h2⟩; omega)
  rw [← f1, ← f2]
  unfold sliceBounds
  cases lo <;> cases hi <;> rfl
section
variable {X : Cx} {pos : Pos}
def tDelS (to : TE) (tl th : TO) : TS := fun D σ H => to σ H fun o H1 => tl σ H1 fun lo H2 => th σ H2 fun hi H3 => ∃ (l : Addr) (xs : List V), o = .ref l ∧ H3 l = some (.lst xs) ∧ D.nx σ (upd H3 l (.lst (delV xs lo hi)))
theorem ps_delS {o : Expr} {lo hi : Option Expr} {to : TE} {tl th : TO} {p2 tpos : Pos} (ho : PE X o to) (hl : PO X lo tl) (hh : PO X hi th) : PS X (.Delete [.Subscript o (.Slice lo hi none p2) tpos] pos) (tDelS to tl th) := by
  refine ⟨fun pins s σ H D I h => ?_⟩
  refine wpAny_Delete (wpAny_deleteEach_cons (wpAny_delete_Subscript (thn (ho.run pins s σ H _ I h) fun ov s1 ⟨x, H1, I1, r1, q1⟩ => ?_)))
  refine wpAny_Slice (thn (hl.run pins s1 σ H1 _ I1 q1) fun wl s2 ⟨l, H2, I2, pl, q2⟩ => ?_)
  refine thn (hh.run pins s2 σ H2 _ I2 q2) fun wu s3 ⟨uu, H3, I3, pu, q3⟩ => ?_
  rw [evalPart_none]
  refine wpAny_pure ?_
  obtain ⟨p, xs, rfl, hp, fin⟩ := q3
  cases r1
  have I4 : Inv X pins σ H3 { s3 with heap := s3.heap.push { cls := .type "slice", data := .fields #[wl, wu, .none] } } := I3.kept (t' := s3.toks) fun b ob e => Heap.get?_push_of_some _ e
  obtain ⟨z1, us1, n1, rv1, hz1, e1⟩ := I4.lstM hp
  have L1 := rv1.length
  refine del_slice (a := HT.sIx xs.length 0 l) (c := HT.sIx xs.length xs.length uu) e1 (Heap.IsSliceOf.new ..) pl pu (by rw [List.size_toArray, ← L1]; exact bounds_sIx _ _ _) (by rw [List.size_toArray]; omega) ?_
  refine wpAny_deleteEach_nil ⟨σ, _, ?_, fin⟩
  refine I4.lset (its' := delL us1 (HT.sIx xs.length 0 l) (HT.sIx xs.length xs.length uu)) (t' := s3.toks) hp e1 rfl (Vals.append (rv1.take _) (rv1.drop _)) ?_
  show (delL _ _ _).length ≤ _
  unfold delL
  rw [List.length_append, List.length_take, List.length_drop]
  omega
end
end Sip
namespace Sip
open PySem PySem.Spec PyProof.Rows L2 TL
/-- for i, x in enumerate(xs), the list standing -/
theorem for_enum {K : PySem.W.Frag} {a : Addr} {xs : List V} {g : TG} {tb : TS} {D : Ends} {σ : L2.St} {H : Hp} (Pv : Nat → L2.St → Hp → Prop) (h0 : Pv 0 σ H) (hl : ∀ i σ H, i ≤ xs.length → Pv i σ H → SqL K H a xs)
    (hs : ∀ i x σ H T, xs[i]? = some x → Pv i σ H → H T = none → g (.ref T) σ (upd H T (.tup [.int (i : Nat), x])) fun σ2 H2 => tb { D with nx := Pv (i + 1), ct := Pv (i + 1), bk := D.nx } σ2 H2) (hd : ∀ σ H, Pv xs.length σ H → D.nx σ H) :
    ∃ W : Nat → Nat → L2.St → Hp → Prop, (∃ m, W 0 m σ H) ∧ ∀ i m σ H, W i m σ H →
      ((Ite K a).stop i H ∧ D.nx σ H) ∨ ((Ite K a).go i H ∧ ∃ N : L2.St → Hp → Prop, (∀ σ' H', N σ' H' → ∃ m', m' < m ∧ W (i + 1) m' σ' H') ∧ ∀ x H', (Ite K a).yld i H x H' → g x σ H' fun σ2 H2 => tb { D with nx := N, ct := N, bk := D.nx } σ2 H2) := by
  refine ⟨fun i m σ H => m = xs.length - i ∧ i ≤ xs.length ∧ Pv i σ H, ⟨xs.length, by simp, Nat.zero_le _, h0⟩, ?_⟩
  rintro i m σ H ⟨rfl, hi, p⟩
  have q := hl i σ H hi p
  by_cases hlt : i < xs.length
  · refine .inr ⟨⟨xs, xs[i], q, by simp [hlt]⟩, Pv (i + 1), fun σ' H' p' => ⟨xs.length - (i + 1), by omega, rfl, hlt, p'⟩, fun x H' y => ?_⟩
    obtain ⟨T, y, rfl, nT, rfl, hy⟩ := y
    exact hs i y σ _ T (hy xs q) p nT
  · have e : i = xs.length := by omega
    subst e
    exact .inl ⟨⟨xs, q, Nat.le_refl _⟩, hd σ H p⟩
end Sip
namespace Sip
open PySem PySem.Spec PyProof.Rows L2 TL
section
variable {X : Cx} {e : Expr} {te : TE}
/-- a bound of a slice that may be None -/
def tPartO (te : TE) : TO := fun σ H Q => te σ H fun x H1 => ∃ k : Option Int, x = (match k with | none => .non | some i => .int i) ∧ Q k H1
theorem po_opt (h : PE X e te) : PO X (some e) (tPartO te) := by
  refine ⟨fun pins s σ H Q I hw => ?_⟩
  rw [evalPart_some]
  refine thn (h.run pins s σ H _ I hw) fun u s1 ⟨x, H1, I1, r1, q1⟩ => ?_
  obtain ⟨k, rfl, q⟩ := q1
  cases k with
  | none =>
    cases (show u = Value.none from r1)
    exact ⟨none, H1, I1, .none, q⟩
  | some i =>
    obtain ⟨t, rfl⟩ := (show ∃ t, u = Value.int i t from r1)
    exact ⟨some i, H1, I1, .int i t, q⟩
end
def cntV : Option Nat → V
  | none => .non
  | some n => .int n
def cntI : Option Nat → Option Int
  | none => none
  | some n => some n
theorem cntV_eq (k : Option Nat) : cntV k = (match cntI k with | none => V.non | some i => .int i) := by cases k <;> rfl
def takeO (k : Option Nat) (xs : List Int) : List Int := match k with
  | none => xs
  | some n => xs.take n
theorem cut_O (r : List Int) (k : Option Nat) : cutV (r.map V.int) none (cntI k) = (takeO k r).map V.int := by
  cases k with
  | none =>
    unfold cutV cntI takeO
    rw [HT.sIx_none, HT.sIx_none, List.length_map]
    show (r.map V.int).take (r.length - 0) = _
    exact List.take_of_length_le (by rw [List.length_map]; omega)
  | some n => exact take_cut r n
theorem takeO_len (k : Option Nat) (xs : List Int) : (takeO k xs).length ≤ xs.length := by
  cases k with
  | none => exact Nat.le_refl _
  | some n => show (xs.take n).length ≤ _; rw [List.length_take]; omega
def lineF (xs : List Int) : List Int := xs.take (xs.idxOf 10 + 1)
theorem lineF_no {xs : List Int} (h : (10 : Int) ∉ xs) : lineF xs = xs := by
  unfold lineF
  exact List.take_of_length_le (by rw [List.idxOf_eq_length h]; omega)
theorem idx_take (xs : List Int) (n : Nat) : (xs.take n).idxOf 10 = min (xs.idxOf 10) (xs.take n).length := by
  induction xs generalizing n with
  | nil => simp
  | cons x r ih =>
    cases n with
    | zero => simp
    | succ n =>
      rw [List.take_succ_cons, List.idxOf_cons, List.idxOf_cons, List.length_cons]
      by_cases h : x = 10
      · subst h; simp
      · have : (x == 10) = false := by simpa using h
        rw [this]
        simp only [cond_false]
        rw [ih n]; omega
theorem lineF_take (xs : List Int) (n : Nat) : lineF (xs.take n) = (lineF xs).take n := by
  unfold lineF
  rw [idx_take, List.take_take, List.take_take]
  rw [List.length_take]
  by_cases h : n ≤ xs.length
  · congr 1; omega
  · rw [List.take_of_length_le (l := xs) (by omega : xs.length ≤ n) |>.symm]
    by_cases g : xs.idxOf 10 < xs.length
    · rw [List.take_of_length_le (l := xs) (by omega : xs.length ≤ n)]; congr 1; omega
    · rw [List.take_of_length_le (l := xs) (by omega : xs.length ≤ n)]
      have : xs.idxOf 10 ≤ xs.length := List.idxOf_le_length
      rw [List.take_of_length_le (by omega), List.take_of_length_le (by omega)]
theorem lineF_O (xs : List Int) (k : Option Nat) : lineF (takeO k xs) = takeO k (lineF xs) := by
  cases k with
  | none => rfl
  | some n => exact lineF_take xs n
theorem inV_ten (xs : List Int) (v : Int) : inV (.int v) (xs.map V.int) = decide (v ∈ xs) := by
  unfold inV
  rw [List.any_map]
  rw [Bool.eq_iff_iff, List.any_eq_true, decide_eq_true_iff]
  constructor
  · rintro ⟨x, hx, e⟩
    have e1 : x = v := by
      have : eqV (.int x) (.int v) = true := e
      simpa [eqV] using this
    rw [← e1]; exact hx
  · intro h
    exact ⟨v, h, by show eqV (.int v) (.int v) = true; simp [eqV]⟩
theorem flat_ints (xs : List Int) : (xs.map V.int).all flatV = true := by
  rw [List.all_map, List.all_eq_true]
  intro x _
  rfl
theorem idx_facts {xs : List Int} {v : Int} (h : v ∈ xs) : (xs.map V.int)[xs.idxOf v]? = some (.int v) ∧ ∀ (m : Nat) (z : V), m < xs.idxOf v → (xs.map V.int)[m]? = some z → eqV z (.int v) = false := by
  have hl : xs.idxOf v < xs.length := List.idxOf_lt_length_of_mem h
  refine ⟨?_, fun m z hm hz => ?_⟩
  · rw [List.getElem?_map, List.getElem?_eq_getElem hl, List.getElem_idxOf hl]; rfl
  · rw [List.getElem?_map] at hz
    obtain ⟨y, hy, rfl⟩ := Option.map_eq_some_iff.mp hz
    have : y ≠ v := by
      intro e
      subst e
      have hm' : m < xs.length := by omega
      rw [List.getElem?_eq_getElem hm'] at hy
      have := List.not_of_lt_findIdx (p := (· == y)) (xs := xs) (i := m) hm
      have e2 : xs[m] = y := Option.some.inj hy
      rw [e2] at this
      simp at this
    show eqV (.int y) (.int v) = false
    simpa [eqV] using this
theorem mid_cut (r : List Int) (c n : Nat) : cutV (r.map V.int) (some (c : Int)) (some ((c + n : Nat) : Int)) = ((r.drop c).take n).map V.int := by
  unfold cutV
  rw [HT.sIx_nat, HT.sIx_nat, List.length_map, ← List.map_drop, ← List.map_take]
  congr 1
  by_cases h : c ≤ r.length
  · rw [Nat.min_eq_left h]
    by_cases g : c + n ≤ r.length
    · rw [Nat.min_eq_left g, Nat.add_sub_cancel_left]
    · rw [Nat.min_eq_right (by omega), List.take_of_length_le (by rw [List.length_drop]; omega), List.take_of_length_le (by rw [List.length_drop]; omega)]
  · rw [Nat.min_eq_right (by omega : r.length ≤ c), Nat.min_eq_right (by omega), List.drop_of_length_le (Nat.le_refl _), List.drop_of_length_le (by omega : r.length ≤ c)]
    simp
theorem past_le (r : List Int) (c n m : Nat) (h1 : r.length ≤ m) (h2 : c ≤ m) : c + ((r.drop c).take n).length ≤ m := by
  rw [List.length_take, List.length_drop]; omega
/-! promises of the reading calls -/
def spPPeek (PA : PP) : Sp := fun vs H Q _ => ∃ (p : Addr) (F : Addr → Prop) (r : List Int) (c : Nat) (k : Option Nat), vs = [.ref p, cntV k] ∧ PA H p F r c ∧
  ∀ (H' : Hp) (q : Addr), H q = none → H' q = some (.lst ((takeO k (r.drop c)).map V.int)) → Same H H' → Q (.ref q) H'
def spPRead (PA : PP) : Sp := fun vs H Q _ => ∃ (p : Addr) (F : Addr → Prop) (r : List Int) (c : Nat) (k : Option Nat), vs = [.ref p, cntV k] ∧ PA H p F r c ∧
  ∀ (H' : Hp) (F' : Addr → Prop) (q : Addr), PA H' p F' r (c + (takeO k (r.drop c)).length) → H q = none → ¬ F' q → H' q = some (.lst ((takeO k (r.drop c)).map V.int)) → Step F H F' H' → Q (.ref q) H'
def spPLine (PA : PP) : Sp := fun vs H Q _ => ∃ (p : Addr) (F : Addr → Prop) (r : List Int) (c : Nat) (k : Option Nat), vs = [.ref p, cntV k] ∧ PA H p F r c ∧ r.length ≤ 10000 ∧
  ∀ (H' : Hp) (F' : Addr → Prop) (q : Addr), PA H' p F' r (c + (takeO k (lineF (r.drop c))).length) → H q = none → ¬ F' q → H' q = some (.lst ((takeO k (lineF (r.drop c))).map V.int)) → Step F H F' H' → Q (.ref q) H'
def spFLine (K : PySem.W.Frag) : Sp := fun vs H Q _ => ∃ (a : Addr) (xs : List Int) (k : Option Nat), vs = [.ref a, cntV k] ∧ SqL K H a (xs.map V.int) ∧ xs.length ≤ 10000 ∧
  ∀ (H' : Hp) (q : Addr), H q = none → H' q = some (.lst ((takeO k (lineF xs)).map V.int)) → Same H H' → Q (.ref q) H'
def spCount : Sp := fun vs H Q _ => ∃ k : Option Nat, vs = [cntV k] ∧ Q .non H
def spAhead (PA : PP) : Sp := fun vs H Q _ => ∃ (p : Addr) (F : Addr → Prop) (r : List Int) (c : Nat), vs = [.ref p] ∧ PA H p F r c ∧
  ∀ (H' : Hp) (q : Addr), H q = none → H' q = some (.lst ((r.drop c).map V.int)) → Same H H' → Q (.ref q) H'
def spPassed (PA : PP) : Sp := fun vs H Q _ => ∃ (p t : Addr) (F : Addr → Prop) (r xs : List Int) (c : Nat), vs = [.ref p, .ref t] ∧ PA H p F r c ∧ ¬ F t ∧ H t = some (.lst (xs.map V.int)) ∧
  ∀ (H' : Hp) (F' : Addr → Prop), PA H' p F' r (c + xs.length) → ¬ F' t → H' t = some (.lst (xs.map V.int)) → Step F H F' H' → Q (.ref t) H'
end Sip
namespace Sip
open PySem PySem.Spec PyProof.Rows L2 TL
/-! ### tuples alike -/
section
variable {X : Cx}
def rEqS (K : PySem.W.Frag) : R2 := fun x y H Q => ∃ d, Dp K H x d ∧ Dp K H y d ∧ SeqAt.shaped d = true ∧ Q (.bl true) H
def rNeS (K : PySem.W.Frag) : R2 := fun x y H Q => ∃ d, Dp K H x d ∧ Dp K H y d ∧ SeqAt.shaped d = true ∧ Q (.bl false) H
theorem eqv_same {d : PyData} (h : SeqAt.shaped d = true) : PyData.eqv d d = true := SeqAt.eqv_refl d (SeqAt.canLay_of_shaped h)
theorem op_eqS (hu : X.A.units + 64 < cLine) : OpR X (compareOp .Eq) (rEqS X.K) := by
  intro pins s σ H x y v u Q I rx ry h
  obtain ⟨d, h1, h2, h3, q⟩ := h
  exact op_eqD hu pins s σ H x y v u Q I rx ry ⟨d, d, h1, h2, h3, h3, by rw [eqv_same h3]; exact q⟩
theorem op_neS (hu : X.A.units + 64 < cLine) : OpR X (compareOp .NotEq) (rNeS X.K) := by
  intro pins s σ H x y v u Q I rx ry h
  obtain ⟨d, h1, h2, h3, q⟩ := h
  exact op_neD hu pins s σ H x y v u Q I rx ry ⟨d, d, h1, h2, h3, h3, by rw [eqv_same h3]; exact q⟩
/-- == of two tuples of ints -/
def rEqTI (K : PySem.W.Frag) : R2 := fun x y H Q => ∃ (a b : Addr) (ns ms : List Int), x = .ref a ∧ y = .ref b ∧ SqT K H a (ns.map V.int) ∧ SqT K H b (ms.map V.int) ∧ Q (.bl (decide (ns = ms))) H
theorem lay_ints : ∀ ns : List Int, PyData.canLayAll0 (ns.map PyData.int) = true
  | [] => rfl
  | n :: r => by
    have := lay_ints r
    simp [PyData.canLayAll0, PyData.canLay0, this]
theorem eqv_ints : ∀ ns ms : List Int, PyData.eqvAll (ns.map PyData.int) (ms.map PyData.int) = decide (ns = ms)
  | [], [] => rfl
  | [], _ :: _ => by simp [PyData.eqvAll]
  | _ :: _, [] => by simp [PyData.eqvAll]
  | n :: r, m :: t => by
    show (PyData.eqv (.int n) (.int m) && PyData.eqvAll (r.map PyData.int) (t.map PyData.int)) = _
    rw [eqv_ints r t]
    show ((n == m) && decide (r = t)) = _
    by_cases h : n = m <;> by_cases g : r = t <;> simp [h, g]
end
theorem shaped_ints (ns : List Int) : SeqAt.shaped (.tuple (ns.map PyData.int)) = true := by
  unfold SeqAt.shaped
  rw [Bool.and_eq_true]
  refine ⟨lay_ints ns, decide_eq_true ?_⟩
  have : ∀ ms : List Int, PyData.depthAll (ms.map PyData.int) ≤ 1 := by
    intro ms
    induction ms with
    | nil => simp [PyData.depthAll]
    | cons m r ih => simp [PyData.depthAll, PyData.depth]; try omega
  have h := this ns
  show PyData.depth (.tuple (ns.map PyData.int)) ≤ 64
  simp [PyData.depth]; try omega
section
variable {X : Cx}
theorem op_eqTI (hu : X.A.units + 64 < cLine) : OpR X (compareOp .Eq) (rEqTI X.K) := by
  intro pins s σ H x y v u Q I rx ry h
  obtain ⟨a, b, ns, ms, rfl, rfl, ha, hb, q⟩ := h
  exact op_eqD hu pins s σ H _ _ v u Q I rx ry ⟨.tuple (ns.map PyData.int), .tuple (ms.map PyData.int), .tup ha (dp_ints ns), .tup hb (dp_ints ms), shaped_ints ns, shaped_ints ms, by
    rw [show PyData.eqv (.tuple (ns.map PyData.int)) (.tuple (ms.map PyData.int)) = decide (ns = ms) from eqv_ints ns ms]; exact q⟩
end
theorem dp4 {K : PySem.W.Frag} {H : Hp} {q : Addr} {w : Str} {a b c : Int} (h : SqT K H q [.str w, .int a, .int b, .int c]) : Dp K H (.ref q) (.tuple [.str w, .int a, .int b, .int c]) :=
  .tup h (.cons (.str _) (.cons (.int _) (.cons (.int _) (.cons (.int _) .nil))))
theorem sh4 {w : Str} (h : PyData.strOk w = true) (a b c : Int) : SeqAt.shaped (.tuple [.str w, .int a, .int b, .int c]) = true := by
  simp [SeqAt.shaped, PyData.canLay0, PyData.canLayAll0, PyData.depth, PyData.depthAll, h]
/-! ### the codes -/
inductive Cd
  | plain | steps | wide | turn
def Cd.w : Cd → Str
  | .plain => Str.ofString "plain"
  | .steps => Str.ofString "steps"
  | .wide => Str.ofString "wide"
  | .turn => Str.ofString "turn"
def skipT : List Int → Nat → Int → Nat × Int
  | [], p, s => (p, s)
  | x :: r, p, s => if 128 ≤ x then skipT r (p + 1) (x - 128) else (p, s)
def markW (row : List Int) (p : Nat) : Nat × Int :=
  if (row.drop p).take 2 = [254, 255] then (p + 2, 2) else if (row.drop p).take 2 = [255, 254] then (p + 2, 1) else (p, 2)
def goneF (c : Cd) (row : List Int) (p : Nat) (s : Int) : Nat × Int := match c with
  | .turn => skipT (row.drop p) p s
  | .wide => if s = 0 then markW row p else (p, s)
  | _ => (p, s)
def leadF (x : Int) : Nat × Int :=
  if x < 128 then (1, 0) else if x < 192 then (0, 0) else if x < 224 then (2, 192) else if x < 240 then (3, 224) else if x < 248 then (4, 240) else (0, 0)
def stepsW (n : Int) : List Int :=
  if n < 128 then [n] else if n < 2048 then [192 + n / 64, 128 + n % 64] else if n < 65536 then [224 + n / 4096, 128 + n / 64 % 64, 128 + n % 64]
  else [240 + n / 262144, 128 + n / 4096 % 64, 128 + n / 64 % 64, 128 + n % 64]
def foldS (s : Int) (xs : List Int) : Int := xs.foldl (fun s b => 64 * s + b - 128) s
def stepsAt (xs : List Int) : Int × Nat :=
  let l := leadF (xs.headD 0)
  let wr := xs.take l.1
  let sg := foldS (xs.headD 0 - l.2) (wr.drop 1)
  if stepsW sg = wr then (sg, l.1) else (0, 0)
def signF (c : Cd) (row : List Int) (b : Nat) (s : Int) : Int × Nat := match c with
  | .steps => stepsAt (row.drop b)
  | .wide => if row.length < b + 2 then (0, 0) else if s = 1 then (row.getD b 0 + 256 * row.getD (b + 1) 0, 2) else (256 * row.getD b 0 + row.getD (b + 1) 0, 2)
  | .turn => (128 * s + row.getD b 0, 1)
  | .plain => (row.getD b 0, 1)
def fourV (w : Str) (a : Int) (p : Nat) (s : Int) : List V := [.str w, .int a, .int p, .int s]
def tellF (row : List Int) (p : Nat) (s : Int) (g : Nat × Int) (t : Int × Nat) : List V :=
  if row.length ≤ g.1 then fourV (Str.ofString "end") 0 p s else if t.2 = 0 then fourV (Str.ofString "wrong") 0 (g.1 + 1) g.2 else fourV (Str.ofString "sign") t.1 (g.1 + t.2) g.2
def readF (c : Cd) (row : List Int) (p : Nat) (s : Int) : List V := tellF row p s (goneF c row p s) (signF c row (goneF c row p s).1 (goneF c row p s).2)
theorem readF_shape (c : Cd) (row : List Int) (p : Nat) (s : Int) : ∃ (w : Str) (a : Int) (p' : Nat) (s' : Int), readF c row p s = fourV w a p' s' ∧ PyData.strOk w = true := by
  unfold readF tellF
  split
  · exact ⟨_, _, _, _, rfl, by decide +kernel⟩
  · split
    · exact ⟨_, _, _, _, rfl, by decide +kernel⟩
    · exact ⟨_, _, _, _, rfl, by decide +kernel⟩
/-- two told tuples alike -/
theorem dp_read {K : PySem.W.Frag} {H : Hp} {a b : Addr} {c : Cd} {row : List Int} {p : Nat} {s : Int} (ha : SqT K H a (readF c row p s)) (hb : SqT K H b (readF c row p s)) : ∃ d, Dp K H (.ref a) d ∧ Dp K H (.ref b) d ∧ SeqAt.shaped d = true := by
  obtain ⟨w, x, p', s', e, h⟩ := readF_shape c row p s
  rw [e] at ha hb
  exact ⟨_, dp4 ha, dp4 hb, sh4 h _ _ _⟩
/-! promises -/
def newT (H : Hp) (vs : List V) (Q : VK) : Prop := ∀ (H' : Hp) (q : Addr), H q = none → H' q = some (.tup vs) → Same H H' → Q (.ref q) H'
def spChk : Sp := fun vs H Q _ => ∃ c : Cd, vs = [.str c.w] ∧ ∀ H', Same H H' → Q .non H'
def spBT (K : PySem.W.Frag) : Sp := fun vs H Q _ => ∃ (a : Addr) (row : List Int) (p : Nat) (s : Int), vs = [.ref a, .int p, .int s] ∧ SqL K H a (row.map V.int) ∧ newT H [.int (skipT (row.drop p) p s).1, .int (skipT (row.drop p) p s).2] Q
def spBM (K : PySem.W.Frag) : Sp := fun vs H Q _ => ∃ (a : Addr) (row : List Int) (p : Nat), vs = [.ref a, .int p] ∧ SqL K H a (row.map V.int) ∧ newT H [.int (markW row p).1, .int (markW row p).2] Q
def spGone (K : PySem.W.Frag) : Sp := fun vs H Q _ => ∃ (a : Addr) (row : List Int) (p : Nat) (s : Int) (c : Cd), vs = [.ref a, .int p, .int s, .str c.w] ∧ SqL K H a (row.map V.int) ∧ newT H [.int (goneF c row p s).1, .int (goneF c row p s).2] Q
def spWideAt (K : PySem.W.Frag) : Sp := fun vs H Q _ => ∃ (a : Addr) (row : List Int) (b : Nat) (s : Int), vs = [.ref a, .int b, .int s] ∧ SqL K H a (row.map V.int) ∧ b < row.length ∧ newT H [.int (signF .wide row b s).1, .int (signF .wide row b s).2] Q
def spStepsAt (K : PySem.W.Frag) : Sp := fun vs H Q _ => ∃ (a : Addr) (row : List Int) (b : Nat), vs = [.ref a, .int b] ∧ SqL K H a (row.map V.int) ∧ b < row.length ∧ newT H [.int (stepsAt (row.drop b)).1, .int (stepsAt (row.drop b)).2] Q
def spLead : Sp := fun vs H Q _ => ∃ x : Int, vs = [.int x] ∧ newT H [.int (leadF x).1, .int (leadF x).2] Q
def spStepsW : Sp := fun vs H Q _ => ∃ n : Int, vs = [.int n] ∧ ∀ (H' : Hp) (q : Addr), H q = none → H' q = some (.lst ((stepsW n).map V.int)) → Same H H' → Q (.ref q) H'
def spSignAt (K : PySem.W.Frag) (ok : Cd → Prop) : Sp := fun vs H Q _ => ∃ (a : Addr) (row : List Int) (b : Nat) (s : Int) (c : Cd), vs = [.ref a, .int b, .int s, .str c.w] ∧ ok c ∧ SqL K H a (row.map V.int) ∧ b < row.length ∧ newT H [.int (signF c row b s).1, .int (signF c row b s).2] Q
def spReadS (K : PySem.W.Frag) (ok : Cd → Prop) : Sp := fun vs H Q _ => ∃ (a : Addr) (row : List Int) (p : Nat) (s : Int) (c : Cd), vs = [.ref a, .int p, .int s, .str c.w] ∧ ok c ∧ SqL K H a (row.map V.int) ∧ newT H (readF c row p s) Q
end Sip
namespace Sip
open PySem PySem.Spec PyProof.Rows L2 TL
/-! the code steps: what is written is read -/
def baseF (m : Nat) : Int := match m with | 0 => 0 | 1 => 192 | 2 => 224 | _ => 240
theorem stepsW_back {s : Int} (h0 : 0 ≤ s) (h1 : s < 2097152) : ∃ (x : Int) (r : List Int) (m : Nat), stepsW s = x :: r ∧ r.length = m ∧ m ≤ 3 ∧ leadF x = (m + 1, baseF m) ∧ foldS (x - baseF m) r = s ∧ ∀ b ∈ x :: r, 0 ≤ b ∧ b ≤ 255 := by
  unfold stepsW
  by_cases a : s < 128
  · rw [if_pos a]
    refine ⟨s, [], 0, rfl, rfl, by omega, ?_, ?_, ?_⟩
    · unfold leadF baseF; rw [if_pos a]; rfl
    · show s - 0 = s; omega
    · intro b hb; rw [List.mem_singleton.mp hb]; omega
  · rw [if_neg a]
    by_cases b : s < 2048
    · rw [if_pos b]
      refine ⟨_, _, 1, rfl, rfl, by omega, ?_, ?_, ?_⟩
      · unfold leadF baseF; rw [if_neg (by omega), if_neg (by omega), if_pos (by omega)]; rfl
      · show 64 * (192 + s / 64 - 192) + (128 + s % 64) - 128 = s; omega
      · intro b hb; simp only [List.mem_cons, List.mem_nil_iff, or_false] at hb; rcases hb with rfl | rfl <;> omega
    · rw [if_neg b]
      by_cases c : s < 65536
      · rw [if_pos c]
        refine ⟨_, _, 2, rfl, rfl, by omega, ?_, ?_, ?_⟩
        · unfold leadF baseF; rw [if_neg (by omega), if_neg (by omega), if_neg (by omega), if_pos (by omega)]; rfl
        · show 64 * (64 * (224 + s / 4096 - 224) + (128 + s / 64 % 64) - 128) + (128 + s % 64) - 128 = s; omega
        · intro b hb; simp only [List.mem_cons, List.mem_nil_iff, or_false] at hb; rcases hb with rfl | rfl | rfl <;> omega
      · rw [if_neg c]
        refine ⟨_, _, 3, rfl, rfl, by omega, ?_, ?_, ?_⟩
        · unfold leadF baseF; rw [if_neg (by omega), if_neg (by omega), if_neg (by omega), if_neg (by omega), if_pos (by omega)]; rfl
        · show 64 * (64 * (64 * (240 + s / 262144 - 240) + (128 + s / 4096 % 64) - 128) + (128 + s / 64 % 64) - 128) + (128 + s % 64) - 128 = s; omega
        · intro b hb; simp only [List.mem_cons, List.mem_nil_iff, or_false] at hb; rcases hb with rfl | rfl | rfl | rfl <;> omega
def sgM (xs : List Int) (m : Nat) : Int := foldS (xs.headD 0 - baseF m) ((xs.take (m + 1)).drop 1)
def condM (xs : List Int) (m : Nat) : Prop := 0 ≤ sgM xs m ∧ sgM xs m < 2097152 ∧ stepsW (sgM xs m) = xs.take (m + 1)
theorem cond_at {xs : List Int} {m : Nat} (h : condM xs m) : stepsAt xs = (sgM xs m, (xs.take (m + 1)).length) ∧ (xs.take (m + 1)).length ≠ 0 := by
  obtain ⟨h0, h1, h2⟩ := h
  obtain ⟨x, r, k, e, lr, k3, el, ef, _⟩ := stepsW_back h0 h1
  rw [h2] at e
  generalize sgM xs m = s at *
  cases xs with
  | nil => simp at e
  | cons y t =>
    rw [List.take_succ_cons] at e h2 ⊢
    obtain ⟨rfl, er⟩ := List.cons.inj e
    have lt : (t.take m).length = k := by rw [er]; exact lr
    have et : t.take k = t.take m := by
      rw [← lt, List.length_take]
      by_cases g : m ≤ t.length
      · rw [Nat.min_eq_left g]
      · rw [Nat.min_eq_right (by omega), List.take_of_length_le (Nat.le_refl _), List.take_of_length_le (by omega)]
    refine ⟨?_, by simp⟩
    unfold stepsAt
    show (if stepsW (foldS (y - (leadF y).2) (((y :: t).take (leadF y).1).drop 1)) = (y :: t).take (leadF y).1 then _ else _) = _
    rw [el]
    dsimp only
    rw [List.take_succ_cons, List.drop_succ_cons, List.drop_zero, et, er, ef, h2, er, if_pos rfl, List.length_cons, lr]
    show (foldS (y - (leadF y).2) (List.drop 1 (List.take (leadF y).1 (y :: t))), (leadF y).1) = _
    rw [el]
    dsimp only
    rw [List.take_succ_cons, List.drop_succ_cons, List.drop_zero, et, er, ef]
theorem at_cond {xs : List Int} (hn : xs ≠ []) (nn : ∀ b ∈ xs, 0 ≤ b) (h : ∀ m, m < 4 → ¬ condM xs m) : stepsAt xs = (0, 0) := by
  cases xs with
  | nil => exact absurd rfl hn
  | cons x t =>
    have x0 := nn x (by simp)
    unfold stepsAt
    show (if stepsW (foldS (x - (leadF x).2) (((x :: t).take (leadF x).1).drop 1)) = (x :: t).take (leadF x).1 then _ else _) = _
    have lead : (leadF x).1 = 0 ∨ ∃ m, m < 4 ∧ leadF x = (m + 1, baseF m) ∧ (m = 0 → x < 128) ∧ (0 < m → 192 ≤ x) ∧ (m = 3 → x < 248) := by
      unfold leadF
      by_cases a : x < 128
      · rw [if_pos a]; exact .inr ⟨0, by omega, rfl, fun _ => a, by omega, by omega⟩
      · rw [if_neg a]
        by_cases b : x < 192
        · rw [if_pos b]; exact .inl rfl
        · rw [if_neg b]
          by_cases c : x < 224
          · rw [if_pos c]; exact .inr ⟨1, by omega, rfl, by omega, by omega, by omega⟩
          · rw [if_neg c]
            by_cases d : x < 240
            · rw [if_pos d]; exact .inr ⟨2, by omega, rfl, by omega, by omega, by omega⟩
            · rw [if_neg d]
              by_cases e : x < 248
              · rw [if_pos e]; exact .inr ⟨3, by omega, rfl, by omega, by omega, fun _ => e⟩
              · rw [if_neg e]; exact .inl rfl
    have ne : ∀ s, stepsW s ≠ [] := by
      intro s; unfold stepsW; split
      · simp
      · split
        · simp
        · split <;> simp
    rcases lead with l0 | ⟨m, m4, el, ma, mb, mc⟩
    · rw [l0, List.take_zero, if_neg (ne _)]
    · rw [el]
      dsimp only
      refine if_neg fun e => h m m4 ?_
      have es : sgM (x :: t) m = foldS (x - baseF m) (((x :: t).take (m + 1)).drop 1) := rfl
      rw [← es] at e
      refine ⟨?_, ?_, e⟩
      · by_cases hs : sgM (x :: t) m < 0
        · exfalso
          have e1 : stepsW (sgM (x :: t) m) = [sgM (x :: t) m] := by unfold stepsW; rw [if_pos (by omega)]
          rw [e1, List.take_succ_cons] at e
          have := (List.cons.inj e).1
          omega
        · omega
      · by_cases hs : sgM (x :: t) m < 2097152
        · exact hs
        · exfalso
          have e1 : stepsW (sgM (x :: t) m) = [240 + sgM (x :: t) m / 262144, 128 + sgM (x :: t) m / 4096 % 64, 128 + sgM (x :: t) m / 64 % 64, 128 + sgM (x :: t) m % 64] := by
            unfold stepsW; rw [if_neg (by omega), if_neg (by omega), if_neg (by omega)]
          rw [e1, List.take_succ_cons] at e
          obtain ⟨e2, e3⟩ := List.cons.inj e
          have l3 : (t.take m).length = 3 := by rw [← e3]; rfl
          rw [List.length_take] at l3
          have : m = 3 := by omega
          have := mc this
          omega
/-- the digits of sixty-four behind the first i ones, the eldest ahead -/
def restF (n : Int) : Nat → List Int
  | 0 => []
  | i + 1 => (128 + (n / 64 ^ i) % 64) :: restF n i
theorem restF_len (n : Int) (i : Nat) : (restF n i).length = i := by
  induction i with
  | zero => rfl
  | succ i ih => show (restF n i).length + 1 = _; rw [ih]
theorem restF_nn (n : Int) (i : Nat) : ∀ b ∈ restF n i, 0 ≤ b := by
  induction i with
  | zero => intro b hb; cases hb
  | succ i ih =>
    intro b hb
    rcases List.mem_cons.mp hb with rfl | hb
    · have := Int.emod_nonneg (n / 64 ^ i) (show (64 : Int) ≠ 0 by decide); omega
    · exact ih b hb
theorem div_next (n : Int) (i : Nat) : n / 64 ^ i / 64 = n / 64 ^ (i + 1) := by
  rw [Int.ediv_ediv_of_nonneg (Int.pow_nonneg (by decide)), Int.pow_succ]
theorem restF3 (n : Int) : restF n 3 = [128 + n / 4096 % 64, 128 + n / 64 % 64, 128 + n % 64] := by
  show [128 + (n / 4096) % 64, 128 + (n / 64) % 64, 128 + (n / 1) % 64] = _
  rw [Int.ediv_one]
theorem restF2 (n : Int) : restF n 2 = [128 + n / 64 % 64, 128 + n % 64] := by
  show [128 + (n / 64) % 64, 128 + (n / 1) % 64] = _
  rw [Int.ediv_one]
theorem restF1 (n : Int) : restF n 1 = [128 + n % 64] := by
  show [128 + (n / 1) % 64] = _
  rw [Int.ediv_one]
theorem foldS_snoc (s : Int) (xs : List Int) (x : Int) : foldS s (xs ++ [x]) = 64 * foldS s xs + x - 128 := by
  unfold foldS; rw [List.foldl_append]; rfl
def sizeF : Cd → Int
  | .plain => 256
  | .steps => 2097152
  | .wide => 65536
  | .turn => 16384
theorem sizeF_b (c : Cd) : 256 ≤ sizeF c ∧ sizeF c ≤ 2097152 := by cases c <;> decide
/-! promises of a law's own defs about signs -/
def spSignL : Sp := fun vs H Q _ => ∃ (p : Addr) (n : Int) (o : HO) (c : Cd), vs = [.ref p, .str c.w] ∧ H p = some o ∧ PoolO n o ∧ n ≤ 900000000 ∧
  ∀ (H' : Hp) (g : Int) (o' : HO), 0 ≤ g → g < sizeF c → H' p = some o' → PoolO (n + 3) o' → Kp [p] H H' → Q (.int g) H'
def spStepsL : Sp := fun vs H Q _ => ∃ n : Int, vs = [.int n] ∧ 0 ≤ n ∧ n < 2097152 ∧ ∀ (H' : Hp) (q : Addr), H q = none → H' q = some (.lst ((stepsW n).map V.int)) → Same H H' → Q (.ref q) H'
def spStepsRd (K : PySem.W.Frag) : Sp := fun vs H Q _ => ∃ (x : Addr) (row : List Int) (p : Nat), vs = [.ref x, .int p] ∧ SqL K H x (row.map V.int) ∧ p < row.length ∧ (∀ b ∈ row, 0 ≤ b) ∧ row.length ≤ 1000 ∧ newT H (readF .steps row p 0) Q
end Sip
namespace Sip
open PySem PySem.Spec PyProof.Rows L2 TL
def manyF (n : Int) : Nat := if n < 2048 then 1 else if n < 65536 then 2 else 3
theorem manyF_b (n : Int) : 1 ≤ manyF n ∧ manyF n ≤ 3 := by unfold manyF; split; · omega
                                                            split <;> omega
theorem many_val (n : Int) : (1 : Int) + (if decide (n > 2047) = true then 1 else 0) + (if decide (n > 65535) = true then 1 else 0) = (manyF n : Int) := by
  unfold manyF
  by_cases a : n < 2048
  · rw [if_pos a, if_neg (by simp; omega), if_neg (by simp; omega)]; rfl
  · by_cases b : n < 65536
    · rw [if_neg a, if_pos b, if_pos (by simp; omega), if_neg (by simp; omega)]; rfl
    · rw [if_neg a, if_neg b, if_pos (by simp; omega), if_pos (by simp; omega)]; rfl
theorem stepsW_rest {n : Int} (h : 128 ≤ n) : stepsW n = (baseF (manyF n) + n / 64 ^ manyF n) :: restF n (manyF n) := by
  unfold stepsW manyF
  rw [if_neg (by omega)]
  by_cases a : n < 2048
  · rw [if_pos a, if_pos a, restF1]; rfl
  · rw [if_neg a, if_neg a]
    by_cases b : n < 65536
    · rw [if_pos b, if_pos b, restF2]; rfl
    · rw [if_neg b, if_neg b, restF3]; rfl
theorem base_at {m : Nat} (h1 : 1 ≤ m) (h3 : m ≤ 3) : atI [V.int 192, .int 224, .int 240] ((m : Int) - 1) = some (.int (baseF m)) := by
  rcases (show m = 1 ∨ m = 2 ∨ m = 3 by omega) with rfl | rfl | rfl <;> rfl
theorem base_at0 {m : Nat} (h3 : m ≤ 3) : atI [V.int 0, .int 192, .int 224, .int 240] (m : Int) = some (.int (baseF m)) := by
  rcases (show m = 0 ∨ m = 1 ∨ m = 2 ∨ m = 3 by omega) with rfl | rfl | rfl | rfl <;> rfl
def sizesK : List (Key × V) := [(Sum.inr (Str.ofString "plain"), .int 256), (Sum.inr (Str.ofString "steps"), .int 2097152), (Sum.inr (Str.ofString "wide"), .int 65536), (Sum.inr (Str.ofString "turn"), .int 16384)]
theorem sizes_at (c : Cd) : valV (mergeK [] sizesK) (Sum.inr c.w) = some (.int (sizeF c)) := by
  cases c <;> kernel_rfl
theorem edges_nn : ∀ y ∈ ([0, 127, 128, 255, 2047, 2048, 65535, 65536, 2097151, 65279, 65534, 65533, 16383] : List Int), 0 ≤ y := by decide
end Sip
namespace Sip
open PySem PySem.Spec PyProof.Rows L2 TL
/-! writing signs -/
def signW (c : Cd) (g s : Int) : List Int × Int := match c with
  | .plain => ([g], s)
  | .steps => (stepsW g, s)
  | .wide => if s = 1 then ([g % 256, g / 256], 1) else if s = 2 then ([g / 256, g % 256], 2) else ([254, 255, g / 256, g % 256], 2)
  | .turn => if g / 128 = s then ([g % 128], g / 128) else ([128 + g / 128, g % 128], g / 128)
def writeF (c : Cd) : List Int → Int → List Int × Int
  | [], s => ([], s)
  | g :: r, s => ((signW c g s).1 ++ (writeF c r (signW c g s).2).1, (writeF c r (signW c g s).2).2)
def VS (c : Cd) (s : Int) : Prop := match c with
  | .wide => 0 ≤ s ∧ s ≤ 2
  | _ => True
theorem writeF_snoc (c : Cd) : ∀ (xs : List Int) (g s : Int), writeF c (xs ++ [g]) s = ((writeF c xs s).1 ++ (signW c g (writeF c xs s).2).1, (signW c g (writeF c xs s).2).2)
  | [], g, s => by simp [writeF]
  | x :: r, g, s => by
    show ((signW c x s).1 ++ (writeF c (r ++ [g]) (signW c x s).2).1, (writeF c (r ++ [g]) (signW c x s).2).2) = _
    rw [writeF_snoc c r g]
    simp [writeF]
theorem writeF_app (c : Cd) : ∀ (xs ys : List Int) (s : Int), writeF c (xs ++ ys) s = ((writeF c xs s).1 ++ (writeF c ys (writeF c xs s).2).1, (writeF c ys (writeF c xs s).2).2)
  | [], ys, s => by simp [writeF]
  | x :: r, ys, s => by
    show ((signW c x s).1 ++ (writeF c (r ++ ys) (signW c x s).2).1, (writeF c (r ++ ys) (signW c x s).2).2) = _
    rw [writeF_app c r ys]
    simp [writeF]
theorem writeF_one (c : Cd) (g s : Int) : writeF c [g] s = signW c g s := by
  show ((signW c g s).1 ++ [], (signW c g s).2) = _
  rw [List.append_nil]
theorem signW_vs {c : Cd} {g s : Int} (h : VS c s) : VS c (signW c g s).2 := by
  cases c with
  | wide =>
    show 0 ≤ (signW .wide g s).2 ∧ (signW .wide g s).2 ≤ 2
    unfold signW
    dsimp only
    split
    · show (0 : Int) ≤ 1 ∧ (1 : Int) ≤ 2; decide
    · split
      · show (0 : Int) ≤ 2 ∧ (2 : Int) ≤ 2; decide
      · show (0 : Int) ≤ 2 ∧ (2 : Int) ≤ 2; decide
  | plain => trivial
  | steps => trivial
  | turn => trivial
theorem writeF_vs {c : Cd} : ∀ {xs : List Int} {s : Int}, VS c s → VS c (writeF c xs s).2
  | [], s, h => h
  | x :: r, s, h => writeF_vs (xs := r) (signW_vs h)
theorem signW_len {c : Cd} {g s : Int} (g0 : 0 ≤ g) (g1 : g < sizeF c) : 0 < (signW c g s).1.length ∧ (signW c g s).1.length ≤ 4 := by
  cases c with
  | plain =>
    show 0 < 1 ∧ 1 ≤ 4
    decide
  | steps =>
    obtain ⟨x, r, m, e, lr, m3, _, _, _⟩ := stepsW_back g0 g1
    show 0 < (stepsW g).length ∧ (stepsW g).length ≤ 4
    rw [e, List.length_cons]; omega
  | wide =>
    unfold signW
    dsimp only
    split
    · show 0 < 2 ∧ 2 ≤ 4; decide
    · split
      · show 0 < 2 ∧ 2 ≤ 4; decide
      · show 0 < 4 ∧ 4 ≤ 4; decide
  | turn =>
    unfold signW
    dsimp only
    split
    · show 0 < 1 ∧ 1 ≤ 4; decide
    · show 0 < 2 ∧ 2 ≤ 4; decide
theorem signW_nn {c : Cd} {g s : Int} (g0 : 0 ≤ g) (g1 : g < sizeF c) : ∀ b ∈ (signW c g s).1, 0 ≤ b := by
  cases c with
  | plain => intro b hb; rw [List.mem_singleton.mp hb]; exact g0
  | steps =>
    obtain ⟨x, r, m, e, _, _, _, _, hb⟩ := stepsW_back g0 g1
    intro b h
    exact (hb b (by rw [← e]; exact h)).1
  | wide =>
    unfold signW
    dsimp only
    split
    · intro b hb; simp only [List.mem_cons, List.mem_nil_iff, or_false] at hb; rcases hb with rfl | rfl <;> omega
    · split
      · intro b hb; simp only [List.mem_cons, List.mem_nil_iff, or_false] at hb; rcases hb with rfl | rfl <;> omega
      · intro b hb; simp only [List.mem_cons, List.mem_nil_iff, or_false] at hb; rcases hb with rfl | rfl | rfl | rfl <;> omega
  | turn =>
    unfold signW
    dsimp only
    split
    · intro b hb; rw [List.mem_singleton.mp hb]; omega
    · intro b hb; simp only [List.mem_cons, List.mem_nil_iff, or_false] at hb; rcases hb with rfl | rfl <;> omega
theorem getD_at (A : List Int) (x : Int) (B : List Int) : (A ++ x :: B).getD A.length 0 = x := by
  rw [List.getD_eq_getElem?_getD, List.getElem?_append_right (Nat.le_refl _), Nat.sub_self]; rfl
theorem getD_at1 (A : List Int) (x y : Int) (B : List Int) : (A ++ x :: y :: B).getD (A.length + 1) 0 = y := by
  rw [List.getD_eq_getElem?_getD, List.getElem?_append_right (by omega), Nat.add_sub_cancel_left]; rfl
theorem drop_at (A B : List Int) : (A ++ B).drop A.length = B := by simp
theorem tell_sign {row : List Int} {p : Nat} {s : Int} {b : Nat} {sb g : Int} {n : Nat} (hb : b < row.length) (hn : n ≠ 0) : tellF row p s (b, sb) (g, n) = fourV (Str.ofString "sign") g (b + n) sb := by
  unfold tellF
  rw [if_neg (show ¬ row.length ≤ b by omega), if_neg (show ¬ (n = 0) from hn)]
/-- what is written of a sign is read as it -/
theorem read_written {c : Cd} {g s : Int} (g0 : 0 ≤ g) (g1 : g < sizeF c) (hs : VS c s) (A B : List Int) :
    readF c (A ++ (signW c g s).1 ++ B) A.length s = fourV (Str.ofString "sign") g (A.length + (signW c g s).1.length) (signW c g s).2 := by
  unfold readF
  cases c with
  | plain =>
    show tellF (A ++ [g] ++ B) A.length s (A.length, s) ((A ++ [g] ++ B).getD A.length 0, 1) = _
    rw [List.append_assoc]
    show tellF (A ++ g :: B) A.length s (A.length, s) ((A ++ g :: B).getD A.length 0, 1) = _
    rw [getD_at, tell_sign (by simp) (by decide)]
    rfl
  | steps =>
    show tellF (A ++ stepsW g ++ B) A.length s (A.length, s) (stepsAt ((A ++ stepsW g ++ B).drop A.length)) = fourV _ g (A.length + (stepsW g).length) s
    obtain ⟨x, r, m, e, lr, m3, el, ef, _⟩ := stepsW_back g0 g1
    rw [List.append_assoc, drop_at]
    have hw : (stepsW g).length = m + 1 := by rw [e, List.length_cons, lr]
    have et : (stepsW g ++ B).take (m + 1) = stepsW g := by rw [← hw, List.take_left]
    have hsg : sgM (stepsW g ++ B) m = g := by
      unfold sgM
      rw [et, e]
      exact ef
    have hc : condM (stepsW g ++ B) m := ⟨by rw [hsg]; exact g0, by rw [hsg]; exact g1, by rw [hsg, et]⟩
    obtain ⟨ea, ne⟩ := cond_at hc
    rw [hsg, et] at ea
    rw [et] at ne
    rw [ea, tell_sign (by simp [e]) ne]
  | turn =>
    show tellF _ A.length s (skipT ((A ++ (signW .turn g s).1 ++ B).drop A.length) A.length s) _ = _
    have g128 := Int.emod_nonneg g (show (128 : Int) ≠ 0 by decide)
    have g129 := Int.emod_lt_of_pos g (show (0 : Int) < 128 by decide)
    have gd : 0 ≤ g / 128 := Int.ediv_nonneg g0 (by decide)
    by_cases h : g / 128 = s
    · have ew : signW .turn g s = ([g % 128], g / 128) := if_pos h
      rw [ew, List.append_assoc]
      show tellF (A ++ (g % 128) :: B) A.length s (goneF .turn (A ++ (g % 128) :: B) A.length s) (signF .turn (A ++ (g % 128) :: B) (goneF .turn (A ++ (g % 128) :: B) A.length s).1 (goneF .turn (A ++ (g % 128) :: B) A.length s).2) = fourV _ g (A.length + 1) (g / 128)
      have eg : goneF .turn (A ++ (g % 128) :: B) A.length s = (A.length, s) := by
        show skipT ((A ++ (g % 128) :: B).drop A.length) A.length s = _
        rw [drop_at]
        show (if 128 ≤ g % 128 then _ else _) = _
        rw [if_neg (by omega)]
      rw [eg]
      show tellF (A ++ (g % 128) :: B) A.length s (A.length, s) (128 * s + (A ++ (g % 128) :: B).getD A.length 0, 1) = _
      rw [getD_at, tell_sign (by simp) (by decide), ← h, show 128 * (g / 128) + g % 128 = g by omega]
    · have ew : signW .turn g s = ([128 + g / 128, g % 128], g / 128) := if_neg h
      rw [ew, List.append_assoc]
      show tellF (A ++ (128 + g / 128) :: (g % 128) :: B) A.length s (goneF .turn (A ++ (128 + g / 128) :: (g % 128) :: B) A.length s) (signF .turn (A ++ (128 + g / 128) :: (g % 128) :: B) (goneF .turn (A ++ (128 + g / 128) :: (g % 128) :: B) A.length s).1 (goneF .turn (A ++ (128 + g / 128) :: (g % 128) :: B) A.length s).2) = fourV _ g (A.length + 2) (g / 128)
      have eg : goneF .turn (A ++ (128 + g / 128) :: (g % 128) :: B) A.length s = (A.length + 1, g / 128) := by
        show skipT ((A ++ (128 + g / 128) :: (g % 128) :: B).drop A.length) A.length s = _
        rw [drop_at]
        show (if 128 ≤ 128 + g / 128 then (if 128 ≤ g % 128 then _ else _) else _) = _
        rw [if_pos (by omega), if_neg (by omega), show 128 + g / 128 - 128 = g / 128 by omega]
      rw [eg]
      show tellF (A ++ (128 + g / 128) :: (g % 128) :: B) A.length s (A.length + 1, g / 128) (128 * (g / 128) + (A ++ (128 + g / 128) :: (g % 128) :: B).getD (A.length + 1) 0, 1) = _
      rw [getD_at1, tell_sign (by simp) (by decide), show 128 * (g / 128) + g % 128 = g by omega]
  | wide =>
    obtain ⟨s0, s2⟩ := (show 0 ≤ s ∧ s ≤ 2 from hs)
    have wd : ∀ (A' B' : List Int) (x y : Int) (sb : Int), signF .wide (A' ++ x :: y :: B') A'.length sb = (if sb = 1 then (x + 256 * y, 2) else (256 * x + y, 2)) := by
      intro A' B' x y sb
      show (if (A' ++ x :: y :: B').length < A'.length + 2 then _ else if sb = 1 then ((A' ++ x :: y :: B').getD A'.length 0 + 256 * (A' ++ x :: y :: B').getD (A'.length + 1) 0, 2) else (256 * (A' ++ x :: y :: B').getD A'.length 0 + (A' ++ x :: y :: B').getD (A'.length + 1) 0, 2)) = _
      rw [if_neg (by rw [List.length_append, List.length_cons, List.length_cons]; omega), getD_at, getD_at1]
    rcases (show s = 0 ∨ s = 1 ∨ s = 2 by omega) with rfl | rfl | rfl
    · have ew : signW .wide g 0 = ([254, 255, g / 256, g % 256], 2) := rfl
      rw [ew, List.append_assoc]
      show tellF (A ++ 254 :: 255 :: (g / 256) :: (g % 256) :: B) A.length 0 (goneF .wide (A ++ 254 :: 255 :: (g / 256) :: (g % 256) :: B) A.length 0) (signF .wide (A ++ 254 :: 255 :: (g / 256) :: (g % 256) :: B) (goneF .wide (A ++ 254 :: 255 :: (g / 256) :: (g % 256) :: B) A.length 0).1 (goneF .wide (A ++ 254 :: 255 :: (g / 256) :: (g % 256) :: B) A.length 0).2) = fourV _ g (A.length + 4) 2
      have eg : goneF .wide (A ++ 254 :: 255 :: (g / 256) :: (g % 256) :: B) A.length 0 = (A.length + 2, 2) := by
        show markW _ _ = _
        unfold markW
        rw [drop_at, if_pos (show List.take 2 (254 :: 255 :: (g / 256) :: (g % 256) :: B) = [254, 255] from rfl)]
      rw [eg]
      have ea : A ++ 254 :: 255 :: (g / 256) :: (g % 256) :: B = (A ++ [254, 255]) ++ (g / 256) :: (g % 256) :: B := by rw [List.append_assoc]; rfl
      have el : (A ++ [254, 255]).length = A.length + 2 := by rw [List.length_append]; rfl
      have := wd (A ++ [254, 255]) B (g / 256) (g % 256) 2
      rw [← ea, el, if_neg (by decide)] at this
      show tellF _ _ _ (A.length + 2, 2) (signF .wide _ (A.length + 2) 2) = _
      rw [this, tell_sign (by simp) (by decide), show 256 * (g / 256) + g % 256 = g by omega]
    · have ew : signW .wide g 1 = ([g % 256, g / 256], 1) := rfl
      rw [ew, List.append_assoc]
      show tellF (A ++ (g % 256) :: (g / 256) :: B) A.length 1 (A.length, 1) (signF .wide (A ++ (g % 256) :: (g / 256) :: B) A.length 1) = fourV _ g (A.length + 2) 1
      rw [wd, if_pos rfl, tell_sign (by simp) (by decide), show g % 256 + 256 * (g / 256) = g by omega]
    · have ew : signW .wide g 2 = ([g / 256, g % 256], 2) := rfl
      rw [ew, List.append_assoc]
      show tellF (A ++ (g / 256) :: (g % 256) :: B) A.length 2 (A.length, 2) (signF .wide (A ++ (g / 256) :: (g % 256) :: B) A.length 2) = fourV _ g (A.length + 2) 2
      rw [wd, if_neg (by decide), tell_sign (by simp) (by decide), show 256 * (g / 256) + g % 256 = g by omega]
theorem readF_end {c : Cd} {row : List Int} {p : Nat} {s : Int} (h : row.length ≤ p) : readF c row p s = fourV (Str.ofString "end") 0 p s := by
  have g : row.length ≤ (goneF c row p s).1 := by
    have e : row.drop p = [] := List.drop_of_length_le h
    unfold goneF
    cases c with
    | turn => show _ ≤ (skipT (row.drop p) p s).1; rw [e]; exact h
    | wide =>
      show _ ≤ (if s = 0 then markW row p else (p, s)).1
      split
      · unfold markW; rw [e]; simp; exact h
      · exact h
    | plain => exact h
    | steps => exact h
  unfold readF tellF
  rw [if_pos g]
/-! promises of the laws' own defs -/
def CODES : List V := [.str (Str.ofString "plain"), .str (Str.ofString "steps"), .str (Str.ofString "wide"), .str (Str.ofString "turn")]
theorem codes_at {i : Int} (h0 : 0 ≤ i) (h1 : i < 4) : ∃ c : Cd, atI CODES i = some (.str c.w) := by
  rcases (show i = 0 ∨ i = 1 ∨ i = 2 ∨ i = 3 by omega) with rfl | rfl | rfl | rfl
  · exact ⟨.plain, rfl⟩
  · exact ⟨.steps, rfl⟩
  · exact ⟨.wide, rfl⟩
  · exact ⟨.turn, rfl⟩
def spCodes : Sp := fun vs H Q _ => ∃ u : Unit, vs = [] ∧ ∀ (q : Addr), H q = none → Q (.ref q) (upd H q (.lst CODES))
def spState : Sp := fun vs H Q _ => ∃ (p : Addr) (n : Int) (o : HO) (c : Cd), vs = [.ref p, .str c.w] ∧ H p = some o ∧ PoolO n o ∧ n ≤ 900000000 ∧
  ∀ (H' : Hp) (s : Int) (o' : HO), VS c s → 0 ≤ s → s < 128 → H' p = some o' → PoolO (n + 3) o' → Kp [p] H H' → Q (.int s) H'
def spWriteL (K : PySem.W.Frag) : Sp := fun vs H Q _ => ∃ (a : Addr) (gs : List Int) (s : Int) (c : Cd), vs = [.ref a, .int s, .str c.w] ∧ SqL K H a (gs.map V.int) ∧ gs.length ≤ 200 ∧ VS c s ∧ (∀ g ∈ gs, 0 ≤ g ∧ g < sizeF c) ∧
  ∀ (H' : Hp) (q w : Addr), H q = none → H w = none → q ≠ w → H' q = some (.tup [.ref w, .int (writeF c gs s).2]) → H' w = some (.lst ((writeF c gs s).1.map V.int)) → Same H H' → Q (.ref q) H'
end Sip
namespace Sip
open PySem PySem.Spec PyProof.Rows L2 TL
def spWholeI : Sp := fun vs H Q _ => ∃ v : Int, vs = [.int v] ∧ Q (.bl true) H
def spLastS : Sp := fun vs H Q _ => ∃ c : Cd, vs = [.str c.w] ∧ Q (.int (sizeF c - 1)) H
def newW (H : Hp) (W : List Int × Int) (Q : VK) : Prop := ∀ (H' : Hp) (q w : Addr), H q = none → H w = none → q ≠ w → H' q = some (.tup [.ref w, .int W.2]) → H' w = some (.lst (W.1.map V.int)) → Same H H' → Q (.ref q) H'
def spWW : Sp := fun vs H Q _ => ∃ g s : Int, vs = [.int g, .int s] ∧ VS .wide s ∧ newW H (signW .wide g s) Q
def spTW : Sp := fun vs H Q _ => ∃ g s : Int, vs = [.int g, .int s] ∧ newW H (signW .turn g s) Q
def spSWr : Sp := fun vs H Q _ => ∃ (g s : Int) (c : Cd), vs = [.int g, .int s, .str c.w] ∧ VS c s ∧ newW H (signW c g s) Q
/-- a tuple of a row and a number -/
theorem shaped_row (ns : List Int) (v : Int) : SeqAt.shaped (.tuple [.list (ns.map PyData.int), .int v]) = true := by
  have h := shaped_ints ns
  unfold SeqAt.shaped at h ⊢
  rw [Bool.and_eq_true] at h ⊢
  obtain ⟨h1, h2⟩ := h
  have h1' : PyData.canLayAll0 (ns.map PyData.int) = true := lay_ints ns
  refine ⟨by simp [PyData.canLay0, PyData.canLayAll0, h1'], decide_eq_true ?_⟩
  have : ∀ ms : List Int, PyData.depthAll (ms.map PyData.int) ≤ 1 := by
    intro ms
    induction ms with
    | nil => simp [PyData.depthAll]
    | cons m r ih => simp [PyData.depthAll, PyData.depth]; try omega
  have h3 := this ns
  simp [PyData.depth, PyData.depthAll]; try omega
theorem dp_row {K : PySem.W.Frag} {H : Hp} {q w : Addr} {ns : List Int} {v : Int} (h : SqT K H q [.ref w, .int v]) (hw : SqL K H w (ns.map V.int)) : Dp K H (.ref q) (.tuple [.list (ns.map PyData.int), .int v]) :=
  .tup h (.cons (dp_lst hw) (.cons (.int _) .nil))
end Sip
namespace Sip
open PySem PySem.Spec PyProof.Rows L2 TL
/-! ### own errors that keep a value -/
/-- __init__(self, f): self.f = f -/
def spErr1 (C : Addr) (f : Str) : Sp := fun vs H Q _ => ∃ (a : Addr) (v : V), vs = [.ref a, v] ∧ H a = some (exo a C none) ∧ ∀ dx, H dx = none → dx ≠ a → Q .non (upd (upd H dx (exd dx [(f, v)])) a (exo a C (some dx)))
/-- what a raise of it asks, once its value stands -/
theorem mk1_fin {C : Addr} {f : Str} {H1 : Hp} {v : V} {Q : XK} (h : ∀ d, H1 d = none → Q (.ref C) (some d) (upd H1 d (.xd [(f, v)]))) :
    [v].length ≤ 1000 ∧ ∀ a, H1 a = none → spErr1 C f (.ref a :: ([v] ++ [])) (upd H1 a (exo a C none))
      (fun v H2 => v = .non ∧ ∃ (d : Addr) (fs : List (Str × V)), H2 a = some (exo a C (some d)) ∧ H2 d = some (exd d fs) ∧ H1 d = none ∧ Q (.ref C) (some d) (upd (del H2 a) d (.xd fs))) (fun _ _ _ => False) := by
  refine ⟨by show 1 ≤ 1000; decide, fun a na => ⟨a, v, rfl, upd_same, fun dx nd ne => ⟨rfl, dx, [(f, v)], upd_same, ?_, ?_, ?_⟩⟩⟩
  · rw [upd_ne ne]; exact upd_same
  · rw [upd_ne ne] at nd; exact nd
  · have nd' : H1 dx = none := by rw [upd_ne ne] at nd; exact nd
    have e : upd (del (upd (upd (upd H1 a (exo a C none)) dx (exd dx [(f, v)])) a (exo a C (some dx))) a) dx (.xd [(f, v)]) = upd H1 dx (.xd [(f, v)]) := by
      funext b
      by_cases hb : b = dx
      · subst hb; rw [upd_same, upd_same]
      · rw [upd_ne hb, upd_ne hb]
        by_cases ha : b = a
        · subst ha; rw [del_same, na]
        · rw [del_ne ha, upd_ne ha, upd_ne hb, upd_ne ha]
    rw [e]
    exact h dx nd'
section
variable {X : Cx}
/-- isinstance(e, c): e is the error that the suite holds, whatever it keeps -/
def rIsO (K : PySem.W.Frag) (cls : Value) (d : Option Addr) (a : Addr) : List V → Hp → VK → Prop := fun xs H Q => ∃ D : Addr, cls = .ref D ∧ ExcC K D ∧ (d = none ∨ ∃ dd fs, d = some dd ∧ H dd = some (.xd fs)) ∧ rIsE K D a xs H Q
theorem inst_of {a D : Addr} {oe : Obj} {d : Option Addr} {H : Hp} {s : Shared} {pins : List (Addr × Obj)} {σ : L2.St} {Y : Cx} (I : Inv Y pins σ H s) (ha : s.heap.get? a = some oe) (hz : Zc (.ref D) d oe) (hf : ∃ vs, oe.data = .fields vs)
    (hd : d = none ∨ ∃ dd fs, d = some dd ∧ H dd = some (.xd fs)) : ∃ od, PySem.W.InstAt s.heap a oe D od := by
  obtain ⟨vs, hv⟩ := hf
  obtain ⟨z1, z2⟩ := hz
  have nc : PySem.W.notCls oe = true := by unfold PySem.W.notCls; rw [hv]
  rcases hd with rfl | ⟨dd, fs, rfl, ed⟩
  · refine ⟨none, ha, z1, nc, ?_⟩
    rw [z2]; trivial
  · have ob : ObjOk Y.prog Y.w H s.heap dd (.xd fs) := I.hok dd _ ed
    obtain ⟨mA, hns, _⟩ := ob
    obtain ⟨od, ho, _⟩ := lookIn_ns hns
    refine ⟨some od, ha, z1, nc, ?_⟩
    rw [z2]; exact ho
theorem call_isO {a : Addr} {oe : Obj} {cls : Value} {d : Option Addr} {pn : List (Addr × Obj)} (hz : Zc cls d oe) (hf : ∃ vs, oe.data = .fields vs) : CallR (X.suite a ((a, oe) :: pn)) (.builtin "isinstance") (rIsO X.K cls d a) := by
  intro pins s σ H xs us Q I r h
  obtain ⟨D, rfl, C, hd, c, cv, b, rfl, hcv, e, q⟩ := h
  obtain ⟨u1, u2, rfl, r1, r2⟩ := vals2 r
  obtain rfl : u1 = Value.ref a := r1
  obtain rfl := hcv _ r2
  obtain ⟨ha, _⟩ := I.pin (a, oe) (List.mem_append_left _ List.mem_cons_self)
  obtain ⟨od, J⟩ := inst_of I ha hz hf hd
  have hcl : (PySem.W.clsIn X.K D).isSome = true := by
    obtain ⟨cd, h1, _⟩ := PySem.W.any_some C.hd
    rw [h1]; rfl
  exact PySem.W.kia_one (PySem.W.kitx_exc hcl C.hg C.hk C.hs C.ha C.hn C.ht C.hm) I.kIn J e (fun z => nomatch z) fun tk => ⟨.bl b, H, I.kept (t' := tk) fun _ _ z => z, rfl, q⟩
/-- e.f of that error -/
def tXf (K : PySem.W.Frag) (f : Str) (a : Addr) (cls : Value) (d : Option Addr) (te : TE) : TE := fun σ H Q => te σ H fun x H1 => ∃ (D dd : Addr) (fs : List (Str × V)) (v : V), x = .ref a ∧ cls = .ref D ∧ ExcC K D ∧ PySem.W.findIn K (.ref D) f = some none ∧ d = some dd ∧ H1 dd = some (.xd fs) ∧ fs.lookup f = some v ∧ Q v H1
theorem pe_xf {f : Str} {a : Addr} {oe : Obj} {cls : Value} {d : Option Addr} {pn : List (Addr × Obj)} {e : Expr} {te : TE} {pos : Pos} (hz : Zc cls d oe) (hf : ∃ vs, oe.data = .fields vs) (he : PE (X.suite a ((a, oe) :: pn)) e te)
    (hb : attributeBase e f X.env (eval e X.env) = eval e X.env := by rfl) : PE (X.suite a ((a, oe) :: pn)) (.Attribute e f pos) (tXf X.K f a cls d te) := by
  refine ⟨fun pins s σ H Q I h => attr_of hb (thn (he.run pins s σ H _ I h) fun u s1 hh => ?_)⟩
  obtain ⟨x, H1, I1, rx, D, dd, fs, v, rfl, rfl, C, no, rfl, ed, lk, q⟩ := hh
  obtain rfl : u = Value.ref a := rx
  obtain ⟨ha, _⟩ := I1.pin (a, oe) (List.mem_append_left _ List.mem_cons_self)
  have ob : ObjOk X.prog X.w H1 s1.heap dd (.xd fs) := I1.hok dd _ ed
  obtain ⟨mA, hns, hr⟩ := ob
  obtain ⟨od, ho, hl⟩ := lookIn_ns hns
  obtain ⟨v', hv', rv⟩ := RelO.some_of (v := v) (o := mA f) (by rw [← lk]; exact hr f)
  obtain ⟨vs, hd⟩ := hf
  have J : PySem.W.InstAt s1.heap a oe D (some od) := by
    refine ⟨ha, hz.1, ?_, ?_⟩
    · unfold PySem.W.notCls; rw [hd]
    · rw [hz.2]; exact ho
  exact HandSPX.exc_get I1.kIn J C.hg C.hk C.hs (PySem.W.findObj_own C.hd no rfl (by rw [hl, hv'])) (handed_of rv) ⟨v, H1, I1.tok _, rv, q⟩
end
/-! ### calls within a try -/
section
variable {X : Cx} {CX : CXT} {k n : Nat} {f : Addr} {fd : FuncData} {ps ks : List Str} {sp : Sp} {E : L2.St → XK} {x : Str} {p pos : Pos} {e : Expr} {es : List Expr} {kws : List Keyword} {t tk : TA} {g : List Value → List Value → List Value} {gV : List V → List V → List V}
def tCallNS (n m : Nat) (sp : Sp) (gV : List V → List V → List V) (E : L2.St → XK) (t tk : TA) : TE := fun σ H Q => t σ H fun vs H1 => tk σ H1 fun zs H2 => vs.length = n ∧ zs.length = m ∧ sp (gV vs zs) H2 Q (E σ)
theorem pe_callNS (F : FnOk X.prog X.w X.K X.mg X.base CX k f fd ps sp) (hr : Room k X.A) (hg : Gl X x) (hm : X.mg x = some (.ref f)) (hk : PySem.W.keepIn X.K (.ref f) = true) (hb : KBn X.K fd ps n ks g gV) (hx : ∀ σ, PassesAt CX X σ (E σ))
    (ha : PA X (e :: es) t) (hkw : PK X kws tk) (hall : (backToKw pos (keywordEach kws X.env)).all (·.1.isSome) = true := by rfl) (hks : (backToKw pos (keywordEach kws X.env)).filterMap (·.1) = ks := by rfl)
    (hdb : (x == ("__debug__" : Str)) = false := by decide) (he : starEach (e :: es) X.env = (false, eval e X.env) :: starEach es X.env := by rfl)
    (hpl : ((backTo pos (starEach (e :: es) X.env)).any (·.1) || (backToKw pos (keywordEach kws X.env)).any (·.1.isNone)) = false := by rfl) :
    PE X (.Call (.Name x p) (e :: es) kws pos) (tCallNS n ks.length sp gV E t tk) := by
  refine ⟨fun pins s σ H Q I h => wpAny_Call_Name_kw (ld_glob I hg hm ?_ hdb)⟩
  refine PySem.W.callWith_KW (h₀ := X.base) I.ok.mod.kin hk hall (thn (ha.run pos pins s σ H _ I h) fun us s1 ⟨vs, H1, I1, r, q⟩ => ?_) hpl he
  refine thn (hkw.run pos pins s1 σ H1 _ I1 q) fun ws s2 w2 => ?_
  obtain ⟨zs, H2, I2, rz, l1, l2, q2⟩ := w2
  refine ⟨I2.kIn, ?_⟩
  rw [hks]
  have bt := hb.to s2 us ws I2.kIn (r.length.symm.trans l1) (rz.length.symm.trans l2)
  refine wpAny_call (codeAny_mono (F.run X.A X.stack s2 H2 ⟨us, ks.zip ws⟩ (g us ws) (gV vs zs) Q (E σ) hr I2.env0 bt (hb.rel r rz) q2) fun out s' hq => ?_)
  match out, hq with
  | .error e, hq => exact hx σ pins H2 s2 e s' I2 hq
  | .ok (.ret u), hq => exact I2.after hq
  | .ok .next, hq => exact hq.elim
  | .ok .brk, hq => exact hq.elim
  | .ok .cont, hq => exact hq.elim
end
/-- a raising callee within a def that lets the error out -/
theorem passX {X : Cx} {E : XK} (tk : Takes X (fun cls d _ H => E cls d H)) : Passes (L2.CX X.prog X.w) X E := fun pins σ H s e s' I c => passes_call tk (fun _ _ _ _ h => h) pins σ H s e s' I c
end Sip
namespace Sip
open PySem PySem.Spec PyProof.Rows L2 TL
theorem kit_ownF {K : PySem.W.Frag} {C S : Addr} (h1 : PySem.W.isClsIn K S = true) (h2 : PySem.W.typeIn K (.ref S) = some (.type "type")) (h0 : PySem.W.subIn K (.ref C) (.ref C) = some true) (h3 : PySem.W.subIn K (.ref C) (.ref S) = some false) : PySem.W.kitOne K (.ref C) (.ref S) = some false := by
  have ne : C ≠ S := fun z => by
    rw [z] at h0 h3
    rw [h0] at h3
    cases h3
  have a : ((PySem.W.clsIn K S).isSome && PySem.W.typeIn K (.ref S) == some (.type "type")) = true := by
    have h1' : (PySem.W.clsIn K S).isSome = true := h1
    rw [h1', h2]; rfl
  unfold PySem.W.kitOne PySem.W.kitCls
  split
  · next h =>
    exfalso
    exact ne (by simpa using h)
  · exact (if_pos a).trans h3
/-- the written class of an own error straight beneath S -/
def IsExcObj (K : PySem.W.Frag) (C S : Addr) : Prop := ∃ nm q N bs bm sn sub ab col dd k0 k1 k2 k3 k5, K.lookup C = some (excClassObj nm q C N bs bm true sn sub ab col dd k0 k1 k2 k3 k5 "ValueError.__new__") ∧ PySem.HandSPX.refsVE bm = true
end Sip
namespace Sip
open PySem PySem.Spec PyProof.Rows L2 TL
def topS (i : Nat) : Stmt := PySem.Challenge.pw_sipstack_k51_line_ends_written.main.body.getD i (.Pass ⟨0, 0, 0, 0⟩)
abbrev s_iNoEnds : Stmt := inClass (topS 3) 0
abbrev N_iNoEnds : List Str := ["self", "word"]
abbrev P_iNoEnds : List Str := ["self", "word"]
theorem sc_iNoEnds : FnScope N_iNoEnds P_iNoEnds (defScope s_iNoEnds) := ⟨rfl, rfl, rfl, by decide +kernel, rfl, by decide +kernel, by decide +kernel⟩
abbrev s_wfeed : Stmt := topS 14
abbrev N_wfeed : List Str := ["ends"]
abbrev P_wfeed : List Str := ["ends"]
theorem sc_wfeed : FnScope N_wfeed P_wfeed (defScope s_wfeed) := ⟨rfl, rfl, rfl, by decide +kernel, rfl, by decide +kernel, by decide +kernel⟩
abbrev s_wends : Stmt := topS 13
abbrev N_wends : List Str := ["signs", "ends", "feed", "told", "sign"]
abbrev P_wends : List Str := ["signs", "ends"]
theorem sc_wends : FnScope N_wends P_wends (defScope s_wends) := ⟨rfl, rfl, rfl, by decide +kernel, rfl, by decide +kernel, by decide +kernel⟩
abbrev s_pool : Stmt := topS 16
abbrev N_pool : List Str := ["_law_script", "_law_at", "_law_cell", "_law_digits"]
abbrev P_pool : List Str := ["_law_script", "_law_at"]
theorem sc_pool : FnScope N_pool P_pool (defScope s_pool) := ⟨rfl, rfl, rfl, by decide +kernel, rfl, by decide +kernel, by decide +kernel⟩
abbrev s_take : Stmt := topS 17
abbrev N_take : List Str := ["_law_pool_here", "_law_wide", "_law_found", "_law_seed"]
abbrev P_take : List Str := ["_law_pool_here", "_law_wide"]
theorem sc_take : FnScope N_take P_take (defScope s_take) := ⟨rfl, rfl, rfl, by decide +kernel, rfl, by decide +kernel, by decide +kernel⟩
abbrev s_ways : Stmt := topS 18
abbrev N_ways : List Str := []
abbrev P_ways : List Str := []
theorem sc_ways : FnScope N_ways P_ways (defScope s_ways) := ⟨rfl, rfl, rfl, by decide +kernel, rfl, by decide +kernel, by decide +kernel⟩
abbrev s_lends : Stmt := topS 19
abbrev N_lends : List Str := ["_law_signs", "_law_lines", "_law_found", "_law_sign"]
abbrev P_lends : List Str := ["_law_signs", "_law_lines"]
theorem sc_lends : FnScope N_lends P_lends (defScope s_lends) := ⟨rfl, rfl, rfl, by decide +kernel, rfl, by decide +kernel, by decide +kernel⟩
abbrev s_lwhole : Stmt := topS 20
abbrev N_lwhole : List Str := ["_law_found"]
abbrev P_lwhole : List Str := ["_law_found"]
theorem sc_lwhole : FnScope N_lwhole P_lwhole (defScope s_lwhole) := ⟨rfl, rfl, rfl, by decide +kernel, rfl, by decide +kernel, by decide +kernel⟩
abbrev s_isrow : Stmt := topS 21
abbrev N_isrow : List Str := ["_law_found", "_law_part"]
abbrev P_isrow : List Str := ["_law_found"]
theorem sc_isrow : FnScope N_isrow P_isrow (defScope s_isrow) := ⟨rfl, rfl, rfl, by decide +kernel, rfl, by decide +kernel, by decide +kernel⟩
abbrev s_refused : Stmt := topS 22
abbrev N_refused : List Str := ["_law_signs", "_law_word", "_law_kinds", "_law_told", "e"]
abbrev P_refused : List Str := ["_law_signs", "_law_word"]
theorem sc_refused : FnScope N_refused P_refused (defScope s_refused) := ⟨rfl, rfl, rfl, by decide +kernel, rfl, by decide +kernel, by decide +kernel⟩
abbrev s_law : Stmt := topS 23
abbrev N_law : List Str := ["_law_script", "_law_pool_here", "_law_lines", "_law_signs", "_law_k", "_law_way", "_law_handed", "_law_found", "_law_word", "_law_at", "_law_letter", "_law_near"]
abbrev P_law : List Str := ["_law_script"]
theorem sc_law : FnScope N_law P_law (defScope s_law) := ⟨rfl, rfl, rfl, by decide +kernel, rfl, by decide +kernel, by decide +kernel⟩
set_option maxHeartbeats 2000000

def spIsRow : Sp := fun vs H Q _ => ∃ (a : Addr) (ns : List Int), vs = [.ref a] ∧ H a = some (.lst (ns.map V.int)) ∧ Q (.bl true) H
theorem writeF_two (c : Cd) (g1 g2 s : Int) : writeF c [g1, g2] s = ((signW c g1 s).1 ++ (signW c g2 (signW c g1 s).2).1, (signW c g2 (signW c g1 s).2).2) := by
  show ((signW c g1 s).1 ++ ((signW c g2 (signW c g1 s).2).1 ++ []), (signW c g2 (signW c g1 s).2).2) = _
  rw [List.append_nil]
theorem dp_rows {K : PySem.W.Frag} {H : Hp} {q q2 w w2 : Addr} {ns : List Int} {v : Int} (h : H q = some (.tup [.ref w, .int v])) (hw : H w = some (.lst (ns.map V.int))) (h2 : H q2 = some (.tup [.ref w2, .int v])) (hw2 : H w2 = some (.lst (ns.map V.int))) : ∃ d, Dp K H (.ref q) d ∧ Dp K H (.ref q2) d ∧ SeqAt.shaped d = true :=
  ⟨_, dp_row (.inl (.inl h)) (sq_at hw), dp_row (.inl (.inl h2)) (sq_at hw2), shaped_row _ _⟩

def wR : Str := Str.ofString "return"
def wB : Str := Str.ofString "both"
def wA : Str := Str.ofString "any"
def wK : Str := Str.ofString "kept"
def wF : Str := Str.ofString "feed"
def feedF (z : Str) : Option (List Int) := if z = wR then some [13] else if z = wB then some [13, 10] else if z = wA ∨ z = wK ∨ z = wF then some [10] else none
def endsF (f : List Int) : List Int → List Int
  | [] => []
  | g :: r => (if g = 10 then f else [g]) ++ endsF f r
theorem endsF_snoc (f : List Int) : ∀ (xs : List Int) (g : Int), endsF f (xs ++ [g]) = endsF f xs ++ (if g = 10 then f else [g])
  | [], g => by simp [endsF]
  | x :: r, g => by
    show (if x = 10 then f else [x]) ++ endsF f (r ++ [g]) = _
    rw [endsF_snoc f r g, ← List.append_assoc]; rfl
theorem endsF_len {f : List Int} (hf : f.length ≤ 2) : ∀ xs : List Int, (endsF f xs).length ≤ 2 * xs.length
  | [] => Nat.le_refl _
  | g :: r => by
    have := endsF_len hf r
    show ((if g = 10 then f else [g]) ++ endsF f r).length ≤ 2 * (r.length + 1)
    rw [List.length_append]
    split
    · omega
    · show 1 + _ ≤ _; omega
theorem feed_len {z : Str} {f : List Int} (h : feedF z = some f) : f.length ≤ 2 := by
  unfold feedF at h
  split at h
  · cases h; decide
  · split at h
    · cases h; decide
    · split at h
      · cases h; decide
      · cases h
def WAYS : List V := [.str wA, .str wK, .str wF, .str wR, .str wB]
theorem ways_at {i : Int} (h0 : 0 ≤ i) (h1 : i < 5) : ∃ z : Str, atI WAYS i = some (.str z) ∧ (∃ f, feedF z = some f) ∧ 0 < z.length ∧ z.length ≤ 6 := by
  rcases (show i = 0 ∨ i = 1 ∨ i = 2 ∨ i = 3 ∨ i = 4 by omega) with rfl | rfl | rfl | rfl | rfl
  · exact ⟨wA, rfl, ⟨[10], by decide +kernel⟩, by decide +kernel, by decide +kernel⟩
  · exact ⟨wK, rfl, ⟨[10], by decide +kernel⟩, by decide +kernel, by decide +kernel⟩
  · exact ⟨wF, rfl, ⟨[10], by decide +kernel⟩, by decide +kernel, by decide +kernel⟩
  · exact ⟨wR, rfl, ⟨[13], by decide +kernel⟩, by decide +kernel, by decide +kernel⟩
  · exact ⟨wB, rfl, ⟨[13, 10], by decide +kernel⟩, by decide +kernel, by decide +kernel⟩
theorem not_way {z : Str} (h : inV (.str z) WAYS = false) : feedF z = none := by
  have e : inV (.str z) WAYS = (decide (wA = z) || (decide (wK = z) || (decide (wF = z) || (decide (wR = z) || (decide (wB = z) || false))))) := by
    unfold inV WAYS
    simp only [List.any_cons, List.any_nil]
    have q : ∀ y : Str, eqV (.str y) (.str z) = decide (y = z) := fun y => by
      show (y == z) = _
      by_cases g : y = z
      · subst g; simp
      · rw [decide_eq_false g]; simpa using g
    rw [q, q, q, q, q]
  rw [e] at h
  simp only [Bool.or_eq_false_iff, decide_eq_false_iff_not] at h
  obtain ⟨a, b, c, d, e, _⟩ := h
  unfold feedF
  rw [if_neg (fun z => d z.symm), if_neg (fun z => e z.symm), if_neg (fun z => z.elim (fun z => a z.symm) (fun z => z.elim (fun z => b z.symm) (fun z => c z.symm)))]
def lstQ (H : Hp) (xs : List Int) (Q : VK) : Prop := ∀ (H' : Hp) (q : Addr), H q = none → H' q = some (.lst (xs.map V.int)) → Same H H' → Q (.ref q) H'
def spFeedX (C : Addr) : Sp := fun vs H Q E => ∃ z : Str, vs = [.str z] ∧ (∀ f, feedF z = some f → lstQ H f Q) ∧ (feedF z = none → ∀ d, H d = none → E (.ref C) (some d) (upd H d (.xd [(("word" : Str), .str z)])))
def spEndsX (K : PySem.W.Frag) (C : Addr) : Sp := fun vs H Q E => ∃ (a : Addr) (gs : List Int) (z : Str), vs = [.ref a, .str z] ∧ SqL K H a (gs.map V.int) ∧ gs.length ≤ 1000 ∧ (∀ f, feedF z = some f → lstQ H (endsF f gs) Q) ∧ (feedF z = none → ∀ d, H d = none → E (.ref C) (some d) (upd H d (.xd [(("word" : Str), .str z)])))
def spEndsL (K : PySem.W.Frag) : Sp := fun vs H Q _ => ∃ (a : Addr) (gs : List Int) (z : Str) (f : List Int), vs = [.ref a, .str z] ∧ SqL K H a (gs.map V.int) ∧ gs.length ≤ 1000 ∧ feedF z = some f ∧ lstQ H (endsF f gs) Q
def spWays : Sp := fun vs H Q _ => ∃ u : Unit, vs = [] ∧ ∀ (q : Addr), H q = none → Q (.ref q) (upd H q (.lst WAYS))
def spRefused (K : PySem.W.Frag) : Sp := fun vs H Q _ => ∃ (a : Addr) (gs : List Int) (z : Str), vs = [.ref a, .str z] ∧ SqL K H a (gs.map V.int) ∧ gs.length ≤ 1000 ∧ feedF z = none ∧ ∀ H', Q (.bl true) H'

theorem dp_tff {K : PySem.W.Frag} {H : Hp} {a b : Addr} (ha : H a = some (.lst [.bl true, .bl false, .bl false])) (hb : H b = some (.lst [.bl true, .bl false, .bl false])) : ∃ d, Dp K H (.ref a) d ∧ Dp K H (.ref b) d ∧ SeqAt.shaped d = true :=
  ⟨.list [.bool true, .bool false, .bool false], .lst (sq_at ha) (.cons (.bl _) (.cons (.bl _) (.cons (.bl _) .nil))), .lst (sq_at hb) (.cons (.bl _) (.cons (.bl _) (.cons (.bl _) .nil))), by decide⟩
theorem cut_last (F : List Int) (v : Int) : cutV ((F ++ [v]).map V.int) none (some (-1)) = F.map V.int := by
  unfold cutV
  rw [HT.sIx_none, List.length_map, List.length_append]
  have e : HT.sIx (F.length + 1) (F.length + 1) (some (-1)) = F.length := by
    show (if (-1 : Int) < 0 then (-1 + ((F.length + 1 : Nat) : Int)).toNat else min (-1 : Int).toNat (F.length + 1)) = _
    rw [if_pos (by decide)]; omega
  show (((F ++ [v]).map V.int).drop 0).take (HT.sIx (F.length + 1) (F.length + 1) (some (-1)) - 0) = _
  rw [e, List.drop_zero, Nat.sub_zero, List.map_append]
  exact List.take_left' (by rw [List.length_map])
def LETTERS : Str := Str.ofString "abcdefghijklmnopqrstuvwxyzABCDEFGHIJKLMNOPQRSTUVWXYZ0123456789 -_.,:;!?"
theorem letters_len : LETTERS.cps.toList.length = 71 := by decide +kernel
theorem letter_at {r : Int} (r0 : 0 ≤ r) (r1 : r < 70) : ∃ c, atI LETTERS.cps.toList r = some c := by
  obtain ⟨j, rfl⟩ := Int.eq_ofNat_of_zero_le r0
  obtain ⟨e, _⟩ := get_at (cs := LETTERS.cps.toList) (i := j) (by rw [letters_len]; omega)
  exact ⟨_, e⟩
theorem cut_le (z : Str) (lo hi : Option Int) : (cutS z lo hi).length ≤ z.length := by
  rw [cut_codes, List.length_take, List.length_drop, len_codes z]; omega
theorem cpow_10_40 : CPow 10 40 := by unfold CPow; decide +kernel
theorem way_any : feedF (Str.ofString "any") = some [10] := by decide +kernel
structure Tx (K : PySem.W.Frag) (mg : Str → Option Value) where
  C_SipError : Addr
  C_NoEnds : Addr
  C_NoCode : Addr
  C_NoWay : Addr
  f_iNoEnds : Addr
  fd_iNoEnds : FuncData
  D_iNoEnds : FunA K "__init__" "NoEnds.__init__" s_iNoEnds f_iNoEnds fd_iNoEnds
  f_wfeed : Addr
  fd_wfeed : FuncData
  D_wfeed : Dg K mg "written_feed" s_wfeed f_wfeed fd_wfeed
  f_wends : Addr
  fd_wends : FuncData
  D_wends : Dg K mg "written_ends" s_wends f_wends fd_wends
  f_pool : Addr
  fd_pool : FuncData
  D_pool : Dg K mg "_law_pool" s_pool f_pool fd_pool
  f_take : Addr
  fd_take : FuncData
  D_take : Dg K mg "_law_take" s_take f_take fd_take
  f_ways : Addr
  fd_ways : FuncData
  D_ways : Dg K mg "_law_ways" s_ways f_ways fd_ways
  f_lends : Addr
  fd_lends : FuncData
  D_lends : Dg K mg "_law_ends" s_lends f_lends fd_lends
  f_lwhole : Addr
  fd_lwhole : FuncData
  D_lwhole : Dg K mg "_law_whole" s_lwhole f_lwhole fd_lwhole
  f_isrow : Addr
  fd_isrow : FuncData
  D_isrow : Dg K mg "_law_is_row" s_isrow f_isrow fd_isrow
  f_refused : Addr
  fd_refused : FuncData
  D_refused : Dg K mg "_law_refused" s_refused f_refused fd_refused
  f_law : Addr
  fd_law : FuncData
  D_law : Dg K mg "law" s_law f_law fd_law
  g_SipError : mg "SipError" = some (.ref C_SipError)
  g_NoEnds : mg "NoEnds" = some (.ref C_NoEnds)
  g_NoCode : mg "NoCode" = some (.ref C_NoCode)
  g_NoWay : mg "NoWay" = some (.ref C_NoWay)
  o_NoEnds : OexC K C_NoEnds
  e_NoEnds : ExcC K C_NoEnds
  n_NoEnds : PySem.W.findIn K (.ref C_NoEnds) "word" = some none
  ini_NoEnds : PySem.W.findIn K (.ref C_NoEnds) "__init__" = some (some (.ref f_iNoEnds))
  tI_NoEnds : PySem.W.typeIn K (.ref f_iNoEnds) = some (.type "function")
  te_NoEnds : PySem.W.exmOne K (.ref C_NoEnds) (.ref C_SipError) = some true
  k_NoEnds_NoEnds : PySem.W.kitOne K (.ref C_NoEnds) (.ref C_NoEnds) = some true
  k_NoEnds_NoCode : PySem.W.kitOne K (.ref C_NoEnds) (.ref C_NoCode) = some false
  k_NoEnds_NoWay : PySem.W.kitOne K (.ref C_NoEnds) (.ref C_NoWay) = some false
  bb_iNoEnds : Binds K fd_iNoEnds P_iNoEnds []
  bb_isrow : Binds K fd_isrow P_isrow []
  bb_lends : Binds K fd_lends P_lends []
  bb_lwhole : Binds K fd_lwhole P_lwhole []
  bb_pool : Binds K fd_pool P_pool []
  bb_refused : Binds K fd_refused P_refused []
  bb_take : Binds K fd_take P_take []
  bb_ways : Binds K fd_ways P_ways []
  bb_wfeed : Binds K fd_wfeed P_wfeed []
  ds_wends_1 : List Value
  v_wends_1 : Vals [.str (Str.ofString "any")] ds_wends_1
  b_wends_1 : Binds K fd_wends P_wends ds_wends_1
  kb_wends_1_ends : KBn K fd_wends P_wends 1 ["ends"] (fun us ws => us ++ ws) (fun vs zs => vs ++ zs)
  t_ANY : Tok
  c_ANY : mg "ANY" = some (.str (Str.ofString "any") t_ANY)
  t_KEPT : Tok
  c_KEPT : mg "KEPT" = some (.str (Str.ofString "kept") t_KEPT)
  t_FEED : Tok
  c_FEED : mg "FEED" = some (.str (Str.ofString "feed") t_FEED)
  t_RETURN : Tok
  c_RETURN : mg "RETURN" = some (.str (Str.ofString "return") t_RETURN)
  t_BOTH : Tok
  c_BOTH : mg "BOTH" = some (.str (Str.ofString "both") t_BOTH)
  t_LINE_FEED : Tok
  c_LINE_FEED : mg "LINE_FEED" = some (.int 10 t_LINE_FEED)
  t_LINE_RETURN : Tok
  c_LINE_RETURN : mg "LINE_RETURN" = some (.int 13 t_LINE_RETURN)
  m_list : mg "list" = none
  m_len : mg "len" = none
  m_range : mg "range" = none
  m_int : mg "int" = none
  m_bool : mg "bool" = none
  m_isinstance : mg "isinstance" = none
section
variable {P : Program} {w : World} {K : PySem.W.Frag} {mg : Str → Option Value} {base : Heap}

theorem ok_pool (T : Tx K mg) : FnOk P w K mg base CX0 1 T.f_pool T.fd_pool P_pool (spPool K) := by
  have sz : sizeLine = 16777216 := sizeLine_eq
  refine T.D_pool.F.ok sc_pool (fun vs H Q E h => ?_) (fun cdv A outer s H vs Q E hr h => ?_)
  · obtain ⟨a, ns, i, rfl, _⟩ := h
    rfl
  · obtain ⟨a, ns, i, rfl, hS, h63, i0, i1, q⟩ := h
    refine ⟨_, (pss_cons (ps_set (i := 2) sc_pool.nd rfl (.inl rfl) pe_int)
      (C8.pss_cut (ps_if (pt_cmpR op_gt (pe_callB call_len_seq (by rfl) T.m_len PySem.boot_len (pa_cons (pv 0) pa_nil)) pe_int (nomark _)) (pss_one (ps_set (i := 2) sc_pool.nd rfl (.inl rfl) (pe_ix ix_list (pv 0) (pe_op op_mod (pv 1) (pe_callB call_len_seq (by rfl) T.m_len PySem.boot_len (pa_cons (pv 0) pa_nil))) (fun _ _ => rfl)))) pss_nil)
      (pss_cons (ps_set (i := 3) sc_pool.nd rfl (.inl rfl) pe_int)
      (C8.pss_cut (ps_if (PW.pt (pw_and (pt_cmpR op_ge (pv 2) (pe_op op_pow pe_int pe_int) (nomark _)) (pw_and1 (pt_cmpR op_lt (pv 1) (pe_callB call_len_seq (by rfl) T.m_len PySem.boot_len (pa_cons (pv 0) pa_nil)) (nomark _))))) (pss_one (ps_set (i := 3) sc_pool.nd rfl (.inl rfl) (pv 2))) pss_nil)
      (pss_one (ps_ret (pe_lst (pa_cons (pv 3) (pa_cons (pe_op op_mul pe_int (pv 1)) (pa_cons (pv 2) pa_nil)))))))))), ?_⟩
    refine ⟨fun σ' H' => H' = H ∧ ∃ c : Int, σ' = [some (.ref a), some (.int i), some (.int c), none], ?_, fun σ' H' hm => ?_⟩
    · refine ⟨.ref a, rfl, a, ns.map V.int, rfl, .inl hS, _, _, rfl, rfl, _, rfl, ite2 (fun e => ?_) (fun e => ?_)⟩
      · have e1 : (0 : Int) < ((ns.map V.int).length : Int) := of_decide_eq_true e
        rw [List.length_map] at e1
        obtain ⟨m, _, em, _⟩ := atI_int (ms := ns) (i := i % (ns.length : Int)) (Int.emod_nonneg _ (by omega)) (Int.emod_lt_of_pos _ e1)
        refine ⟨.ref a, rfl, .int i, rfl, .ref a, rfl, a, ns.map V.int, rfl, .inl hS, _, _, rfl, rfl, ?_, a, _, _, .int m, rfl, rfl, hS, ?_, rfl, m, rfl⟩
        · rw [List.length_map]; exact e1
        · rw [List.length_map]; exact em
      · exact ⟨rfl, 0, rfl⟩
    · obtain ⟨rfl, c, rfl⟩ := hm
      refine ⟨fun σ' H'' => H'' = H' ∧ ∃ d : Int, 0 ≤ d ∧ σ' = [some (.ref a), some (.int i), some (.int c), some (.int d)], ?_, fun σ' H'' hm => ?_⟩
      · refine ⟨.int c, rfl, _, _, rfl, rfl, ⟨by decide, by decide, by decide⟩, _, _, rfl, rfl, _, rfl, ite2 (fun e => ?_) (fun e => iteF ⟨rfl, 0, by decide, rfl⟩)⟩
        have e1 : ((10 : Int) ^ (18 : Int).toNat) ≤ c := of_decide_eq_true e
        refine ⟨.int i, rfl, .ref a, rfl, a, ns.map V.int, rfl, .inl hS, _, _, rfl, rfl, _, rfl, ite2 (fun e => ?_) (fun e => ⟨rfl, 0, by decide, rfl⟩)⟩
        exact ⟨.int c, rfl, rfl, c, Int.le_trans (by decide) e1, rfl⟩
      · obtain ⟨rfl, d, d0, rfl⟩ := hm
        refine ⟨.int d, rfl, .int i, rfl, _, _, rfl, rfl, .inl ⟨by decide, by decide⟩, .int c, rfl, by show (3 : Nat) ≤ sizeLine; decide, fun p np => q p _ np ⟨d, 1000 * i, c, rfl, d0, by omega, by omega⟩⟩


theorem ok_take (T : Tx K mg) : FnOk P w K mg base CX0 1 T.f_take T.fd_take P_take (spTake) := by
  have sz : sizeLine = 16777216 := sizeLine_eq
  refine T.D_take.F.ok sc_take (fun vs H Q E h => ?_) (fun cdv A outer s H vs Q E hr h => ?_)
  · obtain ⟨p, n, wd, o, rfl, _⟩ := h
    rfl
  · obtain ⟨p, n, wd, o, rfl, hp, ⟨d, c, x, rfl, d0, c0, cn⟩, n9, w0, w1, q⟩ := h
    refine ⟨_, (pss_cons (ps_if (pt_cmpR op_gt (pe_ix ix_list (pv 0) pe_int (fun _ _ => rfl)) pe_int (nomark _)) (pss_cons (ps_set (i := 2) sc_take.nd rfl (.inl rfl) (pe_op op_mod (pe_ix ix_list (pv 0) pe_int (fun _ _ => rfl)) (pv 1)))
      (pss_cons (ps_asg (pe_op op_fdiv (pe_ix ix_list (pv 0) pe_int (fun _ _ => rfl)) (pv 1)) (pg_sub (pv 0) pe_int set_list))
      (pss_one (ps_ret (pv 2))))) pss_nil)
      (pss_cons (ps_asg (pe_op op_add (pe_ix ix_list (pv 0) pe_int (fun _ _ => rfl)) pe_int) (pg_sub (pv 0) pe_int set_list))
      (pss_cons (ps_set (i := 3) sc_take.nd rfl (.inl rfl) (pe_op op_mod (pe_op op_pow (pe_op op_add (pe_op op_mod (pe_ix ix_list (pv 0) pe_int (fun _ _ => rfl)) pe_int) (pe_op op_mul pe_int (pe_ix ix_list (pv 0) pe_int (fun _ _ => rfl)))) pe_int) pe_int))
      (pss_cons (ps_set (i := 3) sc_take.nd rfl (.inl rfl) (pe_op op_add (pe_op op_mul (pv 3) pe_int) (pe_op op_mul (pe_op op_mul (pe_ix ix_list (pv 0) pe_int (fun _ _ => rfl)) (pe_ix ix_list (pv 0) pe_int (fun _ _ => rfl))) pe_int)))
      (pss_one (ps_ret (pe_op op_mod (pe_op op_fdiv (pe_op op_mod (pe_op op_add (pv 3) (pe_op op_fdivW (pe_ix ix_list (pv 0) pe_int (fun _ _ => rfl)) pe_int)) pe_int) pe_int) (pv 1)))))))), ?_⟩
    have S0 : SqL K H p [.int d, .int c, .int x] := sq_at hp
    refine ⟨.ref p, rfl, p, _, 0, .int d, rfl, rfl, S0, rfl, d, 0, rfl, rfl, _, rfl, ite2 (fun e => ?_) (fun e => ?_)⟩
    · refine ⟨.ref p, rfl, p, _, 0, .int d, rfl, rfl, S0, rfl, .int wd, rfl, d, wd, rfl, rfl, w0, ?_⟩
      refine ⟨.ref p, rfl, p, _, 0, .int d, rfl, rfl, S0, rfl, .int wd, rfl, d, wd, rfl, rfl, ⟨w0, w1⟩, ?_⟩
      refine ⟨.ref p, rfl, p, _, 0, 0, rfl, rfl, hp, rfl, .int (d % wd), rfl, ?_⟩
      exact q _ _ (Int.emod_nonneg _ (by omega)) (Int.emod_lt_of_pos _ w0) ⟨d / wd, c, x, rfl, Int.ediv_nonneg d0 (by omega), c0, by omega⟩
    · refine ⟨.ref p, rfl, p, _, 1, .int c, rfl, rfl, S0, rfl, c, 1, rfl, rfl, .ref p, rfl, p, _, 1, 1, rfl, rfl, hp, rfl, ?_⟩
      have S1 : SqL K (upd H p (.lst [.int d, .int (c + 1), .int x])) p [.int d, .int (c + 1), .int x] := sq_new
      have y0 : 0 ≤ x % 2147483647 := Int.emod_nonneg _ (by decide)
      have y1 : x % 2147483647 < 2147483647 := Int.emod_lt_of_pos _ (by decide)
      refine ⟨.ref p, rfl, p, _, 2, .int x, rfl, rfl, S1, rfl, x, _, rfl, rfl, by show (0 : Int) < 2147483647; decide, .ref p, rfl, p, _, 1, .int (c + 1), rfl, rfl, S1, rfl, 40503, c + 1, rfl, rfl, .inl ⟨by decide, by decide⟩, _, _, rfl, rfl, _, 5, rfl, rfl, ⟨by decide, by decide, ?_⟩, _, 2147483647, rfl, rfl, by show (0 : Int) < 2147483647; decide, ?_⟩
      · show (x % 2147483647 + 40503 * (c + 1)).natAbs < 18446744073709551616
        omega
      · refine ⟨_, rfl, _, 48271, rfl, rfl, .inr ⟨by decide, by decide⟩, .ref p, rfl, p, _, 1, .int (c + 1), rfl, rfl, S1, rfl, .ref p, rfl, p, _, 1, .int (c + 1), rfl, rfl, S1, rfl, c + 1, c + 1, rfl, rfl, .inl ⟨by omega, by omega⟩, _, 39373, rfl, rfl, .inr ⟨by decide, by decide⟩, _, _, rfl, rfl, ?_⟩
        refine ⟨_, rfl, .ref p, rfl, p, _, 2, .int x, rfl, rfl, S1, rfl, x, _, rfl, rfl, wide_div (b := 32) (by decide) (by decide) (by decide) (by decide), _, _, rfl, rfl, _, _, rfl, rfl, by show (0 : Int) < 1000000007; decide, _, 16, rfl, rfl, ⟨by decide, by decide⟩, .int wd, rfl, _, wd, rfl, rfl, w0, ?_⟩
        exact q _ _ (Int.emod_nonneg _ (by omega)) (Int.emod_lt_of_pos _ w0) ⟨d, c + 1, x, rfl, d0, by omega, by omega⟩


theorem ok_lwhole (T : Tx K mg) : FnOk P w K mg base CX0 1 T.f_lwhole T.fd_lwhole P_lwhole (spWholeI) := by
  have sz : sizeLine = 16777216 := sizeLine_eq
  refine T.D_lwhole.F.ok sc_lwhole (fun vs H Q E h => ?_) (fun cdv A outer s H vs Q E hr h => ?_)
  · obtain ⟨v, rfl, _⟩ := h
    rfl
  · obtain ⟨v, rfl, q⟩ := h
    refine ⟨_, (pss_one (ps_ret (pe_and (pe_callB (id := "isinstance") (r := rIsi K) call_isi (by rfl) T.m_isinstance (by decide +kernel) (pa_cons (pv 0) (pa_cons (pe_bltn (v := .ty "int") (by rfl) T.m_int (by decide +kernel) rfl) pa_nil))) (pe_one (pe_not (pe_callB (id := "isinstance") (r := rIsi K) call_isi (by rfl) T.m_isinstance (by decide +kernel) (pa_cons (pv 0) (pa_cons (pe_bltn (v := .ty "bool") (by rfl) T.m_bool (by decide +kernel) rfl) pa_nil)))))))), ?_⟩
    refine ⟨.int v, rfl, .int v, .ty "int", _, _, true, rfl, .ty "int", .base (.int v), kit_ty (by decide +kernel), true, rfl, ?_⟩
    exact ⟨.int v, rfl, .int v, .ty "bool", _, _, false, rfl, .ty "bool", .base (.int v), kit_ty (by decide +kernel), false, rfl, q⟩

theorem ok_isrow (T : Tx K mg) : FnOk P w K mg base CX0 2 T.f_isrow T.fd_isrow P_isrow (spIsRow) := by
  have G_lwhole := ok_lwhole (P := P) (w := w) (base := base) T
  have sz : sizeLine = 16777216 := sizeLine_eq
  refine T.D_isrow.F.ok sc_isrow (fun vs H Q E h => ?_) (fun cdv A outer s H vs Q E hr h => ?_)
  · obtain ⟨a, ns, rfl, _⟩ := h
    rfl
  · obtain ⟨a, ns, rfl, hA, q⟩ := h
    refine ⟨_, (pss_cons (ps_if (pt_not (pt_val (pe_callB (id := "isinstance") (r := rIsi K) call_isi (by rfl) T.m_isinstance (by decide +kernel) (pa_cons (pv 0) (pa_cons (pe_bltn (v := .ty "list") (by rfl) T.m_list (by decide +kernel) rfl) pa_nil))))) (pss_one (ps_ret pe_bl)) pss_nil)
      (pss_cons (ps_for PassesOwn.never rfl (pi_list (pv 0)) (pg_name (i := 1) sc_isrow.nd rfl (.inl rfl)) (pss_one (ps_if (pt_not (pt_val (pe_call G_lwhole (hr.mono (by decide)) (by rfl) T.D_lwhole.g T.D_lwhole.F.kp T.bb_lwhole .nil pass0 (pa_cons (pv 1) pa_nil)))) (pss_one (ps_ret pe_bl)) pss_nil)))
      (pss_one (ps_ret pe_bl)))), ?_⟩
    refine ⟨.ref a, rfl, .ref a, .ty "list", _, _, true, rfl, .ty "list", .base (.lst hA), kit_ty (by decide +kernel), true, rfl, iteF ?_⟩
    refine ⟨.ref a, rfl, a, rfl, ⟨_, sq_at hA⟩, ?_⟩
    refine for_list (K := K) (xs := ns.map V.int) (fun i σ H' => H' = H ∧ ∃ y : Option V, σ = [some (.ref a), y]) ⟨rfl, none, rfl⟩ (fun i σ H' _ hW => by obtain ⟨rfl, _⟩ := hW; exact sq_at hA) (fun i x σ H' hx hW => ?_) (fun σ H' hW => ?_)
    · obtain ⟨rfl, y, rfl⟩ := hW
      rw [List.getElem?_map] at hx
      obtain ⟨v, hv, rfl⟩ := Option.map_eq_some_iff.mp hx
      exact ⟨.int v, rfl, v, rfl, _, rfl, iteF ⟨rfl, _, rfl⟩⟩
    · obtain ⟨rfl, y, rfl⟩ := hW
      exact q

theorem ok_iNoEnds (T : Tx K mg) : FnOk P w K mg base CX0 1 T.f_iNoEnds T.fd_iNoEnds P_iNoEnds (spErr1 T.C_NoEnds "word") := by
  have sz : sizeLine = 16777216 := sizeLine_eq
  refine T.D_iNoEnds.ok sc_iNoEnds (fun vs H Q E h => ?_) (fun cdv A outer s H vs Q E hr h => ?_)
  · obtain ⟨a, v, rfl, _⟩ := h
    rfl
  · obtain ⟨a, v, rfl, hA, q⟩ := h
    refine ⟨_, (pss_one (ps_ost (pv 0) (pv 1))), ?_⟩
    exact ⟨v, rfl, .ref a, rfl, a, T.C_NoEnds, rfl, T.o_NoEnds, T.n_NoEnds, .inl ⟨hA, q⟩⟩

theorem ok_wfeed (T : Tx K mg) : FnOk P w K mg base (L2.CX P w) 3 T.f_wfeed T.fd_wfeed P_wfeed (spFeedX T.C_NoEnds) := by
  have G_iNoEnds := ok_iNoEnds (P := P) (w := w) (base := base) T
  have sz : sizeLine = 16777216 := sizeLine_eq
  refine T.D_wfeed.F.okX sc_wfeed (fun vs H Q E h => ?_) (fun cdv A outer s H vs Q E hr h => ?_)
  · obtain ⟨z, rfl, _⟩ := h
    rfl
  · obtain ⟨z, rfl, q, qe⟩ := h
    refine ⟨_, (pss_cons (ps_if (pt_cmpR op_eq (pv 0) (pe_glob (v := .str (Str.ofString "return")) (by rfl) T.c_RETURN ⟨_, rfl⟩) (nomark _)) (pss_one (ps_ret (pe_lst (pa_cons (pe_glob (v := .int 13) (by rfl) T.c_LINE_RETURN ⟨_, rfl⟩) pa_nil)))) pss_nil)
      (pss_cons (ps_if (pt_cmpR op_eq (pv 0) (pe_glob (v := .str (Str.ofString "both")) (by rfl) T.c_BOTH ⟨_, rfl⟩) (nomark _)) (pss_one (ps_ret (pe_lst (pa_cons (pe_glob (v := .int 13) (by rfl) T.c_LINE_RETURN ⟨_, rfl⟩) (pa_cons (pe_glob (v := .int 10) (by rfl) T.c_LINE_FEED ⟨_, rfl⟩) pa_nil))))) pss_nil)
      (pss_cons (ps_if (PW.pt (pw_or (pt_cmpR op_eq (pv 0) (pe_glob (v := .str (Str.ofString "any")) (by rfl) T.c_ANY ⟨_, rfl⟩) (nomark _)) (pw_or (pt_cmpR op_eq (pv 0) (pe_glob (v := .str (Str.ofString "kept")) (by rfl) T.c_KEPT ⟨_, rfl⟩) (nomark _)) (pw_or1 (pt_cmpR op_eq (pv 0) (pe_glob (v := .str (Str.ofString "feed")) (by rfl) T.c_FEED ⟨_, rfl⟩) (nomark _)))))) (pss_one (ps_ret (pe_lst (pa_cons (pe_glob (v := .int 10) (by rfl) T.c_LINE_FEED ⟨_, rfl⟩) pa_nil)))) pss_nil)
      (pss_one (ps_raise rfl (takes_of rfl rfl rfl rfl) (pmk_oex T.o_NoEnds T.ini_NoEnds T.tI_NoEnds G_iNoEnds (hr.mono (by decide)) T.bb_iNoEnds .nil pass0 (by rfl) T.g_NoEnds (pa_cons (pv 0) pa_nil))))))), ?_⟩
    unfold feedF at q qe
    refine ⟨_, rfl, rfl, _, rfl, ite2 (fun e => ?_) (fun e => ?_)⟩
    · have e1 : z = wR := V.str.inj (of_decide_eq_true e)
      rw [if_pos e1] at q
      exact ⟨by show (1 : Nat) ≤ sizeLine; omega, fun l nl => q _ rfl _ l nl upd_same (Kp.new (ps := []) nl).same⟩
    have e1 : z ≠ wR := fun y => e (decide_eq_true (congrArg V.str y))
    rw [if_neg e1] at q qe
    refine ⟨_, rfl, rfl, _, rfl, ite2 (fun e => ?_) (fun e => ?_)⟩
    · have e2 : z = wB := V.str.inj (of_decide_eq_true e)
      rw [if_pos e2] at q
      exact ⟨by show (2 : Nat) ≤ sizeLine; omega, fun l nl => q _ rfl _ l nl upd_same (Kp.new (ps := []) nl).same⟩
    have e2 : z ≠ wB := fun y => e (decide_eq_true (congrArg V.str y))
    rw [if_neg e2] at q qe
    have yes : z = wA ∨ z = wK ∨ z = wF → ∀ l, H l = none → Q (.ref l) (upd H l (.lst [.int 10])) := fun h l nl => by
      rw [if_pos h] at q
      exact q _ rfl _ l nl upd_same (Kp.new (ps := []) nl).same
    refine ⟨_, rfl, rfl, _, rfl, ite2 (fun e => ?_) (fun e => ?_)⟩
    · exact iteT ⟨by show (1 : Nat) ≤ sizeLine; omega, yes (.inl (V.str.inj (of_decide_eq_true e)))⟩
    refine ⟨_, rfl, rfl, _, rfl, ite2 (fun e' => ?_) (fun e' => ?_)⟩
    · exact iteT ⟨by show (1 : Nat) ≤ sizeLine; omega, yes (.inr (.inl (V.str.inj (of_decide_eq_true e'))))⟩
    refine ⟨_, rfl, rfl, _, rfl, ite2 (fun e'' => ?_) (fun e'' => ?_)⟩
    · exact ⟨by show (1 : Nat) ≤ sizeLine; omega, yes (.inr (.inr (V.str.inj (of_decide_eq_true e''))))⟩
    rw [if_neg (fun y => y.elim (fun y => e (decide_eq_true (congrArg V.str y))) (fun y => y.elim (fun y => e' (decide_eq_true (congrArg V.str y))) (fun y => e'' (decide_eq_true (congrArg V.str y)))))] at qe
    exact ⟨.str z, rfl, mk1_fin (fun d nd => qe rfl d nd)⟩

theorem ok_wends (T : Tx K mg) : FnOk P w K mg base (L2.CX P w) 4 T.f_wends T.fd_wends P_wends (spEndsX K T.C_NoEnds) := by
  have G_wfeed := ok_wfeed (P := P) (w := w) (base := base) T
  have sz : sizeLine = 16777216 := sizeLine_eq
  refine T.D_wends.F.okX sc_wends (fun vs H Q E h => ?_) (fun cdv A outer s H vs Q E hr h => ?_)
  · obtain ⟨a, gs, z, rfl, _⟩ := h
    rfl
  · obtain ⟨a, gs, z, rfl, hA, lg, q, qe⟩ := h
    refine ⟨_, (pss_cons (ps_set (i := 2) sc_wends.nd rfl (.inl rfl) (pe_call G_wfeed (hr.mono (by decide)) (by rfl) T.D_wfeed.g T.D_wfeed.F.kp T.bb_wfeed .nil (Sip.passX (takes_of rfl rfl rfl rfl)) (pa_cons (pv 1) pa_nil)))
      (pss_cons (ps_set (i := 3) sc_wends.nd rfl (.inl rfl) (pe_lst pa_nil))
      (pss_cons (ps_for (passes_of rfl) rfl (pi_list (pv 0)) (pg_name (i := 4) sc_wends.nd rfl (.inl rfl)) (pss_one (ps_if (pt_cmpR op_eq (pv 4) (pe_glob (v := .int 10) (by rfl) T.c_LINE_FEED ⟨_, rfl⟩) (nomark _)) (pss_one (ps_expr (pe_bm PySem.F.plainAttrs_list PySem.F.slot_list_extend PySem.F.type_list_extend mt_extend (pv 3) (pa_cons (pv 2) pa_nil)))) (pss_one (ps_expr (pe_bm PySem.F.plainAttrs_list PySem.F.slot_list_append PySem.F.type_list_append mt_append (pv 3) (pa_cons (pv 4) pa_nil)))))))
      (pss_one (ps_ret (pv 3)))))), ?_⟩
    refine ⟨.str z, rfl, z, rfl, fun f ef H1 u nu eu s1 => ?_, qe⟩
    have q := q f ef
    have lf := feed_len ef
    refine ⟨Nat.zero_le _, fun w nw => ?_⟩
    have s2 := s1.trans (Kp.new (ps := []) (o := HO.lst []) nw).same
    have uw : u ≠ w := ne_of_none eu nw
    have nwH := s1.free nw
    refine ⟨.ref a, rfl, a, rfl, ⟨_, s2.seq hA⟩, ?_⟩
    refine for_list (xs := gs.map V.int) (fun i σ H' => ∃ y : Option V, σ = [some (.ref a), some (.str z), some (.ref u), some (.ref w), y] ∧ H' w = some (.lst ((endsF f (gs.take i)).map V.int)) ∧ H' u = some (.lst (f.map V.int)) ∧ Same H H') ⟨none, rfl, upd_same, by rw [upd_ne uw]; exact eu, s2⟩ (fun i σ H' _ hW => ?_) (fun i x σ H' hx hW => ?_) (fun σ H' hW => ?_)
    · obtain ⟨_, _, _, _, s⟩ := hW
      exact s.seq hA
    · obtain ⟨y, rfl, ew, eu, sm⟩ := hW
      rw [List.getElem?_map] at hx
      obtain ⟨g, hgx, rfl⟩ := Option.map_eq_some_iff.mp hx
      have hi : i < gs.length := (List.getElem?_eq_some_iff.mp hgx).1
      have et : gs.take (i + 1) = gs.take i ++ [g] := by rw [List.take_add_one, hgx]; rfl
      have ll := endsF_len lf (gs.take i)
      rw [List.length_take] at ll
      rw [et, endsF_snoc]
      refine ⟨.int g, rfl, rfl, _, rfl, ite2 (fun e => ?_) (fun e => ?_)⟩
      · have e1 : g = 10 := V.int.inj (of_decide_eq_true e)
        rw [if_pos e1]
        refine ⟨.ref w, rfl, .inl ⟨rfl, _, sq_at ew⟩, .ref u, rfl, w, u, _, _, rfl, rfl, ew, eu, by rw [List.length_map, List.length_map]; omega, ?_⟩
        exact ⟨_, rfl, by rw [upd_same, List.map_append], by rw [upd_ne uw]; exact eu, put_same sm nwH⟩
      · have e1 : g ≠ 10 := fun z => e (decide_eq_true (by rw [z]))
        rw [if_neg e1]
        refine ⟨.ref w, rfl, .inl ⟨rfl, _, sq_at ew⟩, .int g, rfl, w, _, _, rfl, rfl, ew, by rw [List.length_map]; omega, ?_⟩
        exact ⟨_, rfl, by rw [upd_same, List.map_append]; rfl, by rw [upd_ne uw]; exact eu, put_same sm nwH⟩
    · obtain ⟨y, rfl, ew, eu, sm⟩ := hW
      rw [List.length_map, List.take_of_length_le (Nat.le_refl _)] at ew
      exact ⟨.ref w, rfl, q _ w nwH ew sm⟩

theorem ok_ways (T : Tx K mg) : FnOk P w K mg base CX0 1 T.f_ways T.fd_ways P_ways (spWays) := by
  have sz : sizeLine = 16777216 := sizeLine_eq
  refine T.D_ways.F.ok sc_ways (fun vs H Q E h => ?_) (fun cdv A outer s H vs Q E hr h => ?_)
  · obtain ⟨u, rfl, _⟩ := h
    rfl
  · obtain ⟨u, rfl, q⟩ := h
    refine ⟨_, (pss_one (ps_ret (pe_lst (pa_cons pe_str (pa_cons pe_str (pa_cons pe_str (pa_cons pe_str (pa_cons pe_str pa_nil)))))))), ?_⟩
    exact ⟨by show (5 : Nat) ≤ sizeLine; omega, fun z nz => q z nz⟩

theorem ok_lends (T : Tx K mg) : FnOk P w K mg base CX0 1 T.f_lends T.fd_lends P_lends (spEndsL K) := by
  have sz : sizeLine = 16777216 := sizeLine_eq
  refine T.D_lends.F.ok sc_lends (fun vs H Q E h => ?_) (fun cdv A outer s H vs Q E hr h => ?_)
  · obtain ⟨a, gs, z, f, rfl, _⟩ := h
    rfl
  · obtain ⟨a, gs, z, f, rfl, hA, lg, ef, q⟩ := h
    refine ⟨_, (pss_cons (ps_set (i := 2) sc_lends.nd rfl (.inl rfl) (pe_lst pa_nil))
      (pss_cons (ps_for PassesOwn.never rfl (pi_list (pv 0)) (pg_name (i := 3) sc_lends.nd rfl (.inl rfl)) (C8.pss_cut (ps_if (PW.pt (pw_and (pt_cmpR op_eq (pv 3) pe_int (nomark _)) (pw_and1 (pt_cmpR op_eq (pv 1) pe_str (nomark _))))) (pss_one (ps_expr (pe_bm PySem.F.plainAttrs_list PySem.F.slot_list_append PySem.F.type_list_append mt_append (pv 2) (pa_cons pe_int pa_nil)))) pss_nil)
      (pss_one (ps_expr (pe_bm PySem.F.plainAttrs_list PySem.F.slot_list_append PySem.F.type_list_append mt_append (pv 2) (pa_cons (pe_ix ix_list (pe_lst (pa_cons (pv 3) (pa_cons pe_int pa_nil))) (pe_callTy call_int1 (by rfl) T.m_int (by decide +kernel) (pa_cons (pe_and (pe_cmpR op_eq (pv 3) pe_int (nomark _)) (pe_one (pe_cmpR op_eq (pv 1) pe_str (nomark _)))) pa_nil)) (fun _ _ => rfl)) pa_nil))))))
      (pss_one (ps_ret (pv 2))))), ?_⟩
    have lf := feed_len ef
    refine ⟨Nat.zero_le _, fun w nw => ?_⟩
    have s2 := (Kp.new (ps := []) (o := HO.lst []) nw).same
    refine ⟨.ref a, rfl, a, rfl, ⟨_, s2.seq hA⟩, ?_⟩
    refine for_list (xs := gs.map V.int) (fun i σ H' => ∃ y : Option V, σ = [some (.ref a), some (.str z), some (.ref w), y] ∧ H' w = some (.lst ((endsF f (gs.take i)).map V.int)) ∧ Same H H') ⟨none, rfl, upd_same, s2⟩ (fun i σ H' _ hW => ?_) (fun i x σ H' hx hW => ?_) (fun σ H' hW => ?_)
    · obtain ⟨_, _, _, s⟩ := hW
      exact s.seq hA
    · obtain ⟨y, rfl, ew, sm⟩ := hW
      rw [List.getElem?_map] at hx
      obtain ⟨g, hgx, rfl⟩ := Option.map_eq_some_iff.mp hx
      have hi : i < gs.length := (List.getElem?_eq_some_iff.mp hgx).1
      have et : gs.take (i + 1) = gs.take i ++ [g] := by rw [List.take_add_one, hgx]; rfl
      have ll := endsF_len lf (gs.take i)
      rw [List.length_take] at ll
      rw [et, endsF_snoc]
      refine ⟨fun σ' H2 => ∃ pre : List Int, σ' = [some (.ref a), some (.str z), some (.ref w), some (.int g)] ∧ H2 w = some (.lst ((endsF f (gs.take i) ++ pre).map V.int)) ∧ pre.length ≤ 1 ∧ (if g = 10 then f else [g]) = pre ++ [if g = 10 ∧ z = wR then 13 else g] ∧ Same H H2, ?_, fun σ' H2 hm => ?_⟩
      · have fz : f = (if z = wR then [13] else if z = wB then [13, 10] else [10]) := by
          unfold feedF at ef
          by_cases a1 : z = wR
          · rw [if_pos a1] at ef ⊢; exact (Option.some.inj ef).symm
          · rw [if_neg a1] at ef ⊢
            by_cases a2 : z = wB
            · rw [if_pos a2] at ef ⊢; exact (Option.some.inj ef).symm
            · rw [if_neg a2] at ef ⊢
              split at ef
              · exact (Option.some.inj ef).symm
              · cases ef
        refine ⟨.int g, rfl, rfl, _, rfl, ite2 (fun e => ?_) (fun e => ?_)⟩
        · have e1 : g = 10 := V.int.inj (of_decide_eq_true e)
          refine ⟨_, rfl, rfl, _, rfl, ite2 (fun e2 => ?_) (fun e2 => ?_)⟩
          · have e3 : z = wB := V.str.inj (of_decide_eq_true e2)
            refine ⟨.ref w, rfl, .inl ⟨rfl, _, sq_at ew⟩, w, _, _, rfl, rfl, ew, by rw [List.length_map]; omega, ?_⟩
            refine ⟨[13], rfl, by rw [upd_same, List.map_append]; rfl, by decide, ?_, put_same sm nw⟩
            have nR : z ≠ wR := by rw [e3]; decide +kernel
            rw [if_pos e1, if_neg (fun h => nR h.2), fz, if_neg nR, if_pos e3, e1]; rfl
          · have e3 : z ≠ wB := fun y => e2 (decide_eq_true (congrArg V.str y))
            refine ⟨[], rfl, by rw [List.append_nil]; exact ew, by decide, ?_, sm⟩
            rw [if_pos e1, fz, if_neg e3]
            by_cases h : z = wR
            · rw [if_pos h, if_pos ⟨e1, h⟩]; rfl
            · rw [if_neg h, if_neg (fun x => h x.2), e1]; rfl
        · have e1 : g ≠ 10 := fun z => e (decide_eq_true (by rw [z]))
          refine ⟨[], rfl, by rw [List.append_nil]; exact ew, by decide, ?_, sm⟩
          rw [if_neg e1, if_neg (fun x => e1 x.1)]; rfl
      · obtain ⟨pre, rfl, ew2, lp, ep, s2⟩ := hm
        rw [ep]
        refine ⟨.ref w, rfl, .inl ⟨rfl, _, sq_at ew2⟩, .int g, rfl, by show (2 : Nat) ≤ sizeLine; omega, fun l nl => ?_⟩
        have t1 := (Kp.new (ps := []) (o := HO.lst [.int g, .int 13]) nl).same
        have ew3 := t1 _ _ ew2
        have fin : ∀ v : Int, v = (if g = 10 ∧ z = wR then 13 else g) → ∃ y : Option V, [some (V.ref a), some (.str z), some (.ref w), some (.int g)] = [some (V.ref a), some (.str z), some (.ref w), y] ∧ upd (upd H2 l (.lst [.int g, .int 13])) w (.lst ((endsF f (gs.take i) ++ pre).map V.int ++ [.int v])) w = some (.lst ((endsF f (gs.take i) ++ (pre ++ [if g = 10 ∧ z = wR then 13 else g])).map V.int)) ∧ Same H (upd (upd H2 l (.lst [.int g, .int 13])) w (.lst ((endsF f (gs.take i) ++ pre).map V.int ++ [.int v]))) := fun v hv =>
          ⟨_, rfl, by rw [upd_same, ← hv, ← List.append_assoc, List.map_append (l₁ := endsF f (gs.take i) ++ pre)]; rfl, put_same (s2.trans t1) nw⟩
        have fit : ((endsF f (gs.take i) ++ pre).map V.int).length < sizeLine := by rw [List.length_map, List.length_append]; omega
        refine ⟨.int g, rfl, rfl, _, rfl, ite2 (fun e => ?_) (fun e => ?_)⟩
        · have e1 : g = 10 := V.int.inj (of_decide_eq_true e)
          refine ⟨_, rfl, rfl, .inr ⟨_, rfl, ?_⟩⟩
          by_cases h : z = wR
          · refine ⟨l, _, _, .int 13, rfl, rfl, .inl (.inl upd_same), ?_, w, _, .int 13, rfl, rfl, ew3, fit, fin 13 (by rw [if_pos ⟨e1, h⟩])⟩
            rw [show decide (V.str z = V.str (Str.ofString "return")) = true from decide_eq_true (congrArg V.str h)]; rfl
          · refine ⟨l, _, _, .int g, rfl, rfl, .inl (.inl upd_same), ?_, w, _, .int g, rfl, rfl, ew3, fit, fin g (by rw [if_neg (fun x => h x.2)])⟩
            rw [show decide (V.str z = V.str (Str.ofString "return")) = false from decide_eq_false (fun y => h (V.str.inj y))]; rfl
        · have e1 : g ≠ 10 := fun z => e (decide_eq_true (by rw [z]))
          refine .inr ⟨_, rfl, l, _, _, .int g, rfl, rfl, .inl (.inl upd_same), rfl, w, _, .int g, rfl, rfl, ew3, fit, fin g (by rw [if_neg (fun x => e1 x.1)])⟩
    · obtain ⟨y, rfl, ew, sm⟩ := hW
      rw [List.length_map, List.take_of_length_le (Nat.le_refl _)] at ew
      exact ⟨.ref w, rfl, q _ w nw ew sm⟩

theorem ok_refused (T : Tx K mg) : FnOk P w K mg base CX0 5 T.f_refused T.fd_refused P_refused (spRefused K) := by
  have G_wends := ok_wends (P := P) (w := w) (base := base) T
  have sz : sizeLine = 16777216 := sizeLine_eq
  refine T.D_refused.F.ok sc_refused (fun vs H Q E h => ?_) (fun cdv A outer s H vs Q E hr h => ?_)
  · obtain ⟨a, gs, z, rfl, _⟩ := h
    rfl
  · obtain ⟨a, gs, z, rfl, hA, lg, ef, q⟩ := h
    refine ⟨_, (pss_cons (ps_set (i := 2) sc_refused.nd rfl (.inl rfl) (pe_lst pa_nil))
      (pss_cons (ps_set (i := 3) sc_refused.nd rfl (.inl rfl) pe_str)
      (pss_cons (ps_try_as (i := 4) rfl rfl sc_refused.nd rfl rfl ⟨rfl, by decide, .inl T.g_SipError⟩ takes0 (fun W pn xe tk _ => (pss_one (ps_expr (by exact (Sip.pe_callNS G_wends (hr.mono (by decide)) (by rfl) T.D_wends.g T.D_wends.F.kp T.kb_wends_1_ends (fun σ => passAt tk σ) (by exact (pa_cons (pv 0) pa_nil)) (by exact (pk_cons (pv 1) pk_nil))))))) (fun a oe cls d pn hz hf => (pss_cons (ps_set (i := 2) sc_refused.nd rfl (.inl rfl) (pe_lst (pa_cons (pe_callB (id := "isinstance") (r := Sip.rIsO K cls d a) (Sip.call_isO hz hf) (by rfl) T.m_isinstance (by decide +kernel) (pa_cons (pv 4) (pa_cons (pe_glob (v := .ref T.C_NoEnds) (by rfl) T.g_NoEnds rfl) pa_nil))) (pa_cons (pe_callB (id := "isinstance") (r := Sip.rIsO K cls d a) (Sip.call_isO hz hf) (by rfl) T.m_isinstance (by decide +kernel) (pa_cons (pv 4) (pa_cons (pe_glob (v := .ref T.C_NoCode) (by rfl) T.g_NoCode rfl) pa_nil))) (pa_cons (pe_callB (id := "isinstance") (r := Sip.rIsO K cls d a) (Sip.call_isO hz hf) (by rfl) T.m_isinstance (by decide +kernel) (pa_cons (pv 4) (pa_cons (pe_glob (v := .ref T.C_NoWay) (by rfl) T.g_NoWay rfl) pa_nil))) pa_nil)))))
      (pss_one (ps_if (pt_val (pe_ix (show IxR _ (rIxL K) from ix_list) (pv 2) pe_int (fun _ _ => rfl))) (pss_one (ps_set (i := 3) sc_refused.nd rfl (.inl rfl) (show PE _ _ (Sip.tXf K "word" a cls d _) from Sip.pe_xf (f := "word") hz hf (pv 4)))) pss_nil)))))
      (pss_one (ps_ret (pe_and (pe_cmpR (Sip.op_eqS hr.units) (pv 2) (pe_lst (pa_cons pe_bl (pa_cons pe_bl (pa_cons pe_bl pa_nil)))) (nomark _)) (pe_one (pe_cmpR op_eq (pv 3) (pv 1) (nomark _))))))))), ?_⟩
    refine ⟨Nat.zero_le _, fun k0 nk0 => ?_⟩
    have s1 := (Kp.new (ps := []) (o := HO.lst []) nk0).same
    refine ⟨.ref a, rfl, .str z, rfl, rfl, rfl, a, gs, z, rfl, s1.seq hA, lg, (fun f e => by rw [ef] at e; cases e), fun _ d nd => ?_⟩
    refine ⟨true, T.te_NoEnds, fun _ e ne => ?_, fun h => nomatch h⟩
    have hd : (upd (upd H k0 (.lst [])) d (.xd [(("word" : Str), .str z)])) d = some (.xd [(("word" : Str), .str z)]) := upd_same
    generalize upd (upd H k0 (.lst [])) d (.xd [(("word" : Str), .str z)]) = H1 at hd ⊢
    refine ⟨.ref e, rfl, T.C_NoEnds, rfl, T.e_NoEnds, .inr ⟨d, _, rfl, hd⟩, .ref T.C_NoEnds, .ref T.C_NoEnds, true, rfl, (fun u h => h), T.k_NoEnds_NoEnds, ?_⟩
    refine ⟨.ref e, rfl, T.C_NoEnds, rfl, T.e_NoEnds, .inr ⟨d, _, rfl, hd⟩, .ref T.C_NoCode, .ref T.C_NoCode, false, rfl, (fun u h => h), T.k_NoEnds_NoCode, ?_⟩
    refine ⟨.ref e, rfl, T.C_NoEnds, rfl, T.e_NoEnds, .inr ⟨d, _, rfl, hd⟩, .ref T.C_NoWay, .ref T.C_NoWay, false, rfl, (fun u h => h), T.k_NoEnds_NoWay, ?_⟩
    refine ⟨by show (3 : Nat) ≤ sizeLine; omega, fun kl nkl => ?_⟩
    have t1 := (Kp.new (ps := []) (o := HO.lst [.bl true, .bl false, .bl false]) nkl).same
    have ek : (upd H1 kl (.lst [.bl true, .bl false, .bl false])) kl = some (.lst [.bl true, .bl false, .bl false]) := upd_same
    have hd2 := t1 _ _ hd
    generalize upd H1 kl (.lst [.bl true, .bl false, .bl false]) = H2 at ek hd2 ⊢
    refine ⟨.ref kl, rfl, kl, _, _, .bl true, rfl, rfl, sq_at ek, rfl, true, rfl, iteT ?_⟩
    refine ⟨.ref e, rfl, T.C_NoEnds, d, _, .str z, rfl, rfl, T.e_NoEnds, T.n_NoEnds, rfl, hd2, (by kernel_rfl), ?_⟩
    refine ⟨.ref kl, rfl, by show (3 : Nat) ≤ sizeLine; omega, fun l nl => ?_⟩
    have t2 := (Kp.new (ps := []) (o := HO.lst [.bl true, .bl false, .bl false]) nl).same
    obtain ⟨dd, d1, d2, d3⟩ := dp_tff (K := K) (t2 _ _ ek) upd_same
    refine ⟨dd, d1, d2, d3, true, rfl, iteT ?_⟩
    refine ⟨.str z, rfl, .str z, rfl, rfl, ?_⟩
    rw [show decide (V.str z = V.str z) = true from decide_eq_true rfl]
    exact q _

theorem ok_law (T : Tx K mg) : FnOk P w K mg base CX0 6 T.f_law T.fd_law P_law (spLaw K) := by
  have G_pool := ok_pool (P := P) (w := w) (base := base) T
  have G_wends := ok_wends (P := P) (w := w) (base := base) T
  have G_take := ok_take (P := P) (w := w) (base := base) T
  have G_ways := ok_ways (P := P) (w := w) (base := base) T
  have G_refused := ok_refused (P := P) (w := w) (base := base) T
  have G_isrow := ok_isrow (P := P) (w := w) (base := base) T
  have G_lends := ok_lends (P := P) (w := w) (base := base) T
  have sz : sizeLine = 16777216 := sizeLine_eq
  refine T.D_law.F.ok sc_law (fun vs H Q E h => ?_) (fun cdv A outer s H vs Q E hr h => ?_)
  · obtain ⟨a, ns, rfl, _⟩ := h
    rfl
  · obtain ⟨a, ns, rfl, hS, h63, q⟩ := h
    refine ⟨_, (pss_cons (ps_set (i := 1) sc_law.nd rfl (.inl rfl) (pe_call G_pool (hr.mono (by decide)) (by rfl) T.D_pool.g T.D_pool.F.kp T.bb_pool .nil pass0 (pa_cons (pv 0) (pa_cons pe_int pa_nil))))
      (pss_cons (ps_set (i := 2) sc_law.nd rfl (.inl rfl) (pe_ix ix_list (pe_call0 G_ways (hr.mono (by decide)) (by rfl) T.D_ways.g T.D_ways.F.kp T.bb_ways .nil pass0) (pe_call G_take (hr.mono (by decide)) (by rfl) T.D_take.g T.D_take.F.kp T.bb_take .nil pass0 (pa_cons (pv 1) (pa_cons pe_int pa_nil))) (fun _ _ => rfl)))
      (pss_cons (ps_set (i := 3) sc_law.nd rfl (.inl rfl) (pe_lst pa_nil))
      (pss_cons (ps_for PassesOwn.never rfl (pi_range1 (by rfl) T.m_range (pa_cons (pe_call G_take (hr.mono (by decide)) (by rfl) T.D_take.g T.D_take.F.kp T.bb_take .nil pass0 (pa_cons (pv 1) (pa_cons pe_int pa_nil))) pa_nil)) (pg_name (i := 4) sc_law.nd rfl (.inl rfl)) (pss_cons (ps_set (i := 5) sc_law.nd rfl (.inl rfl) (pe_call G_take (hr.mono (by decide)) (by rfl) T.D_take.g T.D_take.F.kp T.bb_take .nil pass0 (pa_cons (pv 1) (pa_cons pe_int pa_nil))))
      (pss_one (ps_expr (pe_bm PySem.F.plainAttrs_list PySem.F.slot_list_append PySem.F.type_list_append mt_append (pv 3) (pa_cons (pe_ix ix_list (pe_lst (pa_cons pe_int (pa_cons pe_int (pa_cons pe_int (pa_cons (pe_call G_take (hr.mono (by decide)) (by rfl) T.D_take.g T.D_take.F.kp T.bb_take .nil pass0 (pa_cons (pv 1) (pa_cons pe_int pa_nil))) (pa_cons (pe_op op_sub (pe_un un_neg pe_int) (pe_call G_take (hr.mono (by decide)) (by rfl) T.D_take.g T.D_take.F.kp T.bb_take .nil pass0 (pa_cons (pv 1) (pa_cons pe_int pa_nil)))) (pa_cons (pe_op op_pow pe_int pe_int) pa_nil))))))) (pv 5) (fun _ _ => rfl)) pa_nil))))))
      (pss_cons (ps_set (i := 6) sc_law.nd rfl (.inl rfl) (pe_callTy call_list_of (by rfl) T.m_list (by decide +kernel) (pa_cons (pv 3) pa_nil)))
      (pss_cons (ps_set (i := 7) sc_law.nd rfl (.inl rfl) (pe_callN G_wends (hr.mono (by decide)) (by rfl) T.D_wends.g T.D_wends.F.kp T.kb_wends_1_ends passL (pa_cons (pv 6) pa_nil) (pk_cons (pv 2) pk_nil)))
      (pss_cons (ps_if (PW.pt (pw_or (pt_cmpR (op_neI hr.units) (pv 6) (pv 3) (nomark _)) (pw_or (pt_not (pt_val (pe_call G_isrow (hr.mono (by decide)) (by rfl) T.D_isrow.g T.D_isrow.F.kp T.bb_isrow .nil pass0 (pa_cons (pv 7) pa_nil)))) (pw_or1 (pt_cmpR (op_neI hr.units) (pv 7) (pe_call G_lends (hr.mono (by decide)) (by rfl) T.D_lends.g T.D_lends.F.kp T.bb_lends .nil pass0 (pa_cons (pv 3) (pa_cons (pv 2) pa_nil))) (nomark _)))))) (pss_one (ps_ret pe_bl)) pss_nil)
      (pss_cons (ps_expr (pe_bm PySem.F.plainAttrs_list PySem.F.slot_list_append PySem.F.type_list_append mt_append (pv 7) (pa_cons pe_int pa_nil)))
      (pss_cons (ps_expr (pe_bm PySem.F.plainAttrs_list PySem.F.slot_list_append PySem.F.type_list_append mt_append (pv 6) (pa_cons pe_int pa_nil)))
      (pss_cons (ps_if (PW.pt (pw_or (pt_cmpR (op_neI hr.units) (pe_call G_wends (hr.mono (by decide)) (by rfl) T.D_wends.g T.D_wends.F.kp T.b_wends_1 T.v_wends_1 passL (pa_cons (pe_callTy call_list_of (by rfl) T.m_list (by decide +kernel) (pa_cons (pv 3) pa_nil)) pa_nil)) (pe_call G_lends (hr.mono (by decide)) (by rfl) T.D_lends.g T.D_lends.F.kp T.bb_lends .nil pass0 (pa_cons (pv 3) (pa_cons pe_str pa_nil))) (nomark _)) (pw_or1 (pt_cmpR (op_neI hr.units) (pe_callN G_wends (hr.mono (by decide)) (by rfl) T.D_wends.g T.D_wends.F.kp T.kb_wends_1_ends passL (pa_cons (pe_callTy call_list_of (by rfl) T.m_list (by decide +kernel) (pa_cons (pv 3) pa_nil)) pa_nil) (pk_cons (pv 2) pk_nil)) (pe_slice sl_list (pv 7) po_none (po_some (pe_un un_neg pe_int))) (nomark _))))) (pss_one (ps_ret pe_bl)) pss_nil)
      (pss_cons (ps_set (i := 1) sc_law.nd rfl (.inl rfl) (pe_call G_pool (hr.mono (by decide)) (by rfl) T.D_pool.g T.D_pool.F.kp T.bb_pool .nil pass0 (pa_cons (pv 0) (pa_cons pe_int pa_nil))))
      (pss_cons (ps_set (i := 8) sc_law.nd rfl (.inl rfl) (pe_ix ix_list (pe_call0 G_ways (hr.mono (by decide)) (by rfl) T.D_ways.g T.D_ways.F.kp T.bb_ways .nil pass0) (pe_call G_take (hr.mono (by decide)) (by rfl) T.D_take.g T.D_take.F.kp T.bb_take .nil pass0 (pa_cons (pv 1) (pa_cons pe_int pa_nil))) (fun _ _ => rfl)))
      (pss_cons (ps_set (i := 9) sc_law.nd rfl (.inl rfl) (pe_call G_take (hr.mono (by decide)) (by rfl) T.D_take.g T.D_take.F.kp T.bb_take .nil pass0 (pa_cons (pv 1) (pa_cons (pe_callB call_len_str (by rfl) T.m_len PySem.boot_len (pa_cons (pv 8) pa_nil)) pa_nil))))
      (pss_cons (ps_set (i := 10) sc_law.nd rfl (.inl rfl) (pe_ix ix_str pe_str (pe_call G_take (hr.mono (by decide)) (by rfl) T.D_take.g T.D_take.F.kp T.bb_take .nil pass0 (pa_cons (pv 1) (pa_cons pe_int pa_nil))) (fun _ _ => rfl)))
      (pss_cons (ps_set (i := 11) sc_law.nd rfl (.inl rfl) (pe_lst (pa_cons (pe_op op_add_str (pe_slice sl_str (pv 8) po_none (po_some (pv 9))) (pe_slice sl_str (pv 8) (po_some (pe_op op_add (pv 9) pe_int)) po_none)) (pa_cons (pe_op op_add_str (pe_op op_add_str (pe_slice sl_str (pv 8) po_none (po_some (pv 9))) (pv 10)) (pe_slice sl_str (pv 8) (po_some (pv 9)) po_none)) (pa_cons (pe_upper (pv 8)) (pa_cons pe_str (pa_cons pe_str pa_nil)))))))
      (pss_cons (ps_set (i := 8) sc_law.nd rfl (.inl rfl) (pe_ix ix_list (pv 11) (pe_call G_take (hr.mono (by decide)) (by rfl) T.D_take.g T.D_take.F.kp T.bb_take .nil pass0 (pa_cons (pv 1) (pa_cons pe_int pa_nil))) (fun _ _ => rfl)))
      (pss_one (ps_ret (pe_or (pe_cmpR op_in_seq (pv 8) (pe_call0 G_ways (hr.mono (by decide)) (by rfl) T.D_ways.g T.D_ways.F.kp T.bb_ways .nil pass0) rfl) (pe_one (pe_call G_refused (hr.mono (by decide)) (by rfl) T.D_refused.g T.D_refused.F.kp T.bb_refused .nil pass0 (pa_cons (pe_callTy call_list_of (by rfl) T.m_list (by decide +kernel) (pa_cons (pv 3) pa_nil)) (pa_cons (pv 8) pa_nil))))))))))))))))))))))), ?_⟩
    refine ⟨.ref a, rfl, a, ns, 0, rfl, hS, h63, by decide, by decide, fun p o1 np hP1 => ?_⟩
    have s1 : Same H (upd H p o1) := (Kp.new (ps := []) np).same
    refine ⟨(), rfl, fun cl ncl => ?_⟩
    have pcl : p ≠ cl := ne_of_none (upd_same : (upd H p o1) p = some o1) ncl
    refine ⟨.ref p, rfl, p, _, 5, o1, rfl, by rw [upd_ne pcl]; exact upd_same, hP1, by omega, by decide, by decide, fun r o2 r0 r1 hP2 => ?_⟩
    obtain ⟨z, ez, ⟨f, ef⟩, z0, z6⟩ := ways_at r0 r1
    have s2 : Same H (upd (upd (upd H p o1) cl (.lst WAYS)) p o2) := put_same (s1.trans (Kp.new (ps := []) ncl).same) np
    refine ⟨cl, _, r, .str z, rfl, rfl, .inl (.inl (by rw [upd_ne pcl.symm, upd_same])), ez, ?_⟩
    have ep2 : (upd (upd (upd H p o1) cl (.lst WAYS)) p o2) p = some o2 := upd_same
    generalize upd (upd (upd H p o1) cl (.lst WAYS)) p o2 = H1 at s2 ep2 ⊢
    refine ⟨Nat.zero_le _, fun x nx => ?_⟩
    have px : p ≠ x := ne_of_none ep2 nx
    have nxH := s2.free nx
    have s3 := s2.trans (Kp.new (ps := []) (o := HO.lst []) nx).same
    refine ⟨.ref p, rfl, p, _, 31, o2, rfl, by rw [upd_ne px]; exact ep2, hP2, by omega, by decide, by decide, fun n o3 n0 n1 hP3 => ?_⟩
    refine ⟨n, rfl, by omega, by omega, for_range (lo := 0) (n := n.toNat) (fun i σ H' => ∃ (gs : List Int) (o : HO) (y w : Option V), σ = [some (.ref a), some (.ref p), some (.str z), some (.ref x), y, w, none, none, none, none, none, none] ∧ H' x = some (.lst (gs.map V.int)) ∧ gs.length = i ∧ H' p = some o ∧ PoolO (2 + 3 * i) o ∧ Same H H') ⟨[], o3, none, none, rfl, by rw [upd_ne px.symm]; exact upd_same, rfl, upd_same, hP3.up (by omega), put_same s3 np⟩ (fun i σ H' hi hW => ?_) (fun σ H2 hW => ?_)⟩
    · obtain ⟨gs, o, y, w, rfl, ex, lg, ep, hP, sm⟩ := hW
      refine ⟨.ref p, rfl, p, _, 6, o, rfl, ep, hP, by omega, by decide, by decide, fun way o4 w0 w1 hP4 => ?_⟩
      have ex4 : (upd H' p o4) x = some (.lst (gs.map V.int)) := by rw [upd_ne px.symm]; exact ex
      refine ⟨.ref x, rfl, .inl ⟨rfl, _, sq_at ex4⟩, .ref p, rfl, p, _, 2097152, o4, rfl, upd_same, hP4, by omega, by decide, by decide, fun v1 o5 v10 v11 hP5 => ?_⟩
      refine ⟨_, rfl, .ref p, rfl, p, _, 99, o5, rfl, upd_same, hP5, by omega, by decide, by decide, fun v2 o6 v20 v21 hP6 => ⟨_, _, rfl, rfl, ?_⟩⟩
      rw [L2.upd_upd, L2.upd_upd]
      have ex6 : (upd H' p o6) x = some (.lst (gs.map V.int)) := by rw [upd_ne px.symm]; exact ex
      refine ⟨_, _, rfl, rfl, cpow_10_40, by show (6 : Nat) ≤ sizeLine; omega, fun l nl => ?_⟩
      obtain ⟨m, mm, em, _⟩ := atI_int (ms := [10, 10, 13, v1, -1 - v2, 10 ^ 40]) (i := way) w0 w1
      have xl : x ≠ l := ne_of_none ex6 nl
      have pl : p ≠ l := ne_of_none (upd_same : (upd H' p o6) p = some o6) nl
      have sm6 : Same H (upd H' p o6) := put_same sm np
      refine ⟨.int way, rfl, l, _, _, .int m, rfl, rfl, .inl (.inl (by rw [upd_same]; rfl)), em, x, gs.map V.int, .int m, rfl, rfl, by rw [upd_ne xl]; exact ex6, by rw [List.length_map]; omega, ?_⟩
      exact ⟨gs ++ [m], o6, _, _, rfl, by rw [upd_same, List.map_append]; rfl, by rw [List.length_append, lg]; rfl, by rw [upd_ne px, upd_ne pl]; exact upd_same, hP6.up (by omega), put_same (sm6.trans (Kp.new (ps := []) nl).same) nxH⟩
    obtain ⟨gs, o, y, w, rfl, ex, lg, ep, hP, sm⟩ := hW
    have lg' : gs.length ≤ 1000 := by omega
    have lf := feed_len ef
    have lF := endsF_len lf gs
    refine ⟨.ref x, rfl, x, _, rfl, .inl (sq_at ex), fun h nh => ?_⟩
    have t1 := (Kp.new (ps := []) (o := HO.lst (gs.map V.int)) nh).same
    refine ⟨.ref h, rfl, .str z, rfl, rfl, rfl, h, gs, z, rfl, sq_new, lg', fun f' ef' H3 u nu eu s3 => ?_, fun en => by rw [ef] at en; cases en⟩
    rw [ef] at ef'
    cases ef'
    have ex3 := s3 _ _ (t1 _ _ ex)
    have eh3 := s3 _ _ (upd_same : upd H2 h (.lst (gs.map V.int)) h = some (.lst (gs.map V.int)))
    have smH := (sm.trans t1).trans s3
    have uh : h ≠ u := ne_of_none (upd_same : upd H2 h (.lst (gs.map V.int)) h = some (.lst (gs.map V.int))) nu
    have ux : x ≠ u := ne_of_none (t1 _ _ ex) nu
    have hx : x ≠ h := ne_of_none ex nh
    have nuH : H u = none := (sm.trans t1).free nu
    have nhH : H h = none := sm.free nh
    refine ⟨.ref h, rfl, .ref x, rfl, h, x, gs, gs, rfl, rfl, sq_at eh3, sq_at ex3, _, rfl, iteFc (by simp) ?_⟩
    refine ⟨.ref u, rfl, u, _, rfl, eu, _, rfl, iteF ?_⟩
    refine ⟨.ref u, rfl, .ref x, rfl, .str z, rfl, x, gs, z, f, rfl, sq_at ex3, lg', ef, fun H4 v nv ev s4 => ?_⟩
    refine ⟨u, v, endsF f gs, endsF f gs, rfl, rfl, sq_at (s4 _ _ eu), sq_at ev, _, rfl, iteFc (by simp) ?_⟩
    have eu4 := s4 _ _ eu
    have eh4 := s4 _ _ eh3
    have ex4 := s4 _ _ ex3
    have sm4 := smH.trans s4
    generalize eFG : endsF f gs = FG at *
    refine ⟨.ref u, rfl, .inl ⟨rfl, _, sq_at eu4⟩, u, _, .int 10, rfl, rfl, eu4, by rw [List.length_map]; omega, ?_⟩
    have eu5 : (upd H4 u (.lst (FG.map V.int ++ [.int 10]))) u = some (.lst ((FG ++ [10]).map V.int)) := by rw [upd_same, List.map_append]; rfl
    have eh5 : (upd H4 u (.lst (FG.map V.int ++ [.int 10]))) h = some (.lst (gs.map V.int)) := by rw [upd_ne uh]; exact eh4
    have ex5 : (upd H4 u (.lst (FG.map V.int ++ [.int 10]))) x = some (.lst (gs.map V.int)) := by rw [upd_ne ux]; exact ex4
    have sm5 : Same H (upd H4 u (.lst (FG.map V.int ++ [.int 10]))) := put_same sm4 nuH
    generalize upd H4 u (.lst (FG.map V.int ++ [.int 10])) = H5 at eu5 eh5 ex5 sm5 ⊢
    refine ⟨.ref h, rfl, .inl ⟨rfl, _, sq_at eh5⟩, h, _, .int 10, rfl, rfl, eh5, by rw [List.length_map]; omega, ?_⟩
    have eu6 : (upd H5 h (.lst (gs.map V.int ++ [.int 10]))) u = some (.lst ((FG ++ [10]).map V.int)) := by rw [upd_ne uh.symm]; exact eu5
    have ex6 : (upd H5 h (.lst (gs.map V.int ++ [.int 10]))) x = some (.lst (gs.map V.int)) := by rw [upd_ne hx]; exact ex5
    have sm6 : Same H (upd H5 h (.lst (gs.map V.int ++ [.int 10]))) := put_same sm5 nhH
    generalize upd H5 h (.lst (gs.map V.int ++ [.int 10])) = H6 at eu6 ex6 sm6 ⊢
    refine ⟨.ref x, rfl, x, _, rfl, .inl (sq_at ex6), fun h2 nh2 => ?_⟩
    have t2 := (Kp.new (ps := []) (o := HO.lst (gs.map V.int)) nh2).same
    refine ⟨h2, gs, _, rfl, sq_new, lg', fun f' ef' H7 u2 nu2 eu2 s7 => ?_, fun en => by rw [way_any] at en; cases en⟩
    rw [way_any] at ef'
    cases ef'
    have s67 := t2.trans s7
    refine ⟨.ref x, rfl, x, gs, _, _, rfl, sq_at (s67 _ _ ex6), lg', way_any, fun H8 v2 nv2 ev2 s8 => ?_⟩
    refine ⟨u2, v2, _, _, rfl, rfl, sq_at (s8 _ _ eu2), sq_at ev2, _, rfl, iteFc (by simp) ?_⟩
    have s68 := s67.trans s8
    have ex8 := s68 _ _ ex6
    have eu8 := s68 _ _ eu6
    have sm8 := sm6.trans s68
    clear eu2 ev2 s7 s8 t2
    refine ⟨.ref x, rfl, x, _, rfl, .inl (sq_at ex8), fun h3 nh3 => ?_⟩
    have t3 := (Kp.new (ps := []) (o := HO.lst (gs.map V.int)) nh3).same
    refine ⟨.str z, rfl, rfl, rfl, h3, gs, z, rfl, sq_new, lg', fun f' ef' H9 u3 nu3 eu3 s9 => ?_, fun en => by rw [ef] at en; cases en⟩
    rw [ef] at ef'
    cases ef'
    have s89 := t3.trans s9
    refine ⟨.ref u, rfl, _, rfl, _, rfl, u, _, rfl, sq_at (s89 _ _ eu8), fun u4 nu4 => ?_⟩
    rw [cut_last]
    have t4 := (Kp.new (ps := []) (o := HO.lst (FG.map V.int)) nu4).same
    rw [eFG] at eu3
    refine ⟨u3, u4, FG, FG, rfl, rfl, sq_at (t4 _ _ eu3), sq_at upd_same, _, rfl, iteFc (by simp) ?_⟩
    have exA := t4 _ _ (s89 _ _ ex8)
    have smA := (sm8.trans s89).trans t4
    generalize upd H9 u4 (.lst (FG.map V.int)) = HA at exA smA ⊢
    -- another word
    refine ⟨.ref a, rfl, a, ns, 1, rfl, smA.seq hS, h63, by decide, by decide, fun p2 o7 np2 hP7 => ?_⟩
    have xp2 : x ≠ p2 := ne_of_none exA np2
    refine ⟨(), rfl, fun c2 nc2 => ?_⟩
    have pc2 : p2 ≠ c2 := ne_of_none (upd_same : (upd HA p2 o7) p2 = some o7) nc2
    refine ⟨.ref p2, rfl, p2, _, 5, o7, rfl, by rw [upd_ne pc2]; exact upd_same, hP7, by omega, by decide, by decide, fun r2 o8 r20 r21 hP8 => ?_⟩
    obtain ⟨z2, ez2, _, z20, z26⟩ := ways_at r20 r21
    refine ⟨c2, _, r2, .str z2, rfl, rfl, .inl (.inl (by rw [upd_ne pc2.symm, upd_same])), ez2, ?_⟩
    have exB : (upd (upd (upd HA p2 o7) c2 (.lst WAYS)) p2 o8) x = some (.lst (gs.map V.int)) := by
      rw [upd_ne xp2, upd_ne (ne_of_none (by rw [upd_ne xp2]; exact exA) nc2), upd_ne xp2]; exact exA
    have epB : (upd (upd (upd HA p2 o7) c2 (.lst WAYS)) p2 o8) p2 = some o8 := upd_same
    generalize upd (upd (upd HA p2 o7) c2 (.lst WAYS)) p2 o8 = HB at exB epB ⊢
    refine ⟨.ref p2, rfl, .str z2, rfl, z2, rfl, by omega, p2, _, _, o8, rfl, epB, hP8, by omega, by omega, by omega, fun at_ o9 a0 a1 hP9 => ?_⟩
    refine ⟨.ref p2, rfl, p2, _, 70, o9, rfl, upd_same, hP9, by omega, by decide, by decide, fun r3 o10 r30 r31 hP10 => ?_⟩
    obtain ⟨ch, ech⟩ := letter_at r30 r31
    rw [L2.upd_upd]
    have exC : (upd HB p2 o10) x = some (.lst (gs.map V.int)) := by rw [upd_ne xp2]; exact exB
    have epC : (upd HB p2 o10) p2 = some o10 := upd_same
    generalize upd HB p2 o10 = HC at exC epC ⊢
    refine ⟨LETTERS, r3, ch, rfl, rfl, by rw [len_codes, letters_len]; omega, ech, ?_⟩
    have c1 := cut_le z2 none (some at_)
    have c2' := cut_le z2 (some (at_ + 1)) none
    have c3' := cut_le z2 (some at_) none
    have l1 : (⟨#[ch]⟩ : Str).length = 1 := rfl
    refine ⟨.str z2, rfl, .int at_, rfl, _, rfl, z2, rfl, by omega, .str z2, rfl, .int at_, rfl, _, _, rfl, rfl, _, rfl, z2, rfl, by omega, _, _, rfl, rfl, by omega, ?_⟩
    refine ⟨.str z2, rfl, .int at_, rfl, _, rfl, z2, rfl, by omega, .str ⟨#[ch]⟩, rfl, _, _, rfl, rfl, by omega, .str z2, rfl, .int at_, rfl, _, rfl, z2, rfl, by omega, _, _, rfl, rfl, by rw [len_append]; omega, ?_⟩
    refine ⟨.str z2, rfl, ⟨z2, rfl⟩, z2, rfl, rfl, by omega, by show (5 : Nat) ≤ sizeLine; omega, fun nr nnr => ?_⟩
    have pick : ∀ (s1 s2 s3 s4 s5 : Str) (i : Int), 0 ≤ i → i < 5 → ∃ zz, atI [V.str s1, .str s2, .str s3, .str s4, .str s5] i = some (.str zz) := by
      intro s1 s2 s3 s4 s5 i i0 i1
      rcases (show i = 0 ∨ i = 1 ∨ i = 2 ∨ i = 3 ∨ i = 4 by omega) with rfl | rfl | rfl | rfl | rfl
      · exact ⟨s1, rfl⟩
      · exact ⟨s2, rfl⟩
      · exact ⟨s3, rfl⟩
      · exact ⟨s4, rfl⟩
      · exact ⟨s5, rfl⟩
    have pnr : p2 ≠ nr := ne_of_none epC nnr
    have xnr : x ≠ nr := ne_of_none exC nnr
    refine ⟨.ref nr, rfl, .ref p2, rfl, p2, _, 5, o10, rfl, by rw [upd_ne pnr]; exact epC, hP10, by omega, by decide, by decide, fun r4 o11 r40 r41 hP11 => ?_⟩
    obtain ⟨zz, ezz⟩ := pick (cutS z2 none (some at_) ++ cutS z2 (some (at_ + 1)) none) (cutS z2 none (some at_) ++ ⟨#[ch]⟩ ++ cutS z2 (some at_) none) (Txt.upper z2) (Str.ofString "strict") (Str.ofString "steps") r4 r40 r41
    refine ⟨nr, _, r4, .str zz, rfl, rfl, .inl (.inl (by rw [upd_ne pnr.symm, upd_same])), ezz, ?_⟩
    have exD : ∀ o' o'' : HO, (upd (upd HC nr o') p2 o'') x = some (.lst (gs.map V.int)) := fun o' o'' => by rw [upd_ne xp2, upd_ne xnr]; exact exC
    refine ⟨.str zz, rfl, (), rfl, fun c3 nc3 => ?_⟩
    have t5 := (Kp.new (ps := []) (o := HO.lst WAYS) nc3).same
    refine ⟨c3, WAYS, rfl, .inl sq_new, rfl, by decide +kernel, _, rfl, ?_⟩
    show if inV (.str zz) WAYS = true then _ else _
    cases hin : inV (.str zz) WAYS with
    | true => exact iteT (q _)
    | false =>
      refine iteF ⟨.ref x, rfl, x, _, rfl, .inl (sq_at (t5 _ _ (exD _ _))), fun h9 nh9 => ?_⟩
      exact ⟨.str zz, rfl, h9, gs, zz, rfl, sq_new, lg', not_way hin, q⟩
end
theorem all_mk {l : PySem.W.OpenLaw} {w : World} {K : PySem.W.Frag} {h : Heap} {mg : Str → Option Value} {fa C_SipError C_NoEnds C_NoCode C_NoWay f_iNoEnds f_wfeed f_wends K_wends f_pool f_take f_ways f_lends f_lwhole f_isrow f_refused f_law : Addr} (X : K.In h) (G : h.Ns mainGlobals mg) (hfa : mg "law" = some (.ref fa))
    {od_iNoEnds an_iNoEnds : Option Addr} {sl_iNoEnds : Array (Option Value)} {oc_iNoEnds dc_iNoEnds pm_iNoEnds cd_iNoEnds ct_iNoEnds : Value}
    {kV_iNoEnds : Value}
    {od_wfeed an_wfeed : Option Addr} {sl_wfeed : Array (Option Value)} {oc_wfeed dc_wfeed pm_wfeed cd_wfeed ct_wfeed : Value}
    {kV_wfeed : Value}
    {od_wends an_wends : Option Addr} {sl_wends : Array (Option Value)} {oc_wends dc_wends pm_wends cd_wends ct_wends : Value}
    {kk_wends_0 : Tok}
    {od_pool an_pool : Option Addr} {sl_pool : Array (Option Value)} {oc_pool dc_pool pm_pool cd_pool ct_pool : Value}
    {kV_pool : Value}
    {od_take an_take : Option Addr} {sl_take : Array (Option Value)} {oc_take dc_take pm_take cd_take ct_take : Value}
    {kV_take : Value}
    {od_ways an_ways : Option Addr} {sl_ways : Array (Option Value)} {oc_ways dc_ways pm_ways cd_ways ct_ways : Value}
    {kV_ways : Value}
    {od_lends an_lends : Option Addr} {sl_lends : Array (Option Value)} {oc_lends dc_lends pm_lends cd_lends ct_lends : Value}
    {kV_lends : Value}
    {od_lwhole an_lwhole : Option Addr} {sl_lwhole : Array (Option Value)} {oc_lwhole dc_lwhole pm_lwhole cd_lwhole ct_lwhole : Value}
    {kV_lwhole : Value}
    {od_isrow an_isrow : Option Addr} {sl_isrow : Array (Option Value)} {oc_isrow dc_isrow pm_isrow cd_isrow ct_isrow : Value}
    {kV_isrow : Value}
    {od_refused an_refused : Option Addr} {sl_refused : Array (Option Value)} {oc_refused dc_refused pm_refused cd_refused ct_refused : Value}
    {kV_refused : Value}
    {od_law an_law : Option Addr} {sl_law : Array (Option Value)} {oc_law dc_law pm_law cd_law ct_law : Value}
    {kV_law : Value}
    {t_ANY : Tok}
    {t_KEPT : Tok}
    {t_FEED : Tok}
    {t_RETURN : Tok}
    {t_BOTH : Tok}
    {t_LINE_FEED : Tok}
    {t_LINE_RETURN : Tok}
    (qa_SipError : PySem.W.nsIn K mainGlobals "SipError" = some (some (.ref C_SipError)))
    (qa_NoEnds : PySem.W.nsIn K mainGlobals "NoEnds" = some (some (.ref C_NoEnds)))
    (qa_NoCode : PySem.W.nsIn K mainGlobals "NoCode" = some (some (.ref C_NoCode)))
    (qa_NoWay : PySem.W.nsIn K mainGlobals "NoWay" = some (some (.ref C_NoWay)))
    (sb_SipError : PySem.W.subIn K (.ref C_SipError) (.type "BaseException") = some true)
    (sh_SipError : PySem.W.hasDictIn K C_SipError = true)
    (st_SipError : PySem.W.typeIn K (.ref C_SipError) = some (.type "type"))
    (jc_NoEnds : PySem.W.isClsIn K C_NoEnds = true)
    (jt_NoEnds : PySem.W.typeIn K (.ref C_NoEnds) = some (.type "type"))
    (jc_NoCode : PySem.W.isClsIn K C_NoCode = true)
    (jt_NoCode : PySem.W.typeIn K (.ref C_NoCode) = some (.type "type"))
    (jc_NoWay : PySem.W.isClsIn K C_NoWay = true)
    (jt_NoWay : PySem.W.typeIn K (.ref C_NoWay) = some (.type "type"))
    (xo_NoEnds : Sip.IsExcObj K C_NoEnds C_SipError)
    (sa_NoEnds : PySem.W.findIn K (.ref C_NoEnds) "__setattr__" = some (some (.builtin "object.__setattr__")))
    (ex_NoEnds : PySem.W.subIn K (.ref C_NoEnds) (.type "BaseException") = some true)
    (ty_NoEnds : PySem.W.typeIn K (.ref C_NoEnds) = some (.type "type"))
    (kx_NoEnds : PySem.W.keepIn K (.ref C_NoEnds) = true)
    (hg_NoEnds : PySem.W.findIn K (.ref C_NoEnds) "__getattribute__" = some (some (.builtin "BaseException.__getattribute__")))
    (hk_NoEnds : PySem.W.findIn K (.ref C_NoEnds) "__getattr__" = some none)
    (hd_NoEnds : PySem.W.hasDictIn K C_NoEnds = true)
    (ha_NoEnds : PySem.W.findIn K (.ref C_NoEnds) "__class__" = some (some (.builtin "object.__class__")))
    (hn_NoEnds : PySem.W.specialIn K (.builtin "object.__class__") "__get__" = some (some (.builtin "getset_descriptor.__get__")))
    (ht_NoEnds : PySem.W.takesIn K (.builtin "object.__class__") = some true)
    (hm_NoEnds : PySem.W.mroIn K C_NoEnds (.type "object") = some true)
    (no_NoEnds : PySem.W.findIn K (.ref C_NoEnds) "word" = some none)
    (ss_NoEnds : PySem.W.subIn K (.ref C_NoEnds) (.ref C_SipError) = some true)
    (se_NoEnds : PySem.W.subIn K (.ref C_NoEnds) (.ref C_NoEnds) = some true)
    (su_NoEnds_NoCode : PySem.W.subIn K (.ref C_NoEnds) (.ref C_NoCode) = some false)
    (su_NoEnds_NoWay : PySem.W.subIn K (.ref C_NoEnds) (.ref C_NoWay) = some false)
    (a_iNoEnds : PySem.W.findIn K (.ref C_NoEnds) "__init__" = some (some (.ref f_iNoEnds)))
    (i_iNoEnds : PySem.W.typeIn K (.ref f_iNoEnds) = some (.type "function"))
    (l_iNoEnds : K.lookup f_iNoEnds = some ⟨oc_iNoEnds, od_iNoEnds, .func (PySem.W.fnOf "__init__" "NoEnds.__init__" (defArgs s_iNoEnds) (defBody s_iNoEnds) (defScope s_iNoEnds) .none kV_iNoEnds dc_iNoEnds pm_iNoEnds an_iNoEnds cd_iNoEnds ct_iNoEnds), sl_iNoEnds⟩)
    (c_iNoEnds : PySem.W.codeIn K cd_iNoEnds "NoEnds.__init__" = true)
    (k_iNoEnds : PySem.W.keepIn K (.ref f_iNoEnds) = true)
    (a_wfeed : PySem.W.nsIn K mainGlobals "written_feed" = some (some (.ref f_wfeed)))
    (l_wfeed : K.lookup f_wfeed = some ⟨oc_wfeed, od_wfeed, .func (PySem.W.fnOf "written_feed" "written_feed" (defArgs s_wfeed) (defBody s_wfeed) (defScope s_wfeed) .none kV_wfeed dc_wfeed pm_wfeed an_wfeed cd_wfeed ct_wfeed), sl_wfeed⟩)
    (c_wfeed : PySem.W.codeIn K cd_wfeed "written_feed" = true)
    (k_wfeed : PySem.W.keepIn K (.ref f_wfeed) = true)
    (a_wends : PySem.W.nsIn K mainGlobals "written_ends" = some (some (.ref f_wends)))
    (l_wends : K.lookup f_wends = some ⟨oc_wends, od_wends, .func (PySem.W.fnOf "written_ends" "written_ends" (defArgs s_wends) (defBody s_wends) (defScope s_wends) .none (.ref K_wends) dc_wends pm_wends an_wends cd_wends ct_wends), sl_wends⟩)
    (c_wends : PySem.W.codeIn K cd_wends "written_ends" = true)
    (k_wends : PySem.W.keepIn K (.ref f_wends) = true)
    (w_wends_0 : PySem.W.nsIn K K_wends "ends" = some (some (.str (Str.ofString "any") kk_wends_0)))
    (a_pool : PySem.W.nsIn K mainGlobals "_law_pool" = some (some (.ref f_pool)))
    (l_pool : K.lookup f_pool = some ⟨oc_pool, od_pool, .func (PySem.W.fnOf "_law_pool" "_law_pool" (defArgs s_pool) (defBody s_pool) (defScope s_pool) .none kV_pool dc_pool pm_pool an_pool cd_pool ct_pool), sl_pool⟩)
    (c_pool : PySem.W.codeIn K cd_pool "_law_pool" = true)
    (k_pool : PySem.W.keepIn K (.ref f_pool) = true)
    (a_take : PySem.W.nsIn K mainGlobals "_law_take" = some (some (.ref f_take)))
    (l_take : K.lookup f_take = some ⟨oc_take, od_take, .func (PySem.W.fnOf "_law_take" "_law_take" (defArgs s_take) (defBody s_take) (defScope s_take) .none kV_take dc_take pm_take an_take cd_take ct_take), sl_take⟩)
    (c_take : PySem.W.codeIn K cd_take "_law_take" = true)
    (k_take : PySem.W.keepIn K (.ref f_take) = true)
    (a_ways : PySem.W.nsIn K mainGlobals "_law_ways" = some (some (.ref f_ways)))
    (l_ways : K.lookup f_ways = some ⟨oc_ways, od_ways, .func (PySem.W.fnOf "_law_ways" "_law_ways" (defArgs s_ways) (defBody s_ways) (defScope s_ways) .none kV_ways dc_ways pm_ways an_ways cd_ways ct_ways), sl_ways⟩)
    (c_ways : PySem.W.codeIn K cd_ways "_law_ways" = true)
    (k_ways : PySem.W.keepIn K (.ref f_ways) = true)
    (a_lends : PySem.W.nsIn K mainGlobals "_law_ends" = some (some (.ref f_lends)))
    (l_lends : K.lookup f_lends = some ⟨oc_lends, od_lends, .func (PySem.W.fnOf "_law_ends" "_law_ends" (defArgs s_lends) (defBody s_lends) (defScope s_lends) .none kV_lends dc_lends pm_lends an_lends cd_lends ct_lends), sl_lends⟩)
    (c_lends : PySem.W.codeIn K cd_lends "_law_ends" = true)
    (k_lends : PySem.W.keepIn K (.ref f_lends) = true)
    (a_lwhole : PySem.W.nsIn K mainGlobals "_law_whole" = some (some (.ref f_lwhole)))
    (l_lwhole : K.lookup f_lwhole = some ⟨oc_lwhole, od_lwhole, .func (PySem.W.fnOf "_law_whole" "_law_whole" (defArgs s_lwhole) (defBody s_lwhole) (defScope s_lwhole) .none kV_lwhole dc_lwhole pm_lwhole an_lwhole cd_lwhole ct_lwhole), sl_lwhole⟩)
    (c_lwhole : PySem.W.codeIn K cd_lwhole "_law_whole" = true)
    (k_lwhole : PySem.W.keepIn K (.ref f_lwhole) = true)
    (a_isrow : PySem.W.nsIn K mainGlobals "_law_is_row" = some (some (.ref f_isrow)))
    (l_isrow : K.lookup f_isrow = some ⟨oc_isrow, od_isrow, .func (PySem.W.fnOf "_law_is_row" "_law_is_row" (defArgs s_isrow) (defBody s_isrow) (defScope s_isrow) .none kV_isrow dc_isrow pm_isrow an_isrow cd_isrow ct_isrow), sl_isrow⟩)
    (c_isrow : PySem.W.codeIn K cd_isrow "_law_is_row" = true)
    (k_isrow : PySem.W.keepIn K (.ref f_isrow) = true)
    (a_refused : PySem.W.nsIn K mainGlobals "_law_refused" = some (some (.ref f_refused)))
    (l_refused : K.lookup f_refused = some ⟨oc_refused, od_refused, .func (PySem.W.fnOf "_law_refused" "_law_refused" (defArgs s_refused) (defBody s_refused) (defScope s_refused) .none kV_refused dc_refused pm_refused an_refused cd_refused ct_refused), sl_refused⟩)
    (c_refused : PySem.W.codeIn K cd_refused "_law_refused" = true)
    (k_refused : PySem.W.keepIn K (.ref f_refused) = true)
    (a_law : PySem.W.nsIn K mainGlobals "law" = some (some (.ref f_law)))
    (l_law : K.lookup f_law = some ⟨oc_law, od_law, .func (PySem.W.fnOf "law" "law" (defArgs s_law) (defBody s_law) (defScope s_law) .none kV_law dc_law pm_law an_law cd_law ct_law), sl_law⟩)
    (c_law : PySem.W.codeIn K cd_law "law" = true)
    (k_law : PySem.W.keepIn K (.ref f_law) = true)
    (v_ANY : PySem.W.nsIn K mainGlobals "ANY" = some (some (.str (Str.ofString "any") t_ANY)))
    (v_KEPT : PySem.W.nsIn K mainGlobals "KEPT" = some (some (.str (Str.ofString "kept") t_KEPT)))
    (v_FEED : PySem.W.nsIn K mainGlobals "FEED" = some (some (.str (Str.ofString "feed") t_FEED)))
    (v_RETURN : PySem.W.nsIn K mainGlobals "RETURN" = some (some (.str (Str.ofString "return") t_RETURN)))
    (v_BOTH : PySem.W.nsIn K mainGlobals "BOTH" = some (some (.str (Str.ofString "both") t_BOTH)))
    (v_LINE_FEED : PySem.W.nsIn K mainGlobals "LINE_FEED" = some (some (.int 10 t_LINE_FEED)))
    (v_LINE_RETURN : PySem.W.nsIn K mainGlobals "LINE_RETURN" = some (some (.int 13 t_LINE_RETURN)))
    (z_list : PySem.W.nsIn K mainGlobals "list" = some none)
    (z_len : PySem.W.nsIn K mainGlobals "len" = some none)
    (z_range : PySem.W.nsIn K mainGlobals "range" = some none)
    (z_int : PySem.W.nsIn K mainGlobals "int" = some none)
    (z_bool : PySem.W.nsIn K mainGlobals "bool" = some none)
    (z_isinstance : PySem.W.nsIn K mainGlobals "isinstance" = some none) :
    ∃ fd : FuncData, (∀ (s : Shared) (v : Value), BindsTo s fd ⟨[v], []⟩ [("_law_script", v)]) ∧ ∀ base : Heap, K.In base → base.Ns mainGlobals mg → FnOk l.prog w K mg base CX0 6 fa fd ["_law_script"] (spLaw K) := by
  have e := hfa.symm.trans (PySem.W.mg_of X G a_law)
  cases e
  have F_iNoEnds := funA_mk (st := s_iNoEnds) l_iNoEnds c_iNoEnds k_iNoEnds
  have F_wfeed := funA_mk (st := s_wfeed) l_wfeed c_wfeed k_wfeed
  have F_wends := funA_mk (st := s_wends) l_wends c_wends k_wends
  have F_pool := funA_mk (st := s_pool) l_pool c_pool k_pool
  have F_take := funA_mk (st := s_take) l_take c_take k_take
  have F_ways := funA_mk (st := s_ways) l_ways c_ways k_ways
  have F_lends := funA_mk (st := s_lends) l_lends c_lends k_lends
  have F_lwhole := funA_mk (st := s_lwhole) l_lwhole c_lwhole k_lwhole
  have F_isrow := funA_mk (st := s_isrow) l_isrow c_isrow k_isrow
  have F_refused := funA_mk (st := s_refused) l_refused c_refused k_refused
  have F_law := funA_mk (st := s_law) l_law c_law k_law
  have KW_wends : KwdV K (.ref K_wends) ([("ends", .str (Str.ofString "any"))] : List (Str × V)) := by
    refine .inr ⟨K_wends, rfl, fun q hq => ?_⟩
    simp only [List.mem_cons, List.mem_nil_iff, or_false] at hq
    rcases hq with rfl
    · exact ⟨_, w_wends_0, ⟨kk_wends_0, rfl⟩⟩
  have FD_wends : FunD K "written_ends" "written_ends" (defArgs s_wends) (defBody s_wends) (defScope s_wends) ([] : List V) ([("ends", .str (Str.ofString "any"))] : List (Str × V)) f_wends (PySem.W.fnOf "written_ends" "written_ends" (defArgs s_wends) (defBody s_wends) (defScope s_wends) .none (.ref K_wends) dc_wends pm_wends an_wends cd_wends ct_wends) := ⟨⟨_, _, _, _, _, _, _, _, _, _, rfl, l_wends, c_wends, .inl ⟨rfl, rfl⟩, KW_wends⟩, k_wends⟩
  obtain ⟨ds_wends_1, v_wends_1, b_wends_1⟩ := FD_wends.binds0 (ps := P_wends) 1 (by decide) rfl fun _ _ _ _ _ _ us ks h1 h2 => match us, ks, h1, h2 with | [_], [_], _, _ => ⟨_, _, _, _, _, _, rfl, rfl, rfl⟩
  have bb_iNoEnds : Binds K (PySem.W.fnOf "__init__" "NoEnds.__init__" (defArgs s_iNoEnds) (defBody s_iNoEnds) (defScope s_iNoEnds) .none kV_iNoEnds dc_iNoEnds pm_iNoEnds an_iNoEnds cd_iNoEnds ct_iNoEnds) P_iNoEnds [] := .all fun us hl => match us, hl with | [_, _], _ => rfl
  have bb_isrow : Binds K (PySem.W.fnOf "_law_is_row" "_law_is_row" (defArgs s_isrow) (defBody s_isrow) (defScope s_isrow) .none kV_isrow dc_isrow pm_isrow an_isrow cd_isrow ct_isrow) P_isrow [] := .all fun us hl => match us, hl with | [_], _ => rfl
  have bb_lends : Binds K (PySem.W.fnOf "_law_ends" "_law_ends" (defArgs s_lends) (defBody s_lends) (defScope s_lends) .none kV_lends dc_lends pm_lends an_lends cd_lends ct_lends) P_lends [] := .all fun us hl => match us, hl with | [_, _], _ => rfl
  have bb_lwhole : Binds K (PySem.W.fnOf "_law_whole" "_law_whole" (defArgs s_lwhole) (defBody s_lwhole) (defScope s_lwhole) .none kV_lwhole dc_lwhole pm_lwhole an_lwhole cd_lwhole ct_lwhole) P_lwhole [] := .all fun us hl => match us, hl with | [_], _ => rfl
  have bb_pool : Binds K (PySem.W.fnOf "_law_pool" "_law_pool" (defArgs s_pool) (defBody s_pool) (defScope s_pool) .none kV_pool dc_pool pm_pool an_pool cd_pool ct_pool) P_pool [] := .all fun us hl => match us, hl with | [_, _], _ => rfl
  have bb_refused : Binds K (PySem.W.fnOf "_law_refused" "_law_refused" (defArgs s_refused) (defBody s_refused) (defScope s_refused) .none kV_refused dc_refused pm_refused an_refused cd_refused ct_refused) P_refused [] := .all fun us hl => match us, hl with | [_, _], _ => rfl
  have bb_take : Binds K (PySem.W.fnOf "_law_take" "_law_take" (defArgs s_take) (defBody s_take) (defScope s_take) .none kV_take dc_take pm_take an_take cd_take ct_take) P_take [] := .all fun us hl => match us, hl with | [_, _], _ => rfl
  have bb_ways : Binds K (PySem.W.fnOf "_law_ways" "_law_ways" (defArgs s_ways) (defBody s_ways) (defScope s_ways) .none kV_ways dc_ways pm_ways an_ways cd_ways ct_ways) P_ways [] := .all fun us hl => match us, hl with | [], _ => rfl
  have bb_wfeed : Binds K (PySem.W.fnOf "written_feed" "written_feed" (defArgs s_wfeed) (defBody s_wfeed) (defScope s_wfeed) .none kV_wfeed dc_wfeed pm_wfeed an_wfeed cd_wfeed ct_wfeed) P_wfeed [] := .all fun us hl => match us, hl with | [_], _ => rfl
  have kb_wends_1_ends : KBn K (PySem.W.fnOf "written_ends" "written_ends" (defArgs s_wends) (defBody s_wends) (defScope s_wends) .none (.ref K_wends) dc_wends pm_wends an_wends cd_wends ct_wends) P_wends 1 ["ends"] (fun us ws => us ++ ws) (fun vs zs => vs ++ zs) := ⟨fun s us ws X l1 l2 => .of_eq (match us, ws, l1, l2 with | [_], [_], _, _ => rfl), fun r1 r2 => Vals.append r1 r2⟩
  let T : Tx K mg := ⟨C_SipError, C_NoEnds, C_NoCode, C_NoWay, f_iNoEnds, _, F_iNoEnds, f_wfeed, _, ⟨F_wfeed, PySem.W.mg_of X G a_wfeed⟩, f_wends, _, ⟨F_wends, PySem.W.mg_of X G a_wends⟩, f_pool, _, ⟨F_pool, PySem.W.mg_of X G a_pool⟩, f_take, _, ⟨F_take, PySem.W.mg_of X G a_take⟩, f_ways, _, ⟨F_ways, PySem.W.mg_of X G a_ways⟩, f_lends, _, ⟨F_lends, PySem.W.mg_of X G a_lends⟩, f_lwhole, _, ⟨F_lwhole, PySem.W.mg_of X G a_lwhole⟩, f_isrow, _, ⟨F_isrow, PySem.W.mg_of X G a_isrow⟩, f_refused, _, ⟨F_refused, PySem.W.mg_of X G a_refused⟩, fa, _, ⟨F_law, PySem.W.mg_of X G a_law⟩, PySem.W.mg_of X G qa_SipError, PySem.W.mg_of X G qa_NoEnds, PySem.W.mg_of X G qa_NoCode, PySem.W.mg_of X G qa_NoWay, ⟨xo_NoEnds, sa_NoEnds, ex_NoEnds, ty_NoEnds, kx_NoEnds⟩, ⟨hg_NoEnds, hk_NoEnds, ex_NoEnds, hd_NoEnds, ha_NoEnds, hn_NoEnds, ht_NoEnds, hm_NoEnds⟩, no_NoEnds, a_iNoEnds, i_iNoEnds, PySem.W.exm_ref sb_SipError sh_SipError st_SipError ss_NoEnds, Sip.kit_own jc_NoEnds jt_NoEnds se_NoEnds, Sip.kit_ownF jc_NoCode jt_NoCode se_NoEnds su_NoEnds_NoCode, Sip.kit_ownF jc_NoWay jt_NoWay se_NoEnds su_NoEnds_NoWay, bb_iNoEnds, bb_isrow, bb_lends, bb_lwhole, bb_pool, bb_refused, bb_take, bb_ways, bb_wfeed, ds_wends_1, v_wends_1, b_wends_1, kb_wends_1_ends, t_ANY, PySem.W.mg_of X G v_ANY, t_KEPT, PySem.W.mg_of X G v_KEPT, t_FEED, PySem.W.mg_of X G v_FEED, t_RETURN, PySem.W.mg_of X G v_RETURN, t_BOTH, PySem.W.mg_of X G v_BOTH, t_LINE_FEED, PySem.W.mg_of X G v_LINE_FEED, t_LINE_RETURN, PySem.W.mg_of X G v_LINE_RETURN, PySem.W.mg_none_of X G z_list, PySem.W.mg_none_of X G z_len, PySem.W.mg_none_of X G z_range, PySem.W.mg_none_of X G z_int, PySem.W.mg_none_of X G z_bool, PySem.W.mg_none_of X G z_isinstance⟩
  exact ⟨_, fun s v => .of_eq rfl, fun base _ _ => ok_law T⟩
end Sip
open PySem PySem.W PyProof.Rows
set_option maxHeartbeats 0 in
theorem PySem.Challenge.cw_sipstack_k51_line_ends_written_holds : PySem.Challenge.rw_sipstack_k51_line_ends_written.Holds := by
  w_on; o_law; k_head; (case hw => w_witness2)
  k_fill
  refine L2.walk_of (l := PySem.Challenge.rw_sipstack_k51_line_ends_written) (n := 63) (k := 6) (x := "_law_script") (CX := fun _ => L2.CX0) (sp := fun w => Sip.spLaw _) rfl (by decide) rfl ⟨rfl, by decide, by decide⟩ (fun w h Y => PySem.W.kIn_of Y) ?F (fun _ _ a ns hl _ hS => ⟨a, ns, rfl, hS, hl, fun _ => rfl⟩) (fun _ _ _ _ _ h => h)
  case F =>
    intro w mg fa h KX G hmg
    refine' Sip.all_mk KX G hmg ?qa_SipError ?qa_NoEnds ?qa_NoCode ?qa_NoWay ?sb_SipError ?sh_SipError ?st_SipError ?jc_NoEnds ?jt_NoEnds ?jc_NoCode ?jt_NoCode ?jc_NoWay ?jt_NoWay ?xo_NoEnds ?sa_NoEnds ?ex_NoEnds ?ty_NoEnds ?kx_NoEnds ?hg_NoEnds ?hk_NoEnds ?hd_NoEnds ?ha_NoEnds ?hn_NoEnds ?ht_NoEnds ?hm_NoEnds ?no_NoEnds ?ss_NoEnds ?se_NoEnds ?su_NoEnds_NoCode ?su_NoEnds_NoWay ?a_iNoEnds ?i_iNoEnds ?l_iNoEnds ?c_iNoEnds ?k_iNoEnds ?a_wfeed ?l_wfeed ?c_wfeed ?k_wfeed ?a_wends ?l_wends ?c_wends ?k_wends ?w_wends_0 ?a_pool ?l_pool ?c_pool ?k_pool ?a_take ?l_take ?c_take ?k_take ?a_ways ?l_ways ?c_ways ?k_ways ?a_lends ?l_lends ?c_lends ?k_lends ?a_lwhole ?l_lwhole ?c_lwhole ?k_lwhole ?a_isrow ?l_isrow ?c_isrow ?k_isrow ?a_refused ?l_refused ?c_refused ?k_refused ?a_law ?l_law ?c_law ?k_law ?v_ANY ?v_KEPT ?v_FEED ?v_RETURN ?v_BOTH ?v_LINE_FEED ?v_LINE_RETURN ?z_list ?z_len ?z_range ?z_int ?z_bool ?z_isinstance
    (case qa_SipError => k_is)
    (case qa_NoEnds => k_is)
    (case qa_NoCode => k_is)
    (case qa_NoWay => k_is)
    (case sb_SipError => k_is)
    (case sh_SipError => k_is)
    (case st_SipError => k_is)
    (case jc_NoEnds => k_is)
    (case jt_NoEnds => k_is)
    (case jc_NoCode => k_is)
    (case jt_NoCode => k_is)
    (case jc_NoWay => k_is)
    (case jt_NoWay => k_is)
    (case xo_NoEnds => exact ⟨_, _, _, _, _, _, _, _, _, _, _, _, _, _, _, (by k_is), (by decide +kernel)⟩)
    (case sa_NoEnds => k_is)
    (case ex_NoEnds => k_is)
    (case ty_NoEnds => k_is)
    (case kx_NoEnds => k_is)
    (case hg_NoEnds => k_is)
    (case hk_NoEnds => k_is)
    (case hd_NoEnds => k_is)
    (case ha_NoEnds => k_is)
    (case hn_NoEnds => k_is)
    (case ht_NoEnds => k_is)
    (case hm_NoEnds => k_is)
    (case no_NoEnds => k_is)
    (case ss_NoEnds => k_is)
    (case se_NoEnds => k_is)
    (case su_NoEnds_NoCode => k_is)
    (case su_NoEnds_NoWay => k_is)
    (case a_iNoEnds => k_is)
    (case i_iNoEnds => k_is)
    (case l_iNoEnds => k_is)
    (case c_iNoEnds => k_is)
    (case k_iNoEnds => k_is)
    (case a_wfeed => k_is)
    (case l_wfeed => k_is)
    (case c_wfeed => k_is)
    (case k_wfeed => k_is)
    (case a_wends => k_is)
    (case l_wends => k_is)
    (case c_wends => k_is)
    (case k_wends => k_is)
    (case w_wends_0 => k_is)
    (case a_pool => k_is)
    (case l_pool => k_is)
    (case c_pool => k_is)
    (case k_pool => k_is)
    (case a_take => k_is)
    (case l_take => k_is)
    (case c_take => k_is)
    (case k_take => k_is)
    (case a_ways => k_is)
    (case l_ways => k_is)
    (case c_ways => k_is)
    (case k_ways => k_is)
    (case a_lends => k_is)
    (case l_lends => k_is)
    (case c_lends => k_is)
    (case k_lends => k_is)
    (case a_lwhole => k_is)
    (case l_lwhole => k_is)
    (case c_lwhole => k_is)
    (case k_lwhole => k_is)
    (case a_isrow => k_is)
    (case l_isrow => k_is)
    (case c_isrow => k_is)
    (case k_isrow => k_is)
    (case a_refused => k_is)
    (case l_refused => k_is)
    (case c_refused => k_is)
    (case k_refused => k_is)
    (case a_law => k_is)
    (case l_law => k_is)
    (case c_law => k_is)
    (case k_law => k_is)
    (case v_ANY => k_is)
    (case v_KEPT => k_is)
    (case v_FEED => k_is)
    (case v_RETURN => k_is)
    (case v_BOTH => k_is)
    (case v_LINE_FEED => k_is)
    (case v_LINE_RETURN => k_is)
    (case z_list => k_is)
    (case z_len => k_is)
    (case z_range => k_is)
    (case z_int => k_is)
    (case z_bool => k_is)
    (case z_isinstance => k_is)
