import PyProof.Rows.All
import Wide.All
import OpenK.AllK
import Wide.FinOn
import HandS.List
import HandS.Codes
import HandS.Comp
import HandS.Iter
import HandS.Ends
import HandS.Text
import HandS.Words
import HandS.WordsList
import HandS.Wide
import HandS.IsInst
import PySem.Challenge.RW_sipstack_k02_laid
set_option Elab.async false
set_option linter.all false
set_option maxRecDepth 100000
namespace Sip
open PySem PySem.Spec PyProof.Rows L2

/-! a slice of step one in a list, laid over by another list; its end may lie behind the list's end -/
theorem clamp {a c n : Nat} (h1 : a ≤ c) (h2 : a ≤ n) :
    sliceBounds (some (a : Int)) (some (c : Int)) none n = ((a : Int), ((min c n : Nat) : Int), 1) := by
  have n1 : ¬ ((a : Int) < 0) := by omega
  have n2 : ¬ ((c : Int) < 0) := by omega
  simp only [sliceBounds, Option.getD_none, n1, n2, if_false, show (1 : Int) > 0 from by decide, if_true]
  refine Prod.ext ?_ (Prod.ext ?_ rfl)
  · show max 0 (min (a : Int) (n : Int)) = (a : Int)
    omega
  · show max 0 (min (c : Int) (n : Int)) = ((min c n : Nat) : Int)
    omega

section
variable {pr : Program} {wd : World} {ar : Around} {er : Value → Shared → Prop} {s : Shared}
set_option maxHeartbeats 4000000 in
theorem put_slice {l b z : Addr} {old new : Array Value} {m m2 a c : Nat} {vl vu : Value} {Q : Unit → Shared → Prop}
    (eo : s.heap.get? l = some { cls := .type "list", data := .seq old m })
    (en : s.heap.get? b = some { cls := .type "list", data := .seq new m2 }) (ne : l ≠ b)
    (hz : s.heap.IsSliceOf z vl vu .none) (pl : IsPart vl (some (a : Int))) (pu : IsPart vu (some (c : Int)))
    (ac : a ≤ c) (an : a ≤ old.size) (fit : old.size + new.size ≤ sizeLine)
    (k : Q () { s with heap := s.heap.update l (Obj.mapSeq fun t => t.extract 0 a ++ new ++ t.extract (min c old.size) t.size) }) :
    wpAny (model pr wd) ar (setItem (.ref l) (.ref z) (.ref b)) Q er s := by
  by_cases hc : c ≤ old.size
  · rw [Nat.min_eq_left hc] at k
    exact setItem_slice eo en ne hz pl pu ac hc fit k
  · have lo : s.heap.IsList l old := PySem.IsL.isList eo
    have ln : s.heap.IsList b new := PySem.IsL.isList en
    obtain ⟨oz, gz, cz, dz⟩ := id hz
    have tz : s.TypeIs (.ref z) "slice" := ⟨oz, gz, cz⟩
    have apart : Builtin.List.listSameRef (.ref l) (.ref b) = false := by
      unfold Builtin.List.listSameRef; exact beq_eq_false_iff_ne.mpr ne
    have zz : ((fun t : Array Value => t.extract 0 a ++ new ++ t.extract (min c old.size) t.size) old).size ≤ sizeLine + 1 := by
      simp only [Array.size_append, Array.size_extract]; omega
    have bd := clamp ac an
    have mx : (max (a : Int) ((min c old.size : Nat) : Int)).toNat = min c old.size := by omega
    unfold setItem
    try (with_reducible refine wpAny_holding ?_)
    try refine wpAny_bind (wpAny_pure ?_)
    refine wpAny_bind (wpAny_sequenceKey lo.typeIs (by decide) (wpAny_bind ?_))
    refine wpAny_callSpecial?_slot (name := Str.ofString "__setitem__") lo.typeIs slot_list_setitem ?_
    refine wpAny_call_entry slot_list_setitem lo.typeIs entry_list_setitem ?_ (args_list_setitem _ _ _)
    show wpAny _ _ (Builtin.List.listSubscript? (.ref z) >>= _) _ _ s
    refine wpAny_bind ?_
    unfold Builtin.List.listSubscript?
    refine wpAny_bind (wpAny_specialOf tz slice_no_index ?_)
    simp only [Option.isNone_none, if_true]
    refine wpAny_pure ?_
    show wpAny _ _ (typeOf (.ref z) >>= _) _ _ s
    refine wpAny_bind (wpAny_typeOf tz ?_)
    first
      | rw [if_neg (by decide)]
      | refine PySem.W.KFB.if_not (by decide) ?_
    rw [listSliceParts_eq]
    refine wpAny_bind (wpAny_bind (wpAny_field gz dz (x := .none) rfl (wpAny_bind (wpAny_listPart .none ?_))))
    rw [if_neg (show ¬ ((rawPart none == rawInt 0) = true) from Bool.false_ne_true)]
    refine wpAny_bind (wpAny_field gz dz (x := vl) rfl (wpAny_bind (wpAny_listPart pl ?_)))
    refine wpAny_bind (wpAny_field gz dz (x := vu) rfl (wpAny_bind (wpAny_listPart pu (wpAny_pure ?_))))
    first
      | simp only [apart, Bool.false_eq_true, if_false]
      | refine PySem.W.KFB.if_not apart ?_
    refine wpAny_bind ?_
    unfold Builtin.List.listAllItems
    refine wpAny_bind (wpAny_typeOf ln.typeIs ?_)
    first
      | refine PySem.W.KFB.if_so (by decide) ?_
      | rw [if_pos (by decide)]
    unfold Builtin.List.listItems
    refine wpAny_bind (wpAny_seqItems en rfl (wpAny_pure (wpAny_bind (wpAny_bind (wpAny_seqItems eo rfl (wpAny_pure ?_))))))
    have si := (sliceIndices_raw (some (a : Int)) (some (c : Int)) none old.size (by simp)).trans (congrArg (pure : Int × Int × Int → Sem (Int × Int × Int)) bd)
    refine wpAny_bind (wpAny_of_eq si ?_)
    show wpAny _ _ (if ((1 : Int) == 1) = true then _ else _) _ _ s
    rw [if_pos (by decide)]
    refine wpAny_bind (wpAny_rule ?_)
    first
      | simp only [notLongL fit, Bool.false_eq_true, if_false]
      | refine PySem.W.KFB.if_not (notLongL fit) ?_
    try refine wpAny_bind (wpAny_pure ?_)
    show wpAny _ _ (updateSeq l (fun t => t.extract 0 ((a : Int)).toNat ++ new ++ t.extract (max (a : Int) ((min c old.size : Nat) : Int)).toNat t.size) >>= _) _ _ s
    rw [mx, Int.toNat_natCast]
    refine wpAny_bind (wpAny_updateSeq (hz := Nat.le_trans (Nat.le_add_right _ _) fit) (_hz' := zz) eo rfl (wpAny_bind (wpAny_letGo ?_)))
    first
      | exact wpAny_bind (wpAny_pure (wpAny_pure ⟨.none, rfl, wpAny_pure k⟩))
      | exact wpAny_pure ⟨.none, rfl, wpAny_pure k⟩
end

section
variable {X : Cx}
theorem splice (xs ys : List Value) (a c : Nat) : xs.toArray.extract 0 a ++ ys.toArray ++ xs.toArray.extract (min c xs.toArray.size) xs.toArray.size = (xs.take a ++ ys ++ xs.drop c).toArray := by
  rw [splice_eq]
  congr 1
  by_cases h : c ≤ xs.length
  · rw [List.size_toArray, Nat.min_eq_left h]
  · rw [List.size_toArray, Nat.min_eq_right (by omega), List.drop_length, List.drop_of_length_le (by omega)]

/-- o[lo:hi] = v, both given, v another list -/
def gCut (to : TE) (tl th : TO) : TG := fun v σ H Q => to σ H fun o H1 => tl σ H1 fun lo H2 => th σ H2 fun hi H3 =>
  ∃ p q xs ys a c, o = .ref p ∧ v = .ref q ∧ lo = some a ∧ hi = some c ∧ H3 p = some (.lst xs) ∧ H3 q = some (.lst ys) ∧ p ≠ q ∧
    0 ≤ a ∧ a ≤ c ∧ a ≤ xs.length ∧ xs.length + ys.length ≤ sizeLine ∧ Q σ (upd H3 p (.lst (xs.take a.toNat ++ ys ++ xs.drop c.toNat)))

theorem pg_cut {o : Expr} {lo hi : Option Expr} {to : TE} {tl th : TO} {p2 pos : Pos} (ho : PE X o to) (hl : PO X lo tl) (hh : PO X hi th)
    (ha : ∀ v, assign (.Subscript o (.Slice lo hi none p2) pos) X.env v = (do
      let ov ← holding [v] (eval o X.env)
      let iv ← holding [v, ov] (eval (.Slice lo hi none p2) X.env)
      standAt pos
      holding [v, ov, iv] (setItem ov iv v)
      release [iv, v, ov] []) := by intro _; rfl) : PG X (.Subscript o (.Slice lo hi none p2) pos) (gCut to tl th) := by
  refine ⟨fun pins s σ H v u Q I r h => ?_⟩
  rw [ha]
  refine wpAny_bind (wpAny_holding (thn (ho.run pins s σ H _ I h) fun ov s1 ⟨x, H1, I1, r1, q1⟩ => wpAny_bind (wpAny_holding ?_)))
  refine wpAny_Slice (thn (hl.run pins s1 σ H1 _ I1 q1) fun wl s2 ⟨l, H2, I2, pl, q2⟩ => ?_)
  refine thn (hh.run pins s2 σ H2 _ I2 q2) fun wu s3 ⟨uu, H3, I3, pu, q3⟩ => ?_
  rw [evalPart_none]
  refine wpAny_pure ?_
  obtain ⟨p, q, xs, ys, a, c, rfl, rfl, rfl, rfl, hp, hq, pq, a0, ac, ax, fit, fin⟩ := q3
  cases r1
  cases r
  have I4 : Inv X pins σ H3 { s3 with heap := s3.heap.push { cls := .type "slice", data := .fields #[wl, wu, .none] } } := I3.kept (t' := s3.toks) fun b ob e => Heap.get?_push_of_some _ e
  refine wpAny_bind (wpAny_standAt (wpAny_bind (wpAny_holding ?_)))
  obtain ⟨z1, us1, n1, rv1, _, e1⟩ := I4.lstM hp
  obtain ⟨z2, us2, n2, rv2, _, e2⟩ := I4.lstM hq
  obtain ⟨a', rfl⟩ := Int.eq_ofNat_of_zero_le a0
  obtain ⟨c', rfl⟩ := Int.eq_ofNat_of_zero_le (Int.le_trans a0 ac)
  simp only [Int.toNat_natCast] at fin
  have L1 := rv1.length
  have L2' := rv2.length
  refine put_slice (a := a') (c := c') e1 e2 pq (Heap.IsSliceOf.new ..) pl pu (by omega) (by rw [List.size_toArray]; omega) (by rw [List.size_toArray, List.size_toArray]; omega) ?_
  refine wpAny_release ⟨σ, _, ?_, fin⟩
  refine I4.lset (its' := us1.take a' ++ us2 ++ us1.drop c') (t' := s3.toks) hp e1 (splice us1 us2 a' c') (Vals.append (Vals.append (rv1.take _) rv2) (rv1.drop _)) ?_
  rw [List.length_append, List.length_append, List.length_take, List.length_drop]
  omega
end
end Sip
namespace Sip
open PySem PySem.Spec PyProof.Rows L2

/-- a def of the text: where it stands, how it is called -/
structure Df (K : PySem.W.Frag) (mg : Str → Option Value) (x : Str) (st : Stmt) (ps : List Str) (f : Addr) (fd : FuncData) : Prop where
  F : Fun K x x st f fd
  b : Binds K fd ps []
  g : mg x = some (.ref f)

/-! heaps: all that was tracked stands, but at the places ps -/
def Kp (ps : List Addr) (H H' : Hp) : Prop := ∀ b o, b ∉ ps → H b = some o → H' b = some o
theorem Kp.refl (ps : List Addr) (H : Hp) : Kp ps H H := fun _ _ _ h => h
theorem Kp.trans {ps : List Addr} {H H1 H2 : Hp} (a : Kp ps H H1) (b : Kp ps H1 H2) : Kp ps H H2 := fun c o n h => b c o n (a c o n h)
theorem Kp.wide {ps qs : List Addr} {H H1 : Hp} (a : Kp ps H H1) (h : ∀ x ∈ ps, x ∈ qs) : Kp qs H H1 := fun c o n e => a c o (fun z => n (h c z)) e
theorem Kp.same {H H1 : Hp} (a : Kp [] H H1) : Same H H1 := fun c o e => a c o (fun h => nomatch h) e
theorem Kp.of {ps : List Addr} {H H1 : Hp} (a : Same H H1) : Kp ps H H1 := fun c o _ e => a c o e
theorem Kp.at {ps : List Addr} {H : Hp} {p : Addr} {o : HO} (h : p ∈ ps) : Kp ps H (upd H p o) := fun b x n e => by
  have hb : b ≠ p := fun z => n (by rw [z]; exact h)
  rw [upd_ne hb]; exact e
theorem Kp.new {ps : List Addr} {H : Hp} {p : Addr} {o : HO} (h : H p = none) : Kp ps H (upd H p o) := fun b x n e => by
  rw [upd_ne (ne_of_none e h)]; exact e
/-- a place that was new at H is written later -/
theorem Kp.put {ps : List Addr} {H H1 : Hp} {p : Addr} {o : HO} (k : Kp ps H H1) (h : H p = none) : Kp ps H (upd H1 p o) := fun b x n e => by
  rw [upd_ne (ne_of_none e h)]; exact k b x n e
theorem Kp.seq {ps : List Addr} {K : PySem.W.Frag} {H H1 : Hp} {a : Addr} {xs : List V} (k : Kp ps H H1) (n : a ∉ ps) (h : SqL K H a xs) : SqL K H1 a xs := by
  rcases h with (h | ⟨o, h⟩) | h
  · exact .inl (.inl (k _ _ n h))
  · exact .inl (.inr ⟨o, k _ _ n h⟩)
  · exact .inr h
theorem Kp.free {H H1 : Hp} {ps : List Addr} (k : Kp ps H H1) {q : Addr} (n : q ∉ ps) (h : H1 q = none) : H q = none := by
  cases e : H q with
  | none => rfl
  | some o => rw [k q o n e] at h; cases h
theorem sq_new {K : PySem.W.Frag} {H : Hp} {p : Addr} {xs : List V} : SqL K (upd H p (.lst xs)) p xs := .inl (.inl upd_same)
theorem sq_at {K : PySem.W.Frag} {H : Hp} {p : Addr} {xs : List V} (h : H p = some (.lst xs)) : SqL K H p xs := .inl (.inl h)
theorem upd_upd {H : Hp} {p : Addr} {a b : HO} : upd (upd H p a) p b = upd H p b := by
  funext x
  by_cases h : x = p
  · subst h; rw [upd_same, upd_same]
  · rw [upd_ne h, upd_ne h, upd_ne h]

/-! the law's own draws: a pool is a list of three ints -/
def PoolO (n : Int) (o : HO) : Prop := ∃ d c x : Int, o = .lst [.int d, .int c, .int x] ∧ 0 ≤ d ∧ 0 ≤ c ∧ c ≤ n
theorem PoolO.up {n m : Int} {o : HO} (h : PoolO n o) (l : n ≤ m) : PoolO m o := by
  obtain ⟨d, c, x, e, h1, h2, h3⟩ := h
  exact ⟨d, c, x, e, h1, h2, by omega⟩
def spTake : Sp := fun vs H Q _ => ∃ (p : Addr) (n wide : Int) (o : HO), vs = [.ref p, .int wide] ∧ H p = some o ∧ PoolO n o ∧ n ≤ 1000000000 ∧ 0 < wide ∧ wide < 1073741824 ∧
  ∀ (r : Int) (o' : HO), 0 ≤ r → r < wide → PoolO (n + 1) o' → Q (.int r) (upd H p o')
def spPool (K : PySem.W.Frag) : Sp := fun vs H Q _ => ∃ (a : Addr) (ns : List Int) (i : Int), vs = [.ref a, .int i] ∧ SqL K H a (ns.map V.int) ∧ ns.length ≤ 63 ∧ 0 ≤ i ∧ i ≤ 1000 ∧
  ∀ (p : Addr) (o : HO), H p = none → PoolO (1000 * i) o → Q (.ref p) (upd H p o)

/-! lists of ints -/
theorem atI_int {ms : List Int} {i : Int} (h0 : 0 ≤ i) (h1 : i < ms.length) : ∃ m, m ∈ ms ∧ atI (ms.map V.int) i = some (.int m) ∧ ms[i.toNat]? = some m := by
  obtain ⟨j, rfl⟩ := Int.eq_ofNat_of_zero_le h0
  have hj : j < ms.length := by omega
  refine ⟨ms[j], List.getElem_mem hj, atI_nat ?_, by rw [Int.toNat_natCast, List.getElem?_eq_getElem hj]⟩
  rw [List.getElem?_map, List.getElem?_eq_getElem hj]; rfl
theorem atI_intV {ms : List Int} {i : Int} (h0 : 0 ≤ i) (h1 : i < ms.length) : atI (ms.map V.int) i = some (.int (ms.getD i.toNat 0)) := by
  obtain ⟨m, _, e, g⟩ := atI_int h0 h1
  rw [e, List.getD_eq_getElem?_getD, g]; rfl
theorem dp_ints {K : PySem.W.Frag} {H : Hp} : ∀ ns : List Int, DpAll K H (ns.map V.int) (ns.map PyData.int)
  | [] => .nil
  | n :: r => .cons (.int n) (dp_ints r)
theorem dp_lst {K : PySem.W.Frag} {H : Hp} {a : Addr} {ns : List Int} (h : SqL K H a (ns.map V.int)) : Dp K H (.ref a) (.list (ns.map PyData.int)) := .lst h (dp_ints ns)
section
variable {X : Cx}
/-- == and != of two lists of ints -/
def rEqI (K : PySem.W.Frag) : R2 := fun x y H Q => ∃ (a b : Addr) (ns ms : List Int), x = .ref a ∧ y = .ref b ∧ SqL K H a (ns.map V.int) ∧ SqL K H b (ms.map V.int) ∧ Q (.bl (decide (ns = ms))) H
def rNeI (K : PySem.W.Frag) : R2 := fun x y H Q => ∃ (a b : Addr) (ns ms : List Int), x = .ref a ∧ y = .ref b ∧ SqL K H a (ns.map V.int) ∧ SqL K H b (ms.map V.int) ∧ Q (.bl (!decide (ns = ms))) H
theorem op_eqI (hu : X.A.units + 64 < cLine) : OpR X (compareOp .Eq) (rEqI X.K) := by
  intro pins s σ H x y v u Q I rx ry h
  obtain ⟨a, b, ns, ms, rfl, rfl, ha, hb, q⟩ := h
  cases rx; cases ry
  obtain ⟨us, rv, hl, _⟩ := I.list ha
  obtain ⟨ws, rw', hl', _⟩ := I.list hb
  exact PySem.W.eq_intsK hl.isList rv.ints hl'.isList rw'.ints hu ⟨.bl (decide (ns = ms)), H, I, rfl, q⟩
theorem op_neI (hu : X.A.units + 64 < cLine) : OpR X (compareOp .NotEq) (rNeI X.K) := by
  intro pins s σ H x y v u Q I rx ry h
  obtain ⟨a, b, ns, ms, rfl, rfl, ha, hb, q⟩ := h
  cases rx; cases ry
  obtain ⟨us, rv, hl, _⟩ := I.list ha
  obtain ⟨ws, rw', hl', _⟩ := I.list hb
  exact PySem.W.ne_intsK hl.isList rv.ints hl'.isList rw'.ints hu ⟨.bl (!decide (ns = ms)), H, I, rfl, q⟩
end
/-! a row laid over another one -/
def laidF (r : List Int) (n : Nat) (d : List Int) : List Int :=
  if d = [] then r else (r ++ List.replicate (n - r.length) 0).take n ++ d ++ (r ++ List.replicate (n - r.length) 0).drop (n + d.length)
theorem laidF_nil (r : List Int) (n : Nat) : laidF r n [] = r := if_pos rfl
theorem laidF_cons {r : List Int} {n : Nat} {d : List Int} (h : d ≠ []) : laidF r n d = (r ++ List.replicate (n - r.length) 0).take n ++ d ++ (r ++ List.replicate (n - r.length) 0).drop (n + d.length) := if_neg h
theorem laidF_length {r : List Int} {n : Nat} {d : List Int} (h : d ≠ []) : (laidF r n d).length = max r.length (n + d.length) := by
  rw [laidF_cons h, List.length_append, List.length_append, List.length_take, List.length_drop, List.length_append, List.length_replicate]
  omega
theorem pad_get (r : List Int) (m i : Nat) : (r ++ List.replicate m 0)[i]?.getD 0 = r.getD i 0 := by
  rw [List.getD_eq_getElem?_getD]
  by_cases h : i < r.length
  · rw [List.getElem?_append_left h]
  · rw [List.getElem?_append_right (by omega), List.getElem?_eq_none (l := r) (by omega)]
    by_cases h2 : i - r.length < m
    · rw [List.getElem?_replicate, if_pos h2]; rfl
    · rw [List.getElem?_eq_none (by rw [List.length_replicate]; omega)]
theorem laidF_getD {r : List Int} {n : Nat} {d : List Int} (h : d ≠ []) (i : Nat) : (laidF r n d)[i]?.getD 0 = if n ≤ i ∧ i < n + d.length then d.getD (i - n) 0 else r.getD i 0 := by
  have lt : ((r ++ List.replicate (n - r.length) 0).take n).length = n := by
    rw [List.length_take, List.length_append, List.length_replicate]; omega
  rw [laidF_cons h, List.append_assoc]
  by_cases h1 : i < n
  · rw [if_neg (by omega), List.getElem?_append_left (by rw [lt]; exact h1), List.getElem?_take_of_lt h1]
    exact pad_get r _ i
  · rw [List.getElem?_append_right (by rw [lt]; omega), lt]
    by_cases h2 : i < n + d.length
    · rw [if_pos ⟨by omega, h2⟩, List.getElem?_append_left (by omega), List.getD_eq_getElem?_getD]
    · rw [if_neg (by omega), List.getElem?_append_right (by omega), List.getElem?_drop, ← pad_get r (n - r.length) i]
      congr 2
      omega
theorem laidF_get {r : List Int} {n : Nat} {d : List Int} {i : Nat} (h : d ≠ []) (hi : i < (laidF r n d).length) : (laidF r n d)[i]? = some (if n ≤ i ∧ i < n + d.length then d.getD (i - n) 0 else r.getD i 0) := by
  rw [← laidF_getD h i, List.getElem?_eq_getElem hi]; rfl
theorem ext_getD {xs ys : List Int} (hl : xs.length = ys.length) (h : ∀ i, i < xs.length → xs[i]?.getD 0 = ys[i]?.getD 0) : xs = ys := by
  apply List.ext_getElem hl
  intro i h1 h2
  have := h i h1
  rw [List.getElem?_eq_getElem h1, List.getElem?_eq_getElem h2] at this
  exact this
/-- laid over once more: the same -/
theorem laidF_twice (r : List Int) (n : Nat) (d : List Int) : laidF (laidF r n d) n d = laidF r n d := by
  by_cases h : d = []
  · subst h; rw [laidF_nil, laidF_nil]
  · have l1 := laidF_length (r := r) (n := n) h
    have l2 := laidF_length (r := laidF r n d) (n := n) h
    refine ext_getD (by omega) fun i hi => ?_
    rw [laidF_getD h, laidF_getD h]
    split
    · rfl
    · next c => rw [List.getD_eq_getElem?_getD, laidF_getD h, if_neg c]
theorem flat_rep (m : Nat) (v : V) : (List.replicate m [v]).flatten = List.replicate m v := by
  induction m with
  | zero => rfl
  | succ m ih => rw [List.replicate_succ, List.flatten_cons, ih, List.replicate_succ]; rfl
theorem all_true (n : Nat) : (List.replicate n true).all id = true := by
  rw [List.all_eq_true]
  intro x hx
  exact (List.mem_replicate.mp hx).2
def spBytes : Sp := fun vs H Q _ => ∃ (p : Addr) (n : Int) (o : HO), vs = [.ref p] ∧ H p = some o ∧ PoolO n o ∧ n ≤ 900000000 ∧
  ∀ (H' : Hp) (q : Addr) (bs : List Int) (o' : HO), H q = none → H' q = some (.lst (bs.map V.int)) → H' p = some o' → PoolO (n + 1000) o' → Kp [p] H H' → bs.length ≤ 400 → (∀ b ∈ bs, 0 ≤ b ∧ b ≤ 255) → Q (.ref q) H'
def spLaid (K : PySem.W.Frag) : Sp := fun vs H Q _ => ∃ (a b : Addr) (r : List Int) (n : Nat) (d : List Int), vs = [.ref a, .int n, .ref b] ∧ SqL K H a (r.map V.int) ∧ H b = some (.lst (d.map V.int)) ∧ r.length ≤ 10000 ∧ n ≤ 4400 ∧ d.length ≤ 4400 ∧
  ∀ (H' : Hp) (q : Addr), H q = none → H' q = some (.lst ((laidF r n d).map V.int)) → Same H H' → Q (.ref q) H'
def spDue (K : PySem.W.Frag) : Sp := fun vs H Q _ => ∃ (a b : Addr) (r : List Int) (n : Nat) (d : List Int), vs = [.ref a, .int n, .ref b] ∧ SqL K H a (r.map V.int) ∧ SqL K H b (d.map V.int) ∧ r.length ≤ 10000 ∧ n ≤ 4400 ∧ d.length ≤ 4400 ∧
  ∀ (H' : Hp) (q : Addr), H q = none → H' q = some (.lst ((laidF r n d).map V.int)) → Same H H' → Q (.ref q) H'
def spFits (K : PySem.W.Frag) : Sp := fun vs H Q _ => ∃ (a b : Addr) (xs ys : List Int), vs = [.ref a, .ref b] ∧ H a = some (.lst (xs.map V.int)) ∧ SqL K H b (ys.map V.int) ∧ xs.length ≤ 100000 ∧
  ∀ H' : Hp, Same H H' → Q (.bl (decide (xs = ys))) H'
def spLaw (K : PySem.W.Frag) : Sp := fun vs H Q _ => ∃ (a : Addr) (ns : List Int), vs = [.ref a] ∧ SqL K H a (ns.map V.int) ∧ ns.length ≤ 63 ∧ ∀ H' : Hp, Q (.bl true) H'
theorem step_same {H H1 H2 : Hp} {p : Addr} (s : Same H H1) (n : H p = none) (k : Kp [p] H1 H2) : Same H H2 := fun b o e =>
  k b o (fun z => ne_of_none e n (List.mem_singleton.mp z)) (s b o e)
theorem put_same {H H1 : Hp} {p : Addr} {o : HO} (s : Same H H1) (n : H p = none) : Same H (upd H1 p o) := fun b x e => by
  rw [upd_ne (ne_of_none e n)]; exact s b x e
theorem ixN_zero {n : Nat} (h : 0 < n) : ixN n 0 = some 0 := by
  unfold ixN
  rw [if_pos (by decide), if_pos (by omega)]; rfl
theorem laidF_le {r d : List Int} {n m : Nat} (h : r.length ≤ m ∧ n + d.length ≤ m) : (laidF r n d).length ≤ m := by
  by_cases e : d = []
  · subst e; rw [laidF_nil]; exact h.1
  · rw [laidF_length e]; omega
end Sip
namespace Sip
open PySem PySem.Spec PyProof.Rows L2
def topS (i : Nat) : Stmt := PySem.Challenge.pw_sipstack_k02_laid.main.body.getD i (.Pass ⟨0, 0, 0, 0⟩)
abbrev s_pool : Stmt := topS 3
abbrev N_pool : List Str := ["_law_script", "_law_at", "_law_cell", "_law_digits"]
abbrev P_pool : List Str := ["_law_script", "_law_at"]
theorem sc_pool : FnScope N_pool P_pool (defScope s_pool) := ⟨rfl, rfl, rfl, by decide +kernel, rfl, by decide +kernel, by decide +kernel⟩
abbrev s_take : Stmt := topS 4
abbrev N_take : List Str := ["_law_pool_here", "_law_wide", "_law_found", "_law_seed"]
abbrev P_take : List Str := ["_law_pool_here", "_law_wide"]
theorem sc_take : FnScope N_take P_take (defScope s_take) := ⟨rfl, rfl, rfl, by decide +kernel, rfl, by decide +kernel, by decide +kernel⟩
abbrev s_bytes : Stmt := topS 5
abbrev N_bytes : List Str := ["_law_pool_here", "_law_many", "_law_found", "_law_k"]
abbrev P_bytes : List Str := ["_law_pool_here"]
theorem sc_bytes : FnScope N_bytes P_bytes (defScope s_bytes) := ⟨rfl, rfl, rfl, by decide +kernel, rfl, by decide +kernel, by decide +kernel⟩
abbrev s_due : Stmt := topS 6
abbrev N_due : List Str := ["_law_row", "_law_place", "_law_data", "_law_found", "_law_k"]
abbrev P_due : List Str := ["_law_row", "_law_place", "_law_data"]
theorem sc_due : FnScope N_due P_due (defScope s_due) := ⟨rfl, rfl, rfl, by decide +kernel, rfl, by decide +kernel, by decide +kernel⟩
abbrev s_fits : Stmt := topS 7
abbrev N_fits : List Str := ["_law_found", "_law_due_here", "_law_thing"]
abbrev P_fits : List Str := ["_law_found", "_law_due_here"]
theorem sc_fits : FnScope N_fits P_fits (defScope s_fits) := ⟨rfl, rfl, rfl, by decide +kernel, rfl, by decide +kernel, by decide +kernel⟩
abbrev s_laid : Stmt := topS 1
abbrev N_laid : List Str := ["row", "place", "data", "told"]
abbrev P_laid : List Str := ["row", "place", "data"]
theorem sc_laid : FnScope N_laid P_laid (defScope s_laid) := ⟨rfl, rfl, rfl, by decide +kernel, rfl, by decide +kernel, by decide +kernel⟩
abbrev s_law : Stmt := topS 8
abbrev N_law : List Str := ["_law_script", "_law_pool_here", "_law_row", "_law_way", "_law_place", "_law_data", "_law_due_here", "_law_handed", "_law_other", "_law_found", "_law_again"]
abbrev P_law : List Str := ["_law_script"]
theorem sc_law : FnScope N_law P_law (defScope s_law) := ⟨rfl, rfl, rfl, by decide +kernel, rfl, by decide +kernel, by decide +kernel⟩
section
variable {P : Program} {w : World} {K : PySem.W.Frag} {mg : Str → Option Value} {base : Heap}

theorem ok_pool {f : Addr} {fd : FuncData} (F : Fun K "_law_pool" "_law_pool" s_pool f fd) (m_len : mg "len" = none) : FnOk P w K mg base CX0 1 f fd P_pool (spPool K) := by
  refine F.ok sc_pool (fun vs H Q E h => ?_) (fun cdv A outer s H vs Q E hr h => ?_)
  · obtain ⟨a, ns, i, rfl, _⟩ := h
    rfl
  · obtain ⟨a, ns, i, rfl, hS, h63, i0, i1, q⟩ := h
    refine ⟨_, (pss_cons (ps_set (i := 2) sc_pool.nd rfl (.inl rfl) pe_int)
      (C8.pss_cut (ps_if (pt_cmpR op_gt (pe_callB call_len_seq (by rfl) m_len PySem.boot_len (pa_cons (pv 0) pa_nil)) pe_int (nomark _)) (pss_one (ps_set (i := 2) sc_pool.nd rfl (.inl rfl) (pe_ix ix_list (pv 0) (pe_op op_mod (pv 1) (pe_callB call_len_seq (by rfl) m_len PySem.boot_len (pa_cons (pv 0) pa_nil))) (fun _ _ => rfl)))) pss_nil)
      (pss_cons (ps_set (i := 3) sc_pool.nd rfl (.inl rfl) pe_int)
      (C8.pss_cut (ps_if (PW.pt (pw_and (pt_cmpR op_ge (pv 2) (pe_op op_pow pe_int pe_int) (nomark _)) (pw_and1 (pt_cmpR op_lt (pv 1) (pe_callB call_len_seq (by rfl) m_len PySem.boot_len (pa_cons (pv 0) pa_nil)) (nomark _))))) (pss_one (ps_set (i := 3) sc_pool.nd rfl (.inl rfl) (pv 2))) pss_nil)
      (pss_one (ps_ret (pe_lst (pa_cons (pv 3) (pa_cons (pe_op op_mul pe_int (pv 1)) (pa_cons (pv 2) pa_nil)))))))))), ?_⟩
    refine ⟨fun σ' H' => H' = H ∧ ∃ c : Int, σ' = [some (.ref a), some (.int i), some (.int c), none], ?_, fun σ' H' hm => ?_⟩
    · refine ⟨.ref a, rfl, a, ns.map V.int, rfl, .inl hS, _, _, rfl, rfl, _, rfl, ite2 (fun e => ?_) (fun e => ?_)⟩
      · have e1 : (0 : Int) < ((ns.map V.int).length : Int) := of_decide_eq_true e
        rw [List.length_map] at e1
        obtain ⟨m, _, em, _⟩ := atI_int (ms := ns) (i := i % (ns.length : Int)) (Int.emod_nonneg _ (by omega)) (Int.emod_lt_of_pos _ e1)
        refine ⟨.ref a, rfl, .int i, rfl, .ref a, rfl, a, ns.map V.int, rfl, .inl hS, _, _, rfl, rfl, ?_, a, _, _, .int m, rfl, rfl, hS, ?_, rfl, m, rfl⟩
        · rw [List.length_map]; exact e1
        · rw [List.length_map]; exact em
      · exact ⟨rfl, 0, rfl⟩
    · obtain ⟨rfl, c, rfl⟩ := hm
      refine ⟨fun σ' H'' => H'' = H' ∧ ∃ d : Int, 0 ≤ d ∧ σ' = [some (.ref a), some (.int i), some (.int c), some (.int d)], ?_, fun σ' H'' hm => ?_⟩
      · refine ⟨.int c, rfl, _, _, rfl, rfl, ⟨by decide, by decide, by decide⟩, _, _, rfl, rfl, _, rfl, ite2 (fun e => ?_) (fun e => iteF ⟨rfl, 0, by decide, rfl⟩)⟩
        have e1 : ((10 : Int) ^ (18 : Int).toNat) ≤ c := of_decide_eq_true e
        refine ⟨.int i, rfl, .ref a, rfl, a, ns.map V.int, rfl, .inl hS, _, _, rfl, rfl, _, rfl, ite2 (fun e => ?_) (fun e => ⟨rfl, 0, by decide, rfl⟩)⟩
        exact ⟨.int c, rfl, rfl, c, Int.le_trans (by decide) e1, rfl⟩
      · obtain ⟨rfl, d, d0, rfl⟩ := hm
        refine ⟨.int d, rfl, .int i, rfl, _, _, rfl, rfl, .inl ⟨by decide, by decide⟩, .int c, rfl, by show (3 : Nat) ≤ sizeLine; decide, fun p np => q p _ np ⟨d, 1000 * i, c, rfl, d0, by omega, by omega⟩⟩

theorem ok_take {f : Addr} {fd : FuncData} (F : Fun K "_law_take" "_law_take" s_take f fd) : FnOk P w K mg base CX0 1 f fd P_take spTake := by
  refine F.ok sc_take (fun vs H Q E h => ?_) (fun cdv A outer s H vs Q E hr h => ?_)
  · obtain ⟨p, n, wd, o, rfl, _⟩ := h
    rfl
  · obtain ⟨p, n, wd, o, rfl, hp, ⟨d, c, x, rfl, d0, c0, cn⟩, n9, w0, w1, q⟩ := h
    refine ⟨_, (pss_cons (ps_if (pt_cmpR op_gt (pe_ix ix_list (pv 0) pe_int (fun _ _ => rfl)) pe_int (nomark _)) (pss_cons (ps_set (i := 2) sc_take.nd rfl (.inl rfl) (pe_op op_mod (pe_ix ix_list (pv 0) pe_int (fun _ _ => rfl)) (pv 1)))
      (pss_cons (ps_asg (pe_op op_fdiv (pe_ix ix_list (pv 0) pe_int (fun _ _ => rfl)) (pv 1)) (pg_sub (pv 0) pe_int set_list))
      (pss_one (ps_ret (pv 2))))) pss_nil)
      (pss_cons (ps_asg (pe_op op_add (pe_ix ix_list (pv 0) pe_int (fun _ _ => rfl)) pe_int) (pg_sub (pv 0) pe_int set_list))
      (pss_cons (ps_set (i := 3) sc_take.nd rfl (.inl rfl) (pe_op op_mod (pe_op op_pow (pe_op op_add (pe_op op_mod (pe_ix ix_list (pv 0) pe_int (fun _ _ => rfl)) pe_int) (pe_op op_mul pe_int (pe_ix ix_list (pv 0) pe_int (fun _ _ => rfl)))) pe_int) pe_int))
      (pss_cons (ps_set (i := 3) sc_take.nd rfl (.inl rfl) (pe_op op_add (pe_op op_mul (pv 3) pe_int) (pe_op op_mul (pe_op op_mul (pe_ix ix_list (pv 0) pe_int (fun _ _ => rfl)) (pe_ix ix_list (pv 0) pe_int (fun _ _ => rfl))) pe_int)))
      (pss_one (ps_ret (pe_op op_mod (pe_op op_fdiv (pe_op op_mod (pe_op op_add (pv 3) (pe_op op_fdivW (pe_ix ix_list (pv 0) pe_int (fun _ _ => rfl)) pe_int)) pe_int) pe_int) (pv 1)))))))), ?_⟩
    have S0 : SqL K H p [.int d, .int c, .int x] := sq_at hp
    refine ⟨.ref p, rfl, p, _, 0, .int d, rfl, rfl, S0, rfl, d, 0, rfl, rfl, _, rfl, ite2 (fun e => ?_) (fun e => ?_)⟩
    · refine ⟨.ref p, rfl, p, _, 0, .int d, rfl, rfl, S0, rfl, .int wd, rfl, d, wd, rfl, rfl, w0, ?_⟩
      refine ⟨.ref p, rfl, p, _, 0, .int d, rfl, rfl, S0, rfl, .int wd, rfl, d, wd, rfl, rfl, ⟨w0, w1⟩, ?_⟩
      refine ⟨.ref p, rfl, p, _, 0, 0, rfl, rfl, hp, rfl, .int (d % wd), rfl, ?_⟩
      exact q _ _ (Int.emod_nonneg _ (by omega)) (Int.emod_lt_of_pos _ w0) ⟨d / wd, c, x, rfl, Int.ediv_nonneg d0 (by omega), c0, by omega⟩
    · refine ⟨.ref p, rfl, p, _, 1, .int c, rfl, rfl, S0, rfl, c, 1, rfl, rfl, .ref p, rfl, p, _, 1, 1, rfl, rfl, hp, rfl, ?_⟩
      have S1 : SqL K (upd H p (.lst [.int d, .int (c + 1), .int x])) p [.int d, .int (c + 1), .int x] := sq_new
      have y0 : 0 ≤ x % 2147483647 := Int.emod_nonneg _ (by decide)
      have y1 : x % 2147483647 < 2147483647 := Int.emod_lt_of_pos _ (by decide)
      refine ⟨.ref p, rfl, p, _, 2, .int x, rfl, rfl, S1, rfl, x, _, rfl, rfl, by show (0 : Int) < 2147483647; decide, .ref p, rfl, p, _, 1, .int (c + 1), rfl, rfl, S1, rfl, 40503, c + 1, rfl, rfl, .inl ⟨by decide, by decide⟩, _, _, rfl, rfl, _, 5, rfl, rfl, ⟨by decide, by decide, ?_⟩, _, 2147483647, rfl, rfl, by show (0 : Int) < 2147483647; decide, ?_⟩
      · show (x % 2147483647 + 40503 * (c + 1)).natAbs < 18446744073709551616
        omega
      · refine ⟨_, rfl, _, 48271, rfl, rfl, .inr ⟨by decide, by decide⟩, .ref p, rfl, p, _, 1, .int (c + 1), rfl, rfl, S1, rfl, .ref p, rfl, p, _, 1, .int (c + 1), rfl, rfl, S1, rfl, c + 1, c + 1, rfl, rfl, .inl ⟨by omega, by omega⟩, _, 39373, rfl, rfl, .inr ⟨by decide, by decide⟩, _, _, rfl, rfl, ?_⟩
        refine ⟨_, rfl, .ref p, rfl, p, _, 2, .int x, rfl, rfl, S1, rfl, x, _, rfl, rfl, wide_div (b := 32) (by decide) (by decide) (by decide) (by decide), _, _, rfl, rfl, _, _, rfl, rfl, by show (0 : Int) < 1000000007; decide, _, 16, rfl, rfl, ⟨by decide, by decide⟩, .int wd, rfl, _, wd, rfl, rfl, w0, ?_⟩
        exact q _ _ (Int.emod_nonneg _ (by omega)) (Int.emod_lt_of_pos _ w0) ⟨d, c + 1, x, rfl, d0, by omega, by omega⟩

theorem ok_bytes {f : Addr} {fd : FuncData} (F : Fun K "_law_bytes" "_law_bytes" s_bytes f fd) {f_take : Addr} {fd_take : FuncData} (D_take : Df K mg "_law_take" s_take P_take f_take fd_take) (m_range : mg "range" = none) : FnOk P w K mg base CX0 2 f fd P_bytes spBytes := by
  have G_take : FnOk P w K mg base CX0 1 f_take fd_take P_take spTake := ok_take D_take.F
  refine F.ok sc_bytes (fun vs H Q E h => ?_) (fun cdv A outer s H vs Q E hr h => ?_)
  · obtain ⟨p, n, o, rfl, _⟩ := h
    rfl
  · obtain ⟨p, n, o, rfl, hp, hP, n9, q⟩ := h
    refine ⟨_, (pss_cons (ps_set (i := 1) sc_bytes.nd rfl (.inl rfl) (pe_ix ix_list (pe_lst (pa_cons pe_int (pa_cons pe_int (pa_cons pe_int (pa_cons pe_int (pa_cons pe_int (pa_cons pe_int (pa_cons pe_int (pa_cons pe_int (pa_cons pe_int (pa_cons pe_int pa_nil))))))))))) (pe_call G_take (hr.mono (by decide)) (by rfl) D_take.g D_take.F.kp D_take.b .nil pass0 (pa_cons (pv 0) (pa_cons pe_int pa_nil))) (fun _ _ => rfl)))
      (pss_cons (ps_set (i := 2) sc_bytes.nd rfl (.inl rfl) (pe_lst pa_nil))
      (pss_cons (ps_for PassesOwn.never rfl (pi_range1 (by rfl) m_range (pa_cons (pv 1) pa_nil)) (pg_name (i := 3) sc_bytes.nd rfl (.inl rfl)) (pss_one (ps_if (pt_cmpR op_eq (pe_call G_take (hr.mono (by decide)) (by rfl) D_take.g D_take.F.kp D_take.b .nil pass0 (pa_cons (pv 0) (pa_cons pe_int pa_nil))) pe_int (nomark _)) (pss_one (ps_expr (pe_bm PySem.F.plainAttrs_list PySem.F.slot_list_append PySem.F.type_list_append mt_append (pv 2) (pa_cons (pe_ix ix_list (pe_lst (pa_cons pe_int (pa_cons pe_int (pa_cons pe_int (pa_cons pe_int pa_nil))))) (pe_call G_take (hr.mono (by decide)) (by rfl) D_take.g D_take.F.kp D_take.b .nil pass0 (pa_cons (pv 0) (pa_cons pe_int pa_nil))) (fun _ _ => rfl)) pa_nil)))) (pss_one (ps_expr (pe_bm PySem.F.plainAttrs_list PySem.F.slot_list_append PySem.F.type_list_append mt_append (pv 2) (pa_cons (pe_call G_take (hr.mono (by decide)) (by rfl) D_take.g D_take.F.kp D_take.b .nil pass0 (pa_cons (pv 0) (pa_cons pe_int pa_nil))) pa_nil)))))))
      (pss_one (ps_ret (pv 2)))))), ?_⟩
    refine ⟨by show (10 : Nat) ≤ sizeLine; decide, fun l nl => ?_⟩
    have pl : p ≠ l := ne_of_none hp nl
    refine ⟨.ref p, rfl, p, n, 10, o, rfl, by rw [upd_ne pl]; exact hp, hP, by omega, by decide, by decide, fun r o1 r0 r1 hP1 => ?_⟩
    obtain ⟨m, mm, em, _⟩ := atI_int (ms := [0, 1, 2, 3, 5, 8, 13, 30, 60, 400]) (i := r) r0 r1
    have mb : 0 ≤ m ∧ m ≤ 400 := (show ∀ y ∈ ([0, 1, 2, 3, 5, 8, 13, 30, 60, 400] : List Int), 0 ≤ y ∧ y ≤ 400 by decide) m mm
    refine ⟨l, _, r, .int m, rfl, rfl, .inl (.inl (by rw [upd_ne pl.symm, upd_same]; rfl)), em, Nat.zero_le _, fun a na => ?_⟩
    have hp2 : (upd (upd H l (.lst [.int 0, .int 1, .int 2, .int 3, .int 5, .int 8, .int 13, .int 30, .int 60, .int 400])) p o1) p = some o1 := upd_same
    have pa : p ≠ a := ne_of_none hp2 na
    have k2 : Kp [p] H (upd (upd H l (.lst [.int 0, .int 1, .int 2, .int 3, .int 5, .int 8, .int 13, .int 30, .int 60, .int 400])) p o1) := (Kp.new nl).trans (Kp.at (by simp))
    have ha0 : H a = none := k2.free (by simpa using pa.symm) na
    refine ⟨.int m, rfl, m, rfl, by omega, by omega, for_range (lo := 0) (n := m.toNat) (fun i σ H' => ∃ (bs : List Int) (o2 : HO) (y : Option V), σ = [some (.ref p), some (.int m), some (.ref a), y] ∧ H' a = some (.lst (bs.map V.int)) ∧ bs.length = i ∧ (∀ b ∈ bs, 0 ≤ b ∧ b ≤ 255) ∧ H' p = some o2 ∧ PoolO (n + 1 + 2 * i) o2 ∧ Kp [p] H H') ?_ (fun i σ H' hi hW => ?_) (fun σ H' hW => ?_)⟩
    · exact ⟨[], o1, none, rfl, upd_same, rfl, by simp, by rw [upd_ne pa]; exact upd_same, hP1.up (by omega), k2.put ha0⟩
    · obtain ⟨bs, o2, y, rfl, ea, eb, hb, ep, hP2, kk⟩ := hW
      have fit : (bs.map V.int).length < sizeLine := by rw [List.length_map]; exact small1000 (by omega)
      refine ⟨.ref p, rfl, p, _, 4, o2, rfl, ep, hP2, by omega, by decide, by decide, fun r2 o3 s0 s1 hP3 => ?_⟩
      have ea3 : (upd H' p o3) a = some (.lst (bs.map V.int)) := by rw [upd_ne pa.symm]; exact ea
      have k3 : Kp [p] H (upd H' p o3) := kk.trans (Kp.at (by simp))
      refine ⟨rfl, _, rfl, ite2 (fun e => ?_) (fun e => ?_)⟩
      · refine ⟨.ref a, rfl, .inl ⟨rfl, _, sq_at ea3⟩, by show (4 : Nat) ≤ sizeLine; decide, fun l2 nl2 => ?_⟩
        have pl2 : p ≠ l2 := ne_of_none (upd_same : (upd H' p o3) p = some o3) nl2
        have al2 : a ≠ l2 := ne_of_none ea3 nl2
        refine ⟨.ref p, rfl, p, _, 4, o3, rfl, by rw [upd_ne pl2]; exact upd_same, hP3, by omega, by decide, by decide, fun r3 o4 t0 t1 hP4 => ?_⟩
        obtain ⟨z, mz, ez, _⟩ := atI_int (ms := [0, 10, 13, 255]) (i := r3) t0 t1
        have zb : 0 ≤ z ∧ z ≤ 255 := (show ∀ y ∈ ([0, 10, 13, 255] : List Int), 0 ≤ y ∧ y ≤ 255 by decide) z mz
        refine ⟨l2, _, r3, .int z, rfl, rfl, .inl (.inl (by rw [upd_ne pl2.symm, upd_same]; rfl)), ez, a, bs.map V.int, .int z, rfl, rfl, by rw [upd_ne pa.symm, upd_ne al2]; exact ea3, fit, ?_⟩
        refine ⟨bs ++ [z], o4, _, rfl, by rw [upd_same, List.map_append]; rfl, by rw [List.length_append, eb]; rfl, ?_, by rw [upd_ne pa]; exact upd_same, hP4.up (by omega), ((k3.trans (Kp.new nl2)).trans (Kp.at (by simp))).put ha0⟩
        intro b hb2
        rcases List.mem_append.mp hb2 with hb3 | hb3
        · exact hb b hb3
        · rw [List.mem_singleton.mp hb3]; exact zb
      · refine ⟨.ref a, rfl, .inl ⟨rfl, _, sq_at ea3⟩, .ref p, rfl, p, _, 256, o3, rfl, upd_same, hP3, by omega, by decide, by decide, fun z o4 t0 t1 hP4 => ?_⟩
        refine ⟨a, bs.map V.int, .int z, rfl, rfl, by rw [upd_ne pa.symm]; exact ea3, fit, ?_⟩
        refine ⟨bs ++ [z], o4, _, rfl, by rw [upd_same, List.map_append]; rfl, by rw [List.length_append, eb]; rfl, ?_, by rw [upd_ne pa]; exact upd_same, hP4.up (by omega), (k3.trans (Kp.at (by simp))).put ha0⟩
        intro b hb2
        rcases List.mem_append.mp hb2 with hb3 | hb3
        · exact hb b hb3
        · rw [List.mem_singleton.mp hb3]; exact ⟨t0, by omega⟩
    · obtain ⟨bs, o2, y, rfl, ea, eb, hb, ep, hP2, kk⟩ := hW
      exact ⟨.ref a, rfl, q H' a bs o2 ha0 ea ep (hP2.up (by omega)) kk (by omega) hb⟩

theorem ok_laid {f : Addr} {fd : FuncData} {k : Nat} (F : Fun K "laid" "laid" s_laid f fd) (m_list : mg "list" = none) (m_len : mg "len" = none) : FnOk P w K mg base CX0 (k + 1) f fd P_laid (spLaid K) := by
  refine F.ok sc_laid (fun vs H Q E h => ?_) (fun cdv A outer s H vs Q E hr h => ?_)
  · obtain ⟨a, b, r, n, d, rfl, _⟩ := h
    rfl
  · obtain ⟨a, b, r, n, d, rfl, hA, hB, lr, ln, ld, q⟩ := h
    refine ⟨_, (pss_cons (ps_set (i := 3) sc_laid.nd rfl (.inl rfl) (pe_callTy call_list_of (by rfl) m_list (by decide +kernel) (pa_cons (pv 0) pa_nil)))
      (pss_cons (ps_if (pt_not (pt_truth (pv 2) (by intro _; rfl))) (pss_one (ps_ret (pv 3))) pss_nil)
      (pss_cons (ps_expr (pe_bm PySem.F.plainAttrs_list PySem.F.slot_list_extend PySem.F.type_list_extend mt_extend (pv 3) (pa_cons (pe_op op_rep (pe_lst (pa_cons pe_int pa_nil)) (pe_op op_sub (pv 1) (pe_callB call_len_seq (by rfl) m_len PySem.boot_len (pa_cons (pv 3) pa_nil)))) pa_nil)))
      (pss_cons (ps_asg (pv 2) (Sip.pg_cut (pv 3) (po_some (pv 1)) (po_some (pe_op op_add (pv 1) (pe_callB call_len_seq (by rfl) m_len PySem.boot_len (pa_cons (pv 2) pa_nil))))))
      (pss_one (ps_ret (pv 3))))))), ?_⟩
    refine ⟨.ref a, rfl, a, _, rfl, .inl hA, fun t nt => ?_⟩
    have bt : b ≠ t := ne_of_none hB nt
    have hB1 : (upd H t (.lst (r.map V.int))) b = some (.lst (d.map V.int)) := by rw [upd_ne bt]; exact hB
    refine ⟨.ref b, rfl, _, .inl ⟨_, sq_at hB1, rfl⟩, ite2 (fun e => ?_) (fun e => ?_)⟩
    · have d0 : d = [] := by
        cases d with
        | nil => rfl
        | cons x y => cases e
      subst d0
      exact ⟨.ref t, rfl, q _ t nt (by rw [upd_same, laidF_nil]) (Kp.new (ps := []) nt).same⟩
    · have d0 : d ≠ [] := fun z => by subst z; exact e rfl
      refine ⟨.ref t, rfl, .inl ⟨rfl, _, sq_new⟩, by show (1 : Nat) ≤ sizeLine; decide, fun l nl => ?_⟩
      have tl : t ≠ l := ne_of_none (upd_same : (upd H t (.lst (r.map V.int))) t = _) nl
      have bl : b ≠ l := ne_of_none hB1 nl
      have sz : sizeLine = 16777216 := sizeLine_eq
      refine ⟨.int n, rfl, .ref t, rfl, t, _, rfl, .inl (sq_at (by rw [upd_ne tl]; exact upd_same)), _, _, rfl, rfl, l, _, [.int 0], rfl, rfl, upd_same, ?_, ?_, ?_, fun z nz => ?_⟩
      · rw [List.length_map]; omega
      · rw [List.length_map]; omega
      · rw [List.length_map]; show 1 * ((n : Int) - (r.length : Int)).toNat ≤ sizeLine; omega
      · have tz : t ≠ z := ne_of_none (by rw [upd_ne tl]; exact upd_same) nz
        have bz : b ≠ z := ne_of_none (by rw [upd_ne bl]; exact hB1) nz
        have ez : (List.replicate ((n : Int) - ((r.map V.int).length : Int)).toNat [V.int 0]).flatten = (List.replicate (n - r.length) (0 : Int)).map V.int := by
          rw [List.length_map, flat_rep, List.map_replicate]
          congr 1
          omega
        rw [ez]
        refine ⟨t, z, _, _, rfl, rfl, by rw [upd_ne tz, upd_ne tl]; exact upd_same, upd_same, by rw [List.length_map, List.length_map, List.length_replicate]; omega, ?_⟩
        rw [← List.map_append]
        refine ⟨.ref b, rfl, .ref t, rfl, .int n, rfl, n, rfl, .int n, rfl, .ref b, rfl, b, d.map V.int, rfl, .inl (sq_at (by rw [upd_ne bt, upd_ne bz, upd_ne bl]; exact hB1)), _, _, rfl, rfl, _, rfl, ?_⟩
        refine ⟨t, b, _, _, _, _, rfl, rfl, rfl, rfl, upd_same, by rw [upd_ne bt, upd_ne bz, upd_ne bl]; exact hB1, bt.symm, by omega, by omega, ?_, ?_, ?_⟩
        · rw [List.length_map, List.length_append, List.length_replicate]; omega
        · rw [List.length_map, List.length_append, List.length_replicate, List.length_map]; omega
        · refine ⟨.ref t, rfl, q _ t nt ?_ ?_⟩
          · rw [upd_same]
            have e1 : ((n : Int)).toNat = n := Int.toNat_natCast n
            have e2 : ((n : Int) + ((d.map V.int).length : Int)).toNat = n + d.length := by rw [List.length_map]; omega
            rw [e1, e2, laidF_cons d0, ← List.map_take, ← List.map_drop, ← List.map_append, ← List.map_append]
          · refine Kp.same ?_
            exact ((((Kp.new nt).trans (Kp.new nl)).trans (Kp.new nz)).put nt).put nt

theorem ok_due {f : Addr} {fd : FuncData} {k : Nat} (F : Fun K "_law_due" "_law_due" s_due f fd) (m_list : mg "list" = none) (m_len : mg "len" = none) (m_max : mg "max" = none) (m_range : mg "range" = none) : FnOk P w K mg base CX0 (k + 1) f fd P_due (spDue K) := by
  refine F.ok sc_due (fun vs H Q E h => ?_) (fun cdv A outer s H vs Q E hr h => ?_)
  · obtain ⟨a, b, r, n, d, rfl, _⟩ := h
    rfl
  · obtain ⟨a, b, r, n, d, rfl, hA, hB, lr, ln, ld, q⟩ := h
    refine ⟨_, (pss_cons (ps_if (pt_cmpR op_eq (pe_callB call_len_seq (by rfl) m_len PySem.boot_len (pa_cons (pv 2) pa_nil)) pe_int (nomark _)) (pss_one (ps_ret (pe_callTy call_list_of (by rfl) m_list (by decide +kernel) (pa_cons (pv 0) pa_nil)))) pss_nil)
      (pss_cons (ps_set (i := 3) sc_due.nd rfl (.inl rfl) (pe_lst pa_nil))
      (pss_cons (ps_for PassesOwn.never rfl (pi_range1 (by rfl) m_range (pa_cons (pe_callB (call_max2 rfl) (by rfl) m_max (by decide +kernel) (pa_cons (pe_callB call_len_seq (by rfl) m_len PySem.boot_len (pa_cons (pv 0) pa_nil)) (pa_cons (pe_op op_add (pv 1) (pe_callB call_len_seq (by rfl) m_len PySem.boot_len (pa_cons (pv 2) pa_nil))) pa_nil))) pa_nil)) (pg_name (i := 4) sc_due.nd rfl (.inl rfl)) (pss_one (ps_if (PW.pt (pw_and (pt_cmpR op_ge (pv 4) (pv 1) (nomark _)) (pw_and1 (pt_cmpR op_lt (pv 4) (pe_op op_add (pv 1) (pe_callB call_len_seq (by rfl) m_len PySem.boot_len (pa_cons (pv 2) pa_nil))) (nomark _))))) (pss_one (ps_expr (pe_bm PySem.F.plainAttrs_list PySem.F.slot_list_append PySem.F.type_list_append mt_append (pv 3) (pa_cons (pe_ix ix_list (pv 2) (pe_op op_sub (pv 4) (pv 1)) (fun _ _ => rfl)) pa_nil)))) (pss_one (ps_if (pt_cmpR op_lt (pv 4) (pe_callB call_len_seq (by rfl) m_len PySem.boot_len (pa_cons (pv 0) pa_nil)) (nomark _)) (pss_one (ps_expr (pe_bm PySem.F.plainAttrs_list PySem.F.slot_list_append PySem.F.type_list_append mt_append (pv 3) (pa_cons (pe_ix ix_list (pv 0) (pv 4) (fun _ _ => rfl)) pa_nil)))) (pss_one (ps_expr (pe_bm PySem.F.plainAttrs_list PySem.F.slot_list_append PySem.F.type_list_append mt_append (pv 3) (pa_cons pe_int pa_nil)))))))))
      (pss_one (ps_ret (pv 3)))))), ?_⟩
    refine ⟨.ref b, rfl, b, _, rfl, .inl hB, rfl, _, rfl, ite2 (fun e => ?_) (fun e => ?_)⟩
    · have d0 : d = [] := by
        have e1 : ((d.map V.int).length : Int) = 0 := V.int.inj (of_decide_eq_true e)
        rw [List.length_map] at e1
        exact List.eq_nil_of_length_eq_zero (by omega)
      subst d0
      exact ⟨.ref a, rfl, a, _, rfl, .inl hA, fun t nt => q _ t nt (by rw [upd_same, laidF_nil]) (Kp.new (ps := []) nt).same⟩
    · have d0 : d ≠ [] := fun z => by subst z; exact e (decide_eq_true rfl)
      refine ⟨Nat.zero_le _, fun t nt => ?_⟩
      have k1 : Kp [] H (upd H t (.lst [])) := Kp.new nt
      refine ⟨.ref a, rfl, a, _, rfl, .inl (k1.same.seq hA), .int n, rfl, .ref b, rfl, b, _, rfl, .inl (k1.same.seq hB), _, _, rfl, rfl, _, _, rfl, _, rfl, ?_, ?_, ?_⟩
      · split <;> (simp only [List.length_map]; omega)
      · split <;> (simp only [List.length_map]; omega)
      · have em : (if ((n : Int) + ((d.map V.int).length : Int)) > ((r.map V.int).length : Int) then ((n : Int) + ((d.map V.int).length : Int)) else ((r.map V.int).length : Int)).toNat = (laidF r n d).length := by
          rw [laidF_length d0, List.length_map, List.length_map]
          split <;> omega
        rw [em]
        have lm : (laidF r n d).length ≤ 20000 := by rw [laidF_length d0]; omega
        refine for_range (lo := 0) (n := (laidF r n d).length) (fun i σ H' => ∃ y, σ = [some (.ref a), some (.int n), some (.ref b), some (.ref t), y] ∧ H' t = some (.lst (((laidF r n d).take i).map V.int)) ∧ Same H H') ⟨none, rfl, by rw [upd_same]; rfl, k1.same⟩ (fun i σ H' hi hW => ?_) (fun σ H' hW => ?_)
        · obtain ⟨y, rfl, et, sm⟩ := hW
          have g := laidF_get d0 hi
          have fit : (((laidF r n d).take i).map V.int).length < sizeLine := by
            rw [List.length_map, List.length_take, sizeLine_eq]; omega
          have fin : ∀ v : Int, (laidF r n d)[i]? = some v → (fun (σ' : L2.St) (H'' : Hp) => ∃ y, σ' = [some (V.ref a), some (V.int n), some (V.ref b), some (V.ref t), y] ∧ H'' t = some (HO.lst (((laidF r n d).take (i + 1)).map V.int)) ∧ Same H H'') [some (V.ref a), some (V.int n), some (V.ref b), some (V.ref t), some (V.int (0 + i))] (upd H' t (HO.lst (((laidF r n d).take i).map V.int ++ [V.int v]))) := fun v hv => by
            refine ⟨_, rfl, ?_, ?_⟩
            · rw [upd_same, List.take_add_one, hv, List.map_append]; rfl
            · exact (Kp.put (ps := []) (Kp.of sm) nt).same
          refine ⟨_, rfl, .int n, rfl, _, _, rfl, rfl, _, rfl, ite2 (fun e1 => ?_) (fun e1 => iteF ?_)⟩
          · have c1 : (n : Int) ≤ 0 + (i : Int) := of_decide_eq_true e1
            refine ⟨_, rfl, .int n, rfl, .ref b, rfl, b, _, rfl, .inl (sm.seq hB), _, _, rfl, rfl, _, _, rfl, rfl, _, rfl, ite2 (fun e2 => ?_) (fun e2 => ?_)⟩
            · have c2 : 0 + (i : Int) < (n : Int) + ((d.map V.int).length : Int) := of_decide_eq_true e2
              rw [List.length_map] at c2
              refine ⟨.ref t, rfl, .inl ⟨rfl, _, sq_at et⟩, .ref b, rfl, .int (0 + i), rfl, .int n, rfl, _, _, rfl, rfl, b, _, _, _, rfl, rfl, sm.seq hB, atI_intV (by omega) (by omega), t, _, _, rfl, rfl, et, fit, fin _ ?_⟩
              rw [g, if_pos ⟨by omega, by omega⟩]
              congr 2
              omega
            · have c2 : ¬ (0 + (i : Int) < (n : Int) + ((d.map V.int).length : Int)) := fun z => e2 (decide_eq_true z)
              rw [List.length_map] at c2
              rw [if_neg (by omega)] at g
              refine ⟨_, rfl, .ref a, rfl, a, _, rfl, .inl (sm.seq hA), _, _, rfl, rfl, _, rfl, ite2 (fun e3 => ?_) (fun e3 => ?_)⟩
              · have c3 : 0 + (i : Int) < ((r.map V.int).length : Int) := of_decide_eq_true e3
                rw [List.length_map] at c3
                refine ⟨.ref t, rfl, .inl ⟨rfl, _, sq_at et⟩, .ref a, rfl, .int (0 + i), rfl, a, _, _, _, rfl, rfl, sm.seq hA, atI_intV (by omega) (by omega), t, _, _, rfl, rfl, et, fit, fin _ ?_⟩
                rw [g]
                congr 2
                omega
              · have c3 : ¬ (0 + (i : Int) < ((r.map V.int).length : Int)) := fun z => e3 (decide_eq_true z)
                rw [List.length_map] at c3
                refine ⟨.ref t, rfl, .inl ⟨rfl, _, sq_at et⟩, t, _, _, rfl, rfl, et, fit, fin 0 ?_⟩
                rw [g, List.getD_eq_getElem?_getD, List.getElem?_eq_none (by omega)]
                rfl
          · have c1 : ¬ ((n : Int) ≤ 0 + (i : Int)) := fun z => e1 (decide_eq_true z)
            rw [if_neg (by omega)] at g
            refine ⟨_, rfl, .ref a, rfl, a, _, rfl, .inl (sm.seq hA), _, _, rfl, rfl, _, rfl, ite2 (fun e3 => ?_) (fun e3 => ?_)⟩
            · have c3 : 0 + (i : Int) < ((r.map V.int).length : Int) := of_decide_eq_true e3
              rw [List.length_map] at c3
              refine ⟨.ref t, rfl, .inl ⟨rfl, _, sq_at et⟩, .ref a, rfl, .int (0 + i), rfl, a, _, _, _, rfl, rfl, sm.seq hA, atI_intV (by omega) (by omega), t, _, _, rfl, rfl, et, fit, fin _ ?_⟩
              rw [g]
              congr 2
              omega
            · have c3 : ¬ (0 + (i : Int) < ((r.map V.int).length : Int)) := fun z => e3 (decide_eq_true z)
              rw [List.length_map] at c3
              refine ⟨.ref t, rfl, .inl ⟨rfl, _, sq_at et⟩, t, _, _, rfl, rfl, et, fit, fin 0 ?_⟩
              rw [g, List.getD_eq_getElem?_getD, List.getElem?_eq_none (by omega)]
              rfl
        · obtain ⟨y, rfl, et, sm⟩ := hW
          rw [List.take_length] at et
          exact ⟨.ref t, rfl, q _ t nt et sm⟩

theorem ok_fits {f : Addr} {fd : FuncData} {k : Nat} (F : Fun K "_law_fits" "_law_fits" s_fits f fd) (m_len : mg "len" = none) (m_isinstance : mg "isinstance" = none) (m_list : mg "list" = none) (m_int : mg "int" = none) (m_bool : mg "bool" = none) (m_all : mg "all" = none) : FnOk P w K mg base CX0 (k + 1) f fd P_fits (spFits K) := by
  refine F.ok sc_fits (fun vs H Q E h => ?_) (fun cdv A outer s H vs Q E hr h => ?_)
  · obtain ⟨a, b, xs, ys, rfl, _⟩ := h
    rfl
  · obtain ⟨a, b, xs, ys, rfl, hA, hB, lx, q⟩ := h
    refine ⟨_, (pss_cons (ps_if (PW.pt (pw_or (pt_not (pt_val (pe_callB (id := "isinstance") (r := rIsi K) call_isi (by rfl) m_isinstance (by decide +kernel) (pa_cons (pv 0) (pa_cons (pe_bltn (v := .ty "list") (by rfl) m_list (by decide +kernel) rfl) pa_nil))))) (pw_or1 (pt_cmpR op_ne (pe_callB call_len_seq (by rfl) m_len PySem.boot_len (pa_cons (pv 0) pa_nil)) (pe_callB call_len_seq (by rfl) m_len PySem.boot_len (pa_cons (pv 1) pa_nil)) (nomark _))))) (pss_one (ps_ret pe_bl)) pss_nil)
      (pss_one (ps_ret (pe_and (pe_callB (cr_all rfl) (by rfl) m_all (by decide +kernel) (pa_cons (pe_lc (own := [("_law_thing", 2)]) (g := gName 2) (tt := tYes) (by rfl) sc_fits.nd (pi_list (pv 0)) (blkOk_by (own := [("_law_thing", 2)]) (N := N_fits) (sc := defScope s_fits) (by decide +kernel)) (fun _ _ _ _ _ => pg_name (i := 2) sc_fits.nd rfl (Or.inl rfl)) (fun _ _ _ _ _ => pts_nil) (fun _ _ _ _ _ => (pe_and (pe_callB (id := "isinstance") (r := rIsi K) call_isi (by rfl) m_isinstance (by decide +kernel) (pa_cons (pv 2) (pa_cons (pe_bltn (v := .ty "int") (by rfl) m_int (by decide +kernel) rfl) pa_nil))) (pe_one (pe_not (pe_callB (id := "isinstance") (r := rIsi K) call_isi (by rfl) m_isinstance (by decide +kernel) (pa_cons (pv 2) (pa_cons (pe_bltn (v := .ty "bool") (by rfl) m_bool (by decide +kernel) rfl) pa_nil)))))))) pa_nil)) (pe_one (pe_cmpR (op_eqI hr.units) (pv 0) (pv 1) (nomark _))))))), ?_⟩
    refine ⟨.ref a, rfl, .ref a, .ty "list", _, _, true, rfl, .ty "list", .base (.lst hA), kit_ty (by decide +kernel), true, rfl, iteF ?_⟩
    refine ⟨.ref a, rfl, a, _, rfl, .inl (sq_at hA), .ref b, rfl, b, _, rfl, .inl hB, rfl, _, rfl, ite2 (fun e => ?_) (fun e => ?_)⟩
    · have ne : xs ≠ ys := fun z => by
        subst z
        rw [decide_eq_true rfl] at e
        cases e
      have := q H (Same.refl H)
      rw [decide_eq_false ne] at this
      exact this
    · refine ⟨.ref a, rfl, a, rfl, ⟨_, sq_at hA⟩, fun D nD => lc_list (K := K) (a := a) (xs := xs.map V.int) (fun i H' => H' D = some (.lst ((List.replicate i true).map V.bl)) ∧ Same H H') ⟨by rw [upd_same]; rfl, (Kp.new (ps := []) nD).same⟩ (fun i H' _ h => h.2.seq (sq_at hA)) (fun i x H' hx hP => ?_) (fun H' hP => ?_)⟩
      · obtain ⟨eD, sm⟩ := hP
        have hi : i < xs.length := by
          have := (List.getElem?_eq_some_iff.mp hx).1
          rwa [List.length_map] at this
        obtain ⟨v, rfl⟩ : ∃ v : Int, x = .int v := by
          rw [List.getElem?_map, List.getElem?_eq_getElem hi] at hx
          exact ⟨_, (Option.some.inj hx).symm⟩
        refine ⟨rfl, ?_⟩
        refine ⟨.int v, rfl, .int v, .ty "int", _, _, true, rfl, .ty "int", .base (.int v), kit_ty (by decide +kernel), true, rfl, ?_⟩
        refine ⟨.int v, rfl, .int v, .ty "bool", _, _, false, rfl, .ty "bool", .base (.int v), kit_ty (by decide +kernel), false, rfl, _, eD, ?_, ?_, ?_⟩
        · rw [List.length_map, List.length_replicate]
          exact Nat.lt_of_lt_of_le hi (Nat.le_of_lt (Nat.lt_of_le_of_lt lx (by rw [sizeLine_eq]; decide)))
        · rw [upd_same, List.replicate_succ', List.map_append]; rfl
        · exact (Kp.put (ps := []) (Kp.of sm) nD).same
      · obtain ⟨eD, sm⟩ := hP
        refine ⟨D, List.replicate (xs.map V.int).length true, rfl, sq_at eD, _, rfl, ?_⟩
        rw [all_true, if_pos rfl]
        exact ⟨.ref a, rfl, .ref b, rfl, a, b, xs, ys, rfl, rfl, sq_at (sm _ _ hA), sm.seq hB, q _ sm⟩

theorem ok_law {f : Addr} {fd : FuncData} (F : Fun K "law" "law" s_law f fd) {f_pool f_take f_bytes f_due f_fits f_laid : Addr} {fd_pool fd_take fd_bytes fd_due fd_fits fd_laid : FuncData}
    (D_pool : Df K mg "_law_pool" s_pool P_pool f_pool fd_pool) (D_take : Df K mg "_law_take" s_take P_take f_take fd_take) (D_bytes : Df K mg "_law_bytes" s_bytes P_bytes f_bytes fd_bytes)
    (D_due : Df K mg "_law_due" s_due P_due f_due fd_due) (D_fits : Df K mg "_law_fits" s_fits P_fits f_fits fd_fits) (D_laid : Df K mg "laid" s_laid P_laid f_laid fd_laid)
    (m_list : mg "list" = none) (m_len : mg "len" = none) (m_max : mg "max" = none) (m_range : mg "range" = none) (m_isinstance : mg "isinstance" = none) (m_int : mg "int" = none) (m_bool : mg "bool" = none) (m_all : mg "all" = none) :
    FnOk P w K mg base CX0 3 f fd P_law (spLaw K) := by
  have G_pool : FnOk P w K mg base CX0 1 f_pool fd_pool P_pool (spPool K) := ok_pool D_pool.F m_len
  have G_take : FnOk P w K mg base CX0 1 f_take fd_take P_take spTake := ok_take D_take.F
  have G_bytes : FnOk P w K mg base CX0 2 f_bytes fd_bytes P_bytes spBytes := ok_bytes D_bytes.F D_take m_range
  have G_due : FnOk P w K mg base CX0 1 f_due fd_due P_due (spDue K) := ok_due D_due.F m_list m_len m_max m_range
  have G_fits : FnOk P w K mg base CX0 1 f_fits fd_fits P_fits (spFits K) := ok_fits D_fits.F m_len m_isinstance m_list m_int m_bool m_all
  have G_laid : FnOk P w K mg base CX0 1 f_laid fd_laid P_laid (spLaid K) := ok_laid D_laid.F m_list m_len
  have sz : sizeLine = 16777216 := sizeLine_eq
  refine F.ok sc_law (fun vs H Q E h => ?_) (fun cdv A outer s H vs Q E hr h => ?_)
  · obtain ⟨a, ns, rfl, _⟩ := h
    rfl
  · obtain ⟨a, ns, rfl, hS, h63, q⟩ := h
    refine ⟨_, (pss_cons (ps_set (i := 1) sc_law.nd rfl (.inl rfl) (pe_call G_pool (hr.mono (by decide)) (by rfl) D_pool.g D_pool.F.kp D_pool.b .nil pass0 (pa_cons (pv 0) (pa_cons pe_int pa_nil))))
      (pss_cons (ps_set (i := 2) sc_law.nd rfl (.inl rfl) (pe_call G_bytes (hr.mono (by decide)) (by rfl) D_bytes.g D_bytes.F.kp D_bytes.b .nil pass0 (pa_cons (pv 1) pa_nil)))
      (pss_cons (ps_set (i := 3) sc_law.nd rfl (.inl rfl) (pe_call G_take (hr.mono (by decide)) (by rfl) D_take.g D_take.F.kp D_take.b .nil pass0 (pa_cons (pv 1) (pa_cons pe_int pa_nil))))
      (C8.pss_cut (ps_set (i := 4) sc_law.nd rfl (.inl rfl) (pe_ix ix_list (pe_lst (pa_cons (pe_callB call_len_seq (by rfl) m_len PySem.boot_len (pa_cons (pv 2) pa_nil)) (pa_cons (pe_call G_take (hr.mono (by decide)) (by rfl) D_take.g D_take.F.kp D_take.b .nil pass0 (pa_cons (pv 1) (pa_cons (pe_op op_add (pe_callB call_len_seq (by rfl) m_len PySem.boot_len (pa_cons (pv 2) pa_nil)) pe_int) pa_nil))) (pa_cons (pe_op op_add (pe_callB call_len_seq (by rfl) m_len PySem.boot_len (pa_cons (pv 2) pa_nil)) (pe_call G_take (hr.mono (by decide)) (by rfl) D_take.g D_take.F.kp D_take.b .nil pass0 (pa_cons (pv 1) (pa_cons pe_int pa_nil)))) (pa_cons (pe_call G_take (hr.mono (by decide)) (by rfl) D_take.g D_take.F.kp D_take.b .nil pass0 (pa_cons (pv 1) (pa_cons pe_int pa_nil))) pa_nil))))) (pv 3) (fun _ _ => rfl)))
      (pss_cons (ps_set (i := 5) sc_law.nd rfl (.inl rfl) (pe_call G_bytes (hr.mono (by decide)) (by rfl) D_bytes.g D_bytes.F.kp D_bytes.b .nil pass0 (pa_cons (pe_call G_pool (hr.mono (by decide)) (by rfl) D_pool.g D_pool.F.kp D_pool.b .nil pass0 (pa_cons (pv 0) (pa_cons pe_int pa_nil))) pa_nil)))
      (pss_cons (ps_set (i := 6) sc_law.nd rfl (.inl rfl) (pe_call G_due (hr.mono (by decide)) (by rfl) D_due.g D_due.F.kp D_due.b .nil pass0 (pa_cons (pv 2) (pa_cons (pv 4) (pa_cons (pv 5) pa_nil)))))
      (pss_cons (ps_set (i := 7) sc_law.nd rfl (.inl rfl) (pe_callTy call_list_of (by rfl) m_list (by decide +kernel) (pa_cons (pv 2) pa_nil)))
      (pss_cons (ps_set (i := 8) sc_law.nd rfl (.inl rfl) (pe_callTy call_list_of (by rfl) m_list (by decide +kernel) (pa_cons (pv 5) pa_nil)))
      (pss_cons (ps_set (i := 9) sc_law.nd rfl (.inl rfl) (pe_call G_laid (hr.mono (by decide)) (by rfl) D_laid.g D_laid.F.kp D_laid.b .nil pass0 (pa_cons (pv 7) (pa_cons (pv 4) (pa_cons (pv 8) pa_nil)))))
      (pss_cons (ps_if (PW.pt (pw_or (pt_not (pt_val (pe_call G_fits (hr.mono (by decide)) (by rfl) D_fits.g D_fits.F.kp D_fits.b .nil pass0 (pa_cons (pv 9) (pa_cons (pv 6) pa_nil))))) (pw_or (pt_cmpR (op_neI hr.units) (pv 7) (pv 2) (nomark _)) (pw_or1 (pt_cmpR (op_neI hr.units) (pv 8) (pv 5) (nomark _)))))) (pss_one (ps_ret pe_bl)) pss_nil)
      (pss_cons (ps_expr (pe_bm PySem.F.plainAttrs_list PySem.F.slot_list_append PySem.F.type_list_append mt_append (pv 9) (pa_cons pe_int pa_nil)))
      (pss_cons (ps_asg pe_int (pg_sub (pv 9) pe_int set_list))
      (pss_cons (ps_if (PW.pt (pw_or (pt_cmpR (op_neI hr.units) (pv 7) (pv 2) (nomark _)) (pw_or1 (pt_cmpR (op_neI hr.units) (pv 8) (pv 5) (nomark _))))) (pss_one (ps_ret pe_bl)) pss_nil)
      (pss_cons (ps_expr (pe_bm PySem.F.plainAttrs_list PySem.F.slot_list_append PySem.F.type_list_append mt_append (pv 7) (pa_cons pe_int pa_nil)))
      (C8.pss_cut (ps_expr (pe_bm PySem.F.plainAttrs_list PySem.F.slot_list_append PySem.F.type_list_append mt_append (pv 8) (pa_cons pe_int pa_nil)))
      (pss_cons (ps_set (i := 10) sc_law.nd rfl (.inl rfl) (pe_call G_laid (hr.mono (by decide)) (by rfl) D_laid.g D_laid.F.kp D_laid.b .nil pass0 (pa_cons (pe_callTy call_list_of (by rfl) m_list (by decide +kernel) (pa_cons (pv 2) pa_nil)) (pa_cons (pv 4) (pa_cons (pe_callTy call_list_of (by rfl) m_list (by decide +kernel) (pa_cons (pv 5) pa_nil)) pa_nil)))))
      (pss_cons (ps_if (pt_not (pt_val (pe_call G_fits (hr.mono (by decide)) (by rfl) D_fits.g D_fits.F.kp D_fits.b .nil pass0 (pa_cons (pv 10) (pa_cons (pv 6) pa_nil))))) (pss_one (ps_ret pe_bl)) pss_nil)
      (pss_one (ps_ret (pe_or (pe_cmpR op_gt (pe_callB call_len_seq (by rfl) m_len PySem.boot_len (pa_cons (pv 10) pa_nil)) pe_int (nomark _)) (pe_one (pe_call G_fits (hr.mono (by decide)) (by rfl) D_fits.g D_fits.F.kp D_fits.b .nil pass0 (pa_cons (pe_call G_laid (hr.mono (by decide)) (by rfl) D_laid.g D_laid.F.kp D_laid.b .nil pass0 (pa_cons (pv 10) (pa_cons (pv 4) (pa_cons (pe_callTy call_list_of (by rfl) m_list (by decide +kernel) (pa_cons (pv 5) pa_nil)) pa_nil)))) (pa_cons (pv 6) pa_nil)))))))))))))))))))))))), ?_⟩
    -- the pool, the row, the place
    refine ⟨.ref a, rfl, a, ns, 0, rfl, hS, h63, by decide, by decide, fun p o1 np hP1 => ?_⟩
    refine ⟨.ref p, rfl, p, _, o1, rfl, upd_same, hP1, by omega, fun H2 x bs o2 nx ex ep hP2 kk lb hb => ?_⟩
    have s2 : Same H H2 := step_same (Kp.new (ps := []) np).same np kk
    have xp : x ≠ p := fun z => by rw [z, upd_same] at nx; cases nx
    refine ⟨.ref p, rfl, p, _, 4, o2, rfl, ep, hP2, by omega, by decide, by decide, fun r o3 r0 r1 hP3 => ?_⟩
    refine ⟨fun σ' H' => ∃ (n : Nat) (o : HO), σ' = [some (.ref a), some (.ref p), some (.ref x), some (.int r), some (.int n), none, none, none, none, none, none] ∧ n ≤ 4400 ∧ H' x = some (.lst (bs.map V.int)) ∧ Same H H', ?_, fun σ' H' hm => ?_⟩
    · have e3 : (upd H2 p o3) x = some (.lst (bs.map V.int)) := by rw [upd_ne xp]; exact ex
      refine ⟨.ref x, rfl, x, _, rfl, .inl (sq_at e3), .ref p, rfl, .ref x, rfl, x, _, rfl, .inl (sq_at e3), _, _, rfl, rfl, p, _, _, o3, rfl, upd_same, hP3, by omega, by omega, by rw [List.length_map]; omega, fun r2 o4 t0 t1 hP4 => ?_⟩
      have e4 : (upd (upd H2 p o3) p o4) x = some (.lst (bs.map V.int)) := by rw [upd_ne xp]; exact e3
      refine ⟨.ref x, rfl, x, _, rfl, .inl (sq_at e4), .ref p, rfl, p, _, 40, o4, rfl, upd_same, hP4, by omega, by decide, by decide, fun r3 o5 u0 u1 hP5 => ?_⟩
      have e5 : (upd (upd (upd H2 p o3) p o4) p o5) x = some (.lst (bs.map V.int)) := by rw [upd_ne xp]; exact e4
      refine ⟨_, _, rfl, rfl, .ref p, rfl, p, _, 4001, o5, rfl, upd_same, hP5, by omega, by decide, by decide, fun r4 o6 v0 v1 hP6 => ?_⟩
      have e6 : (upd (upd (upd (upd H2 p o3) p o4) p o5) p o6) x = some (.lst (bs.map V.int)) := by rw [upd_ne xp]; exact e5
      refine ⟨by show (4 : Nat) ≤ sizeLine; omega, fun l nl => ?_⟩
      obtain ⟨m, mm, em, _⟩ := atI_int (ms := [((bs.map V.int).length : Int), r2, ((bs.map V.int).length : Int) + r3, r4]) (i := r) r0 r1
      have mb : 0 ≤ m ∧ m ≤ 4400 := by
        rw [List.length_map] at mm t1
        simp only [List.mem_cons, List.mem_nil_iff, or_false] at mm
        rcases mm with rfl | rfl | rfl | rfl <;> omega
      obtain ⟨n, rfl⟩ := Int.eq_ofNat_of_zero_le mb.1
      refine ⟨.int r, rfl, l, _, r, .int n, rfl, rfl, .inl (.inl (by rw [upd_same]; rfl)), em, n, o6, rfl, by omega, ?_, ?_⟩
      · rw [upd_ne (ne_of_none e6 nl)]; exact e6
      · exact (put_same (put_same (put_same (put_same s2 np) np) np) np).trans (Kp.new (ps := []) nl).same
    · obtain ⟨n, o, rfl, n4, ex, s3⟩ := hm
      -- the data, what is due
      refine ⟨.ref a, rfl, a, ns, 1, rfl, s3.seq hS, h63, by decide, by decide, fun p2 o7 np2 hP7 => ?_⟩
      have s4 : Same H' (upd H' p2 o7) := (Kp.new (ps := []) np2).same
      refine ⟨p2, _, o7, rfl, upd_same, hP7, by omega, fun H8 y ds o8 ny ey _ _ kk2 ld hd => ?_⟩
      have s5 : Same H' H8 := step_same s4 np2 kk2
      refine ⟨.ref x, rfl, .int n, rfl, .ref y, rfl, x, y, bs, n, ds, rfl, sq_at (s5 _ _ ex), sq_at ey, by omega, n4, by omega, fun H9 u nu eu s6 => ?_⟩
      have x9 := s6 _ _ (s5 _ _ ex)
      have y9 := s6 _ _ ey
      -- handed, other, found
      refine ⟨.ref x, rfl, x, _, rfl, .inl (sq_at x9), fun h nh => ?_⟩
      have s7 : Same H9 (upd H9 h (.lst (bs.map V.int))) := (Kp.new (ps := []) nh).same
      refine ⟨.ref y, rfl, y, _, rfl, .inl (sq_at (s7 _ _ y9)), fun g ng => ?_⟩
      have s8 : Same (upd H9 h (.lst (bs.map V.int))) (upd (upd H9 h (.lst (bs.map V.int))) g (.lst (ds.map V.int))) := (Kp.new (ps := []) ng).same
      have h8 := s8 h _ upd_same
      refine ⟨.ref h, rfl, .int n, rfl, .ref g, rfl, h, g, bs, n, ds, rfl, sq_at h8, upd_same, by omega, n4, by omega, fun H10 t nt et s9 => ?_⟩
      have s79 := (s7.trans s8).trans s9
      have ll : (laidF bs n ds).length ≤ 5000 := laidF_le (by omega)
      refine ⟨.ref t, rfl, .ref u, rfl, t, u, _, _, rfl, et, sq_at (s79 _ _ eu), by omega, fun H11 s10 => ⟨_, rfl, iteNS rfl ?_⟩⟩
      have h11 := s10 _ _ (s9 _ _ h8)
      have g11 := s10 _ _ (s9 g _ upd_same)
      have x11 := s10 _ _ (s79 _ _ x9)
      have y11 := s10 _ _ (s79 _ _ y9)
      have u11 := s10 _ _ (s79 _ _ eu)
      have t11 := s10 _ _ et
      have th : h ≠ t := ne_of_none h8 nt
      have tg : g ≠ t := ne_of_none (upd_same : (upd (upd H9 h (.lst (bs.map V.int))) g (.lst (ds.map V.int))) g = _) nt
      have tx : x ≠ t := ne_of_none ((s7.trans s8) _ _ x9) nt
      have ty : y ≠ t := ne_of_none ((s7.trans s8) _ _ y9) nt
      have tu : u ≠ t := ne_of_none ((s7.trans s8) _ _ eu) nt
      have xh : x ≠ h := ne_of_none x9 nh
      have yh : y ≠ h := ne_of_none y9 nh
      have uh : u ≠ h := ne_of_none eu nh
      have xg : x ≠ g := ne_of_none (s7 _ _ x9) ng
      have yg : y ≠ g := ne_of_none (s7 _ _ y9) ng
      have ug : u ≠ g := ne_of_none (s7 _ _ eu) ng
      have hg : h ≠ g := ne_of_none (upd_same : (upd H9 h (.lst (bs.map V.int))) h = _) ng
      refine ⟨.ref h, rfl, .ref x, rfl, h, x, bs, bs, rfl, rfl, sq_at h11, sq_at x11, _, rfl, iteNS rfl ?_⟩
      refine ⟨.ref g, rfl, .ref y, rfl, g, y, ds, ds, rfl, rfl, sq_at g11, sq_at y11, _, rfl, iteNS rfl ?_⟩
      -- found is spoiled
      refine ⟨.ref t, rfl, .inl ⟨rfl, _, sq_at t11⟩, t, _, _, rfl, rfl, t11, by rw [List.length_map]; omega, ?_⟩
      refine ⟨.ref t, rfl, t, _, 0, 0, rfl, rfl, upd_same, ixN_zero (by rw [List.length_append]; show 0 < _ + 1; omega), ?_⟩
      refine ⟨.ref h, rfl, .ref x, rfl, h, x, bs, bs, rfl, rfl, sq_at (by rw [upd_ne th, upd_ne th]; exact h11), sq_at (by rw [upd_ne tx, upd_ne tx]; exact x11), _, rfl, iteNS rfl ?_⟩
      refine ⟨.ref g, rfl, .ref y, rfl, g, y, ds, ds, rfl, rfl, sq_at (by rw [upd_ne tg, upd_ne tg]; exact g11), sq_at (by rw [upd_ne ty, upd_ne ty]; exact y11), _, rfl, iteNS rfl ?_⟩
      -- handed and other are spoiled
      refine ⟨.ref h, rfl, .inl ⟨rfl, _, sq_at (by rw [upd_ne th, upd_ne th]; exact h11)⟩, h, _, _, rfl, rfl, by rw [upd_ne th, upd_ne th]; exact h11, by rw [List.length_map]; omega, ?_⟩
      have eg : ∀ o0 : HO, (upd (upd (upd H11 t (.lst ((laidF bs n ds).map V.int ++ [V.int 7]))) t (.lst (((laidF bs n ds).map V.int ++ [V.int 7]).set 0 (V.int 9)))) h o0) g = some (.lst (ds.map V.int)) := fun o0 => by rw [upd_ne hg.symm, upd_ne tg, upd_ne tg]; exact g11
      refine ⟨fun σ' H' => σ' = [some (.ref a), some (.ref p), some (.ref x), some (.int r), some (.int n), some (.ref y), some (.ref u), some (.ref h), some (.ref g), some (.ref t), none] ∧ H' x = some (.lst (bs.map V.int)) ∧ H' y = some (.lst (ds.map V.int)) ∧ H' u = some (.lst ((laidF bs n ds).map V.int)), ?_, fun σ' H12 hm => ?_⟩
      · refine ⟨.ref g, rfl, .inl ⟨rfl, _, sq_at (eg _)⟩, g, _, _, rfl, rfl, eg _, by rw [List.length_map]; omega, rfl, ?_, ?_, ?_⟩
        · rw [upd_ne xg, upd_ne xh, upd_ne tx, upd_ne tx]; exact x11
        · rw [upd_ne yg, upd_ne yh, upd_ne ty, upd_ne ty]; exact y11
        · rw [upd_ne ug, upd_ne uh, upd_ne tu, upd_ne tu]; exact u11
      · obtain ⟨rfl, ex, ey, eu⟩ := hm
        -- once more
        refine ⟨.ref x, rfl, x, _, rfl, .inl (sq_at ex), fun h2 nh2 => ?_⟩
        have z1 : Same H12 (upd H12 h2 (.lst (bs.map V.int))) := (Kp.new (ps := []) nh2).same
        refine ⟨.int n, rfl, .ref y, rfl, y, _, rfl, .inl (sq_at (z1 _ _ ey)), fun g2 ng2 => ?_⟩
        have z2 : Same (upd H12 h2 (.lst (bs.map V.int))) (upd (upd H12 h2 (.lst (bs.map V.int))) g2 (.lst (ds.map V.int))) := (Kp.new (ps := []) ng2).same
        refine ⟨h2, g2, bs, n, ds, rfl, sq_at (z2 h2 _ upd_same), upd_same, by omega, n4, by omega, fun H13 t2 nt2 et2 z3 => ?_⟩
        have z13 := (z1.trans z2).trans z3
        refine ⟨.ref t2, rfl, .ref u, rfl, t2, u, _, _, rfl, et2, sq_at (z13 _ _ eu), by omega, fun H14 z4 => ⟨_, rfl, iteNS rfl ?_⟩⟩
        have t14 := z4 _ _ et2
        refine ⟨.ref t2, rfl, t2, _, rfl, .inl (sq_at t14), _, _, rfl, rfl, _, rfl, ite2 (fun e => q _) (fun e => ?_)⟩
        refine ⟨.ref t2, rfl, .int n, rfl, .ref y, rfl, y, _, rfl, .inl (sq_at (z4 _ _ (z13 _ _ ey))), fun g3 ng3 => ?_⟩
        have z5 : Same H14 (upd H14 g3 (.lst (ds.map V.int))) := (Kp.new (ps := []) ng3).same
        refine ⟨t2, g3, _, n, ds, rfl, sq_at (z5 _ _ t14), upd_same, by omega, n4, by omega, fun H15 t3 nt3 et3 z6 => ?_⟩
        refine ⟨.ref u, rfl, t3, u, _, _, rfl, et3, sq_at (z6 _ _ (z5 _ _ (z4 _ _ (z13 _ _ eu)))), ?_, fun H16 z7 => ?_⟩
        · rw [laidF_twice]; omega
        · rw [laidF_twice, decide_eq_true rfl]
          exact q _
end
theorem all_mk {l : PySem.W.OpenLaw} {w : World} {K : PySem.W.Frag} {h : Heap} {mg : Str → Option Value} {fa : Addr} {f_pool f_take f_bytes f_due f_fits f_laid f_law : Addr} (X : K.In h) (G : h.Ns mainGlobals mg) (hfa : mg "law" = some (.ref fa))
    {od_pool an_pool : Option Addr} {sl_pool : Array (Option Value)} {oc_pool kV_pool dc_pool pm_pool cd_pool ct_pool : Value}
    (a_pool : PySem.W.nsIn K mainGlobals "_law_pool" = some (some (.ref f_pool))) (l_pool : K.lookup f_pool = some ⟨oc_pool, od_pool, .func (PySem.W.fnOf "_law_pool" "_law_pool" (defArgs s_pool) (defBody s_pool) (defScope s_pool) .none kV_pool dc_pool pm_pool an_pool cd_pool ct_pool), sl_pool⟩)
    (c_pool : PySem.W.codeIn K cd_pool "_law_pool" = true) (k_pool : PySem.W.keepIn K (.ref f_pool) = true)
    {od_take an_take : Option Addr} {sl_take : Array (Option Value)} {oc_take kV_take dc_take pm_take cd_take ct_take : Value}
    (a_take : PySem.W.nsIn K mainGlobals "_law_take" = some (some (.ref f_take))) (l_take : K.lookup f_take = some ⟨oc_take, od_take, .func (PySem.W.fnOf "_law_take" "_law_take" (defArgs s_take) (defBody s_take) (defScope s_take) .none kV_take dc_take pm_take an_take cd_take ct_take), sl_take⟩)
    (c_take : PySem.W.codeIn K cd_take "_law_take" = true) (k_take : PySem.W.keepIn K (.ref f_take) = true)
    {od_bytes an_bytes : Option Addr} {sl_bytes : Array (Option Value)} {oc_bytes kV_bytes dc_bytes pm_bytes cd_bytes ct_bytes : Value}
    (a_bytes : PySem.W.nsIn K mainGlobals "_law_bytes" = some (some (.ref f_bytes))) (l_bytes : K.lookup f_bytes = some ⟨oc_bytes, od_bytes, .func (PySem.W.fnOf "_law_bytes" "_law_bytes" (defArgs s_bytes) (defBody s_bytes) (defScope s_bytes) .none kV_bytes dc_bytes pm_bytes an_bytes cd_bytes ct_bytes), sl_bytes⟩)
    (c_bytes : PySem.W.codeIn K cd_bytes "_law_bytes" = true) (k_bytes : PySem.W.keepIn K (.ref f_bytes) = true)
    {od_due an_due : Option Addr} {sl_due : Array (Option Value)} {oc_due kV_due dc_due pm_due cd_due ct_due : Value}
    (a_due : PySem.W.nsIn K mainGlobals "_law_due" = some (some (.ref f_due))) (l_due : K.lookup f_due = some ⟨oc_due, od_due, .func (PySem.W.fnOf "_law_due" "_law_due" (defArgs s_due) (defBody s_due) (defScope s_due) .none kV_due dc_due pm_due an_due cd_due ct_due), sl_due⟩)
    (c_due : PySem.W.codeIn K cd_due "_law_due" = true) (k_due : PySem.W.keepIn K (.ref f_due) = true)
    {od_fits an_fits : Option Addr} {sl_fits : Array (Option Value)} {oc_fits kV_fits dc_fits pm_fits cd_fits ct_fits : Value}
    (a_fits : PySem.W.nsIn K mainGlobals "_law_fits" = some (some (.ref f_fits))) (l_fits : K.lookup f_fits = some ⟨oc_fits, od_fits, .func (PySem.W.fnOf "_law_fits" "_law_fits" (defArgs s_fits) (defBody s_fits) (defScope s_fits) .none kV_fits dc_fits pm_fits an_fits cd_fits ct_fits), sl_fits⟩)
    (c_fits : PySem.W.codeIn K cd_fits "_law_fits" = true) (k_fits : PySem.W.keepIn K (.ref f_fits) = true)
    {od_laid an_laid : Option Addr} {sl_laid : Array (Option Value)} {oc_laid kV_laid dc_laid pm_laid cd_laid ct_laid : Value}
    (a_laid : PySem.W.nsIn K mainGlobals "laid" = some (some (.ref f_laid))) (l_laid : K.lookup f_laid = some ⟨oc_laid, od_laid, .func (PySem.W.fnOf "laid" "laid" (defArgs s_laid) (defBody s_laid) (defScope s_laid) .none kV_laid dc_laid pm_laid an_laid cd_laid ct_laid), sl_laid⟩)
    (c_laid : PySem.W.codeIn K cd_laid "laid" = true) (k_laid : PySem.W.keepIn K (.ref f_laid) = true)
    {od_law an_law : Option Addr} {sl_law : Array (Option Value)} {oc_law kV_law dc_law pm_law cd_law ct_law : Value}
    (a_law : PySem.W.nsIn K mainGlobals "law" = some (some (.ref f_law))) (l_law : K.lookup f_law = some ⟨oc_law, od_law, .func (PySem.W.fnOf "law" "law" (defArgs s_law) (defBody s_law) (defScope s_law) .none kV_law dc_law pm_law an_law cd_law ct_law), sl_law⟩)
    (c_law : PySem.W.codeIn K cd_law "law" = true) (k_law : PySem.W.keepIn K (.ref f_law) = true)
    (z_list : PySem.W.nsIn K mainGlobals "list" = some none) (z_len : PySem.W.nsIn K mainGlobals "len" = some none) (z_max : PySem.W.nsIn K mainGlobals "max" = some none) (z_range : PySem.W.nsIn K mainGlobals "range" = some none) (z_isinstance : PySem.W.nsIn K mainGlobals "isinstance" = some none) (z_int : PySem.W.nsIn K mainGlobals "int" = some none) (z_bool : PySem.W.nsIn K mainGlobals "bool" = some none) (z_all : PySem.W.nsIn K mainGlobals "all" = some none) :
    ∃ fd : FuncData, (∀ (s : Shared) (v : Value), BindsTo s fd ⟨[v], []⟩ [("_law_script", v)]) ∧ ∀ base : Heap, K.In base → base.Ns mainGlobals mg → FnOk l.prog w K mg base CX0 3 fa fd ["_law_script"] (spLaw K) := by
  have e := hfa.symm.trans (PySem.W.mg_of X G a_law)
  cases e
  have F_pool := fun_mk (st := s_pool) l_pool c_pool k_pool
  have D_pool : Df K mg "_law_pool" s_pool P_pool f_pool _ := ⟨F_pool, F_pool.binds (ps := P_pool) fun _ _ _ _ _ _ us hl => match us, hl with | [_, _], _ => rfl, PySem.W.mg_of X G a_pool⟩
  have F_take := fun_mk (st := s_take) l_take c_take k_take
  have D_take : Df K mg "_law_take" s_take P_take f_take _ := ⟨F_take, F_take.binds (ps := P_take) fun _ _ _ _ _ _ us hl => match us, hl with | [_, _], _ => rfl, PySem.W.mg_of X G a_take⟩
  have F_bytes := fun_mk (st := s_bytes) l_bytes c_bytes k_bytes
  have D_bytes : Df K mg "_law_bytes" s_bytes P_bytes f_bytes _ := ⟨F_bytes, F_bytes.binds (ps := P_bytes) fun _ _ _ _ _ _ us hl => match us, hl with | [_], _ => rfl, PySem.W.mg_of X G a_bytes⟩
  have F_due := fun_mk (st := s_due) l_due c_due k_due
  have D_due : Df K mg "_law_due" s_due P_due f_due _ := ⟨F_due, F_due.binds (ps := P_due) fun _ _ _ _ _ _ us hl => match us, hl with | [_, _, _], _ => rfl, PySem.W.mg_of X G a_due⟩
  have F_fits := fun_mk (st := s_fits) l_fits c_fits k_fits
  have D_fits : Df K mg "_law_fits" s_fits P_fits f_fits _ := ⟨F_fits, F_fits.binds (ps := P_fits) fun _ _ _ _ _ _ us hl => match us, hl with | [_, _], _ => rfl, PySem.W.mg_of X G a_fits⟩
  have F_laid := fun_mk (st := s_laid) l_laid c_laid k_laid
  have D_laid : Df K mg "laid" s_laid P_laid f_laid _ := ⟨F_laid, F_laid.binds (ps := P_laid) fun _ _ _ _ _ _ us hl => match us, hl with | [_, _, _], _ => rfl, PySem.W.mg_of X G a_laid⟩
  have F_law := fun_mk (st := s_law) l_law c_law k_law
  have m_list : mg "list" = none := PySem.W.mg_none_of X G z_list
  have m_len : mg "len" = none := PySem.W.mg_none_of X G z_len
  have m_max : mg "max" = none := PySem.W.mg_none_of X G z_max
  have m_range : mg "range" = none := PySem.W.mg_none_of X G z_range
  have m_isinstance : mg "isinstance" = none := PySem.W.mg_none_of X G z_isinstance
  have m_int : mg "int" = none := PySem.W.mg_none_of X G z_int
  have m_bool : mg "bool" = none := PySem.W.mg_none_of X G z_bool
  have m_all : mg "all" = none := PySem.W.mg_none_of X G z_all
  exact ⟨_, fun s v => .of_eq rfl, fun base _ _ => ok_law F_law D_pool D_take D_bytes D_due D_fits D_laid m_list m_len m_max m_range m_isinstance m_int m_bool m_all⟩
end Sip
open PySem PySem.W PyProof.Rows
set_option maxHeartbeats 0 in
theorem PySem.Challenge.cw_sipstack_k02_laid_holds : PySem.Challenge.rw_sipstack_k02_laid.Holds := by
  w_on; o_law; k_head; (case hw => w_witness2)
  k_fill
  refine L2.walk_of (l := PySem.Challenge.rw_sipstack_k02_laid) (n := 63) (k := 3) (x := "_law_script") (CX := fun _ => L2.CX0) (sp := fun w => Sip.spLaw _) rfl (by decide) rfl ⟨rfl, by decide, by decide⟩ (fun w h Y => PySem.W.kIn_of Y) ?F (fun _ _ a ns hl _ hS => ⟨a, ns, rfl, hS, hl, fun _ => rfl⟩) (fun _ _ _ _ _ h => h)
  case F =>
    intro w mg fa h KX G hmg
    refine' Sip.all_mk KX G hmg ?a_pool ?l_pool ?c_pool ?k_pool ?a_take ?l_take ?c_take ?k_take ?a_bytes ?l_bytes ?c_bytes ?k_bytes ?a_due ?l_due ?c_due ?k_due ?a_fits ?l_fits ?c_fits ?k_fits ?a_laid ?l_laid ?c_laid ?k_laid ?a_law ?l_law ?c_law ?k_law ?z_list ?z_len ?z_max ?z_range ?z_isinstance ?z_int ?z_bool ?z_all
    (case a_pool => k_is)
    (case l_pool => k_is)
    (case c_pool => k_is)
    (case k_pool => k_is)
    (case a_take => k_is)
    (case l_take => k_is)
    (case c_take => k_is)
    (case k_take => k_is)
    (case a_bytes => k_is)
    (case l_bytes => k_is)
    (case c_bytes => k_is)
    (case k_bytes => k_is)
    (case a_due => k_is)
    (case l_due => k_is)
    (case c_due => k_is)
    (case k_due => k_is)
    (case a_fits => k_is)
    (case l_fits => k_is)
    (case c_fits => k_is)
    (case k_fits => k_is)
    (case a_laid => k_is)
    (case l_laid => k_is)
    (case c_laid => k_is)
    (case k_laid => k_is)
    (case a_law => k_is)
    (case l_law => k_is)
    (case c_law => k_is)
    (case k_law => k_is)
    (case z_list => k_is)
    (case z_len => k_is)
    (case z_max => k_is)
    (case z_range => k_is)
    (case z_isinstance => k_is)
    (case z_int => k_is)
    (case z_bool => k_is)
    (case z_all => k_is)
