import PyProof.Rows.All
import Wide.All
import OpenK.AllK
import Wide.FinOn
import HandS.List
import HandS.Codes
import HandS.Comp
import HandS.Iter
import HandS.Ends
import HandS.Text
import HandS.Words
import HandS.WordsList
import HandS.Wide
import HandS.IsInst
import HandS.FStr
import PyProof.FString3
import PyProof.Rows.StrIntSpec
import HandS.Walk
import PySem.Challenge.RW_sipstack_k05_whole_laid_in_pieces
set_option Elab.async false
set_option linter.all false
set_option maxRecDepth 100000
namespace Sip
open PySem PySem.Spec PyProof.Rows L2

/-! a slice of step one in a list, laid over by another list; its end may lie behind the list's end -/
theorem clamp {a c n : Nat} (h1 : a ≤ c) (h2 : a ≤ n) :
    sliceBounds (some (a : Int)) (some (c : Int)) none n = ((a : Int), ((min c n : Nat) : Int), 1) := by
  have n1 : ¬ ((a : Int) < 0) := by omega
  have n2 : ¬ ((c : Int) < 0) := by omega
  simp only [sliceBounds, Option.getD_none, n1, n2, if_false, show (1 : Int) > 0 from by decide, if_true]
  refine Prod.ext ?_ (Prod.ext ?_ rfl)
  · show max 0 (min (a : Int) (n : Int)) = (a : Int)
    omega
  · show max 0 (min (c : Int) (n : Int)) = ((min c n : Nat) : Int)
    omega

section
variable {pr : Program} {wd : World} {ar : Around} {er : Value → Shared → Prop} {s : Shared}
set_option maxHeartbeats 4000000 in
theorem put_slice {l b z : Addr} {old new : Array Value} {m m2 a c : Nat} {vl vu : Value} {Q : Unit → Shared → Prop}
    (eo : s.heap.get? l = some { cls := .type "list", data := .seq old m })
    (en : s.heap.get? b = some { cls := .type "list", data := .seq new m2 }) (ne : l ≠ b)
    (hz : s.heap.IsSliceOf z vl vu .none) (pl : IsPart vl (some (a : Int))) (pu : IsPart vu (some (c : Int)))
    (ac : a ≤ c) (an : a ≤ old.size) (fit : old.size + new.size ≤ sizeLine)
    (k : Q () { s with heap := s.heap.update l (Obj.mapSeq fun t => t.extract 0 a ++ new ++ t.extract (min c old.size) t.size) }) :
    wpAny (model pr wd) ar (setItem (.ref l) (.ref z) (.ref b)) Q er s := by
  by_cases hc : c ≤ old.size
  · rw [Nat.min_eq_left hc] at k
    exact setItem_slice eo en ne hz pl pu ac hc fit k
  · have lo : s.heap.IsList l old := PySem.IsL.isList eo
    have ln : s.heap.IsList b new := PySem.IsL.isList en
    obtain ⟨oz, gz, cz, dz⟩ := id hz
    have tz : s.TypeIs (.ref z) "slice" := ⟨oz, gz, cz⟩
    have apart : Builtin.List.listSameRef (.ref l) (.ref b) = false := by
      unfold Builtin.List.listSameRef; exact beq_eq_false_iff_ne.mpr ne
    have zz : ((fun t : Array Value => t.extract 0 a ++ new ++ t.extract (min c old.size) t.size) old).size ≤ sizeLine + 1 := by
      simp only [Array.size_append, Array.size_extract]; omega
    have bd := clamp ac an
    have mx : (max (a : Int) ((min c old.size : Nat) : Int)).toNat = min c old.size := by omega
    unfold setItem
    try (with_reducible refine wpAny_holding ?_)
    try refine wpAny_bind (wpAny_pure ?_)
    refine wpAny_bind (wpAny_sequenceKey lo.typeIs (by decide) (wpAny_bind ?_))
    refine wpAny_callSpecial?_slot (name := Str.ofString "__setitem__") lo.typeIs slot_list_setitem ?_
    refine wpAny_call_entry slot_list_setitem lo.typeIs entry_list_setitem ?_ (args_list_setitem _ _ _)
    show wpAny _ _ (Builtin.List.listSubscript? (.ref z) >>= _) _ _ s
    refine wpAny_bind ?_
    unfold Builtin.List.listSubscript?
    refine wpAny_bind (wpAny_specialOf tz slice_no_index ?_)
    simp only [Option.isNone_none, if_true]
    refine wpAny_pure ?_
    show wpAny _ _ (typeOf (.ref z) >>= _) _ _ s
    refine wpAny_bind (wpAny_typeOf tz ?_)
    first
      | rw [if_neg (by decide)]
      | refine PySem.W.KFB.if_not (by decide) ?_
    rw [listSliceParts_eq]
    refine wpAny_bind (wpAny_bind (wpAny_field gz dz (x := .none) rfl (wpAny_bind (wpAny_listPart .none ?_))))
    rw [if_neg (show ¬ ((rawPart none == rawInt 0) = true) from Bool.false_ne_true)]
    refine wpAny_bind (wpAny_field gz dz (x := vl) rfl (wpAny_bind (wpAny_listPart pl ?_)))
    refine wpAny_bind (wpAny_field gz dz (x := vu) rfl (wpAny_bind (wpAny_listPart pu (wpAny_pure ?_))))
    first
      | simp only [apart, Bool.false_eq_true, if_false]
      | refine PySem.W.KFB.if_not apart ?_
    refine wpAny_bind ?_
    unfold Builtin.List.listAllItems
    refine wpAny_bind (wpAny_typeOf ln.typeIs ?_)
    first
      | refine PySem.W.KFB.if_so (by decide) ?_
      | rw [if_pos (by decide)]
    unfold Builtin.List.listItems
    refine wpAny_bind (wpAny_seqItems en rfl (wpAny_pure (wpAny_bind (wpAny_bind (wpAny_seqItems eo rfl (wpAny_pure ?_))))))
    have si := (sliceIndices_raw (some (a : Int)) (some (c : Int)) none old.size (by simp)).trans (congrArg (pure : Int × Int × Int → Sem (Int × Int × Int)) bd)
    refine wpAny_bind (wpAny_of_eq si ?_)
    show wpAny _ _ (if ((1 : Int) == 1) = true then _ else _) _ _ s
    rw [if_pos (by decide)]
    refine wpAny_bind (wpAny_rule ?_)
    first
      | simp only [notLongL fit, Bool.false_eq_true, if_false]
      | refine PySem.W.KFB.if_not (notLongL fit) ?_
    try refine wpAny_bind (wpAny_pure ?_)
    show wpAny _ _ (updateSeq l (fun t => t.extract 0 ((a : Int)).toNat ++ new ++ t.extract (max (a : Int) ((min c old.size : Nat) : Int)).toNat t.size) >>= _) _ _ s
    rw [mx, Int.toNat_natCast]
    refine wpAny_bind (wpAny_updateSeq (hz := Nat.le_trans (Nat.le_add_right _ _) fit) (_hz' := zz) eo rfl (wpAny_bind (wpAny_letGo ?_)))
    first
      | exact wpAny_bind (wpAny_pure (wpAny_pure ⟨.none, rfl, wpAny_pure k⟩))
      | exact wpAny_pure ⟨.none, rfl, wpAny_pure k⟩
end

section
variable {X : Cx}
theorem splice (xs ys : List Value) (a c : Nat) : xs.toArray.extract 0 a ++ ys.toArray ++ xs.toArray.extract (min c xs.toArray.size) xs.toArray.size = (xs.take a ++ ys ++ xs.drop c).toArray := by
  rw [splice_eq]
  congr 1
  by_cases h : c ≤ xs.length
  · rw [List.size_toArray, Nat.min_eq_left h]
  · rw [List.size_toArray, Nat.min_eq_right (by omega), List.drop_length, List.drop_of_length_le (by omega)]

/-- o[lo:hi] = v, both given, v another list -/
def gCut (to : TE) (tl th : TO) : TG := fun v σ H Q => to σ H fun o H1 => tl σ H1 fun lo H2 => th σ H2 fun hi H3 =>
  ∃ p q xs ys a c, o = .ref p ∧ v = .ref q ∧ lo = some a ∧ hi = some c ∧ H3 p = some (.lst xs) ∧ H3 q = some (.lst ys) ∧ p ≠ q ∧
    0 ≤ a ∧ a ≤ c ∧ a ≤ xs.length ∧ xs.length + ys.length ≤ sizeLine ∧ Q σ (upd H3 p (.lst (xs.take a.toNat ++ ys ++ xs.drop c.toNat)))

theorem pg_cut {o : Expr} {lo hi : Option Expr} {to : TE} {tl th : TO} {p2 pos : Pos} (ho : PE X o to) (hl : PO X lo tl) (hh : PO X hi th)
    (ha : ∀ v, assign (.Subscript o (.Slice lo hi none p2) pos) X.env v = (do
      let ov ← holding [v] (eval o X.env)
      let iv ← holding [v, ov] (eval (.Slice lo hi none p2) X.env)
      standAt pos
      holding [v, ov, iv] (setItem ov iv v)
      release [iv, v, ov] []) := by intro _; rfl) : PG X (.Subscript o (.Slice lo hi none p2) pos) (gCut to tl th) := by
  refine ⟨fun pins s σ H v u Q I r h => ?_⟩
  rw [ha]
  refine wpAny_bind (wpAny_holding (thn (ho.run pins s σ H _ I h) fun ov s1 ⟨x, H1, I1, r1, q1⟩ => wpAny_bind (wpAny_holding ?_)))
  refine wpAny_Slice (thn (hl.run pins s1 σ H1 _ I1 q1) fun wl s2 ⟨l, H2, I2, pl, q2⟩ => ?_)
  refine thn (hh.run pins s2 σ H2 _ I2 q2) fun wu s3 ⟨uu, H3, I3, pu, q3⟩ => ?_
  rw [evalPart_none]
  refine wpAny_pure ?_
  obtain ⟨p, q, xs, ys, a, c, rfl, rfl, rfl, rfl, hp, hq, pq, a0, ac, ax, fit, fin⟩ := q3
  cases r1
  cases r
  have I4 : Inv X pins σ H3 { s3 with heap := s3.heap.push { cls := .type "slice", data := .fields #[wl, wu, .none] } } := I3.kept (t' := s3.toks) fun b ob e => Heap.get?_push_of_some _ e
  refine wpAny_bind (wpAny_standAt (wpAny_bind (wpAny_holding ?_)))
  obtain ⟨z1, us1, n1, rv1, _, e1⟩ := I4.lstM hp
  obtain ⟨z2, us2, n2, rv2, _, e2⟩ := I4.lstM hq
  obtain ⟨a', rfl⟩ := Int.eq_ofNat_of_zero_le a0
  obtain ⟨c', rfl⟩ := Int.eq_ofNat_of_zero_le (Int.le_trans a0 ac)
  simp only [Int.toNat_natCast] at fin
  have L1 := rv1.length
  have L2' := rv2.length
  refine put_slice (a := a') (c := c') e1 e2 pq (Heap.IsSliceOf.new ..) pl pu (by omega) (by rw [List.size_toArray]; omega) (by rw [List.size_toArray, List.size_toArray]; omega) ?_
  refine wpAny_release ⟨σ, _, ?_, fin⟩
  refine I4.lset (its' := us1.take a' ++ us2 ++ us1.drop c') (t' := s3.toks) hp e1 (splice us1 us2 a' c') (Vals.append (Vals.append (rv1.take _) rv2) (rv1.drop _)) ?_
  rw [List.length_append, List.length_append, List.length_take, List.length_drop]
  omega
end
end Sip
namespace Sip
open PySem PySem.Spec PyProof.Rows L2

/-- a def of the text: where it stands, how it is called -/
structure Df (K : PySem.W.Frag) (mg : Str → Option Value) (x : Str) (st : Stmt) (ps : List Str) (f : Addr) (fd : FuncData) : Prop where
  F : Fun K x x st f fd
  b : Binds K fd ps []
  g : mg x = some (.ref f)

/-! heaps: all that was tracked stands, but at the places ps -/
def Kp (ps : List Addr) (H H' : Hp) : Prop := ∀ b o, b ∉ ps → H b = some o → H' b = some o
theorem Kp.refl (ps : List Addr) (H : Hp) : Kp ps H H := fun _ _ _ h => h
theorem Kp.trans {ps : List Addr} {H H1 H2 : Hp} (a : Kp ps H H1) (b : Kp ps H1 H2) : Kp ps H H2 := fun c o n h => b c o n (a c o n h)
theorem Kp.wide {ps qs : List Addr} {H H1 : Hp} (a : Kp ps H H1) (h : ∀ x ∈ ps, x ∈ qs) : Kp qs H H1 := fun c o n e => a c o (fun z => n (h c z)) e
theorem Kp.same {H H1 : Hp} (a : Kp [] H H1) : Same H H1 := fun c o e => a c o (fun h => nomatch h) e
theorem Kp.of {ps : List Addr} {H H1 : Hp} (a : Same H H1) : Kp ps H H1 := fun c o _ e => a c o e
theorem Kp.at {ps : List Addr} {H : Hp} {p : Addr} {o : HO} (h : p ∈ ps) : Kp ps H (upd H p o) := fun b x n e => by
  have hb : b ≠ p := fun z => n (by rw [z]; exact h)
  rw [upd_ne hb]; exact e
theorem Kp.new {ps : List Addr} {H : Hp} {p : Addr} {o : HO} (h : H p = none) : Kp ps H (upd H p o) := fun b x n e => by
  rw [upd_ne (ne_of_none e h)]; exact e
/-- a place that was new at H is written later -/
theorem Kp.put {ps : List Addr} {H H1 : Hp} {p : Addr} {o : HO} (k : Kp ps H H1) (h : H p = none) : Kp ps H (upd H1 p o) := fun b x n e => by
  rw [upd_ne (ne_of_none e h)]; exact k b x n e
theorem Kp.seq {ps : List Addr} {K : PySem.W.Frag} {H H1 : Hp} {a : Addr} {xs : List V} (k : Kp ps H H1) (n : a ∉ ps) (h : SqL K H a xs) : SqL K H1 a xs := by
  rcases h with (h | ⟨o, h⟩) | h
  · exact .inl (.inl (k _ _ n h))
  · exact .inl (.inr ⟨o, k _ _ n h⟩)
  · exact .inr h
theorem Kp.free {H H1 : Hp} {ps : List Addr} (k : Kp ps H H1) {q : Addr} (n : q ∉ ps) (h : H1 q = none) : H q = none := by
  cases e : H q with
  | none => rfl
  | some o => rw [k q o n e] at h; cases h
theorem sq_new {K : PySem.W.Frag} {H : Hp} {p : Addr} {xs : List V} : SqL K (upd H p (.lst xs)) p xs := .inl (.inl upd_same)
theorem sq_at {K : PySem.W.Frag} {H : Hp} {p : Addr} {xs : List V} (h : H p = some (.lst xs)) : SqL K H p xs := .inl (.inl h)
theorem upd_upd {H : Hp} {p : Addr} {a b : HO} : upd (upd H p a) p b = upd H p b := by
  funext x
  by_cases h : x = p
  · subst h; rw [upd_same, upd_same]
  · rw [upd_ne h, upd_ne h, upd_ne h]

/-! the law's own draws: a pool is a list of three ints -/
def PoolO (n : Int) (o : HO) : Prop := ∃ d c x : Int, o = .lst [.int d, .int c, .int x] ∧ 0 ≤ d ∧ 0 ≤ c ∧ c ≤ n
theorem PoolO.up {n m : Int} {o : HO} (h : PoolO n o) (l : n ≤ m) : PoolO m o := by
  obtain ⟨d, c, x, e, h1, h2, h3⟩ := h
  exact ⟨d, c, x, e, h1, h2, by omega⟩
def spTake : Sp := fun vs H Q _ => ∃ (p : Addr) (n wide : Int) (o : HO), vs = [.ref p, .int wide] ∧ H p = some o ∧ PoolO n o ∧ n ≤ 1000000000 ∧ 0 < wide ∧ wide < 1073741824 ∧
  ∀ (r : Int) (o' : HO), 0 ≤ r → r < wide → PoolO (n + 1) o' → Q (.int r) (upd H p o')
def spPool (K : PySem.W.Frag) : Sp := fun vs H Q _ => ∃ (a : Addr) (ns : List Int) (i : Int), vs = [.ref a, .int i] ∧ SqL K H a (ns.map V.int) ∧ ns.length ≤ 63 ∧ 0 ≤ i ∧ i ≤ 1000 ∧
  ∀ (p : Addr) (o : HO), H p = none → PoolO (1000 * i) o → Q (.ref p) (upd H p o)

/-! lists of ints -/
theorem atI_int {ms : List Int} {i : Int} (h0 : 0 ≤ i) (h1 : i < ms.length) : ∃ m, m ∈ ms ∧ atI (ms.map V.int) i = some (.int m) ∧ ms[i.toNat]? = some m := by
  obtain ⟨j, rfl⟩ := Int.eq_ofNat_of_zero_le h0
  have hj : j < ms.length := by omega
  refine ⟨ms[j], List.getElem_mem hj, atI_nat ?_, by rw [Int.toNat_natCast, List.getElem?_eq_getElem hj]⟩
  rw [List.getElem?_map, List.getElem?_eq_getElem hj]; rfl
theorem atI_intV {ms : List Int} {i : Int} (h0 : 0 ≤ i) (h1 : i < ms.length) : atI (ms.map V.int) i = some (.int (ms.getD i.toNat 0)) := by
  obtain ⟨m, _, e, g⟩ := atI_int h0 h1
  rw [e, List.getD_eq_getElem?_getD, g]; rfl
theorem dp_ints {K : PySem.W.Frag} {H : Hp} : ∀ ns : List Int, DpAll K H (ns.map V.int) (ns.map PyData.int)
  | [] => .nil
  | n :: r => .cons (.int n) (dp_ints r)
theorem dp_lst {K : PySem.W.Frag} {H : Hp} {a : Addr} {ns : List Int} (h : SqL K H a (ns.map V.int)) : Dp K H (.ref a) (.list (ns.map PyData.int)) := .lst h (dp_ints ns)
section
variable {X : Cx}
/-- == and != of two lists of ints -/
def rEqI (K : PySem.W.Frag) : R2 := fun x y H Q => ∃ (a b : Addr) (ns ms : List Int), x = .ref a ∧ y = .ref b ∧ SqL K H a (ns.map V.int) ∧ SqL K H b (ms.map V.int) ∧ Q (.bl (decide (ns = ms))) H
def rNeI (K : PySem.W.Frag) : R2 := fun x y H Q => ∃ (a b : Addr) (ns ms : List Int), x = .ref a ∧ y = .ref b ∧ SqL K H a (ns.map V.int) ∧ SqL K H b (ms.map V.int) ∧ Q (.bl (!decide (ns = ms))) H
theorem op_eqI (hu : X.A.units + 64 < cLine) : OpR X (compareOp .Eq) (rEqI X.K) := by
  intro pins s σ H x y v u Q I rx ry h
  obtain ⟨a, b, ns, ms, rfl, rfl, ha, hb, q⟩ := h
  cases rx; cases ry
  obtain ⟨us, rv, hl, _⟩ := I.list ha
  obtain ⟨ws, rw', hl', _⟩ := I.list hb
  exact PySem.W.eq_intsK hl.isList rv.ints hl'.isList rw'.ints hu ⟨.bl (decide (ns = ms)), H, I, rfl, q⟩
theorem op_neI (hu : X.A.units + 64 < cLine) : OpR X (compareOp .NotEq) (rNeI X.K) := by
  intro pins s σ H x y v u Q I rx ry h
  obtain ⟨a, b, ns, ms, rfl, rfl, ha, hb, q⟩ := h
  cases rx; cases ry
  obtain ⟨us, rv, hl, _⟩ := I.list ha
  obtain ⟨ws, rw', hl', _⟩ := I.list hb
  exact PySem.W.ne_intsK hl.isList rv.ints hl'.isList rw'.ints hu ⟨.bl (!decide (ns = ms)), H, I, rfl, q⟩
end
/-! a row laid over another one -/
def laidF (r : List Int) (n : Nat) (d : List Int) : List Int :=
  if d = [] then r else (r ++ List.replicate (n - r.length) 0).take n ++ d ++ (r ++ List.replicate (n - r.length) 0).drop (n + d.length)
theorem laidF_nil (r : List Int) (n : Nat) : laidF r n [] = r := if_pos rfl
theorem laidF_cons {r : List Int} {n : Nat} {d : List Int} (h : d ≠ []) : laidF r n d = (r ++ List.replicate (n - r.length) 0).take n ++ d ++ (r ++ List.replicate (n - r.length) 0).drop (n + d.length) := if_neg h
theorem laidF_length {r : List Int} {n : Nat} {d : List Int} (h : d ≠ []) : (laidF r n d).length = max r.length (n + d.length) := by
  rw [laidF_cons h, List.length_append, List.length_append, List.length_take, List.length_drop, List.length_append, List.length_replicate]
  omega
theorem pad_get (r : List Int) (m i : Nat) : (r ++ List.replicate m 0)[i]?.getD 0 = r.getD i 0 := by
  rw [List.getD_eq_getElem?_getD]
  by_cases h : i < r.length
  · rw [List.getElem?_append_left h]
  · rw [List.getElem?_append_right (by omega), List.getElem?_eq_none (l := r) (by omega)]
    by_cases h2 : i - r.length < m
    · rw [List.getElem?_replicate, if_pos h2]; rfl
    · rw [List.getElem?_eq_none (by rw [List.length_replicate]; omega)]
theorem laidF_getD {r : List Int} {n : Nat} {d : List Int} (h : d ≠ []) (i : Nat) : (laidF r n d)[i]?.getD 0 = if n ≤ i ∧ i < n + d.length then d.getD (i - n) 0 else r.getD i 0 := by
  have lt : ((r ++ List.replicate (n - r.length) 0).take n).length = n := by
    rw [List.length_take, List.length_append, List.length_replicate]; omega
  rw [laidF_cons h, List.append_assoc]
  by_cases h1 : i < n
  · rw [if_neg (by omega), List.getElem?_append_left (by rw [lt]; exact h1), List.getElem?_take_of_lt h1]
    exact pad_get r _ i
  · rw [List.getElem?_append_right (by rw [lt]; omega), lt]
    by_cases h2 : i < n + d.length
    · rw [if_pos ⟨by omega, h2⟩, List.getElem?_append_left (by omega), List.getD_eq_getElem?_getD]
    · rw [if_neg (by omega), List.getElem?_append_right (by omega), List.getElem?_drop, ← pad_get r (n - r.length) i]
      congr 2
      omega
theorem laidF_get {r : List Int} {n : Nat} {d : List Int} {i : Nat} (h : d ≠ []) (hi : i < (laidF r n d).length) : (laidF r n d)[i]? = some (if n ≤ i ∧ i < n + d.length then d.getD (i - n) 0 else r.getD i 0) := by
  rw [← laidF_getD h i, List.getElem?_eq_getElem hi]; rfl
theorem ext_getD {xs ys : List Int} (hl : xs.length = ys.length) (h : ∀ i, i < xs.length → xs[i]?.getD 0 = ys[i]?.getD 0) : xs = ys := by
  apply List.ext_getElem hl
  intro i h1 h2
  have := h i h1
  rw [List.getElem?_eq_getElem h1, List.getElem?_eq_getElem h2] at this
  exact this
/-- laid over once more: the same -/
theorem laidF_twice (r : List Int) (n : Nat) (d : List Int) : laidF (laidF r n d) n d = laidF r n d := by
  by_cases h : d = []
  · subst h; rw [laidF_nil, laidF_nil]
  · have l1 := laidF_length (r := r) (n := n) h
    have l2 := laidF_length (r := laidF r n d) (n := n) h
    refine ext_getD (by omega) fun i hi => ?_
    rw [laidF_getD h, laidF_getD h]
    split
    · rfl
    · next c => rw [List.getD_eq_getElem?_getD, laidF_getD h, if_neg c]
theorem flat_rep (m : Nat) (v : V) : (List.replicate m [v]).flatten = List.replicate m v := by
  induction m with
  | zero => rfl
  | succ m ih => rw [List.replicate_succ, List.flatten_cons, ih, List.replicate_succ]; rfl
theorem all_true (n : Nat) : (List.replicate n true).all id = true := by
  rw [List.all_eq_true]
  intro x hx
  exact (List.mem_replicate.mp hx).2
def spBytes : Sp := fun vs H Q _ => ∃ (p : Addr) (n : Int) (o : HO), vs = [.ref p] ∧ H p = some o ∧ PoolO n o ∧ n ≤ 900000000 ∧
  ∀ (H' : Hp) (q : Addr) (bs : List Int) (o' : HO), H q = none → H' q = some (.lst (bs.map V.int)) → H' p = some o' → PoolO (n + 1000) o' → Kp [p] H H' → bs.length ≤ 400 → (∀ b ∈ bs, 0 ≤ b ∧ b ≤ 255) → Q (.ref q) H'
def spLaid (K : PySem.W.Frag) : Sp := fun vs H Q _ => ∃ (a b : Addr) (r : List Int) (n : Nat) (d : List Int), vs = [.ref a, .int n, .ref b] ∧ SqL K H a (r.map V.int) ∧ H b = some (.lst (d.map V.int)) ∧ r.length ≤ 10000 ∧ n ≤ 4400 ∧ d.length ≤ 4400 ∧
  ∀ (H' : Hp) (q : Addr), H q = none → H' q = some (.lst ((laidF r n d).map V.int)) → Same H H' → Q (.ref q) H'
def spDue (K : PySem.W.Frag) : Sp := fun vs H Q _ => ∃ (a b : Addr) (r : List Int) (n : Nat) (d : List Int), vs = [.ref a, .int n, .ref b] ∧ SqL K H a (r.map V.int) ∧ SqL K H b (d.map V.int) ∧ r.length ≤ 10000 ∧ n ≤ 4400 ∧ d.length ≤ 4400 ∧
  ∀ (H' : Hp) (q : Addr), H q = none → H' q = some (.lst ((laidF r n d).map V.int)) → Same H H' → Q (.ref q) H'
def spFits (K : PySem.W.Frag) : Sp := fun vs H Q _ => ∃ (a b : Addr) (xs ys : List Int), vs = [.ref a, .ref b] ∧ H a = some (.lst (xs.map V.int)) ∧ SqL K H b (ys.map V.int) ∧ xs.length ≤ 100000 ∧
  ∀ H' : Hp, Same H H' → Q (.bl (decide (xs = ys))) H'
def spLaw (K : PySem.W.Frag) : Sp := fun vs H Q _ => ∃ (a : Addr) (ns : List Int), vs = [.ref a] ∧ SqL K H a (ns.map V.int) ∧ ns.length ≤ 63 ∧ ∀ H' : Hp, Q (.bl true) H'
theorem step_same {H H1 H2 : Hp} {p : Addr} (s : Same H H1) (n : H p = none) (k : Kp [p] H1 H2) : Same H H2 := fun b o e =>
  k b o (fun z => ne_of_none e n (List.mem_singleton.mp z)) (s b o e)
theorem put_same {H H1 : Hp} {p : Addr} {o : HO} (s : Same H H1) (n : H p = none) : Same H (upd H1 p o) := fun b x e => by
  rw [upd_ne (ne_of_none e n)]; exact s b x e
theorem ixN_zero {n : Nat} (h : 0 < n) : ixN n 0 = some 0 := by
  unfold ixN
  rw [if_pos (by decide), if_pos (by omega)]; rfl
theorem laidF_le {r d : List Int} {n m : Nat} (h : r.length ≤ m ∧ n + d.length ≤ m) : (laidF r n d).length ≤ m := by
  by_cases e : d = []
  · subst e; rw [laidF_nil]; exact h.1
  · rw [laidF_length e]; omega
end Sip
namespace Sip
open PySem PySem.Spec PyProof.Rows L2 PySem.Builtin PySem.Builtin.Str PySem.Builtin.Int PySem.Builtin.Float

def figs : List Nat := [48, 49, 50, 51, 52, 53, 54, 55, 56, 57, 97, 98, 99, 100, 101, 102]
/-- two figures of sixteen -/
def two (n : Nat) : Str := ⟨#[figs.getD (n / 16) 0, figs.getD (n % 16) 0]⟩
def hexSpec : FormatSpec := { fill := 48, align := 61, width := some 2, type := some 120 }
theorem hex_parse : parseFormatSpec (Str.ofString "02x").cps.toList "int" 62 = .ok hexSpec := by kernel_rfl
theorem hex_ascii : (((Str.ofString "02x").cps.toList.drop 1).any (· ≥ 128) || ((Str.ofString "02x").cps.getD 0 0 ≥ 128 && !([60, 62, 61, 94] : List Nat).contains ((Str.ofString "02x").cps.getD 1 0))) = false := by decide +kernel
theorem hex_some : ((Str.ofString "02x").length == 0) = false := by decide +kernel
theorem hex_ex : ∃ F : Int → Str, (∀ (a : Int) (t u : Tok), Gives («int.__format__» ⟨[.int a t, .str (Str.ofString "02x") u], []⟩) (.str (F a))) ∧ ∀ b : Fin 256, F (b.val : Int) = two b.val := by
  apply Exists.intro
  apply And.intro
  · intro a t u prog w A R s hq
    unfold «int.__format__»
    simp only [selfAndOne, noKeywords, Int.intOfSelf, asInt?, asStr?, List.isEmpty_nil, if_true, pure_bind, bind_pure, bind_assoc, hex_some, hex_ascii, Bool.false_eq_true, if_false,
      show (Value.str (Str.ofString "02x") u == Value.none) = false from rfl]
    refine wpAny_bind (wpAny_typeNameOf (T := "str") (typeIs_str _ _ _) (by decide) fun _ => wpAny_bind (wpAny_typeNameOfCut_int ?_))
    simp only [hex_parse]
    refine PySem.W.KFB.if_so (by decide +kernel) ?_
    show wpAny _ _ (retStr _) _ _ _
    unfold retStr
    exact wpAny_bind (wpAny_mkStr (wpAny_pure hq.2) hq.1)
  · decide +kernel
end Sip
namespace Sip
open PySem PySem.Spec PyProof.Rows L2 TL

section
variable {X : Cx}
/-- f'{b:02x}' of a byte -/
def tHex (te : TE) : TE := fun σ H Q => te σ H fun x H1 => ∃ b : Nat, b < 256 ∧ x = .int b ∧ Q (.str (two b)) H1
theorem pe_hex {e : Expr} {te : TE} {k : Nat} {p1 p2 p3 p4 : Pos} (he : PE X e te) :
    PE X (.JoinedStr [.FormattedValue e (-1) (some (.JoinedStr [.Constant (.str (Str.ofString "02x")) k p1] p2)) p3] p4) (tHex te) := by
  have hs : PE X (.JoinedStr [.Constant (.str (Str.ofString "02x")) k p1] p2) (tC (.str (Str.ofString "02x"))) := pe_joined1 pe_str
  obtain ⟨F, g1, g2⟩ := hex_ex
  refine ⟨fun pins s σ H Q I h => wpAny_JoinedStr_one (wpAny_FormattedValue_spec (thn (he.run pins s σ H _ I h) fun v s1 ⟨x, H1, I1, r1, q1⟩ => ?_))⟩
  obtain ⟨b, hb, rfl, q⟩ := q1
  obtain ⟨t, rfl⟩ := r1
  refine thn (hs.run pins s1 σ H1 (fun y H2 => y = .str (Str.ofString "02x") ∧ H2 = H1) I1 ⟨rfl, rfl⟩) fun u s2 ⟨y, H2, I2, r2, ey, eH⟩ => ?_
  subst ey eH
  obtain ⟨t2, rfl⟩ := r2
  have e2 : F (b : Int) = two b := g2 ⟨b, hb⟩
  refine ⟨_, _, rfl, wpAny_formatField_spec (x := F (b : Int)) hex_some (fun s' => typeIs_int s' _ _) PySem.F.slot_int_format PySem.F.entry_int_format PySem.F.args_int_format_2 (fun u => g1 b t u) ?_ (by rw [sizeLine_eq]; decide +kernel) (by rw [e2, sizeLine_eq]; show (2 : Nat) ≤ _; decide)⟩
  rw [e2]
  exact ⟨.str (two b), H2, (I2.tok _).tok _, ⟨_, rfl⟩, q⟩
end

/-! the text of a row, as codes -/
def twoL (b : Int) : List Nat := [figs.getD (b.toNat / 16) 0, figs.getD (b.toNat % 16) 0]
def txL (bs : List Int) : List Nat := bs.flatMap twoL
def tx (bs : List Int) : Str := ⟨(txL bs).toArray⟩
def Bytes (bs : List Int) : Prop := ∀ b ∈ bs, 0 ≤ b ∧ b ≤ 255
theorem txL_length : ∀ bs : List Int, (txL bs).length = 2 * bs.length
  | [] => rfl
  | b :: r => by
    show (twoL b ++ txL r).length = 2 * (r.length + 1)
    rw [List.length_append, txL_length r]
    show 2 + 2 * r.length = _
    omega
theorem tx_length (bs : List Int) : (tx bs).length = 2 * bs.length := by
  show (txL bs).toArray.size = _
  rw [List.size_toArray, txL_length]
theorem txL_append (a b : List Int) : txL (a ++ b) = txL a ++ txL b := List.flatMap_append
theorem tx_append (a b : List Int) : tx (a ++ b) = tx a ++ tx b := ext_toList (by
  show (txL (a ++ b)).toArray.toList = ((txL a).toArray ++ (txL b).toArray).toList
  rw [Array.toList_append, txL_append])
/-- a figure's worth -/
def wor (c : Nat) : Nat := figs.idxOf c
theorem wor_figs : ∀ j : Fin 16, wor (figs.getD j.val 0) = j.val := by decide
theorem twoL_back {b : Int} (h : 0 ≤ b ∧ b ≤ 255) : ∃ i j : Nat, i < 16 ∧ j < 16 ∧ twoL b = [figs.getD i 0, figs.getD j 0] ∧ b = 16 * (i : Int) + j :=
  ⟨b.toNat / 16, b.toNat % 16, by omega, by omega, rfl, by omega⟩
theorem figs_inj {i j : Nat} (hi : i < 16) (hj : j < 16) (e : figs.getD i 0 = figs.getD j 0) : i = j := by
  have a : wor (figs.getD i 0) = i := wor_figs ⟨i, hi⟩
  have b : wor (figs.getD j 0) = j := wor_figs ⟨j, hj⟩
  exact a.symm.trans ((congrArg wor e).trans b)
theorem txL_inj : ∀ {a b : List Int}, Bytes a → Bytes b → txL a = txL b → a = b
  | [], [], _, _, _ => rfl
  | [], y :: r, _, _, e => by cases e
  | x :: r, [], _, _, e => by cases e
  | x :: r, y :: q, ha, hb, e => by
    obtain ⟨i, j, hi, hj, e1, e2⟩ := twoL_back (ha x (List.mem_cons_self ..))
    obtain ⟨m, n, hm, hn, e3, e4⟩ := twoL_back (hb y (List.mem_cons_self ..))
    have e5 : twoL x ++ txL r = twoL y ++ txL q := e
    rw [e1, e3] at e5
    have e6 := List.cons.inj e5
    have e7 := List.cons.inj e6.2
    have k1 := figs_inj hi hm e6.1
    have k2 := figs_inj hj hn e7.1
    have k3 := txL_inj (fun z hz => ha z (List.mem_cons_of_mem _ hz)) (fun z hz => hb z (List.mem_cons_of_mem _ hz)) e7.2
    rw [e2, e4, k1, k2, k3]
theorem tx_inj {a b : List Int} (ha : Bytes a) (hb : Bytes b) (e : tx a = tx b) : a = b := txL_inj ha hb (by
  have := congrArg (fun s : Str => s.cps.toList) e
  exact this)
theorem tx_eq {a b : List Int} (ha : Bytes a) (hb : Bytes b) : decide (V.str (tx a) = V.str (tx b)) = decide (a = b) := by
  by_cases h : a = b
  · subst h; rw [decide_eq_true rfl, decide_eq_true rfl]
  · rw [decide_eq_false h, decide_eq_false]
    intro z
    exact h (tx_inj ha hb (V.str.inj z))
/-- joined from its parts -/
theorem join_two : ∀ bs : List Int, Str.join (Str.ofString "") (bs.map fun b => two b.toNat) = tx bs := fun bs => ext_toList (by
  show tl (Str.join (Str.ofString "") _) = txL bs
  rw [tl_join]
  have e0 : tl (Str.ofString "") = [] := by decide +kernel
  rw [e0, List.map_map]
  induction bs with
  | nil => rfl
  | cons b r ih =>
    cases r with
    | nil => show twoL b = twoL b ++ []; rw [List.append_nil]
    | cons c q =>
      show twoL b ++ ([] ++ joinL [] ((c :: q).map _)) = twoL b ++ txL (c :: q)
      rw [List.nil_append, ih])
/-- its signs by place -/
theorem txL_get : ∀ {bs : List Int} {i : Nat} {b : Int}, bs[i]? = some b → (txL bs)[2 * i]? = some (figs.getD (b.toNat / 16) 0) ∧ (txL bs)[2 * i + 1]? = some (figs.getD (b.toNat % 16) 0)
  | [], _, _, h => by simp at h
  | x :: r, 0, b, h => by
    have e : x = b := Option.some.inj h
    subst e
    exact ⟨rfl, rfl⟩
  | x :: r, i + 1, b, h => txL_get (bs := r) (i := i) (b := b) h
theorem tx_at {bs : List Int} {i : Nat} {b : Int} (h : bs[i]? = some b) : atI (tx bs).cps.toList ((2 * i : Nat) : Int) = some (figs.getD (b.toNat / 16) 0) ∧ atI (tx bs).cps.toList ((2 * i + 1 : Nat) : Int) = some (figs.getD (b.toNat % 16) 0) :=
  ⟨atI_nat (txL_get h).1, atI_nat (txL_get h).2⟩
def FIG : Str := Str.ofString "0123456789abcdef"
theorem fig_find : ∀ j : Fin 16, Txt.find FIG ⟨#[figs.getD j.val 0]⟩ = (j.val : Int) := by decide +kernel
theorem fig_at {j : Nat} (h : j < 16) : atI FIG.cps.toList (j : Int) = some (figs.getD j 0) := by
  have e : FIG.cps.toList = figs := by decide +kernel
  rw [e]
  refine atI_nat ?_
  rw [List.getD_eq_getElem?_getD, List.getElem?_eq_getElem (show j < figs.length from h)]; rfl
/-! slices of lists of ints -/
theorem cut_map (bs : List Int) (lo hi : Option Int) : ∃ cs : List Int, cutV (bs.map V.int) lo hi = cs.map V.int ∧ cs.length ≤ bs.length ∧ ∀ x ∈ cs, x ∈ bs := by
  refine ⟨(bs.drop (HT.sIx bs.length 0 lo)).take (HT.sIx bs.length bs.length hi - HT.sIx bs.length 0 lo), ?_, ?_, ?_⟩
  · unfold cutV
    rw [List.length_map, List.map_take, List.map_drop]
  · rw [List.length_take, List.length_drop]; omega
  · intro x hx
    exact List.mem_of_mem_drop (List.mem_of_mem_take hx)
theorem size_two (n : Nat) : Builtin.Range.rangeSize 0 ((2 * n : Nat) : Int) 2 = (n : Int) := by
  unfold Builtin.Range.rangeSize
  rw [if_pos (by decide)]
  split <;> omega
theorem range_two (n : Nat) (h : n ≤ 1000000) : RgC 0 ((2 * n : Nat) : Int) 2 n := by
  refine ⟨by decide, by decide, ?_, size_two n⟩
  have f : ∀ x : Int, 0 ≤ x → x ≤ 3000000 → Builtin.Range.rangeFitsLong x = true := fun x h0 h1 => by
    unfold Builtin.Range.rangeFitsLong
    rw [Bool.and_eq_true, decide_eq_true_eq, decide_eq_true_eq]
    omega
  unfold Builtin.Range.small
  rw [size_two, f 0 (by decide) (by decide), f ((2 * n : Nat) : Int) (by omega) (by omega), f 2 (by decide) (by decide), f (n : Int) (by omega) (by omega)]
  simp only [Bool.true_and, show (2 : Int) > 0 from by decide, if_true, Bool.or_eq_true, beq_iff_eq]
  exact .inr (f _ (by omega) (by omega))
end Sip
namespace Sip
open PySem PySem.Spec PyProof.Rows L2 TL
def spWorth : Sp := fun vs H Q _ => ∃ j : Nat, j < 16 ∧ vs = [.str ⟨#[figs.getD j 0]⟩] ∧ Q (.int j) H
def spRead : Sp := fun vs H Q _ => ∃ bs : List Int, vs = [.str (tx bs)] ∧ Bytes bs ∧ bs.length ≤ 8000 ∧ ∀ (H' : Hp) (p : Addr), H p = none → H' p = some (.lst (bs.map V.int)) → Same H H' → Q (.ref p) H'
def spTxt (K : PySem.W.Frag) : Sp := fun vs H Q _ => ∃ (a : Addr) (bs : List Int), vs = [.ref a] ∧ SqL K H a (bs.map V.int) ∧ Bytes bs ∧ bs.length ≤ 8000 ∧ ∀ H' : Hp, Same H H' → Q (.str (tx bs)) H'
theorem get_int {xs : List Int} {i : Nat} {x : V} (h : (xs.map V.int)[i]? = some x) : ∃ hi : i < xs.length, x = .int xs[i] := by
  have hi : i < xs.length := by
    have := (List.getElem?_eq_some_iff.mp h).1
    rwa [List.length_map] at this
  refine ⟨hi, ?_⟩
  rw [List.getElem?_map, List.getElem?_eq_getElem hi] at h
  exact (Option.some.inj h).symm
theorem sum_two : ∀ bs : List Int, ((bs.map fun b => two b.toNat).map (·.length)).sum = 2 * bs.length
  | [] => rfl
  | b :: r => by
    show 2 + ((r.map fun b => two b.toNat).map (·.length)).sum = 2 * (r.length + 1)
    rw [sum_two r]; omega
theorem fit_two (bs : List Int) (h : bs.length ≤ 8000) : ((bs.map fun b => two b.toNat).map (·.length)).sum + (bs.map fun b => two b.toNat).length * (Str.ofString "").length ≤ 16777216 := by
  rw [sum_two, show (Str.ofString "").length = 0 by decide +kernel]; omega
end Sip
namespace Sip
open PySem PySem.Spec PyProof.Rows L2 TL
def spAsked : Sp := fun vs H Q _ => ∃ (a : Addr) (bs : List Int), vs = [.ref a] ∧ H a = some (.lst (bs.map V.int)) ∧ Bytes bs ∧ bs.length ≤ 4000 ∧ ∀ H' : Hp, Same H H' → Q (.bl true) H'
end Sip
namespace Sip
open PySem PySem.Spec PyProof.Rows L2 TL

abbrev Piece := Nat × List Int
/-! all pieces laid one behind another -/
def allF (r : List Int) (ps : List Piece) : List Int := ps.foldl (fun acc p => laidF acc p.1 p.2) r
def mostF (m : Nat) (ps : List Piece) : Nat := ps.foldl (fun m p => if 0 < p.2.length then max m (p.1 + p.2.length) else m) m
def stepB (k : Nat) (b : Int) (p : Piece) : Int := if p.1 ≤ k ∧ k < p.1 + p.2.length then p.2.getD (k - p.1) 0 else b
def byteF (b : Int) (k : Nat) (ps : List Piece) : Int := ps.foldl (stepB k) b
theorem laidF_len (r : List Int) (p : Piece) : (laidF r p.1 p.2).length = if 0 < p.2.length then max r.length (p.1 + p.2.length) else r.length := by
  by_cases h : p.2 = []
  · rw [h, laidF_nil]; rfl
  · rw [laidF_length h, if_pos (List.length_pos_iff.mpr h)]
theorem laidF_byte (r : List Int) (p : Piece) (k : Nat) : (laidF r p.1 p.2)[k]?.getD 0 = stepB k (r[k]?.getD 0) p := by
  unfold stepB
  by_cases h : p.2 = []
  · rw [h, laidF_nil, if_neg (by simp)]
  · rw [laidF_getD h, List.getD_eq_getElem?_getD, List.getD_eq_getElem?_getD]
theorem allF_len : ∀ (ps : List Piece) (r : List Int), (allF r ps).length = mostF r.length ps
  | [], _ => rfl
  | p :: q, r => by
    show (allF (laidF r p.1 p.2) q).length = mostF (if 0 < p.2.length then max r.length (p.1 + p.2.length) else r.length) q
    rw [allF_len q, laidF_len]
theorem allF_byte : ∀ (ps : List Piece) (r : List Int) (k : Nat), (allF r ps)[k]?.getD 0 = byteF (r[k]?.getD 0) k ps
  | [], _, _ => rfl
  | p :: q, r, k => by
    show (allF (laidF r p.1 p.2) q)[k]?.getD 0 = byteF (stepB k (r[k]?.getD 0) p) k q
    rw [allF_byte q, laidF_byte]
theorem allF_append (r : List Int) (a b : List Piece) : allF r (a ++ b) = allF (allF r a) b := List.foldl_append
/-- a piece in two parts -/
theorem laidF_parts (r : List Int) (n c : Nat) (d : List Int) (h : c ≤ d.length) : laidF (laidF r n (d.take c)) (n + c) (d.drop c) = laidF r n d := by
  have l1 := laidF_len r (n, d.take c)
  have l2 := laidF_len (laidF r n (d.take c)) (n + c, d.drop c)
  have l3 := laidF_len r (n, d)
  simp only [List.length_take, List.length_drop] at l1 l2 l3
  refine ext_getD ?_ fun k hk => ?_
  · rw [l2, l3, l1]
    split <;> split <;> split <;> omega
  · rw [laidF_byte _ (n + c, d.drop c), laidF_byte r (n, d.take c), laidF_byte r (n, d)]
    unfold stepB
    simp only [List.length_take, List.length_drop, List.getD_eq_getElem?_getD, List.getElem?_drop]
    by_cases h1 : n + c ≤ k ∧ k < n + c + (d.length - c)
    · rw [if_pos h1, if_pos (by omega)]
      congr 2
      omega
    · rw [if_neg h1]
      by_cases h2 : n ≤ k ∧ k < n + min c d.length
      · rw [if_pos h2, if_pos (by omega), List.getElem?_take_of_lt (by omega)]
      · rw [if_neg h2, if_neg (by omega)]
theorem allF_parts (r : List Int) (a b : List Piece) (n c : Nat) (d : List Int) (h : c ≤ d.length) :
    allF r (a ++ [(n, d.take c), (n + c, d.drop c)] ++ b) = allF r (a ++ [(n, d)] ++ b) := by
  rw [allF_append, allF_append, allF_append, allF_append]
  show allF (laidF (laidF (allF r a) n (d.take c)) (n + c) (d.drop c)) b = allF (laidF (allF r a) n d) b
  rw [laidF_parts _ _ _ _ h]
def Small (p : Piece) : Prop := p.1 ≤ 340 ∧ p.2.length ≤ 400 ∧ Bytes p.2
theorem bytes_getD {bs : List Int} (h : Bytes bs) (k : Nat) : 0 ≤ bs[k]?.getD 0 ∧ bs[k]?.getD 0 ≤ 255 := by
  cases e : bs[k]? with
  | none => exact ⟨by decide, by decide⟩
  | some b =>
    obtain ⟨hk, rfl⟩ := List.getElem?_eq_some_iff.mp e
    exact h _ (List.getElem_mem hk)
theorem bytes_of {bs : List Int} (h : ∀ k, k < bs.length → 0 ≤ bs[k]?.getD 0 ∧ bs[k]?.getD 0 ≤ 255) : Bytes bs := fun b hb => by
  obtain ⟨k, hk, rfl⟩ := List.getElem_of_mem hb
  have := h k hk
  rw [List.getElem?_eq_getElem hk] at this
  exact this
theorem laid_bytes {r : List Int} {p : Piece} (hr : Bytes r) (hp : Bytes p.2) : Bytes (laidF r p.1 p.2) := bytes_of fun k _ => by
  rw [laidF_byte]
  unfold stepB
  split
  · rw [List.getD_eq_getElem?_getD]; exact bytes_getD hp _
  · exact bytes_getD hr k
theorem allF_good : ∀ (ps : List Piece) (r : List Int), Bytes r → r.length ≤ 740 → (∀ p ∈ ps, Small p) → Bytes (allF r ps) ∧ (allF r ps).length ≤ 740
  | [], r, hb, hl, _ => ⟨hb, hl⟩
  | p :: q, r, hb, hl, hp => by
    have h1 := hp p (List.mem_cons_self ..)
    refine allF_good q (laidF r p.1 p.2) (laid_bytes hb h1.2.2) ?_ (fun z hz => hp z (List.mem_cons_of_mem _ hz))
    exact laidF_le ⟨hl, by have := h1.1; have := h1.2.1; omega⟩

/-! pieces in the heap -/
def PieceAt (H : Hp) (v : V) (p : Piece) : Prop := ∃ T D : Addr, v = .ref T ∧ H T = some (.tup [.int (p.1 : Nat), .ref D]) ∧ H D = some (.lst (p.2.map V.int))
def Pieces (H : Hp) (vs : List V) (ps : List Piece) : Prop := vs.length = ps.length ∧ ∀ (i : Nat) (v : V) (p : Piece), vs[i]? = some v → ps[i]? = some p → PieceAt H v p
theorem PieceAt.mono {H H' : Hp} {v : V} {p : Piece} (s : Same H H') (h : PieceAt H v p) : PieceAt H' v p := by
  obtain ⟨T, D, e, h1, h2⟩ := h
  exact ⟨T, D, e, s _ _ h1, s _ _ h2⟩
theorem Pieces.mono {H H' : Hp} {vs : List V} {ps : List Piece} (s : Same H H') (h : Pieces H vs ps) : Pieces H' vs ps :=
  ⟨h.1, fun i v p a b => (h.2 i v p a b).mono s⟩
theorem Pieces.at {H : Hp} {vs : List V} {ps : List Piece} {i : Nat} {v : V} (h : Pieces H vs ps) (e : vs[i]? = some v) : ∃ hi : i < ps.length, PieceAt H v ps[i] := by
  have hi : i < ps.length := by
    have := (List.getElem?_eq_some_iff.mp e).1
    rw [h.1] at this; exact this
  exact ⟨hi, h.2 i v _ e (List.getElem?_eq_getElem hi)⟩
theorem Pieces.nil {H : Hp} : Pieces H [] [] := ⟨rfl, fun i v p a => by simp at a⟩
theorem Pieces.append {H : Hp} {vs us : List V} {ps qs : List Piece} (h : Pieces H vs ps) (k : Pieces H us qs) : Pieces H (vs ++ us) (ps ++ qs) := by
  refine ⟨by rw [List.length_append, List.length_append, h.1, k.1], fun i v p a b => ?_⟩
  by_cases hi : i < vs.length
  · rw [List.getElem?_append_left hi] at a
    rw [List.getElem?_append_left (by rw [← h.1]; exact hi)] at b
    exact h.2 i v p a b
  · rw [List.getElem?_append_right (by omega)] at a
    rw [List.getElem?_append_right (by rw [← h.1]; omega), ← h.1] at b
    exact k.2 _ v p a b
theorem Pieces.one {H : Hp} {v : V} {p : Piece} (h : PieceAt H v p) : Pieces H [v] [p] := ⟨rfl, fun i w q a b => by
  cases i with
  | zero =>
    have e1 : v = w := Option.some.inj a
    have e2 : p = q := Option.some.inj b
    rw [← e1, ← e2]; exact h
  | succ i => simp at a⟩
theorem Pieces.take {H : Hp} {vs : List V} {ps : List Piece} (h : Pieces H vs ps) (n : Nat) : Pieces H (vs.take n) (ps.take n) := by
  refine ⟨by rw [List.length_take, List.length_take, h.1], fun i v p a b => ?_⟩
  have hi : i < n := by
    have := (List.getElem?_eq_some_iff.mp a).1
    rw [List.length_take] at this; omega
  rw [List.getElem?_take_of_lt hi] at a b
  exact h.2 i v p a b
theorem Pieces.drop {H : Hp} {vs : List V} {ps : List Piece} (h : Pieces H vs ps) (n : Nat) : Pieces H (vs.drop n) (ps.drop n) := by
  refine ⟨by rw [List.length_drop, List.length_drop, h.1], fun i v p a b => ?_⟩
  rw [List.getElem?_drop] at a b
  exact h.2 _ v p a b
theorem cut_to (xs : List V) (n : Nat) (h : n ≤ xs.length) : cutV xs none (some (n : Int)) = xs.take n := by
  unfold cutV
  rw [HT.sIx_none, HT.sIx_nat, Nat.min_eq_left h]; rfl
theorem cut_from (xs : List V) (n : Nat) (h : n ≤ xs.length) : cutV xs (some (n : Int)) none = xs.drop n := by
  unfold cutV
  rw [HT.sIx_none, HT.sIx_nat, Nat.min_eq_left h]
  exact List.take_of_length_le (by rw [List.length_drop]; omega)
theorem split_at {α : Type} {ps : List α} {i : Nat} (hi : i < ps.length) : ps.take i ++ [ps[i]] ++ ps.drop (i + 1) = ps := by
  rw [List.append_assoc]
  show ps.take i ++ (ps[i] :: ps.drop (i + 1)) = ps
  rw [List.getElem_cons_drop, List.take_append_drop]
theorem foldl_next {α β : Type} (f : β → α → β) (b : β) (xs : List α) (i : Nat) (hi : i < xs.length) : (xs.take (i + 1)).foldl f b = f ((xs.take i).foldl f b) xs[i] := by
  rw [List.take_add_one, List.getElem?_eq_getElem hi, List.foldl_append]; rfl

def spBytesM (K : PySem.W.Frag) : Sp := fun vs H Q _ => ∃ (p m : Addr) (n : Int) (o : HO) (ms : List Int), vs = [.ref p, .ref m] ∧ H p = some o ∧ PoolO n o ∧ n ≤ 900000000 ∧ SqL K H m (ms.map V.int) ∧ p ≠ m ∧ ms ≠ [] ∧ ms.length ≤ 100 ∧ (∀ z ∈ ms, 0 ≤ z ∧ z ≤ 400) ∧
  ∀ (H' : Hp) (q : Addr) (bs : List Int) (o' : HO), H q = none → H' q = some (.lst (bs.map V.int)) → H' p = some o' → PoolO (n + 1000) o' → Kp [p] H H' → (∃ z ∈ ms, (bs.length : Int) = z) → Bytes bs → Q (.ref q) H'
def spDueP (K : PySem.W.Frag) : Sp := fun vs H Q _ => ∃ (a b : Addr) (r : List Int) (us : List V) (ps : List Piece), vs = [.ref a, .ref b] ∧ SqL K H a (r.map V.int) ∧ SqL K H b us ∧ Pieces H us ps ∧ r.length ≤ 740 ∧ Bytes r ∧ (∀ p ∈ ps, Small p) ∧ ps.length ≤ 100 ∧
  ∀ (H' : Hp) (q : Addr), H q = none → H' q = some (.lst ((allF r ps).map V.int)) → Same H H' → Q (.ref q) H'
/-! what stands apart from some places -/
def mask (qs : List Addr) (H : Hp) : Hp := fun b => if b ∈ qs then none else H b
theorem mask_le (qs : List Addr) (H : Hp) : Same (mask qs H) H := fun b o e => by
  unfold mask at e
  split at e
  · cases e
  · exact e
theorem mask_upd {qs : List Addr} {H : Hp} {q : Addr} {o : HO} (h : q ∈ qs) : mask qs (upd H q o) = mask qs H := by
  funext b
  unfold mask
  split
  · rfl
  · next n =>
    have : b ≠ q := fun z => n (by rw [z]; exact h)
    rw [upd_ne this]
theorem mask_kp {qs : List Addr} {H H' : Hp} (k : Kp qs H H') : Same (mask qs H) (mask qs H') := fun b o e => by
  unfold mask at e ⊢
  split at e
  · cases e
  · next n => rw [if_neg n]; exact k b o n e
theorem mask_at {qs : List Addr} {H : Hp} {b : Addr} (h : b ∉ qs) : mask qs H b = H b := if_neg h
theorem Kp.sub {ps qs : List Addr} {H H' : Hp} (k : Kp ps H H') (h : ∀ x ∈ ps, x ∈ qs ∨ H x = none) : Kp qs H H' := fun b o n e => by
  refine k b o (fun z => ?_) e
  rcases h b z with h | h
  · exact n h
  · rw [h] at e; cases e
def Tiny (p : Piece) : Prop := p.1 ≤ 299 ∧ p.2.length ≤ 40 ∧ Bytes p.2
theorem Tiny.small {p : Piece} (h : Tiny p) : Small p := ⟨by have := h.1; omega, by have := h.2.1; omega, h.2.2⟩
end Sip
namespace Sip
open PySem PySem.Spec PyProof.Rows L2 TL
def topS (i : Nat) : Stmt := PySem.Challenge.pw_sipstack_k05_whole_laid_in_pieces.main.body.getD i (.Pass ⟨0, 0, 0, 0⟩)
abbrev s_laid : Stmt := topS 5
abbrev N_laid : List Str := ["row", "place", "data", "told"]
abbrev P_laid : List Str := ["row", "place", "data"]
theorem sc_laid : FnScope N_laid P_laid (defScope s_laid) := ⟨rfl, rfl, rfl, by decide +kernel, rfl, by decide +kernel, by decide +kernel⟩
abbrev s_worth : Stmt := topS 8
abbrev N_worth : List Str := ["figure", "worth"]
abbrev P_worth : List Str := ["figure"]
theorem sc_worth : FnScope N_worth P_worth (defScope s_worth) := ⟨rfl, rfl, rfl, by decide +kernel, rfl, by decide +kernel, by decide +kernel⟩
abbrev s_read : Stmt := topS 7
abbrev N_read : List Str := ["text", "at"]
abbrev P_read : List Str := ["text"]
theorem sc_read : FnScope N_read P_read (defScope s_read) := ⟨rfl, rfl, rfl, by decide +kernel, rfl, by decide +kernel, by decide +kernel⟩
abbrev s_rowtext : Stmt := topS 6
abbrev N_rowtext : List Str := ["row", "byte"]
abbrev P_rowtext : List Str := ["row"]
theorem sc_rowtext : FnScope N_rowtext P_rowtext (defScope s_rowtext) := ⟨rfl, rfl, rfl, by decide +kernel, rfl, by decide +kernel, by decide +kernel⟩
abbrev s_pool : Stmt := topS 10
abbrev N_pool : List Str := ["_law_script", "_law_at", "_law_cell", "_law_digits"]
abbrev P_pool : List Str := ["_law_script", "_law_at"]
theorem sc_pool : FnScope N_pool P_pool (defScope s_pool) := ⟨rfl, rfl, rfl, by decide +kernel, rfl, by decide +kernel, by decide +kernel⟩
abbrev s_take : Stmt := topS 11
abbrev N_take : List Str := ["_law_pool_here", "_law_wide", "_law_found", "_law_seed"]
abbrev P_take : List Str := ["_law_pool_here", "_law_wide"]
theorem sc_take : FnScope N_take P_take (defScope s_take) := ⟨rfl, rfl, rfl, by decide +kernel, rfl, by decide +kernel, by decide +kernel⟩
abbrev s_bytes : Stmt := topS 12
abbrev N_bytes : List Str := ["_law_pool_here", "_law_menu", "_law_found", "_law_k"]
abbrev P_bytes : List Str := ["_law_pool_here", "_law_menu"]
theorem sc_bytes : FnScope N_bytes P_bytes (defScope s_bytes) := ⟨rfl, rfl, rfl, by decide +kernel, rfl, by decide +kernel, by decide +kernel⟩
abbrev s_due : Stmt := topS 13
abbrev N_due : List Str := ["_law_row", "_law_pieces", "_law_most", "_law_place", "_law_data", "_law_found", "_law_k", "_law_byte"]
abbrev P_due : List Str := ["_law_row", "_law_pieces"]
theorem sc_due : FnScope N_due P_due (defScope s_due) := ⟨rfl, rfl, rfl, by decide +kernel, rfl, by decide +kernel, by decide +kernel⟩
abbrev s_all : Stmt := topS 14
abbrev N_all : List Str := ["_law_row", "_law_pieces", "_law_found", "_law_place", "_law_data"]
abbrev P_all : List Str := ["_law_row", "_law_pieces"]
theorem sc_all : FnScope N_all P_all (defScope s_all) := ⟨rfl, rfl, rfl, by decide +kernel, rfl, by decide +kernel, by decide +kernel⟩
abbrev s_law : Stmt := topS 15
abbrev N_law : List Str := ["_law_script", "_law_pool_here", "_law_row", "_law_pieces", "_law_k", "_law_other", "_law_place", "_law_due_here", "_law_found", "_law_at", "_law_data", "_law_cut", "_law_parts"]
abbrev P_law : List Str := ["_law_script"]
theorem sc_law : FnScope N_law P_law (defScope s_law) := ⟨rfl, rfl, rfl, by decide +kernel, rfl, by decide +kernel, by decide +kernel⟩
section
variable {P : Program} {w : World} {K : PySem.W.Frag} {mg : Str → Option Value} {base : Heap}

theorem ok_pool {f : Addr} {fd : FuncData} (F : Fun K "_law_pool" "_law_pool" s_pool f fd) (m_len : mg "len" = none) : FnOk P w K mg base CX0 1 f fd P_pool (spPool K) := by
  refine F.ok sc_pool (fun vs H Q E h => ?_) (fun cdv A outer s H vs Q E hr h => ?_)
  · obtain ⟨a, ns, i, rfl, _⟩ := h
    rfl
  · obtain ⟨a, ns, i, rfl, hS, h63, i0, i1, q⟩ := h
    refine ⟨_, (pss_cons (ps_set (i := 2) sc_pool.nd rfl (.inl rfl) pe_int)
      (C8.pss_cut (ps_if (pt_cmpR op_gt (pe_callB call_len_seq (by rfl) m_len PySem.boot_len (pa_cons (pv 0) pa_nil)) pe_int (nomark _)) (pss_one (ps_set (i := 2) sc_pool.nd rfl (.inl rfl) (pe_ix ix_list (pv 0) (pe_op op_mod (pv 1) (pe_callB call_len_seq (by rfl) m_len PySem.boot_len (pa_cons (pv 0) pa_nil))) (fun _ _ => rfl)))) pss_nil)
      (pss_cons (ps_set (i := 3) sc_pool.nd rfl (.inl rfl) pe_int)
      (C8.pss_cut (ps_if (PW.pt (pw_and (pt_cmpR op_ge (pv 2) (pe_op op_pow pe_int pe_int) (nomark _)) (pw_and1 (pt_cmpR op_lt (pv 1) (pe_callB call_len_seq (by rfl) m_len PySem.boot_len (pa_cons (pv 0) pa_nil)) (nomark _))))) (pss_one (ps_set (i := 3) sc_pool.nd rfl (.inl rfl) (pv 2))) pss_nil)
      (pss_one (ps_ret (pe_lst (pa_cons (pv 3) (pa_cons (pe_op op_mul pe_int (pv 1)) (pa_cons (pv 2) pa_nil)))))))))), ?_⟩
    refine ⟨fun σ' H' => H' = H ∧ ∃ c : Int, σ' = [some (.ref a), some (.int i), some (.int c), none], ?_, fun σ' H' hm => ?_⟩
    · refine ⟨.ref a, rfl, a, ns.map V.int, rfl, .inl hS, _, _, rfl, rfl, _, rfl, ite2 (fun e => ?_) (fun e => ?_)⟩
      · have e1 : (0 : Int) < ((ns.map V.int).length : Int) := of_decide_eq_true e
        rw [List.length_map] at e1
        obtain ⟨m, _, em, _⟩ := atI_int (ms := ns) (i := i % (ns.length : Int)) (Int.emod_nonneg _ (by omega)) (Int.emod_lt_of_pos _ e1)
        refine ⟨.ref a, rfl, .int i, rfl, .ref a, rfl, a, ns.map V.int, rfl, .inl hS, _, _, rfl, rfl, ?_, a, _, _, .int m, rfl, rfl, hS, ?_, rfl, m, rfl⟩
        · rw [List.length_map]; exact e1
        · rw [List.length_map]; exact em
      · exact ⟨rfl, 0, rfl⟩
    · obtain ⟨rfl, c, rfl⟩ := hm
      refine ⟨fun σ' H'' => H'' = H' ∧ ∃ d : Int, 0 ≤ d ∧ σ' = [some (.ref a), some (.int i), some (.int c), some (.int d)], ?_, fun σ' H'' hm => ?_⟩
      · refine ⟨.int c, rfl, _, _, rfl, rfl, ⟨by decide, by decide, by decide⟩, _, _, rfl, rfl, _, rfl, ite2 (fun e => ?_) (fun e => iteF ⟨rfl, 0, by decide, rfl⟩)⟩
        have e1 : ((10 : Int) ^ (18 : Int).toNat) ≤ c := of_decide_eq_true e
        refine ⟨.int i, rfl, .ref a, rfl, a, ns.map V.int, rfl, .inl hS, _, _, rfl, rfl, _, rfl, ite2 (fun e => ?_) (fun e => ⟨rfl, 0, by decide, rfl⟩)⟩
        exact ⟨.int c, rfl, rfl, c, Int.le_trans (by decide) e1, rfl⟩
      · obtain ⟨rfl, d, d0, rfl⟩ := hm
        refine ⟨.int d, rfl, .int i, rfl, _, _, rfl, rfl, .inl ⟨by decide, by decide⟩, .int c, rfl, by show (3 : Nat) ≤ sizeLine; decide, fun p np => q p _ np ⟨d, 1000 * i, c, rfl, d0, by omega, by omega⟩⟩

theorem ok_take {f : Addr} {fd : FuncData} (F : Fun K "_law_take" "_law_take" s_take f fd) : FnOk P w K mg base CX0 1 f fd P_take spTake := by
  refine F.ok sc_take (fun vs H Q E h => ?_) (fun cdv A outer s H vs Q E hr h => ?_)
  · obtain ⟨p, n, wd, o, rfl, _⟩ := h
    rfl
  · obtain ⟨p, n, wd, o, rfl, hp, ⟨d, c, x, rfl, d0, c0, cn⟩, n9, w0, w1, q⟩ := h
    refine ⟨_, (pss_cons (ps_if (pt_cmpR op_gt (pe_ix ix_list (pv 0) pe_int (fun _ _ => rfl)) pe_int (nomark _)) (pss_cons (ps_set (i := 2) sc_take.nd rfl (.inl rfl) (pe_op op_mod (pe_ix ix_list (pv 0) pe_int (fun _ _ => rfl)) (pv 1)))
      (pss_cons (ps_asg (pe_op op_fdiv (pe_ix ix_list (pv 0) pe_int (fun _ _ => rfl)) (pv 1)) (pg_sub (pv 0) pe_int set_list))
      (pss_one (ps_ret (pv 2))))) pss_nil)
      (pss_cons (ps_asg (pe_op op_add (pe_ix ix_list (pv 0) pe_int (fun _ _ => rfl)) pe_int) (pg_sub (pv 0) pe_int set_list))
      (pss_cons (ps_set (i := 3) sc_take.nd rfl (.inl rfl) (pe_op op_mod (pe_op op_pow (pe_op op_add (pe_op op_mod (pe_ix ix_list (pv 0) pe_int (fun _ _ => rfl)) pe_int) (pe_op op_mul pe_int (pe_ix ix_list (pv 0) pe_int (fun _ _ => rfl)))) pe_int) pe_int))
      (pss_cons (ps_set (i := 3) sc_take.nd rfl (.inl rfl) (pe_op op_add (pe_op op_mul (pv 3) pe_int) (pe_op op_mul (pe_op op_mul (pe_ix ix_list (pv 0) pe_int (fun _ _ => rfl)) (pe_ix ix_list (pv 0) pe_int (fun _ _ => rfl))) pe_int)))
      (pss_one (ps_ret (pe_op op_mod (pe_op op_fdiv (pe_op op_mod (pe_op op_add (pv 3) (pe_op op_fdivW (pe_ix ix_list (pv 0) pe_int (fun _ _ => rfl)) pe_int)) pe_int) pe_int) (pv 1)))))))), ?_⟩
    have S0 : SqL K H p [.int d, .int c, .int x] := sq_at hp
    refine ⟨.ref p, rfl, p, _, 0, .int d, rfl, rfl, S0, rfl, d, 0, rfl, rfl, _, rfl, ite2 (fun e => ?_) (fun e => ?_)⟩
    · refine ⟨.ref p, rfl, p, _, 0, .int d, rfl, rfl, S0, rfl, .int wd, rfl, d, wd, rfl, rfl, w0, ?_⟩
      refine ⟨.ref p, rfl, p, _, 0, .int d, rfl, rfl, S0, rfl, .int wd, rfl, d, wd, rfl, rfl, ⟨w0, w1⟩, ?_⟩
      refine ⟨.ref p, rfl, p, _, 0, 0, rfl, rfl, hp, rfl, .int (d % wd), rfl, ?_⟩
      exact q _ _ (Int.emod_nonneg _ (by omega)) (Int.emod_lt_of_pos _ w0) ⟨d / wd, c, x, rfl, Int.ediv_nonneg d0 (by omega), c0, by omega⟩
    · refine ⟨.ref p, rfl, p, _, 1, .int c, rfl, rfl, S0, rfl, c, 1, rfl, rfl, .ref p, rfl, p, _, 1, 1, rfl, rfl, hp, rfl, ?_⟩
      have S1 : SqL K (upd H p (.lst [.int d, .int (c + 1), .int x])) p [.int d, .int (c + 1), .int x] := sq_new
      have y0 : 0 ≤ x % 2147483647 := Int.emod_nonneg _ (by decide)
      have y1 : x % 2147483647 < 2147483647 := Int.emod_lt_of_pos _ (by decide)
      refine ⟨.ref p, rfl, p, _, 2, .int x, rfl, rfl, S1, rfl, x, _, rfl, rfl, by show (0 : Int) < 2147483647; decide, .ref p, rfl, p, _, 1, .int (c + 1), rfl, rfl, S1, rfl, 40503, c + 1, rfl, rfl, .inl ⟨by decide, by decide⟩, _, _, rfl, rfl, _, 5, rfl, rfl, ⟨by decide, by decide, ?_⟩, _, 2147483647, rfl, rfl, by show (0 : Int) < 2147483647; decide, ?_⟩
      · show (x % 2147483647 + 40503 * (c + 1)).natAbs < 18446744073709551616
        omega
      · refine ⟨_, rfl, _, 48271, rfl, rfl, .inr ⟨by decide, by decide⟩, .ref p, rfl, p, _, 1, .int (c + 1), rfl, rfl, S1, rfl, .ref p, rfl, p, _, 1, .int (c + 1), rfl, rfl, S1, rfl, c + 1, c + 1, rfl, rfl, .inl ⟨by omega, by omega⟩, _, 39373, rfl, rfl, .inr ⟨by decide, by decide⟩, _, _, rfl, rfl, ?_⟩
        refine ⟨_, rfl, .ref p, rfl, p, _, 2, .int x, rfl, rfl, S1, rfl, x, _, rfl, rfl, wide_div (b := 32) (by decide) (by decide) (by decide) (by decide), _, _, rfl, rfl, _, _, rfl, rfl, by show (0 : Int) < 1000000007; decide, _, 16, rfl, rfl, ⟨by decide, by decide⟩, .int wd, rfl, _, wd, rfl, rfl, w0, ?_⟩
        exact q _ _ (Int.emod_nonneg _ (by omega)) (Int.emod_lt_of_pos _ w0) ⟨d, c + 1, x, rfl, d0, by omega, by omega⟩

theorem ok_bytes {f : Addr} {fd : FuncData} (F : Fun K "_law_bytes" "_law_bytes" s_bytes f fd) {f_take : Addr} {fd_take : FuncData} (D_take : Df K mg "_law_take" s_take P_take f_take fd_take) (m_range : mg "range" = none) (m_len : mg "len" = none) : FnOk P w K mg base CX0 2 f fd P_bytes (spBytesM K) := by
  have G_take : FnOk P w K mg base CX0 1 f_take fd_take P_take spTake := ok_take D_take.F
  refine F.ok sc_bytes (fun vs H Q E h => ?_) (fun cdv A outer s H vs Q E hr h => ?_)
  · obtain ⟨p, m, n, o, ms, rfl, _⟩ := h
    rfl
  · obtain ⟨p, m, n, o, ms, rfl, hp, hP, n9, hM, pm, m0, ml, mz, q⟩ := h
    refine ⟨_, (pss_cons (ps_set (i := 2) sc_bytes.nd rfl (.inl rfl) (pe_lst pa_nil))
      (pss_cons (ps_for PassesOwn.never rfl (pi_range1 (by rfl) m_range (pa_cons (pe_ix ix_list (pv 1) (pe_call G_take (hr.mono (by decide)) (by rfl) D_take.g D_take.F.kp D_take.b .nil pass0 (pa_cons (pv 0) (pa_cons (pe_callB call_len_seq (by rfl) m_len PySem.boot_len (pa_cons (pv 1) pa_nil)) pa_nil))) (fun _ _ => rfl)) pa_nil)) (pg_name (i := 3) sc_bytes.nd rfl (.inl rfl)) (pss_one (ps_if (pt_cmpR op_eq (pe_call G_take (hr.mono (by decide)) (by rfl) D_take.g D_take.F.kp D_take.b .nil pass0 (pa_cons (pv 0) (pa_cons pe_int pa_nil))) pe_int (nomark _)) (pss_one (ps_expr (pe_bm PySem.F.plainAttrs_list PySem.F.slot_list_append PySem.F.type_list_append mt_append (pv 2) (pa_cons (pe_ix ix_list (pe_lst (pa_cons pe_int (pa_cons pe_int (pa_cons pe_int (pa_cons pe_int pa_nil))))) (pe_call G_take (hr.mono (by decide)) (by rfl) D_take.g D_take.F.kp D_take.b .nil pass0 (pa_cons (pv 0) (pa_cons pe_int pa_nil))) (fun _ _ => rfl)) pa_nil)))) (pss_one (ps_expr (pe_bm PySem.F.plainAttrs_list PySem.F.slot_list_append PySem.F.type_list_append mt_append (pv 2) (pa_cons (pe_call G_take (hr.mono (by decide)) (by rfl) D_take.g D_take.F.kp D_take.b .nil pass0 (pa_cons (pv 0) (pa_cons pe_int pa_nil))) pa_nil)))))))
      (pss_one (ps_ret (pv 2))))), ?_⟩
    refine ⟨Nat.zero_le _, fun a na => ?_⟩
    have pa : p ≠ a := ne_of_none hp na
    have s1 : Same H (upd H a (.lst [])) := (Kp.new (ps := []) na).same
    have lm : 0 < ms.length := List.length_pos_iff.mpr m0
    refine ⟨.ref m, rfl, .ref p, rfl, .ref m, rfl, m, _, rfl, .inl (s1.seq hM), p, n, _, o, rfl, s1 _ _ hp, hP, by omega, by rw [List.length_map]; omega, by rw [List.length_map]; omega, fun r o1 r0 r1 hP1 => ?_⟩
    rw [List.length_map] at r1
    obtain ⟨z, zm, ez, _⟩ := atI_int (ms := ms) (i := r) r0 r1
    obtain ⟨z0, z1⟩ := mz z zm
    have k2 : Kp [p] H (upd (upd H a (.lst [])) p o1) := (Kp.new na).trans (Kp.at (by simp))
    refine ⟨m, _, r, .int z, rfl, rfl, k2.seq (by simpa using pm.symm) hM, ez, z, rfl, by omega, by omega, for_range (lo := 0) (n := z.toNat) (fun i σ H' => ∃ (bs : List Int) (o2 : HO) (y : Option V), σ = [some (.ref p), some (.ref m), some (.ref a), y] ∧ H' a = some (.lst (bs.map V.int)) ∧ bs.length = i ∧ Bytes bs ∧ H' p = some o2 ∧ PoolO (n + 1 + 2 * i) o2 ∧ Kp [p] H H') ?_ (fun i σ H' hi hW => ?_) (fun σ H' hW => ?_)⟩
    · exact ⟨[], o1, none, rfl, by rw [upd_ne pa.symm]; exact upd_same, rfl, fun b hb => by simp at hb, upd_same, hP1.up (by omega), k2⟩
    · obtain ⟨bs, o2, y, rfl, ea, eb, hb, ep, hP2, kk⟩ := hW
      have fit : (bs.map V.int).length < sizeLine := by rw [List.length_map]; exact small1000 (by omega)
      refine ⟨.ref p, rfl, p, _, 4, o2, rfl, ep, hP2, by omega, by decide, by decide, fun r2 o3 s0 s1 hP3 => ?_⟩
      have ea3 : (upd H' p o3) a = some (.lst (bs.map V.int)) := by rw [upd_ne pa.symm]; exact ea
      have k3 : Kp [p] H (upd H' p o3) := kk.trans (Kp.at (by simp))
      refine ⟨rfl, _, rfl, ite2 (fun e => ?_) (fun e => ?_)⟩
      · refine ⟨.ref a, rfl, .inl ⟨rfl, _, sq_at ea3⟩, by show (4 : Nat) ≤ sizeLine; decide, fun l2 nl2 => ?_⟩
        have pl2 : p ≠ l2 := ne_of_none (upd_same : (upd H' p o3) p = some o3) nl2
        have al2 : a ≠ l2 := ne_of_none ea3 nl2
        refine ⟨.ref p, rfl, p, _, 4, o3, rfl, by rw [upd_ne pl2]; exact upd_same, hP3, by omega, by decide, by decide, fun r3 o4 t0 t1 hP4 => ?_⟩
        obtain ⟨v, mv, ev, _⟩ := atI_int (ms := [0, 10, 13, 255]) (i := r3) t0 t1
        have vb : 0 ≤ v ∧ v ≤ 255 := (show ∀ y ∈ ([0, 10, 13, 255] : List Int), 0 ≤ y ∧ y ≤ 255 by decide) v mv
        refine ⟨l2, _, r3, .int v, rfl, rfl, .inl (.inl (by rw [upd_ne pl2.symm, upd_same]; rfl)), ev, a, bs.map V.int, .int v, rfl, rfl, by rw [upd_ne pa.symm, upd_ne al2]; exact ea3, fit, ?_⟩
        refine ⟨bs ++ [v], o4, _, rfl, by rw [upd_same, List.map_append]; rfl, by rw [List.length_append, eb]; rfl, ?_, by rw [upd_ne pa]; exact upd_same, hP4.up (by omega), ((k3.trans (Kp.new nl2)).trans (Kp.at (by simp))).put na⟩
        intro b hb2
        rcases List.mem_append.mp hb2 with hb3 | hb3
        · exact hb b hb3
        · rw [List.mem_singleton.mp hb3]; exact vb
      · refine ⟨.ref a, rfl, .inl ⟨rfl, _, sq_at ea3⟩, .ref p, rfl, p, _, 256, o3, rfl, upd_same, hP3, by omega, by decide, by decide, fun v o4 t0 t1 hP4 => ?_⟩
        refine ⟨a, bs.map V.int, .int v, rfl, rfl, by rw [upd_ne pa.symm]; exact ea3, fit, ?_⟩
        refine ⟨bs ++ [v], o4, _, rfl, by rw [upd_same, List.map_append]; rfl, by rw [List.length_append, eb]; rfl, ?_, by rw [upd_ne pa]; exact upd_same, hP4.up (by omega), (k3.trans (Kp.at (by simp))).put na⟩
        intro b hb2
        rcases List.mem_append.mp hb2 with hb3 | hb3
        · exact hb b hb3
        · rw [List.mem_singleton.mp hb3]; exact ⟨t0, by omega⟩
    · obtain ⟨bs, o2, y, rfl, ea, eb, hb, ep, hP2, kk⟩ := hW
      exact ⟨.ref a, rfl, q H' a bs o2 na ea ep (hP2.up (by omega)) kk ⟨z, zm, by omega⟩ hb⟩

theorem ok_worth {f : Addr} {fd : FuncData} {k : Nat} {tF : Tok} (F : Fun K "figure_worth" "figure_worth" s_worth f fd) (g_FIG : mg "FIGURES" = some (.str FIG tF)) : FnOk P w K mg base CX0 (k + 1) f fd P_worth spWorth := by
  refine F.ok sc_worth (fun vs H Q E h => ?_) (fun cdv A outer s H vs Q E hr h => ?_)
  · obtain ⟨j, hj, rfl, _⟩ := h
    rfl
  · obtain ⟨j, hj, rfl, q⟩ := h
    refine ⟨_, (pss_cons (ps_set (i := 1) sc_worth.nd rfl (.inl rfl) (pe_m1 PySem.F.slot_str_find PySem.F.type_str_find mt_find (pe_glob (v := .str FIG) (by rfl) g_FIG ⟨_, rfl⟩) (pv 0)))
      (pss_cons (ps_if (pt_cmpR op_lt (pv 1) pe_int (nomark _)) (pss_one ps_never) pss_nil)
      (pss_one (ps_ret (pv 1))))), ?_⟩
    have e : Txt.find FIG ⟨#[figs.getD j 0]⟩ = (j : Int) := fig_find ⟨j, hj⟩
    refine ⟨⟨_, rfl⟩, _, rfl, FIG, _, rfl, rfl, ?_⟩
    rw [e]
    refine ⟨.int j, rfl, _, _, rfl, rfl, _, rfl, ite2 (fun z => ?_) (fun _ => ⟨.int j, rfl, q⟩)⟩
    have z1 : (j : Int) < 0 := of_decide_eq_true z
    omega

theorem ok_read {f : Addr} {fd : FuncData} {f_worth : Addr} {fd_worth : FuncData} {tF : Tok} (F : Fun K "read_row" "read_row" s_read f fd) (D_worth : Df K mg "figure_worth" s_worth P_worth f_worth fd_worth) (g_FIG : mg "FIGURES" = some (.str FIG tF)) (m_len : mg "len" = none) (m_range : mg "range" = none) : FnOk P w K mg base CX0 2 f fd P_read spRead := by
  have G_worth : FnOk P w K mg base CX0 1 f_worth fd_worth P_worth spWorth := ok_worth D_worth.F g_FIG
  refine F.ok sc_read (fun vs H Q E h => ?_) (fun cdv A outer s H vs Q E hr h => ?_)
  · obtain ⟨bs, rfl, _⟩ := h
    rfl
  · obtain ⟨bs, rfl, hb, lb, q⟩ := h
    refine ⟨_, (pss_cons (ps_if (pt_cmpR op_ne (pe_op op_mod (pe_callB call_len_str (by rfl) m_len PySem.boot_len (pa_cons (pv 0) pa_nil)) pe_int) pe_int (nomark _)) (pss_one ps_never) pss_nil)
      (pss_one (ps_ret (pe_lc (own := [("at", 1)]) (g := gName 1) (tt := tYes) (by rfl) sc_read.nd (pi_range3 (by rfl) m_range (pa_cons pe_int (pa_cons (pe_callB call_len_str (by rfl) m_len PySem.boot_len (pa_cons (pv 0) pa_nil)) (pa_cons pe_int pa_nil)))) (blkOk_by (own := [("at", 1)]) (N := N_read) (sc := defScope s_read) (by decide +kernel)) (fun _ _ _ _ _ => pg_name (i := 1) sc_read.nd rfl (Or.inl rfl)) (fun _ _ _ _ _ => pts_nil) (fun _ _ _ _ _ => (pe_op op_add (pe_op op_mul pe_int (pe_call G_worth (hr.mono (by decide)) (by rfl) D_worth.g D_worth.F.kp D_worth.b .nil pass0 (pa_cons (pe_ix ix_str (pv 0) (pv 1) (fun _ _ => rfl)) pa_nil))) (pe_call G_worth (hr.mono (by decide)) (by rfl) D_worth.g D_worth.F.kp D_worth.b .nil pass0 (pa_cons (pe_ix ix_str (pv 0) (pe_op op_add (pv 1) pe_int) (fun _ _ => rfl)) pa_nil)))))))), ?_⟩
    have sz : sizeLine = 16777216 := sizeLine_eq
    have lt := tx_length bs
    have lz : (tx bs).length ≤ sizeLine := by omega
    refine ⟨.str (tx bs), rfl, tx bs, rfl, lz, _, _, rfl, rfl, by show (0 : Int) < 2; decide, rfl, _, rfl, iteNS (show V.int (((tx bs).length : Int) % 2) = V.int 0 by rw [lt, show (((2 * bs.length : Nat) : Int) % 2) = 0 by omega]) ?_⟩
    refine ⟨.str (tx bs), rfl, tx bs, rfl, lz, 0, _, 2, bs.length, rfl, by rw [lt]; exact range_two _ (by omega), fun D nD => lc_it walk_rangeC (fun i H' => H' D = some (.lst ((bs.take i).map V.int)) ∧ Same H H') ⟨by rw [upd_same]; rfl, (Kp.new (ps := []) nD).same⟩ (fun _ _ _ _ => trivial) (fun i x H' H2 hi hP hy => ?_) (fun H' hP => ?_)⟩
    · obtain ⟨rfl, rfl⟩ := hy
      obtain ⟨eD, sm⟩ := hP
      have gb : bs[i]? = some bs[i] := List.getElem?_eq_getElem hi
      obtain ⟨b0, b1⟩ := hb bs[i] (List.getElem_mem hi)
      obtain ⟨t1, t2⟩ := tx_at gb
      refine ⟨rfl, ?_⟩
      refine ⟨.str (tx bs), rfl, .int (0 + (i : Nat) * 2), rfl, tx bs, _, _, rfl, rfl, lz, by rw [show (0 + ((i : Nat) : Int) * 2) = ((2 * i : Nat) : Int) by omega]; exact t1, bs[i].toNat / 16, by omega, rfl, ?_⟩
      refine ⟨16, _, rfl, rfl, .inl ⟨by decide, by decide⟩, .str (tx bs), rfl, .int (0 + (i : Nat) * 2), rfl, _, _, rfl, rfl, tx bs, _, _, rfl, rfl, lz, by rw [show (0 + ((i : Nat) : Int) * 2 + 1) = ((2 * i + 1 : Nat) : Int) by omega]; exact t2, bs[i].toNat % 16, by omega, rfl, ?_⟩
      refine ⟨_, _, rfl, rfl, _, eD, by rw [List.length_map, List.length_take]; omega, ?_, (Kp.put (ps := []) (Kp.of sm) nD).same⟩
      rw [upd_same, List.take_add_one, gb, List.map_append]
      have e : 16 * ((bs[i].toNat / 16 : Nat) : Int) + ((bs[i].toNat % 16 : Nat) : Int) = bs[i] := by omega
      show some (HO.lst (_ ++ [V.int (16 * ((bs[i].toNat / 16 : Nat) : Int) + ((bs[i].toNat % 16 : Nat) : Int))])) = _
      rw [e]
      rfl
    · obtain ⟨eD, sm⟩ := hP
      rw [List.take_length] at eD
      exact q _ D nD eD sm

theorem ok_rowtext {f : Addr} {fd : FuncData} {k : Nat} (F : Fun K "row_text" "row_text" s_rowtext f fd) : FnOk P w K mg base CX0 (k + 1) f fd P_rowtext (spTxt K) := by
  refine F.ok sc_rowtext (fun vs H Q E h => ?_) (fun cdv A outer s H vs Q E hr h => ?_)
  · obtain ⟨a, bs, rfl, _⟩ := h
    rfl
  · obtain ⟨a, bs, rfl, hA, hb, lb, q⟩ := h
    refine ⟨_, (pss_one (ps_ret (pe_join pe_str (pe_lc (own := [("byte", 1)]) (g := gName 1) (tt := tYes) (by rfl) sc_rowtext.nd (pi_list (pv 0)) (blkOk_by (own := [("byte", 1)]) (N := N_rowtext) (sc := defScope s_rowtext) (by decide +kernel)) (fun _ _ _ _ _ => pg_name (i := 1) sc_rowtext.nd rfl (Or.inl rfl)) (fun _ _ _ _ _ => pts_nil) (fun _ _ _ _ _ => (Sip.pe_hex (pv 1))))))), ?_⟩
    have sz : sizeLine = 16777216 := sizeLine_eq
    refine ⟨⟨_, rfl⟩, .ref a, rfl, a, rfl, ⟨_, hA⟩, fun D nD => lc_list (K := K) (a := a) (xs := bs.map V.int) (fun i H' => H' D = some (.lst (((bs.take i).map fun b => two b.toNat).map V.str)) ∧ Same H H') ⟨by rw [upd_same]; rfl, (Kp.new (ps := []) nD).same⟩ (fun i H' _ h => h.2.seq hA) (fun i x H' hx hP => ?_) (fun H' hP => ?_)⟩
    · obtain ⟨eD, sm⟩ := hP
      obtain ⟨hi, rfl⟩ := get_int hx
      obtain ⟨b0, b1⟩ := hb bs[i] (List.getElem_mem hi)
      refine ⟨rfl, ?_⟩
      refine ⟨.int bs[i], rfl, bs[i].toNat, by omega, by rw [Int.toNat_of_nonneg b0], _, eD, by rw [List.length_map, List.length_map, List.length_take]; omega, ?_, (Kp.put (ps := []) (Kp.of sm) nD).same⟩
      rw [upd_same, List.take_add_one, List.getElem?_eq_getElem hi, List.map_append, List.map_append]; rfl
    · obtain ⟨eD, sm⟩ := hP
      rw [List.length_map, List.take_length] at eD
      refine ⟨_, D, _, rfl, rfl, .inl (sq_at eD), fit_two bs lb, ?_⟩
      rw [join_eq, join_two]
      exact q _ sm

theorem ok_laid {f : Addr} {fd : FuncData} {k : Nat} (F : Fun K "laid" "laid" s_laid f fd) (m_list : mg "list" = none) (m_len : mg "len" = none) : FnOk P w K mg base CX0 (k + 1) f fd P_laid (spLaid K) := by
  refine F.ok sc_laid (fun vs H Q E h => ?_) (fun cdv A outer s H vs Q E hr h => ?_)
  · obtain ⟨a, b, r, n, d, rfl, _⟩ := h
    rfl
  · obtain ⟨a, b, r, n, d, rfl, hA, hB, lr, ln, ld, q⟩ := h
    refine ⟨_, (pss_cons (ps_set (i := 3) sc_laid.nd rfl (.inl rfl) (pe_callTy call_list_of (by rfl) m_list (by decide +kernel) (pa_cons (pv 0) pa_nil)))
      (pss_cons (ps_if (pt_not (pt_truth (pv 2) (by intro _; rfl))) (pss_one (ps_ret (pv 3))) pss_nil)
      (pss_cons (ps_expr (pe_bm PySem.F.plainAttrs_list PySem.F.slot_list_extend PySem.F.type_list_extend mt_extend (pv 3) (pa_cons (pe_op op_rep (pe_lst (pa_cons pe_int pa_nil)) (pe_op op_sub (pv 1) (pe_callB call_len_seq (by rfl) m_len PySem.boot_len (pa_cons (pv 3) pa_nil)))) pa_nil)))
      (pss_cons (ps_asg (pv 2) (Sip.pg_cut (pv 3) (po_some (pv 1)) (po_some (pe_op op_add (pv 1) (pe_callB call_len_seq (by rfl) m_len PySem.boot_len (pa_cons (pv 2) pa_nil))))))
      (pss_one (ps_ret (pv 3))))))), ?_⟩
    refine ⟨.ref a, rfl, a, _, rfl, .inl hA, fun t nt => ?_⟩
    have bt : b ≠ t := ne_of_none hB nt
    have hB1 : (upd H t (.lst (r.map V.int))) b = some (.lst (d.map V.int)) := by rw [upd_ne bt]; exact hB
    refine ⟨.ref b, rfl, _, .inl ⟨_, sq_at hB1, rfl⟩, ite2 (fun e => ?_) (fun e => ?_)⟩
    · have d0 : d = [] := by
        cases d with
        | nil => rfl
        | cons x y => cases e
      subst d0
      exact ⟨.ref t, rfl, q _ t nt (by rw [upd_same, laidF_nil]) (Kp.new (ps := []) nt).same⟩
    · have d0 : d ≠ [] := fun z => by subst z; exact e rfl
      refine ⟨.ref t, rfl, .inl ⟨rfl, _, sq_new⟩, by show (1 : Nat) ≤ sizeLine; decide, fun l nl => ?_⟩
      have tl : t ≠ l := ne_of_none (upd_same : (upd H t (.lst (r.map V.int))) t = _) nl
      have bl : b ≠ l := ne_of_none hB1 nl
      have sz : sizeLine = 16777216 := sizeLine_eq
      refine ⟨.int n, rfl, .ref t, rfl, t, _, rfl, .inl (sq_at (by rw [upd_ne tl]; exact upd_same)), _, _, rfl, rfl, l, _, [.int 0], rfl, rfl, upd_same, ?_, ?_, ?_, fun z nz => ?_⟩
      · rw [List.length_map]; omega
      · rw [List.length_map]; omega
      · rw [List.length_map]; show 1 * ((n : Int) - (r.length : Int)).toNat ≤ sizeLine; omega
      · have tz : t ≠ z := ne_of_none (by rw [upd_ne tl]; exact upd_same) nz
        have bz : b ≠ z := ne_of_none (by rw [upd_ne bl]; exact hB1) nz
        have ez : (List.replicate ((n : Int) - ((r.map V.int).length : Int)).toNat [V.int 0]).flatten = (List.replicate (n - r.length) (0 : Int)).map V.int := by
          rw [List.length_map, flat_rep, List.map_replicate]
          congr 1
          omega
        rw [ez]
        refine ⟨t, z, _, _, rfl, rfl, by rw [upd_ne tz, upd_ne tl]; exact upd_same, upd_same, by rw [List.length_map, List.length_map, List.length_replicate]; omega, ?_⟩
        rw [← List.map_append]
        refine ⟨.ref b, rfl, .ref t, rfl, .int n, rfl, n, rfl, .int n, rfl, .ref b, rfl, b, d.map V.int, rfl, .inl (sq_at (by rw [upd_ne bt, upd_ne bz, upd_ne bl]; exact hB1)), _, _, rfl, rfl, _, rfl, ?_⟩
        refine ⟨t, b, _, _, _, _, rfl, rfl, rfl, rfl, upd_same, by rw [upd_ne bt, upd_ne bz, upd_ne bl]; exact hB1, bt.symm, by omega, by omega, ?_, ?_, ?_⟩
        · rw [List.length_map, List.length_append, List.length_replicate]; omega
        · rw [List.length_map, List.length_append, List.length_replicate, List.length_map]; omega
        · refine ⟨.ref t, rfl, q _ t nt ?_ ?_⟩
          · rw [upd_same]
            have e1 : ((n : Int)).toNat = n := Int.toNat_natCast n
            have e2 : ((n : Int) + ((d.map V.int).length : Int)).toNat = n + d.length := by rw [List.length_map]; omega
            rw [e1, e2, laidF_cons d0, ← List.map_take, ← List.map_drop, ← List.map_append, ← List.map_append]
          · refine Kp.same ?_
            exact ((((Kp.new nt).trans (Kp.new nl)).trans (Kp.new nz)).put nt).put nt

theorem ok_due {f : Addr} {fd : FuncData} {k : Nat} (F : Fun K "_law_due" "_law_due" s_due f fd) (m_len : mg "len" = none) (m_max : mg "max" = none) (m_range : mg "range" = none) : FnOk P w K mg base CX0 (k + 1) f fd P_due (spDueP K) := by
  refine F.ok sc_due (fun vs H Q E h => ?_) (fun cdv A outer s H vs Q E hr h => ?_)
  · obtain ⟨a, b, r, us, ps, rfl, _⟩ := h
    rfl
  · obtain ⟨a, b, r, us, ps, rfl, hA, hB, hp, lr, br, sm, lp, q⟩ := h
    have sz : sizeLine = 16777216 := sizeLine_eq
    obtain ⟨gb, gl⟩ := allF_good ps r br lr sm
    have ml := allF_len ps r
    refine ⟨_, (pss_cons (ps_set (i := 2) sc_due.nd rfl (.inl rfl) (pe_callB call_len_seq (by rfl) m_len PySem.boot_len (pa_cons (pv 0) pa_nil)))
      (pss_cons (ps_for PassesOwn.never rfl (pi_list (pv 1)) (pg_tup rfl (pgs_cons (pg_name (i := 3) sc_due.nd rfl (.inl rfl)) (pgs_cons (pg_name (i := 4) sc_due.nd rfl (.inl rfl)) pgs_nil))) (pss_one (ps_if (pt_cmpR op_gt (pe_callB call_len_seq (by rfl) m_len PySem.boot_len (pa_cons (pv 4) pa_nil)) pe_int (nomark _)) (pss_one (ps_set (i := 2) sc_due.nd rfl (.inl rfl) (pe_callB (call_max2 rfl) (by rfl) m_max (by decide +kernel) (pa_cons (pv 2) (pa_cons (pe_op op_add (pv 3) (pe_callB call_len_seq (by rfl) m_len PySem.boot_len (pa_cons (pv 4) pa_nil))) pa_nil))))) pss_nil)))
      (pss_cons (ps_set (i := 5) sc_due.nd rfl (.inl rfl) (pe_lst pa_nil))
      (pss_cons (ps_for PassesOwn.never rfl (pi_range1 (by rfl) m_range (pa_cons (pv 2) pa_nil)) (pg_name (i := 6) sc_due.nd rfl (.inl rfl)) (pss_cons (ps_set (i := 7) sc_due.nd rfl (.inl rfl) pe_int)
      (C8.pss_cut (ps_if (pt_cmpR op_lt (pv 6) (pe_callB call_len_seq (by rfl) m_len PySem.boot_len (pa_cons (pv 0) pa_nil)) (nomark _)) (pss_one (ps_set (i := 7) sc_due.nd rfl (.inl rfl) (pe_ix ix_list (pv 0) (pv 6) (fun _ _ => rfl)))) pss_nil)
      (pss_cons (ps_for PassesOwn.never rfl (pi_list (pv 1)) (pg_tup rfl (pgs_cons (pg_name (i := 3) sc_due.nd rfl (.inl rfl)) (pgs_cons (pg_name (i := 4) sc_due.nd rfl (.inl rfl)) pgs_nil))) (pss_one (ps_if (PW.pt (pw_and (pt_cmpR op_ge (pv 6) (pv 3) (nomark _)) (pw_and1 (pt_cmpR op_lt (pv 6) (pe_op op_add (pv 3) (pe_callB call_len_seq (by rfl) m_len PySem.boot_len (pa_cons (pv 4) pa_nil))) (nomark _))))) (pss_one (ps_set (i := 7) sc_due.nd rfl (.inl rfl) (pe_ix ix_list (pv 4) (pe_op op_sub (pv 6) (pv 3)) (fun _ _ => rfl)))) pss_nil)))
      (pss_one (ps_expr (pe_bm PySem.F.plainAttrs_list PySem.F.slot_list_append PySem.F.type_list_append mt_append (pv 5) (pa_cons (pv 7) pa_nil))))))))
      (pss_one (ps_ret (pv 5))))))), ?_⟩
    refine ⟨.ref a, rfl, a, _, rfl, .inl hA, ?_⟩
    refine ⟨.ref b, rfl, b, rfl, ⟨_, hB⟩, for_list (K := K) (a := b) (xs := us) (fun i σ H' => H' = H ∧ ∃ y3 y4, σ = [some (.ref a), some (.ref b), some (.int (mostF r.length (ps.take i) : Nat)), y3, y4, none, none, none]) ?_ (fun i σ H' _ h => by rw [h.1]; exact hB) (fun i x σ H' hx hW => ?_) (fun σ H' hW => ?_)⟩
    · refine ⟨rfl, none, none, ?_⟩
      rw [List.length_map]; rfl
    · obtain ⟨rfl, y3, y4, rfl⟩ := hW
      obtain ⟨hi, T, D, rfl, hT, hD⟩ := hp.at hx
      have nxt := foldl_next (fun m (p : Piece) => if 0 < p.2.length then max m (p.1 + p.2.length) else m) r.length ps i hi
      refine ⟨T, _, rfl, .inl (.inl hT), rfl, _, _, rfl, _, _, rfl, rfl, ?_⟩
      refine ⟨.ref D, rfl, D, _, rfl, .inl (sq_at hD), _, _, rfl, rfl, _, rfl, ite2 (fun e => ?_) (fun e => ?_)⟩
      · have e1 : (0 : Int) < ((ps[i].2.map V.int).length : Int) := of_decide_eq_true e
        rw [List.length_map] at e1
        refine ⟨_, rfl, .int (ps[i].1 : Nat), rfl, .ref D, rfl, D, _, rfl, .inl (sq_at hD), _, _, rfl, rfl, _, _, rfl, rfl, some (.int (ps[i].1 : Nat)), some (.ref D), ?_⟩
        have e2 : (if ((ps[i].1 : Nat) : Int) + ((ps[i].2.map V.int).length : Int) > ((mostF r.length (ps.take i) : Nat) : Int) then ((ps[i].1 : Nat) : Int) + ((ps[i].2.map V.int).length : Int) else ((mostF r.length (ps.take i) : Nat) : Int)) = ((mostF r.length (ps.take (i + 1)) : Nat) : Int) := by
          have e3 : mostF r.length (ps.take (i + 1)) = max (mostF r.length (ps.take i)) (ps[i].1 + ps[i].2.length) := by
            show (ps.take (i + 1)).foldl _ r.length = _
            rw [nxt, if_pos (by omega)]; rfl
          rw [e3, List.length_map]
          split <;> omega
        rw [e2]; rfl
      · have e1 : ¬ (0 : Int) < ((ps[i].2.map V.int).length : Int) := fun z => e (decide_eq_true z)
        rw [List.length_map] at e1
        refine ⟨rfl, some (.int (ps[i].1 : Nat)), some (.ref D), ?_⟩
        have e2 : mostF r.length (ps.take (i + 1)) = mostF r.length (ps.take i) := by
          show (ps.take (i + 1)).foldl _ r.length = _
          rw [nxt, if_neg (by omega)]; rfl
        rw [e2]; rfl
    · obtain ⟨rfl, y3, y4, rfl⟩ := hW
      rw [hp.1, List.take_length, ← ml]
      refine ⟨Nat.zero_le _, fun t nt => ?_⟩
      refine ⟨_, rfl, _, rfl, by omega, by omega, ?_⟩
      rw [Int.toNat_natCast]
      refine for_range (lo := 0) (n := (allF r ps).length) (fun i σ H2 => ∃ y3 y4 y6 y7, σ = [some (.ref a), some (.ref b), some (.int ((allF r ps).length : Nat)), y3, y4, some (.ref t), y6, y7] ∧ H2 t = some (.lst (((allF r ps).take i).map V.int)) ∧ Same H' H2) ⟨_, _, _, _, rfl, by rw [upd_same]; rfl, (Kp.new (ps := []) nt).same⟩ (fun i σ H2 hi hW => ?_) (fun σ H2 hW => ?_)
      · obtain ⟨y3, y4, y6, y7, rfl, et, s2⟩ := hW
        refine ⟨fun σ' H3 => H3 = H2 ∧ σ' = [some (.ref a), some (.ref b), some (.int ((allF r ps).length : Nat)), y3, y4, some (.ref t), some (.int (0 + (i : Nat))), some (.int (r[i]?.getD 0))], ?_, fun σ' H3 hm => ?_⟩
        · refine ⟨_, rfl, .ref a, rfl, a, _, rfl, .inl (s2.seq hA), _, _, rfl, rfl, _, rfl, ite2 (fun e => ?_) (fun e => ?_)⟩
          · have e1 : 0 + (i : Int) < ((r.map V.int).length : Int) := of_decide_eq_true e
            rw [List.length_map] at e1
            refine ⟨.ref a, rfl, _, rfl, a, _, _, _, rfl, rfl, s2.seq hA, atI_intV (by omega) (by omega), rfl, ?_⟩
            have e2 : (0 + (i : Int)).toNat = i := by omega
            rw [e2, List.getD_eq_getElem?_getD]; rfl
          · have e1 : ¬ 0 + (i : Int) < ((r.map V.int).length : Int) := fun z => e (decide_eq_true z)
            rw [List.length_map] at e1
            refine ⟨rfl, ?_⟩
            rw [List.getElem?_eq_none (by omega)]; rfl
        · obtain ⟨rfl, rfl⟩ := hm
          refine ⟨.ref b, rfl, b, rfl, ⟨_, s2.seq hB⟩, for_list (K := K) (a := b) (xs := us) (fun j σ H4 => H4 = H3 ∧ ∃ y3 y4, σ = [some (.ref a), some (.ref b), some (.int ((allF r ps).length : Nat)), y3, y4, some (.ref t), some (.int (0 + (i : Nat))), some (.int (byteF (r[i]?.getD 0) i (ps.take j)))]) ⟨rfl, y3, y4, rfl⟩ (fun j σ H4 _ h => by rw [h.1]; exact s2.seq hB) (fun j x σ H4 hx hW => ?_) (fun σ H4 hW => ?_)⟩
          · obtain ⟨rfl, z3, z4, rfl⟩ := hW
            obtain ⟨hj, T, D, rfl, hT, hD⟩ := (hp.mono s2).at hx
            have nxt := foldl_next (stepB i) (r[i]?.getD 0) ps j hj
            refine ⟨T, _, rfl, .inl (.inl hT), rfl, _, _, rfl, _, _, rfl, rfl, ?_⟩
            have no : ¬ (ps[j].1 ≤ i ∧ i < ps[j].1 + ps[j].2.length) → byteF (r[i]?.getD 0) i (ps.take (j + 1)) = byteF (r[i]?.getD 0) i (ps.take j) := fun c => by
              show (ps.take (j + 1)).foldl _ _ = _
              rw [nxt]; unfold stepB; rw [if_neg c]; rfl
            refine ⟨_, rfl, .int (ps[j].1 : Nat), rfl, _, _, rfl, rfl, _, rfl, ite2 (fun e => ?_) (fun e => iteF ?_)⟩
            · have c1 : ((ps[j].1 : Nat) : Int) ≤ 0 + (i : Int) := of_decide_eq_true e
              refine ⟨_, rfl, .int (ps[j].1 : Nat), rfl, .ref D, rfl, D, _, rfl, .inl (sq_at hD), _, _, rfl, rfl, _, _, rfl, rfl, _, rfl, ite2 (fun e2 => ?_) (fun e2 => ?_)⟩
              · have c2 : 0 + (i : Int) < ((ps[j].1 : Nat) : Int) + ((ps[j].2.map V.int).length : Int) := of_decide_eq_true e2
                rw [List.length_map] at c2
                refine ⟨.ref D, rfl, _, rfl, .int (ps[j].1 : Nat), rfl, _, _, rfl, rfl, D, _, _, _, rfl, rfl, sq_at hD, atI_intV (by omega) (by omega), rfl, some (.int (ps[j].1 : Nat)), some (.ref D), ?_⟩
                have e3 : byteF (r[i]?.getD 0) i (ps.take (j + 1)) = ps[j].2.getD (0 + (i : Int) - ((ps[j].1 : Nat) : Int)).toNat 0 := by
                  show (ps.take (j + 1)).foldl _ _ = _
                  rw [nxt]; unfold stepB; rw [if_pos ⟨by omega, by omega⟩]
                  congr 1
                  omega
                rw [e3]; rfl
              · have c2 : ¬ 0 + (i : Int) < ((ps[j].1 : Nat) : Int) + ((ps[j].2.map V.int).length : Int) := fun z => e2 (decide_eq_true z)
                rw [List.length_map] at c2
                refine ⟨rfl, some (.int (ps[j].1 : Nat)), some (.ref D), ?_⟩
                rw [no (by omega)]; rfl
            · have c1 : ¬ ((ps[j].1 : Nat) : Int) ≤ 0 + (i : Int) := fun z => e (decide_eq_true z)
              refine ⟨rfl, some (.int (ps[j].1 : Nat)), some (.ref D), ?_⟩
              rw [no (by omega)]; rfl
          · obtain ⟨rfl, z3, z4, rfl⟩ := hW
            rw [hp.1, List.take_length, ← allF_byte]
            refine ⟨.ref t, rfl, .inl ⟨rfl, _, sq_at et⟩, _, rfl, t, _, _, rfl, rfl, et, by rw [List.length_map, List.length_take]; omega, _, _, _, _, rfl, ?_, (Kp.put (ps := []) (Kp.of s2) nt).same⟩
            rw [upd_same, List.take_add_one, List.getElem?_eq_getElem hi, List.map_append]; rfl
      · obtain ⟨y3, y4, y6, y7, rfl, et, s2⟩ := hW
        rw [List.take_length] at et
        exact ⟨.ref t, rfl, q _ t nt et s2⟩

theorem ok_all {f : Addr} {fd : FuncData} {f_laid : Addr} {fd_laid : FuncData} (F : Fun K "_law_all_laid" "_law_all_laid" s_all f fd) (D_laid : Df K mg "laid" s_laid P_laid f_laid fd_laid) (m_list : mg "list" = none) (m_len : mg "len" = none) : FnOk P w K mg base CX0 2 f fd P_all (spDueP K) := by
  have G_laid : FnOk P w K mg base CX0 1 f_laid fd_laid P_laid (spLaid K) := ok_laid D_laid.F m_list m_len
  refine F.ok sc_all (fun vs H Q E h => ?_) (fun cdv A outer s H vs Q E hr h => ?_)
  · obtain ⟨a, b, r, us, ps, rfl, _⟩ := h
    rfl
  · obtain ⟨a, b, r, us, ps, rfl, hA, hB, hp, lr, br, sm, lp, q⟩ := h
    refine ⟨_, (pss_cons (ps_set (i := 2) sc_all.nd rfl (.inl rfl) (pe_callTy call_list_of (by rfl) m_list (by decide +kernel) (pa_cons (pv 0) pa_nil)))
      (pss_cons (ps_for PassesOwn.never rfl (pi_list (pv 1)) (pg_tup rfl (pgs_cons (pg_name (i := 3) sc_all.nd rfl (.inl rfl)) (pgs_cons (pg_name (i := 4) sc_all.nd rfl (.inl rfl)) pgs_nil))) (pss_one (ps_set (i := 2) sc_all.nd rfl (.inl rfl) (pe_call G_laid (hr.mono (by decide)) (by rfl) D_laid.g D_laid.F.kp D_laid.b .nil pass0 (pa_cons (pv 2) (pa_cons (pv 3) (pa_cons (pe_callTy call_list_of (by rfl) m_list (by decide +kernel) (pa_cons (pv 4) pa_nil)) pa_nil)))))))
      (pss_one (ps_ret (pv 2))))), ?_⟩
    refine ⟨.ref a, rfl, a, _, rfl, .inl hA, fun t0 nt0 => ?_⟩
    refine ⟨.ref b, rfl, b, rfl, ⟨_, (Kp.new (ps := []) nt0).same.seq hB⟩, for_list (K := K) (a := b) (xs := us) (fun i σ H' => ∃ (t : Addr) (y3 y4 : Option V), σ = [some (.ref a), some (.ref b), some (.ref t), y3, y4] ∧ H t = none ∧ H' t = some (.lst ((allF r (ps.take i)).map V.int)) ∧ Same H H') ⟨t0, none, none, rfl, nt0, upd_same, (Kp.new (ps := []) nt0).same⟩ (fun i σ H' _ h => by obtain ⟨_, _, _, _, _, _, s⟩ := h; exact s.seq hB) (fun i x σ H' hx hW => ?_) (fun σ H' hW => ?_)⟩
    · obtain ⟨t, y3, y4, rfl, nt, et, s1⟩ := hW
      obtain ⟨hi, T, D, rfl, hT, hD⟩ := (hp.mono s1).at hx
      have sp := sm ps[i] (List.getElem_mem hi)
      obtain ⟨_, gl⟩ := allF_good (ps.take i) r br lr (fun p h => sm p (List.mem_of_mem_take h))
      refine ⟨T, _, rfl, .inl (.inl hT), rfl, _, _, rfl, _, _, rfl, rfl, ?_⟩
      refine ⟨.ref t, rfl, .int (ps[i].1 : Nat), rfl, .ref D, rfl, D, _, rfl, .inl (sq_at hD), fun l nl => ?_⟩
      have s2 : Same H' (upd H' l (.lst (ps[i].2.map V.int))) := (Kp.new (ps := []) nl).same
      have b1 := sp.1
      have b2 := sp.2.1
      refine ⟨t, l, _, ps[i].1, ps[i].2, rfl, sq_at (s2 _ _ et), upd_same, by omega, by omega, by omega, fun H2 t2 nt2 et2 s3 => ?_⟩
      refine ⟨t2, _, _, rfl, (s1.trans s2).free nt2, ?_, (s1.trans s2).trans s3⟩
      have nxt := foldl_next (fun acc (p : Piece) => laidF acc p.1 p.2) r ps i hi
      have e : allF r (ps.take (i + 1)) = laidF (allF r (ps.take i)) ps[i].1 ps[i].2 := nxt
      rw [e]; exact et2
    · obtain ⟨t, y3, y4, rfl, nt, et, s1⟩ := hW
      rw [hp.1, List.take_length] at et
      exact ⟨.ref t, rfl, q _ t nt et s1⟩

theorem ok_law {f : Addr} {fd : FuncData} (F : Fun K "law" "law" s_law f fd) {f_laid f_worth f_read f_rowtext f_pool f_take f_bytes f_due f_all : Addr} {fd_laid fd_worth fd_read fd_rowtext fd_pool fd_take fd_bytes fd_due fd_all : FuncData} {tF : Tok}
    (D_laid : Df K mg "laid" s_laid P_laid f_laid fd_laid) (D_worth : Df K mg "figure_worth" s_worth P_worth f_worth fd_worth) (D_read : Df K mg "read_row" s_read P_read f_read fd_read) (D_rowtext : Df K mg "row_text" s_rowtext P_rowtext f_rowtext fd_rowtext)
    (D_pool : Df K mg "_law_pool" s_pool P_pool f_pool fd_pool) (D_take : Df K mg "_law_take" s_take P_take f_take fd_take) (D_bytes : Df K mg "_law_bytes" s_bytes P_bytes f_bytes fd_bytes)
    (D_due : Df K mg "_law_due" s_due P_due f_due fd_due) (D_all : Df K mg "_law_all_laid" s_all P_all f_all fd_all) (g_FIG : mg "FIGURES" = some (.str FIG tF))
    (m_list : mg "list" = none) (m_len : mg "len" = none) (m_range : mg "range" = none) (m_max : mg "max" = none) (m_min : mg "min" = none) (m_isinstance : mg "isinstance" = none) :
    FnOk P w K mg base CX0 3 f fd P_law (spLaw K) := by
  have G_pool : FnOk P w K mg base CX0 1 f_pool fd_pool P_pool (spPool K) := ok_pool D_pool.F m_len
  have G_take : FnOk P w K mg base CX0 1 f_take fd_take P_take spTake := ok_take D_take.F
  have G_bytes : FnOk P w K mg base CX0 2 f_bytes fd_bytes P_bytes (spBytesM K) := ok_bytes D_bytes.F D_take m_range m_len
  have G_due : FnOk P w K mg base CX0 1 f_due fd_due P_due (spDueP K) := ok_due D_due.F m_len m_max m_range
  have G_all : FnOk P w K mg base CX0 2 f_all fd_all P_all (spDueP K) := ok_all D_all.F D_laid m_list m_len
  have G_read : FnOk P w K mg base CX0 2 f_read fd_read P_read spRead := ok_read D_read.F D_worth g_FIG m_len m_range
  have G_rowtext : FnOk P w K mg base CX0 1 f_rowtext fd_rowtext P_rowtext (spTxt K) := ok_rowtext D_rowtext.F
  have sz : sizeLine = 16777216 := sizeLine_eq
  refine F.ok sc_law (fun vs H Q E h => ?_) (fun cdv A outer s H vs Q E hr h => ?_)
  · obtain ⟨a, ns, rfl, _⟩ := h
    rfl
  · obtain ⟨a, ns, rfl, hS, h63, q⟩ := h
    refine ⟨_, (pss_cons (ps_set (i := 1) sc_law.nd rfl (.inl rfl) (pe_call G_pool (hr.mono (by decide)) (by rfl) D_pool.g D_pool.F.kp D_pool.b .nil pass0 (pa_cons (pv 0) (pa_cons pe_int pa_nil))))
      (pss_cons (ps_set (i := 2) sc_law.nd rfl (.inl rfl) (pe_call G_bytes (hr.mono (by decide)) (by rfl) D_bytes.g D_bytes.F.kp D_bytes.b .nil pass0 (pa_cons (pv 1) (pa_cons (pe_lst (pa_cons pe_int (pa_cons pe_int (pa_cons pe_int (pa_cons pe_int (pa_cons pe_int (pa_cons pe_int (pa_cons pe_int pa_nil)))))))) pa_nil))))
      (pss_cons (ps_set (i := 3) sc_law.nd rfl (.inl rfl) (pe_lst pa_nil))
      (C8.pss_cut (ps_for PassesOwn.never rfl (pi_range2 (by rfl) m_range (pa_cons pe_int (pa_cons (pe_callB (call_max2 rfl) (by rfl) m_max (by decide +kernel) (pa_cons pe_int (pa_cons (pe_callB (call_min2 rfl) (by rfl) m_min (by decide +kernel) (pa_cons pe_int (pa_cons (pe_callB call_len_seq (by rfl) m_len PySem.boot_len (pa_cons (pv 0) pa_nil)) pa_nil))) pa_nil))) pa_nil))) (pg_name (i := 4) sc_law.nd rfl (.inl rfl)) (pss_cons (ps_set (i := 5) sc_law.nd rfl (.inl rfl) (pe_call G_pool (hr.mono (by decide)) (by rfl) D_pool.g D_pool.F.kp D_pool.b .nil pass0 (pa_cons (pv 0) (pa_cons (pv 4) pa_nil))))
      (pss_cons (ps_set (i := 6) sc_law.nd rfl (.inl rfl) (pe_call G_take (hr.mono (by decide)) (by rfl) D_take.g D_take.F.kp D_take.b .nil pass0 (pa_cons (pv 5) (pa_cons (pe_ix ix_list (pe_lst (pa_cons pe_int (pa_cons pe_int (pa_cons pe_int (pa_cons pe_int (pa_cons pe_int (pa_cons pe_int (pa_cons pe_int (pa_cons pe_int pa_nil))))))))) (pe_call G_take (hr.mono (by decide)) (by rfl) D_take.g D_take.F.kp D_take.b .nil pass0 (pa_cons (pv 5) (pa_cons pe_int pa_nil))) (fun _ _ => rfl)) pa_nil))))
      (pss_one (ps_expr (pe_bm PySem.F.plainAttrs_list PySem.F.slot_list_append PySem.F.type_list_append mt_append (pv 3) (pa_cons (pe_tup (pa_cons (pv 6) (pa_cons (pe_call G_bytes (hr.mono (by decide)) (by rfl) D_bytes.g D_bytes.F.kp D_bytes.b .nil pass0 (pa_cons (pv 5) (pa_cons (pe_lst (pa_cons pe_int (pa_cons pe_int (pa_cons pe_int (pa_cons pe_int (pa_cons pe_int (pa_cons pe_int (pa_cons pe_int (pa_cons pe_int pa_nil))))))))) pa_nil))) pa_nil))) pa_nil)))))))
      (pss_cons (ps_set (i := 7) sc_law.nd rfl (.inl rfl) (pe_call G_due (hr.mono (by decide)) (by rfl) D_due.g D_due.F.kp D_due.b .nil pass0 (pa_cons (pv 2) (pa_cons (pv 3) pa_nil))))
      (pss_cons (ps_set (i := 8) sc_law.nd rfl (.inl rfl) (pe_call G_all (hr.mono (by decide)) (by rfl) D_all.g D_all.F.kp D_all.b .nil pass0 (pa_cons (pv 2) (pa_cons (pv 3) pa_nil))))
      (pss_cons (ps_if (PW.pt (pw_or (pt_not (pt_val (pe_callB (id := "isinstance") (r := rIsi K) call_isi (by rfl) m_isinstance (by decide +kernel) (pa_cons (pv 8) (pa_cons (pe_bltn (v := .ty "list") (by rfl) m_list (by decide +kernel) rfl) pa_nil))))) (pw_or1 (pt_cmpR (op_neI hr.units) (pv 8) (pv 7) (nomark _))))) (pss_one (ps_ret pe_bl)) pss_nil)
      (pss_cons (ps_set (i := 9) sc_law.nd rfl (.inl rfl) (pe_call G_take (hr.mono (by decide)) (by rfl) D_take.g D_take.F.kp D_take.b .nil pass0 (pa_cons (pv 1) (pa_cons (pe_callB call_len_seq (by rfl) m_len PySem.boot_len (pa_cons (pv 3) pa_nil)) pa_nil))))
      (pss_cons (ps_asg (pe_ix ix_list (pv 3) (pv 9) (fun _ _ => rfl)) (pg_tup rfl (pgs_cons (pg_name (i := 6) sc_law.nd rfl (.inl rfl)) (pgs_cons (pg_name (i := 10) sc_law.nd rfl (.inl rfl)) pgs_nil))))
      (pss_cons (ps_set (i := 11) sc_law.nd rfl (.inl rfl) (pe_call G_take (hr.mono (by decide)) (by rfl) D_take.g D_take.F.kp D_take.b .nil pass0 (pa_cons (pv 1) (pa_cons (pe_op op_add (pe_callB call_len_seq (by rfl) m_len PySem.boot_len (pa_cons (pv 10) pa_nil)) pe_int) pa_nil))))
      (pss_cons (ps_set (i := 12) sc_law.nd rfl (.inl rfl) (pe_lst (pa_cons (pe_tup (pa_cons (pv 6) (pa_cons (pe_slice sl_list (pv 10) po_none (po_some (pv 11))) pa_nil))) (pa_cons (pe_tup (pa_cons (pe_op op_add (pv 6) (pv 11)) (pa_cons (pe_slice sl_list (pv 10) (po_some (pv 11)) po_none) pa_nil))) pa_nil))))
      (pss_cons (ps_if (pt_cmpR (op_neI hr.units) (pe_call G_all (hr.mono (by decide)) (by rfl) D_all.g D_all.F.kp D_all.b .nil pass0 (pa_cons (pv 2) (pa_cons (pe_op op_cat (pe_op op_cat (pe_slice sl_list (pv 3) po_none (po_some (pv 9))) (pv 12)) (pe_slice sl_list (pv 3) (po_some (pe_op op_add (pv 9) pe_int)) po_none)) pa_nil))) (pv 7) (nomark _)) (pss_one (ps_ret pe_bl)) pss_nil)
      (pss_one (ps_ret (pe_cmpR (op_eqI hr.units) (pe_call G_read (hr.mono (by decide)) (by rfl) D_read.g D_read.F.kp D_read.b .nil pass0 (pa_cons (pe_call G_rowtext (hr.mono (by decide)) (by rfl) D_rowtext.g D_rowtext.F.kp D_rowtext.b .nil pass0 (pa_cons (pe_callTy call_list_of (by rfl) m_list (by decide +kernel) (pa_cons (pv 8) pa_nil)) pa_nil)) pa_nil)) (pv 7) (nomark _)))))))))))))))), ?_⟩
    refine ⟨.ref a, rfl, a, ns, 0, rfl, hS, h63, by decide, by decide, fun p o1 np hP1 => ?_⟩
    -- the row
    refine ⟨.ref p, rfl, by show (7 : Nat) ≤ sizeLine; omega, fun m nm => ?_⟩
    have pm : p ≠ m := ne_of_none (upd_same : (upd H p o1) p = some o1) nm
    refine ⟨p, m, _, o1, [0, 1, 2, 5, 13, 30, 60], rfl, by rw [upd_ne pm]; exact upd_same, hP1, by omega, .inl (.inl (by rw [upd_same]; rfl)), pm, by decide, by decide, by decide, fun H2 x bs o2 nx ex ep hP2 kk lz hb => ?_⟩
    have s1 : Same H (upd (upd H p o1) m (.lst [.int 0, .int 1, .int 2, .int 5, .int 13, .int 30, .int 60])) := (Kp.new (ps := []) np).same.trans (Kp.new (ps := []) nm).same
    have s2 : Same H H2 := step_same s1 np kk
    have lb : bs.length ≤ 60 := by
      obtain ⟨z, zm, ze⟩ := lz
      have := (show ∀ y ∈ ([0, 1, 2, 5, 13, 30, 60] : List Int), y ≤ 60 by decide) z zm
      omega
    have xp : x ≠ p := fun z => by
      rw [z, upd_ne pm, upd_same] at nx; cases nx
    -- the pieces
    refine ⟨Nat.zero_le _, fun pc npc => ?_⟩
    have xc : x ≠ pc := ne_of_none ex npc
    have pcp : p ≠ pc := ne_of_none ep npc
    have nH : H pc = none := s2.free npc
    refine ⟨fun σ' H' => ∃ (us : List V) (ps : List Piece) (y4 y5 y6 : Option V) (oP : HO), σ' = [some (.ref a), some (.ref p), some (.ref x), some (.ref pc), y4, y5, y6, none, none, none, none, none, none] ∧ H' pc = some (.lst us) ∧ Pieces (mask [pc, p] H') us ps ∧ 2 ≤ ps.length ∧ ps.length ≤ 62 ∧ (∀ z ∈ ps, Tiny z) ∧ H' x = some (.lst (bs.map V.int)) ∧ H' p = some oP ∧ PoolO 2000 oP, ?_, fun σ' H3 hm => ?_⟩
    · refine ⟨.ref a, rfl, a, _, rfl, .inl ((s2.trans (Kp.new (ps := []) npc).same).seq hS), _, _, rfl, _, _, rfl, _, _, rfl, ⟨by decide, by decide, ?_, ?_⟩, ?_⟩
      · split <;> (split <;> omega)
      · split <;> (split <;> omega)
      · have en : ∃ n : Nat, 2 ≤ n ∧ n ≤ 62 ∧ ((if (if (((ns.map V.int).length : Nat) : Int) < 63 then (((ns.map V.int).length : Nat) : Int) else 63) > 3 then (if (((ns.map V.int).length : Nat) : Int) < 63 then (((ns.map V.int).length : Nat) : Int) else 63) else 3) - 1).toNat = n := by
          refine ⟨_, ?_, ?_, rfl⟩ <;> (split <;> (split <;> omega))
        obtain ⟨n, n2, n62, en⟩ := en
        rw [en]
        refine for_range (lo := 1) (n := n) (fun i σ H' => ∃ (us : List V) (ps : List Piece) (y4 y5 y6 : Option V), σ = [some (.ref a), some (.ref p), some (.ref x), some (.ref pc), y4, y5, y6, none, none, none, none, none, none] ∧ H' pc = some (.lst us) ∧ Pieces (mask [pc, p] H') us ps ∧ ps.length = i ∧ (∀ z ∈ ps, Tiny z) ∧ H' x = some (.lst (bs.map V.int)) ∧ H' p = some o2 ∧ Same H H') ?_ (fun i σ H' hi hW => ?_) (fun σ H' hW => ?_)
        · exact ⟨[], [], none, none, none, rfl, upd_same, Pieces.nil, rfl, fun z hz => by simp at hz, by rw [upd_ne xc]; exact ex, by rw [upd_ne pcp]; exact ep, s2.trans (Kp.new (ps := []) npc).same⟩
        · obtain ⟨us, ps, y4, y5, y6, rfl, epc, hps, lps, sm, ex3, ep3, s3⟩ := hW
          refine ⟨.ref a, rfl, _, rfl, a, ns, 1 + (i : Int), rfl, s3.seq hS, h63, by omega, by omega, fun p2 o3 np2 hP3 => ?_⟩
          have k1 : Same H' (upd H' p2 o3) := (Kp.new (ps := []) np2).same
          refine ⟨.ref p2, rfl, by show (8 : Nat) ≤ sizeLine; omega, fun l nl => ?_⟩
          have pl : p2 ≠ l := ne_of_none (upd_same : (upd H' p2 o3) p2 = some o3) nl
          refine ⟨.ref p2, rfl, p2, _, 8, o3, rfl, by rw [upd_ne pl]; exact upd_same, hP3, by omega, by decide, by decide, fun r o4 r0 r1 hP4 => ?_⟩
          obtain ⟨z, zm, ez, _⟩ := atI_int (ms := [90, 90, 90, 90, 90, 90, 90, 300]) (i := r) r0 r1
          have zb : 0 < z ∧ z ≤ 300 := (show ∀ y ∈ ([90, 90, 90, 90, 90, 90, 90, 300] : List Int), 0 < y ∧ y ≤ 300 by decide) z zm
          have k2 : Same H' (upd (upd H' p2 o3) l (.lst [.int 90, .int 90, .int 90, .int 90, .int 90, .int 90, .int 90, .int 300])) := k1.trans (Kp.new (ps := []) nl).same
          refine ⟨l, _, r, .int z, rfl, rfl, .inl (.inl (by rw [upd_ne pl.symm, upd_same]; rfl)), ez, p2, _, z, o4, rfl, upd_same, hP4, by omega, zb.1, by omega, fun r2 o5 t0 t1 hP5 => ?_⟩
          obtain ⟨n3, rfl⟩ := Int.eq_ofNat_of_zero_le t0
          have k3 := put_same (o := o5) (put_same (o := o4) k2 np2) np2
          refine ⟨.ref pc, rfl, .inl ⟨rfl, _, sq_at (k3 _ _ epc)⟩, .int n3, rfl, .ref p2, rfl, by show (8 : Nat) ≤ sizeLine; omega, fun m2 nm2 => ?_⟩
          have pm2 : p2 ≠ m2 := ne_of_none upd_same nm2
          refine ⟨p2, m2, _, o5, [0, 1, 2, 3, 5, 8, 13, 40], rfl, by rw [upd_ne pm2]; exact upd_same, hP5, by omega, .inl (.inl (by rw [upd_same]; rfl)), pm2, by decide, by decide, by decide, fun H5 D ds o6 nD eD _ _ kk5 lz5 hb5 => ?_⟩
          have k4 := step_same (k3.trans (Kp.new (ps := []) nm2).same) np2 kk5
          have ld : ds.length ≤ 40 := by
            obtain ⟨z2, zm2, ze2⟩ := lz5
            have := (show ∀ y ∈ ([0, 1, 2, 3, 5, 8, 13, 40] : List Int), y ≤ 40 by decide) z2 zm2
            omega
          refine ⟨by show (2 : Nat) ≤ sizeLine; omega, fun T nT => ?_⟩
          have k5 := k4.trans (Kp.new (ps := []) (o := HO.tup [.int n3, .ref D]) nT).same
          have c6 := k5 _ _ epc
          have D6 : (upd H5 T (HO.tup [.int n3, .ref D])) D = some (.lst (ds.map V.int)) := by rw [upd_ne (ne_of_none eD nT)]; exact eD
          have nDH : H' D = none := (k3.trans (Kp.new (ps := []) nm2).same).free nD
          have nTH : H' T = none := k4.free nT
          have Dc : D ∉ [pc, p] := fun z => by
            rcases List.mem_cons.mp z with z | z
            · rw [z, epc] at nDH; cases nDH
            · rw [List.mem_singleton.mp z, ep3] at nDH; cases nDH
          have Tc : T ∉ [pc, p] := fun z => by
            rcases List.mem_cons.mp z with z | z
            · rw [z, epc] at nTH; cases nTH
            · rw [List.mem_singleton.mp z, ep3] at nTH; cases nTH
          have ul : us.length ≤ 62 := by rw [hps.1]; omega
          refine ⟨pc, us, .ref T, rfl, rfl, c6, by omega, us ++ [.ref T], ps ++ [(n3, ds)], _, _, _, rfl, upd_same, ?_, by rw [List.length_append, lps]; rfl, ?_, ?_, ?_, ?_⟩
          · rw [mask_upd (by simp)]
            refine (hps.mono (mask_kp (Kp.of k5))).append (Pieces.one ⟨T, D, rfl, ?_, ?_⟩)
            · rw [mask_at Tc]; exact upd_same
            · rw [mask_at Dc]; exact D6
          · intro z hz
            rcases List.mem_append.mp hz with hz | hz
            · exact sm z hz
            · rw [List.mem_singleton.mp hz]
              exact ⟨by show n3 ≤ 299; omega, ld, hb5⟩
          · rw [upd_ne xc]; exact k5 _ _ ex3
          · rw [upd_ne pcp]; exact k5 _ _ ep3
          · exact put_same (s3.trans k5) nH
        · obtain ⟨us, ps, y4, y5, y6, rfl, epc, hps, lps, sm, ex3, ep3, s3⟩ := hW
          exact ⟨us, ps, y4, y5, y6, o2, rfl, epc, hps, by omega, by omega, sm, ex3, ep3, hP2.up (by omega)⟩
    · obtain ⟨us, ps, y4, y5, y6, oP, rfl, epc, hps, l2, l62, tn, ex, ep, hP⟩ := hm
      have sm : ∀ z ∈ ps, Small z := fun z hz => (tn z hz).small
      have ul : us.length = ps.length := hps.1
      have hpp := hps.mono (mask_le _ _)
      -- what is due, what comes
      refine ⟨.ref x, rfl, .ref pc, rfl, x, pc, bs, us, ps, rfl, sq_at ex, sq_at epc, hpp, by omega, hb, sm, by omega, fun H4 u nu eu s4 => ?_⟩
      refine ⟨.ref x, rfl, .ref pc, rfl, x, pc, bs, us, ps, rfl, sq_at (s4 _ _ ex), sq_at (s4 _ _ epc), hpp.mono s4, by omega, hb, sm, by omega, fun H5 t nt et s5 => ?_⟩
      have s45 := s4.trans s5
      refine ⟨.ref t, rfl, .ref t, .ty "list", _, _, true, rfl, .ty "list", .base (.lst et), kit_ty (by decide +kernel), true, rfl, iteF ?_⟩
      refine ⟨.ref t, rfl, .ref u, rfl, t, u, _, _, rfl, rfl, sq_at et, sq_at (s5 _ _ eu), _, rfl, iteNS rfl ?_⟩
      -- one piece is cut
      have pu : p ≠ u := ne_of_none ep nu
      have ptt : p ≠ t := ne_of_none (s4 _ _ ep) nt
      refine ⟨.ref p, rfl, .ref pc, rfl, pc, _, rfl, .inl (sq_at (s45 _ _ epc)), p, _, _, oP, rfl, s45 _ _ ep, hP, by omega, by rw [hps.1]; omega, by rw [hps.1]; omega, fun r o5 r0 r1 hP5 => ?_⟩
      rw [hps.1] at r1
      obtain ⟨i, rfl⟩ := Int.eq_ofNat_of_zero_le r0
      have hi : i < ps.length := by omega
      have hps6 : Pieces (mask [pc, p] (upd H5 p o5)) us ps := by
        rw [mask_upd (by simp)]; exact hps.mono (mask_kp (Kp.of s45))
      have c6 : (upd H5 p o5) pc = some (.lst us) := by rw [upd_ne pcp.symm]; exact s45 _ _ epc
      have x6 : (upd H5 p o5) x = some (.lst (bs.map V.int)) := by rw [upd_ne xp]; exact s45 _ _ ex
      have u6 : (upd H5 p o5) u = some (.lst ((allF bs ps).map V.int)) := by rw [upd_ne pu.symm]; exact s5 _ _ eu
      have t6 : (upd H5 p o5) t = some (.lst ((allF bs ps).map V.int)) := by rw [upd_ne ptt.symm]; exact et
      have hui : i < us.length := by rw [hps.1]; exact hi
      obtain ⟨_, T, D, eT, hT, hD⟩ := hps6.at (List.getElem?_eq_getElem hui)
      have T6 := mask_le _ _ _ _ hT
      have D6 := mask_le _ _ _ _ hD
      refine ⟨.ref pc, rfl, .int i, rfl, pc, us, (i : Int), us[i], rfl, rfl, sq_at c6, atI_nat (List.getElem?_eq_getElem hui), T, _, eT, .inl (.inl T6), rfl, _, _, rfl, _, _, rfl, rfl, ?_⟩
      refine ⟨.ref p, rfl, .ref D, rfl, D, _, rfl, .inl (sq_at D6), _, _, rfl, rfl, p, _, _, o5, rfl, upd_same, hP5, by omega, by omega, by rw [List.length_map]; have := (sm _ (List.getElem_mem hi)).2.1; omega, fun r2 o6 t0 t1 hP6 => ?_⟩
      rw [List.length_map] at t1
      obtain ⟨c, rfl⟩ := Int.eq_ofNat_of_zero_le t0
      have hc : c ≤ ps[i].2.length := by omega
      have hps7 : Pieces (mask [pc, p] (upd (upd H5 p o5) p o6)) us ps := by
        rw [mask_upd (by simp)]; exact hps6
      have e7 : ∀ (b : Addr) (o : HO), b ≠ p → (upd H5 p o5) b = some o → (upd (upd H5 p o5) p o6) b = some o := fun b o n e => by rw [upd_ne n]; exact e
      have Dp' : D ≠ p := fun z => by
        rw [z] at hD
        unfold mask at hD
        rw [if_pos (by simp)] at hD; cases hD
      have c7 := e7 _ _ pcp.symm c6
      have x7 := e7 _ _ xp x6
      have u7 := e7 _ _ pu.symm u6
      have t7 := e7 _ _ ptt.symm t6
      have D7 := e7 _ _ Dp' D6
      generalize upd (upd H5 p o5) p o6 = H7 at hps7 c7 x7 u7 t7 D7
      have hpp7 := hps7.mono (mask_le _ _)
      have pi := sm _ (List.getElem_mem hi)
      -- the parts
      refine ⟨.int (ps[i].1 : Nat), rfl, .ref D, rfl, .int c, rfl, _, rfl, D, _, rfl, sq_at D7, fun l1 nl1 => ?_⟩
      rw [cut_to _ _ (by rw [List.length_map]; exact hc), ← List.map_take]
      have v1 : Same H7 (upd H7 l1 (.lst ((ps[i].2.take c).map V.int))) := (Kp.new (ps := []) nl1).same
      refine ⟨by show (2 : Nat) ≤ sizeLine; omega, fun T1 nT1 => ?_⟩
      have v2 := v1.trans (Kp.new (ps := []) (o := HO.tup [.int (ps[i].1 : Nat), .ref l1]) nT1).same
      have l12 := (Kp.new (ps := []) (o := HO.tup [.int (ps[i].1 : Nat), .ref l1]) nT1).same l1 _ upd_same
      refine ⟨.int (ps[i].1 : Nat), rfl, .int c, rfl, _, _, rfl, rfl, .ref D, rfl, .int c, rfl, _, rfl, D, _, rfl, sq_at (v2 _ _ D7), fun l3 nl3 => ?_⟩
      rw [cut_from _ _ (by rw [List.length_map]; exact hc), ← List.map_drop]
      have w3 := (Kp.new (ps := []) (o := HO.lst ((ps[i].2.drop c).map V.int)) nl3).same
      refine ⟨by show (2 : Nat) ≤ sizeLine; omega, fun T2 nT2 => ?_⟩
      have ec : ((ps[i].1 : Nat) : Int) + (c : Int) = ((ps[i].1 + c : Nat) : Int) := by omega
      have w4 := (Kp.new (ps := []) (o := HO.tup [.int (((ps[i].1 : Nat) : Int) + (c : Int)), .ref l3]) nT2).same
      refine ⟨by show (2 : Nat) ≤ sizeLine; omega, fun pp npp => ?_⟩
      have w5 := (Kp.new (ps := []) (o := HO.lst [.ref T1, .ref T2]) npp).same
      have v5 := (v2.trans w3).trans (w4.trans w5)
      have P1 : PieceAt _ (.ref T1) (ps[i].1, ps[i].2.take c) := ⟨T1, l1, rfl, (w3.trans (w4.trans w5)) T1 _ upd_same, (w3.trans (w4.trans w5)) _ _ l12⟩
      have P2 : PieceAt _ (.ref T2) (ps[i].1 + c, ps[i].2.drop c) := ⟨T2, l3, rfl, by rw [← ec]; exact w5 T2 _ upd_same, (w4.trans w5) l3 _ upd_same⟩
      have hpar := (Pieces.one P1).append (Pieces.one P2)
      -- pieces[:at] + parts + pieces[at + 1:]
      refine ⟨.ref x, rfl, .ref pc, rfl, .int i, rfl, _, rfl, pc, us, rfl, sq_at (v5 _ _ c7), fun l4 nl4 => ?_⟩
      rw [cut_to _ _ (by omega)]
      have w6 := (Kp.new (ps := []) (o := HO.lst (us.take i)) nl4).same
      refine ⟨.ref pp, rfl, l4, pp, _, _, rfl, rfl, upd_same, w6 pp _ upd_same, by rw [List.length_take]; show _ + 2 ≤ sizeLine; omega, fun l5 nl5 => ?_⟩
      have w7 := (Kp.new (ps := []) (o := HO.lst (us.take i ++ [.ref T1, .ref T2])) nl5).same
      refine ⟨.ref pc, rfl, .int i, rfl, _, _, rfl, rfl, _, rfl, pc, us, rfl, sq_at ((w6.trans w7) _ _ (v5 _ _ c7)), fun l6 nl6 => ?_⟩
      have e1 : ((i : Int) + 1) = ((i + 1 : Nat) : Int) := by omega
      rw [e1, cut_from _ _ (by omega)]
      have w8 := (Kp.new (ps := []) (o := HO.lst (us.drop (i + 1))) nl6).same
      refine ⟨l5, l6, _, _, rfl, rfl, w8 l5 _ upd_same, upd_same, ?_, fun l7 nl7 => ?_⟩
      · rw [List.length_append, List.length_take, List.length_drop]; show _ + 2 + _ ≤ sizeLine; omega
      have w9 := (Kp.new (ps := []) (o := HO.lst (us.take i ++ [.ref T1, .ref T2] ++ us.drop (i + 1))) nl7).same
      have w69 := (w6.trans w7).trans (w8.trans w9)
      have v9 := v5.trans w69
      have hpx : Pieces _ (us.take i ++ [.ref T1, .ref T2] ++ us.drop (i + 1)) (ps.take i ++ [(ps[i].1, ps[i].2.take c), (ps[i].1 + c, ps[i].2.drop c)] ++ ps.drop (i + 1)) :=
        (((hpp7.mono v9).take i).append (hpar.mono w69)).append ((hpp7.mono v9).drop (i + 1))
      have eq : allF bs (ps.take i ++ [(ps[i].1, ps[i].2.take c), (ps[i].1 + c, ps[i].2.drop c)] ++ ps.drop (i + 1)) = allF bs ps := by
        rw [allF_parts _ _ _ _ _ _ hc]
        exact congrArg (allF bs) (split_at hi)
      refine ⟨x, l7, bs, _, _, rfl, sq_at (v9 _ _ x7), sq_new, hpx, by omega, hb, ?_, ?_, fun H8 g ng eg s8 => ?_⟩
      · intro z hz
        have b1 := pi.1
        have b2 := pi.2.1
        rcases List.mem_append.mp hz with hz | hz
        · rcases List.mem_append.mp hz with hz | hz
          · exact sm z (List.mem_of_mem_take hz)
          · rcases List.mem_cons.mp hz with rfl | hz
            · exact ⟨b1, by show (List.take c _).length ≤ 400; rw [List.length_take]; omega, fun b h => pi.2.2 b (List.mem_of_mem_take h)⟩
            · rw [List.mem_singleton.mp hz]
              exact ⟨by show ps[i].1 + c ≤ 340; have := (tn _ (List.getElem_mem hi)).1; have := (tn _ (List.getElem_mem hi)).2.1; omega, by show (List.drop c _).length ≤ 400; rw [List.length_drop]; omega, fun b h => pi.2.2 b (List.mem_of_mem_drop h)⟩
        · exact sm z (List.mem_of_mem_drop hz)
      · rw [List.length_append, List.length_append, List.length_take, List.length_drop]; show _ + 2 + _ ≤ 100; omega
      · rw [eq] at eg
        refine ⟨.ref u, rfl, g, u, _, _, rfl, rfl, sq_at eg, sq_at (s8 _ _ (v9 _ _ u7)), _, rfl, iteNS rfl ?_⟩
        obtain ⟨gb, gl⟩ := allF_good ps bs hb (by omega) sm
        refine ⟨.ref t, rfl, t, _, rfl, .inl (sq_at (s8 _ _ (v9 _ _ t7))), fun h1 nh1 => ⟨h1, allF bs ps, rfl, sq_new, gb, by omega, fun H9 s9 => ?_⟩⟩
        have u9 := s9 _ _ ((Kp.new (ps := []) (o := HO.lst ((allF bs ps).map V.int)) nh1).same _ _ (s8 _ _ (v9 _ _ u7)))
        refine ⟨allF bs ps, rfl, gb, by omega, fun H10 k nk ek s10 => ⟨.ref u, rfl, k, u, _, _, rfl, rfl, sq_at ek, sq_at (s10 _ _ u9), ?_⟩⟩
        rw [decide_eq_true rfl]
        exact q _
end
theorem all_mk {l : PySem.W.OpenLaw} {w : World} {K : PySem.W.Frag} {h : Heap} {mg : Str → Option Value} {fa : Addr} {f_laid f_worth f_read f_rowtext f_pool f_take f_bytes f_due f_all f_law : Addr} (X : K.In h) (G : h.Ns mainGlobals mg) (hfa : mg "law" = some (.ref fa))
    {od_laid an_laid : Option Addr} {sl_laid : Array (Option Value)} {oc_laid kV_laid dc_laid pm_laid cd_laid ct_laid : Value}
    (a_laid : PySem.W.nsIn K mainGlobals "laid" = some (some (.ref f_laid))) (l_laid : K.lookup f_laid = some ⟨oc_laid, od_laid, .func (PySem.W.fnOf "laid" "laid" (defArgs s_laid) (defBody s_laid) (defScope s_laid) .none kV_laid dc_laid pm_laid an_laid cd_laid ct_laid), sl_laid⟩)
    (c_laid : PySem.W.codeIn K cd_laid "laid" = true) (k_laid : PySem.W.keepIn K (.ref f_laid) = true)
    {od_worth an_worth : Option Addr} {sl_worth : Array (Option Value)} {oc_worth kV_worth dc_worth pm_worth cd_worth ct_worth : Value}
    (a_worth : PySem.W.nsIn K mainGlobals "figure_worth" = some (some (.ref f_worth))) (l_worth : K.lookup f_worth = some ⟨oc_worth, od_worth, .func (PySem.W.fnOf "figure_worth" "figure_worth" (defArgs s_worth) (defBody s_worth) (defScope s_worth) .none kV_worth dc_worth pm_worth an_worth cd_worth ct_worth), sl_worth⟩)
    (c_worth : PySem.W.codeIn K cd_worth "figure_worth" = true) (k_worth : PySem.W.keepIn K (.ref f_worth) = true)
    {od_read an_read : Option Addr} {sl_read : Array (Option Value)} {oc_read kV_read dc_read pm_read cd_read ct_read : Value}
    (a_read : PySem.W.nsIn K mainGlobals "read_row" = some (some (.ref f_read))) (l_read : K.lookup f_read = some ⟨oc_read, od_read, .func (PySem.W.fnOf "read_row" "read_row" (defArgs s_read) (defBody s_read) (defScope s_read) .none kV_read dc_read pm_read an_read cd_read ct_read), sl_read⟩)
    (c_read : PySem.W.codeIn K cd_read "read_row" = true) (k_read : PySem.W.keepIn K (.ref f_read) = true)
    {od_rowtext an_rowtext : Option Addr} {sl_rowtext : Array (Option Value)} {oc_rowtext kV_rowtext dc_rowtext pm_rowtext cd_rowtext ct_rowtext : Value}
    (a_rowtext : PySem.W.nsIn K mainGlobals "row_text" = some (some (.ref f_rowtext))) (l_rowtext : K.lookup f_rowtext = some ⟨oc_rowtext, od_rowtext, .func (PySem.W.fnOf "row_text" "row_text" (defArgs s_rowtext) (defBody s_rowtext) (defScope s_rowtext) .none kV_rowtext dc_rowtext pm_rowtext an_rowtext cd_rowtext ct_rowtext), sl_rowtext⟩)
    (c_rowtext : PySem.W.codeIn K cd_rowtext "row_text" = true) (k_rowtext : PySem.W.keepIn K (.ref f_rowtext) = true)
    {od_pool an_pool : Option Addr} {sl_pool : Array (Option Value)} {oc_pool kV_pool dc_pool pm_pool cd_pool ct_pool : Value}
    (a_pool : PySem.W.nsIn K mainGlobals "_law_pool" = some (some (.ref f_pool))) (l_pool : K.lookup f_pool = some ⟨oc_pool, od_pool, .func (PySem.W.fnOf "_law_pool" "_law_pool" (defArgs s_pool) (defBody s_pool) (defScope s_pool) .none kV_pool dc_pool pm_pool an_pool cd_pool ct_pool), sl_pool⟩)
    (c_pool : PySem.W.codeIn K cd_pool "_law_pool" = true) (k_pool : PySem.W.keepIn K (.ref f_pool) = true)
    {od_take an_take : Option Addr} {sl_take : Array (Option Value)} {oc_take kV_take dc_take pm_take cd_take ct_take : Value}
    (a_take : PySem.W.nsIn K mainGlobals "_law_take" = some (some (.ref f_take))) (l_take : K.lookup f_take = some ⟨oc_take, od_take, .func (PySem.W.fnOf "_law_take" "_law_take" (defArgs s_take) (defBody s_take) (defScope s_take) .none kV_take dc_take pm_take an_take cd_take ct_take), sl_take⟩)
    (c_take : PySem.W.codeIn K cd_take "_law_take" = true) (k_take : PySem.W.keepIn K (.ref f_take) = true)
    {od_bytes an_bytes : Option Addr} {sl_bytes : Array (Option Value)} {oc_bytes kV_bytes dc_bytes pm_bytes cd_bytes ct_bytes : Value}
    (a_bytes : PySem.W.nsIn K mainGlobals "_law_bytes" = some (some (.ref f_bytes))) (l_bytes : K.lookup f_bytes = some ⟨oc_bytes, od_bytes, .func (PySem.W.fnOf "_law_bytes" "_law_bytes" (defArgs s_bytes) (defBody s_bytes) (defScope s_bytes) .none kV_bytes dc_bytes pm_bytes an_bytes cd_bytes ct_bytes), sl_bytes⟩)
    (c_bytes : PySem.W.codeIn K cd_bytes "_law_bytes" = true) (k_bytes : PySem.W.keepIn K (.ref f_bytes) = true)
    {od_due an_due : Option Addr} {sl_due : Array (Option Value)} {oc_due kV_due dc_due pm_due cd_due ct_due : Value}
    (a_due : PySem.W.nsIn K mainGlobals "_law_due" = some (some (.ref f_due))) (l_due : K.lookup f_due = some ⟨oc_due, od_due, .func (PySem.W.fnOf "_law_due" "_law_due" (defArgs s_due) (defBody s_due) (defScope s_due) .none kV_due dc_due pm_due an_due cd_due ct_due), sl_due⟩)
    (c_due : PySem.W.codeIn K cd_due "_law_due" = true) (k_due : PySem.W.keepIn K (.ref f_due) = true)
    {od_all an_all : Option Addr} {sl_all : Array (Option Value)} {oc_all kV_all dc_all pm_all cd_all ct_all : Value}
    (a_all : PySem.W.nsIn K mainGlobals "_law_all_laid" = some (some (.ref f_all))) (l_all : K.lookup f_all = some ⟨oc_all, od_all, .func (PySem.W.fnOf "_law_all_laid" "_law_all_laid" (defArgs s_all) (defBody s_all) (defScope s_all) .none kV_all dc_all pm_all an_all cd_all ct_all), sl_all⟩)
    (c_all : PySem.W.codeIn K cd_all "_law_all_laid" = true) (k_all : PySem.W.keepIn K (.ref f_all) = true)
    {od_law an_law : Option Addr} {sl_law : Array (Option Value)} {oc_law kV_law dc_law pm_law cd_law ct_law : Value}
    (a_law : PySem.W.nsIn K mainGlobals "law" = some (some (.ref f_law))) (l_law : K.lookup f_law = some ⟨oc_law, od_law, .func (PySem.W.fnOf "law" "law" (defArgs s_law) (defBody s_law) (defScope s_law) .none kV_law dc_law pm_law an_law cd_law ct_law), sl_law⟩)
    (c_law : PySem.W.codeIn K cd_law "law" = true) (k_law : PySem.W.keepIn K (.ref f_law) = true)
    {t_FIGURES : Tok} (v_FIGURES : PySem.W.nsIn K mainGlobals "FIGURES" = some (some (.str FIG t_FIGURES)))
    (z_list : PySem.W.nsIn K mainGlobals "list" = some none) (z_len : PySem.W.nsIn K mainGlobals "len" = some none) (z_range : PySem.W.nsIn K mainGlobals "range" = some none) (z_max : PySem.W.nsIn K mainGlobals "max" = some none) (z_min : PySem.W.nsIn K mainGlobals "min" = some none) (z_isinstance : PySem.W.nsIn K mainGlobals "isinstance" = some none) :
    ∃ fd : FuncData, (∀ (s : Shared) (v : Value), BindsTo s fd ⟨[v], []⟩ [("_law_script", v)]) ∧ ∀ base : Heap, K.In base → base.Ns mainGlobals mg → FnOk l.prog w K mg base CX0 3 fa fd ["_law_script"] (spLaw K) := by
  have e := hfa.symm.trans (PySem.W.mg_of X G a_law)
  cases e
  have F_laid := fun_mk (st := s_laid) l_laid c_laid k_laid
  have D_laid : Df K mg "laid" s_laid P_laid f_laid _ := ⟨F_laid, F_laid.binds (ps := P_laid) fun _ _ _ _ _ _ us hl => match us, hl with | [_, _, _], _ => rfl, PySem.W.mg_of X G a_laid⟩
  have F_worth := fun_mk (st := s_worth) l_worth c_worth k_worth
  have D_worth : Df K mg "figure_worth" s_worth P_worth f_worth _ := ⟨F_worth, F_worth.binds (ps := P_worth) fun _ _ _ _ _ _ us hl => match us, hl with | [_], _ => rfl, PySem.W.mg_of X G a_worth⟩
  have F_read := fun_mk (st := s_read) l_read c_read k_read
  have D_read : Df K mg "read_row" s_read P_read f_read _ := ⟨F_read, F_read.binds (ps := P_read) fun _ _ _ _ _ _ us hl => match us, hl with | [_], _ => rfl, PySem.W.mg_of X G a_read⟩
  have F_rowtext := fun_mk (st := s_rowtext) l_rowtext c_rowtext k_rowtext
  have D_rowtext : Df K mg "row_text" s_rowtext P_rowtext f_rowtext _ := ⟨F_rowtext, F_rowtext.binds (ps := P_rowtext) fun _ _ _ _ _ _ us hl => match us, hl with | [_], _ => rfl, PySem.W.mg_of X G a_rowtext⟩
  have F_pool := fun_mk (st := s_pool) l_pool c_pool k_pool
  have D_pool : Df K mg "_law_pool" s_pool P_pool f_pool _ := ⟨F_pool, F_pool.binds (ps := P_pool) fun _ _ _ _ _ _ us hl => match us, hl with | [_, _], _ => rfl, PySem.W.mg_of X G a_pool⟩
  have F_take := fun_mk (st := s_take) l_take c_take k_take
  have D_take : Df K mg "_law_take" s_take P_take f_take _ := ⟨F_take, F_take.binds (ps := P_take) fun _ _ _ _ _ _ us hl => match us, hl with | [_, _], _ => rfl, PySem.W.mg_of X G a_take⟩
  have F_bytes := fun_mk (st := s_bytes) l_bytes c_bytes k_bytes
  have D_bytes : Df K mg "_law_bytes" s_bytes P_bytes f_bytes _ := ⟨F_bytes, F_bytes.binds (ps := P_bytes) fun _ _ _ _ _ _ us hl => match us, hl with | [_, _], _ => rfl, PySem.W.mg_of X G a_bytes⟩
  have F_due := fun_mk (st := s_due) l_due c_due k_due
  have D_due : Df K mg "_law_due" s_due P_due f_due _ := ⟨F_due, F_due.binds (ps := P_due) fun _ _ _ _ _ _ us hl => match us, hl with | [_, _], _ => rfl, PySem.W.mg_of X G a_due⟩
  have F_all := fun_mk (st := s_all) l_all c_all k_all
  have D_all : Df K mg "_law_all_laid" s_all P_all f_all _ := ⟨F_all, F_all.binds (ps := P_all) fun _ _ _ _ _ _ us hl => match us, hl with | [_, _], _ => rfl, PySem.W.mg_of X G a_all⟩
  have F_law := fun_mk (st := s_law) l_law c_law k_law
  have m_FIGURES := PySem.W.mg_of X G v_FIGURES
  have m_list : mg "list" = none := PySem.W.mg_none_of X G z_list
  have m_len : mg "len" = none := PySem.W.mg_none_of X G z_len
  have m_range : mg "range" = none := PySem.W.mg_none_of X G z_range
  have m_max : mg "max" = none := PySem.W.mg_none_of X G z_max
  have m_min : mg "min" = none := PySem.W.mg_none_of X G z_min
  have m_isinstance : mg "isinstance" = none := PySem.W.mg_none_of X G z_isinstance
  exact ⟨_, fun s v => .of_eq rfl, fun base _ _ => ok_law F_law D_laid D_worth D_read D_rowtext D_pool D_take D_bytes D_due D_all m_FIGURES m_list m_len m_range m_max m_min m_isinstance⟩
end Sip
open PySem PySem.W PyProof.Rows
set_option maxHeartbeats 0 in
theorem PySem.Challenge.cw_sipstack_k05_whole_laid_in_pieces_holds : PySem.Challenge.rw_sipstack_k05_whole_laid_in_pieces.Holds := by
  w_on; o_law; k_head; (case hw => w_witness2)
  k_fill
  refine L2.walk_of (l := PySem.Challenge.rw_sipstack_k05_whole_laid_in_pieces) (n := 63) (k := 3) (x := "_law_script") (CX := fun _ => L2.CX0) (sp := fun w => Sip.spLaw _) rfl (by decide) rfl ⟨rfl, by decide, by decide⟩ (fun w h Y => PySem.W.kIn_of Y) ?F (fun _ _ a ns hl _ hS => ⟨a, ns, rfl, hS, hl, fun _ => rfl⟩) (fun _ _ _ _ _ h => h)
  case F =>
    intro w mg fa h KX G hmg
    refine' Sip.all_mk KX G hmg ?a_laid ?l_laid ?c_laid ?k_laid ?a_worth ?l_worth ?c_worth ?k_worth ?a_read ?l_read ?c_read ?k_read ?a_rowtext ?l_rowtext ?c_rowtext ?k_rowtext ?a_pool ?l_pool ?c_pool ?k_pool ?a_take ?l_take ?c_take ?k_take ?a_bytes ?l_bytes ?c_bytes ?k_bytes ?a_due ?l_due ?c_due ?k_due ?a_all ?l_all ?c_all ?k_all ?a_law ?l_law ?c_law ?k_law ?v_FIGURES ?z_list ?z_len ?z_range ?z_max ?z_min ?z_isinstance
    (case a_laid => k_is)
    (case l_laid => k_is)
    (case c_laid => k_is)
    (case k_laid => k_is)
    (case a_worth => k_is)
    (case l_worth => k_is)
    (case c_worth => k_is)
    (case k_worth => k_is)
    (case a_read => k_is)
    (case l_read => k_is)
    (case c_read => k_is)
    (case k_read => k_is)
    (case a_rowtext => k_is)
    (case l_rowtext => k_is)
    (case c_rowtext => k_is)
    (case k_rowtext => k_is)
    (case a_pool => k_is)
    (case l_pool => k_is)
    (case c_pool => k_is)
    (case k_pool => k_is)
    (case a_take => k_is)
    (case l_take => k_is)
    (case c_take => k_is)
    (case k_take => k_is)
    (case a_bytes => k_is)
    (case l_bytes => k_is)
    (case c_bytes => k_is)
    (case k_bytes => k_is)
    (case a_due => k_is)
    (case l_due => k_is)
    (case c_due => k_is)
    (case k_due => k_is)
    (case a_all => k_is)
    (case l_all => k_is)
    (case c_all => k_is)
    (case k_all => k_is)
    (case a_law => k_is)
    (case l_law => k_is)
    (case c_law => k_is)
    (case k_law => k_is)
    (case v_FIGURES => k_is)
    (case z_list => k_is)
    (case z_len => k_is)
    (case z_range => k_is)
    (case z_max => k_is)
    (case z_min => k_is)
    (case z_isinstance => k_is)
