import PyProof.Rows.All
import Wide.All
import OpenK.AllK
import Wide.FinOn
import HandS.List
import HandS.Codes
import HandS.Comp
import HandS.Iter
import HandS.Ends
import HandS.Text
import HandS.Words
import HandS.WordsList
import HandS.Wide
import HandS.IsInst
import HandS.FStr
import PyProof.FString3
import PyProof.Rows.StrIntSpec
import HandS.Walk
import HandS.Exc
import HandS.ExcOwn
import HandS.ExcIs
import HandS.WordsExc
import HandS.StrMore
import HandS.Defaults
import HandS.MakeKwOnly
import HandS.Flow
import PySem.Challenge.RW_sipstack_k19_plain_reads
set_option Elab.async false
set_option linter.all false
set_option maxRecDepth 100000
namespace Sip
open PySem PySem.Spec PyProof.Rows L2

/-! a slice of step one in a list, laid over by another list; its end may lie behind the list's end -/
theorem clamp {a c n : Nat} (h1 : a ≤ c) (h2 : a ≤ n) :
    sliceBounds (some (a : Int)) (some (c : Int)) none n = ((a : Int), ((min c n : Nat) : Int), 1) := by
  have n1 : ¬ ((a : Int) < 0) := by omega
  have n2 : ¬ ((c : Int) < 0) := by omega
  simp only [sliceBounds, Option.getD_none, n1, n2, if_false, show (1 : Int) > 0 from by decide, if_true]
  refine Prod.ext ?_ (Prod.ext ?_ rfl)
  · show max 0 (min (a : Int) (n : Int)) = (a : Int)
    omega
  · show max 0 (min (c : Int) (n : Int)) = ((min c n : Nat) : Int)
    omega

section
variable {pr : Program} {wd : World} {ar : Around} {er : Value → Shared → Prop} {s : Shared}
set_option maxHeartbeats 4000000 in
theorem put_slice {l b z : Addr} {old new : Array Value} {m m2 a c : Nat} {vl vu : Value} {Q : Unit → Shared → Prop}
    (eo : s.heap.get? l = some { cls := .type "list", data := .seq old m })
    (en : s.heap.get? b = some { cls := .type "list", data := .seq new m2 }) (ne : l ≠ b)
    (hz : s.heap.IsSliceOf z vl vu .none) (pl : IsPart vl (some (a : Int))) (pu : IsPart vu (some (c : Int)))
    (ac : a ≤ c) (an : a ≤ old.size) (fit : old.size + new.size ≤ sizeLine)
    (k : Q () { s with heap := s.heap.update l (Obj.mapSeq fun t => t.extract 0 a ++ new ++ t.extract (min c old.size) t.size) }) :
    wpAny (model pr wd) ar (setItem (.ref l) (.ref z) (.ref b)) Q er s := by
  by_cases hc : c ≤ old.size
  · rw [Nat.min_eq_left hc] at k
    exact setItem_slice eo en ne hz pl pu ac hc fit k
  · have lo : s.heap.IsList l old := PySem.IsL.isList eo
    have ln : s.heap.IsList b new := PySem.IsL.isList en
    obtain ⟨oz, gz, cz, dz⟩ := id hz
    have tz : s.TypeIs (.ref z) "slice" := ⟨oz, gz, cz⟩
    have apart : Builtin.List.listSameRef (.ref l) (.ref b) = false := by
      unfold Builtin.List.listSameRef; exact beq_eq_false_iff_ne.mpr ne
    have zz : ((fun t : Array Value => t.extract 0 a ++ new ++ t.extract (min c old.size) t.size) old).size ≤ sizeLine + 1 := by
      simp only [Array.size_append, Array.size_extract]; omega
    have bd := clamp ac an
    have mx : (max (a : Int) ((min c old.size : Nat) : Int)).toNat = min c old.size := by omega
    unfold setItem
    try (with_reducible refine wpAny_holding ?_)
    try refine wpAny_bind (wpAny_pure ?_)
    refine wpAny_bind (wpAny_sequenceKey lo.typeIs (by decide) (wpAny_bind ?_))
    refine wpAny_callSpecial?_slot (name := Str.ofString "__setitem__") lo.typeIs slot_list_setitem ?_
    refine wpAny_call_entry slot_list_setitem lo.typeIs entry_list_setitem ?_ (args_list_setitem _ _ _)
    show wpAny _ _ (Builtin.List.listSubscript? (.ref z) >>= _) _ _ s
    refine wpAny_bind ?_
    unfold Builtin.List.listSubscript?
    refine wpAny_bind (wpAny_specialOf tz slice_no_index ?_)
    simp only [Option.isNone_none, if_true]
    refine wpAny_pure ?_
    show wpAny _ _ (typeOf (.ref z) >>= _) _ _ s
    refine wpAny_bind (wpAny_typeOf tz ?_)
    first
      | rw [if_neg (by decide)]
      | refine PySem.W.KFB.if_not (by decide) ?_
    rw [listSliceParts_eq]
    refine wpAny_bind (wpAny_bind (wpAny_field gz dz (x := .none) rfl (wpAny_bind (wpAny_listPart .none ?_))))
    rw [if_neg (show ¬ ((rawPart none == rawInt 0) = true) from Bool.false_ne_true)]
    refine wpAny_bind (wpAny_field gz dz (x := vl) rfl (wpAny_bind (wpAny_listPart pl ?_)))
    refine wpAny_bind (wpAny_field gz dz (x := vu) rfl (wpAny_bind (wpAny_listPart pu (wpAny_pure ?_))))
    first
      | simp only [apart, Bool.false_eq_true, if_false]
      | refine PySem.W.KFB.if_not apart ?_
    refine wpAny_bind ?_
    unfold Builtin.List.listAllItems
    refine wpAny_bind (wpAny_typeOf ln.typeIs ?_)
    first
      | refine PySem.W.KFB.if_so (by decide) ?_
      | rw [if_pos (by decide)]
    unfold Builtin.List.listItems
    refine wpAny_bind (wpAny_seqItems en rfl (wpAny_pure (wpAny_bind (wpAny_bind (wpAny_seqItems eo rfl (wpAny_pure ?_))))))
    have si := (sliceIndices_raw (some (a : Int)) (some (c : Int)) none old.size (by simp)).trans (congrArg (pure : Int × Int × Int → Sem (Int × Int × Int)) bd)
    refine wpAny_bind (wpAny_of_eq si ?_)
    show wpAny _ _ (if ((1 : Int) == 1) = true then _ else _) _ _ s
    rw [if_pos (by decide)]
    refine wpAny_bind (wpAny_rule ?_)
    first
      | simp only [notLongL fit, Bool.false_eq_true, if_false]
      | refine PySem.W.KFB.if_not (notLongL fit) ?_
    try refine wpAny_bind (wpAny_pure ?_)
    show wpAny _ _ (updateSeq l (fun t => t.extract 0 ((a : Int)).toNat ++ new ++ t.extract (max (a : Int) ((min c old.size : Nat) : Int)).toNat t.size) >>= _) _ _ s
    rw [mx, Int.toNat_natCast]
    refine wpAny_bind (wpAny_updateSeq (hz := Nat.le_trans (Nat.le_add_right _ _) fit) (_hz' := zz) eo rfl (wpAny_bind (wpAny_letGo ?_)))
    first
      | exact wpAny_bind (wpAny_pure (wpAny_pure ⟨.none, rfl, wpAny_pure k⟩))
      | exact wpAny_pure ⟨.none, rfl, wpAny_pure k⟩
end

section
variable {X : Cx}
theorem splice (xs ys : List Value) (a c : Nat) : xs.toArray.extract 0 a ++ ys.toArray ++ xs.toArray.extract (min c xs.toArray.size) xs.toArray.size = (xs.take a ++ ys ++ xs.drop c).toArray := by
  rw [splice_eq]
  congr 1
  by_cases h : c ≤ xs.length
  · rw [List.size_toArray, Nat.min_eq_left h]
  · rw [List.size_toArray, Nat.min_eq_right (by omega), List.drop_length, List.drop_of_length_le (by omega)]

/-- o[lo:hi] = v, both given, v another list -/
def gCut (to : TE) (tl th : TO) : TG := fun v σ H Q => to σ H fun o H1 => tl σ H1 fun lo H2 => th σ H2 fun hi H3 =>
  ∃ p q xs ys a c, o = .ref p ∧ v = .ref q ∧ lo = some a ∧ hi = some c ∧ H3 p = some (.lst xs) ∧ H3 q = some (.lst ys) ∧ p ≠ q ∧
    0 ≤ a ∧ a ≤ c ∧ a ≤ xs.length ∧ xs.length + ys.length ≤ sizeLine ∧ Q σ (upd H3 p (.lst (xs.take a.toNat ++ ys ++ xs.drop c.toNat)))

theorem pg_cut {o : Expr} {lo hi : Option Expr} {to : TE} {tl th : TO} {p2 pos : Pos} (ho : PE X o to) (hl : PO X lo tl) (hh : PO X hi th)
    (ha : ∀ v, assign (.Subscript o (.Slice lo hi none p2) pos) X.env v = (do
      let ov ← holding [v] (eval o X.env)
      let iv ← holding [v, ov] (eval (.Slice lo hi none p2) X.env)
      standAt pos
      holding [v, ov, iv] (setItem ov iv v)
      release [iv, v, ov] []) := by intro _; rfl) : PG X (.Subscript o (.Slice lo hi none p2) pos) (gCut to tl th) := by
  refine ⟨fun pins s σ H v u Q I r h => ?_⟩
  rw [ha]
  refine wpAny_bind (wpAny_holding (thn (ho.run pins s σ H _ I h) fun ov s1 ⟨x, H1, I1, r1, q1⟩ => wpAny_bind (wpAny_holding ?_)))
  refine wpAny_Slice (thn (hl.run pins s1 σ H1 _ I1 q1) fun wl s2 ⟨l, H2, I2, pl, q2⟩ => ?_)
  refine thn (hh.run pins s2 σ H2 _ I2 q2) fun wu s3 ⟨uu, H3, I3, pu, q3⟩ => ?_
  rw [evalPart_none]
  refine wpAny_pure ?_
  obtain ⟨p, q, xs, ys, a, c, rfl, rfl, rfl, rfl, hp, hq, pq, a0, ac, ax, fit, fin⟩ := q3
  cases r1
  cases r
  have I4 : Inv X pins σ H3 { s3 with heap := s3.heap.push { cls := .type "slice", data := .fields #[wl, wu, .none] } } := I3.kept (t' := s3.toks) fun b ob e => Heap.get?_push_of_some _ e
  refine wpAny_bind (wpAny_standAt (wpAny_bind (wpAny_holding ?_)))
  obtain ⟨z1, us1, n1, rv1, _, e1⟩ := I4.lstM hp
  obtain ⟨z2, us2, n2, rv2, _, e2⟩ := I4.lstM hq
  obtain ⟨a', rfl⟩ := Int.eq_ofNat_of_zero_le a0
  obtain ⟨c', rfl⟩ := Int.eq_ofNat_of_zero_le (Int.le_trans a0 ac)
  simp only [Int.toNat_natCast] at fin
  have L1 := rv1.length
  have L2' := rv2.length
  refine put_slice (a := a') (c := c') e1 e2 pq (Heap.IsSliceOf.new ..) pl pu (by omega) (by rw [List.size_toArray]; omega) (by rw [List.size_toArray, List.size_toArray]; omega) ?_
  refine wpAny_release ⟨σ, _, ?_, fin⟩
  refine I4.lset (its' := us1.take a' ++ us2 ++ us1.drop c') (t' := s3.toks) hp e1 (splice us1 us2 a' c') (Vals.append (Vals.append (rv1.take _) rv2) (rv1.drop _)) ?_
  rw [List.length_append, List.length_append, List.length_take, List.length_drop]
  omega
end
end Sip
namespace Sip
open PySem PySem.Spec PyProof.Rows L2

/-- a def of the text: where it stands, how it is called -/
structure Df (K : PySem.W.Frag) (mg : Str → Option Value) (x : Str) (st : Stmt) (ps : List Str) (f : Addr) (fd : FuncData) : Prop where
  F : Fun K x x st f fd
  b : Binds K fd ps []
  g : mg x = some (.ref f)

/-! heaps: all that was tracked stands, but at the places ps -/
def Kp (ps : List Addr) (H H' : Hp) : Prop := ∀ b o, b ∉ ps → H b = some o → H' b = some o
theorem Kp.refl (ps : List Addr) (H : Hp) : Kp ps H H := fun _ _ _ h => h
theorem Kp.trans {ps : List Addr} {H H1 H2 : Hp} (a : Kp ps H H1) (b : Kp ps H1 H2) : Kp ps H H2 := fun c o n h => b c o n (a c o n h)
theorem Kp.wide {ps qs : List Addr} {H H1 : Hp} (a : Kp ps H H1) (h : ∀ x ∈ ps, x ∈ qs) : Kp qs H H1 := fun c o n e => a c o (fun z => n (h c z)) e
theorem Kp.same {H H1 : Hp} (a : Kp [] H H1) : Same H H1 := fun c o e => a c o (fun h => nomatch h) e
theorem Kp.of {ps : List Addr} {H H1 : Hp} (a : Same H H1) : Kp ps H H1 := fun c o _ e => a c o e
theorem Kp.at {ps : List Addr} {H : Hp} {p : Addr} {o : HO} (h : p ∈ ps) : Kp ps H (upd H p o) := fun b x n e => by
  have hb : b ≠ p := fun z => n (by rw [z]; exact h)
  rw [upd_ne hb]; exact e
theorem Kp.new {ps : List Addr} {H : Hp} {p : Addr} {o : HO} (h : H p = none) : Kp ps H (upd H p o) := fun b x n e => by
  rw [upd_ne (ne_of_none e h)]; exact e
/-- a place that was new at H is written later -/
theorem Kp.put {ps : List Addr} {H H1 : Hp} {p : Addr} {o : HO} (k : Kp ps H H1) (h : H p = none) : Kp ps H (upd H1 p o) := fun b x n e => by
  rw [upd_ne (ne_of_none e h)]; exact k b x n e
theorem Kp.seq {ps : List Addr} {K : PySem.W.Frag} {H H1 : Hp} {a : Addr} {xs : List V} (k : Kp ps H H1) (n : a ∉ ps) (h : SqL K H a xs) : SqL K H1 a xs := by
  rcases h with (h | ⟨o, h⟩) | h
  · exact .inl (.inl (k _ _ n h))
  · exact .inl (.inr ⟨o, k _ _ n h⟩)
  · exact .inr h
theorem Kp.free {H H1 : Hp} {ps : List Addr} (k : Kp ps H H1) {q : Addr} (n : q ∉ ps) (h : H1 q = none) : H q = none := by
  cases e : H q with
  | none => rfl
  | some o => rw [k q o n e] at h; cases h
theorem sq_new {K : PySem.W.Frag} {H : Hp} {p : Addr} {xs : List V} : SqL K (upd H p (.lst xs)) p xs := .inl (.inl upd_same)
theorem sq_at {K : PySem.W.Frag} {H : Hp} {p : Addr} {xs : List V} (h : H p = some (.lst xs)) : SqL K H p xs := .inl (.inl h)
theorem upd_upd {H : Hp} {p : Addr} {a b : HO} : upd (upd H p a) p b = upd H p b := by
  funext x
  by_cases h : x = p
  · subst h; rw [upd_same, upd_same]
  · rw [upd_ne h, upd_ne h, upd_ne h]

/-! the law's own draws: a pool is a list of three ints -/
def PoolO (n : Int) (o : HO) : Prop := ∃ d c x : Int, o = .lst [.int d, .int c, .int x] ∧ 0 ≤ d ∧ 0 ≤ c ∧ c ≤ n
theorem PoolO.up {n m : Int} {o : HO} (h : PoolO n o) (l : n ≤ m) : PoolO m o := by
  obtain ⟨d, c, x, e, h1, h2, h3⟩ := h
  exact ⟨d, c, x, e, h1, h2, by omega⟩
def spTake : Sp := fun vs H Q _ => ∃ (p : Addr) (n wide : Int) (o : HO), vs = [.ref p, .int wide] ∧ H p = some o ∧ PoolO n o ∧ n ≤ 1000000000 ∧ 0 < wide ∧ wide < 1073741824 ∧
  ∀ (r : Int) (o' : HO), 0 ≤ r → r < wide → PoolO (n + 1) o' → Q (.int r) (upd H p o')
def spPool (K : PySem.W.Frag) : Sp := fun vs H Q _ => ∃ (a : Addr) (ns : List Int) (i : Int), vs = [.ref a, .int i] ∧ SqL K H a (ns.map V.int) ∧ ns.length ≤ 63 ∧ 0 ≤ i ∧ i ≤ 1000 ∧
  ∀ (p : Addr) (o : HO), H p = none → PoolO (1000 * i) o → Q (.ref p) (upd H p o)

/-! lists of ints -/
theorem atI_int {ms : List Int} {i : Int} (h0 : 0 ≤ i) (h1 : i < ms.length) : ∃ m, m ∈ ms ∧ atI (ms.map V.int) i = some (.int m) ∧ ms[i.toNat]? = some m := by
  obtain ⟨j, rfl⟩ := Int.eq_ofNat_of_zero_le h0
  have hj : j < ms.length := by omega
  refine ⟨ms[j], List.getElem_mem hj, atI_nat ?_, by rw [Int.toNat_natCast, List.getElem?_eq_getElem hj]⟩
  rw [List.getElem?_map, List.getElem?_eq_getElem hj]; rfl
theorem atI_intV {ms : List Int} {i : Int} (h0 : 0 ≤ i) (h1 : i < ms.length) : atI (ms.map V.int) i = some (.int (ms.getD i.toNat 0)) := by
  obtain ⟨m, _, e, g⟩ := atI_int h0 h1
  rw [e, List.getD_eq_getElem?_getD, g]; rfl
theorem dp_ints {K : PySem.W.Frag} {H : Hp} : ∀ ns : List Int, DpAll K H (ns.map V.int) (ns.map PyData.int)
  | [] => .nil
  | n :: r => .cons (.int n) (dp_ints r)
theorem dp_lst {K : PySem.W.Frag} {H : Hp} {a : Addr} {ns : List Int} (h : SqL K H a (ns.map V.int)) : Dp K H (.ref a) (.list (ns.map PyData.int)) := .lst h (dp_ints ns)
section
variable {X : Cx}
/-- == and != of two lists of ints -/
def rEqI (K : PySem.W.Frag) : R2 := fun x y H Q => ∃ (a b : Addr) (ns ms : List Int), x = .ref a ∧ y = .ref b ∧ SqL K H a (ns.map V.int) ∧ SqL K H b (ms.map V.int) ∧ Q (.bl (decide (ns = ms))) H
def rNeI (K : PySem.W.Frag) : R2 := fun x y H Q => ∃ (a b : Addr) (ns ms : List Int), x = .ref a ∧ y = .ref b ∧ SqL K H a (ns.map V.int) ∧ SqL K H b (ms.map V.int) ∧ Q (.bl (!decide (ns = ms))) H
theorem op_eqI (hu : X.A.units + 64 < cLine) : OpR X (compareOp .Eq) (rEqI X.K) := by
  intro pins s σ H x y v u Q I rx ry h
  obtain ⟨a, b, ns, ms, rfl, rfl, ha, hb, q⟩ := h
  cases rx; cases ry
  obtain ⟨us, rv, hl, _⟩ := I.list ha
  obtain ⟨ws, rw', hl', _⟩ := I.list hb
  exact PySem.W.eq_intsK hl.isList rv.ints hl'.isList rw'.ints hu ⟨.bl (decide (ns = ms)), H, I, rfl, q⟩
theorem op_neI (hu : X.A.units + 64 < cLine) : OpR X (compareOp .NotEq) (rNeI X.K) := by
  intro pins s σ H x y v u Q I rx ry h
  obtain ⟨a, b, ns, ms, rfl, rfl, ha, hb, q⟩ := h
  cases rx; cases ry
  obtain ⟨us, rv, hl, _⟩ := I.list ha
  obtain ⟨ws, rw', hl', _⟩ := I.list hb
  exact PySem.W.ne_intsK hl.isList rv.ints hl'.isList rw'.ints hu ⟨.bl (!decide (ns = ms)), H, I, rfl, q⟩
end
/-! a row laid over another one -/
def laidF (r : List Int) (n : Nat) (d : List Int) : List Int :=
  if d = [] then r else (r ++ List.replicate (n - r.length) 0).take n ++ d ++ (r ++ List.replicate (n - r.length) 0).drop (n + d.length)
theorem laidF_nil (r : List Int) (n : Nat) : laidF r n [] = r := if_pos rfl
theorem laidF_cons {r : List Int} {n : Nat} {d : List Int} (h : d ≠ []) : laidF r n d = (r ++ List.replicate (n - r.length) 0).take n ++ d ++ (r ++ List.replicate (n - r.length) 0).drop (n + d.length) := if_neg h
theorem laidF_length {r : List Int} {n : Nat} {d : List Int} (h : d ≠ []) : (laidF r n d).length = max r.length (n + d.length) := by
  rw [laidF_cons h, List.length_append, List.length_append, List.length_take, List.length_drop, List.length_append, List.length_replicate]
  omega
theorem pad_get (r : List Int) (m i : Nat) : (r ++ List.replicate m 0)[i]?.getD 0 = r.getD i 0 := by
  rw [List.getD_eq_getElem?_getD]
  by_cases h : i < r.length
  · rw [List.getElem?_append_left h]
  · rw [List.getElem?_append_right (by omega), List.getElem?_eq_none (l := r) (by omega)]
    by_cases h2 : i - r.length < m
    · rw [List.getElem?_replicate, if_pos h2]; rfl
    · rw [List.getElem?_eq_none (by rw [List.length_replicate]; omega)]
theorem laidF_getD {r : List Int} {n : Nat} {d : List Int} (h : d ≠ []) (i : Nat) : (laidF r n d)[i]?.getD 0 = if n ≤ i ∧ i < n + d.length then d.getD (i - n) 0 else r.getD i 0 := by
  have lt : ((r ++ List.replicate (n - r.length) 0).take n).length = n := by
    rw [List.length_take, List.length_append, List.length_replicate]; omega
  rw [laidF_cons h, List.append_assoc]
  by_cases h1 : i < n
  · rw [if_neg (by omega), List.getElem?_append_left (by rw [lt]; exact h1), List.getElem?_take_of_lt h1]
    exact pad_get r _ i
  · rw [List.getElem?_append_right (by rw [lt]; omega), lt]
    by_cases h2 : i < n + d.length
    · rw [if_pos ⟨by omega, h2⟩, List.getElem?_append_left (by omega), List.getD_eq_getElem?_getD]
    · rw [if_neg (by omega), List.getElem?_append_right (by omega), List.getElem?_drop, ← pad_get r (n - r.length) i]
      congr 2
      omega
theorem laidF_get {r : List Int} {n : Nat} {d : List Int} {i : Nat} (h : d ≠ []) (hi : i < (laidF r n d).length) : (laidF r n d)[i]? = some (if n ≤ i ∧ i < n + d.length then d.getD (i - n) 0 else r.getD i 0) := by
  rw [← laidF_getD h i, List.getElem?_eq_getElem hi]; rfl
theorem ext_getD {xs ys : List Int} (hl : xs.length = ys.length) (h : ∀ i, i < xs.length → xs[i]?.getD 0 = ys[i]?.getD 0) : xs = ys := by
  apply List.ext_getElem hl
  intro i h1 h2
  have := h i h1
  rw [List.getElem?_eq_getElem h1, List.getElem?_eq_getElem h2] at this
  exact this
/-- laid over once more: the same -/
theorem laidF_twice (r : List Int) (n : Nat) (d : List Int) : laidF (laidF r n d) n d = laidF r n d := by
  by_cases h : d = []
  · subst h; rw [laidF_nil, laidF_nil]
  · have l1 := laidF_length (r := r) (n := n) h
    have l2 := laidF_length (r := laidF r n d) (n := n) h
    refine ext_getD (by omega) fun i hi => ?_
    rw [laidF_getD h, laidF_getD h]
    split
    · rfl
    · next c => rw [List.getD_eq_getElem?_getD, laidF_getD h, if_neg c]
theorem flat_rep (m : Nat) (v : V) : (List.replicate m [v]).flatten = List.replicate m v := by
  induction m with
  | zero => rfl
  | succ m ih => rw [List.replicate_succ, List.flatten_cons, ih, List.replicate_succ]; rfl
theorem all_true (n : Nat) : (List.replicate n true).all id = true := by
  rw [List.all_eq_true]
  intro x hx
  exact (List.mem_replicate.mp hx).2
def spBytes : Sp := fun vs H Q _ => ∃ (p : Addr) (n : Int) (o : HO), vs = [.ref p] ∧ H p = some o ∧ PoolO n o ∧ n ≤ 900000000 ∧
  ∀ (H' : Hp) (q : Addr) (bs : List Int) (o' : HO), H q = none → H' q = some (.lst (bs.map V.int)) → H' p = some o' → PoolO (n + 1000) o' → Kp [p] H H' → bs.length ≤ 400 → (∀ b ∈ bs, 0 ≤ b ∧ b ≤ 255) → Q (.ref q) H'
def spLaid (K : PySem.W.Frag) : Sp := fun vs H Q _ => ∃ (a b : Addr) (r : List Int) (n : Nat) (d : List Int), vs = [.ref a, .int n, .ref b] ∧ SqL K H a (r.map V.int) ∧ H b = some (.lst (d.map V.int)) ∧ r.length ≤ 10000 ∧ n ≤ 4400 ∧ d.length ≤ 4400 ∧
  ∀ (H' : Hp) (q : Addr), H q = none → H' q = some (.lst ((laidF r n d).map V.int)) → Same H H' → Q (.ref q) H'
def spDue (K : PySem.W.Frag) : Sp := fun vs H Q _ => ∃ (a b : Addr) (r : List Int) (n : Nat) (d : List Int), vs = [.ref a, .int n, .ref b] ∧ SqL K H a (r.map V.int) ∧ SqL K H b (d.map V.int) ∧ r.length ≤ 10000 ∧ n ≤ 4400 ∧ d.length ≤ 4400 ∧
  ∀ (H' : Hp) (q : Addr), H q = none → H' q = some (.lst ((laidF r n d).map V.int)) → Same H H' → Q (.ref q) H'
def spFits (K : PySem.W.Frag) : Sp := fun vs H Q _ => ∃ (a b : Addr) (xs ys : List Int), vs = [.ref a, .ref b] ∧ H a = some (.lst (xs.map V.int)) ∧ SqL K H b (ys.map V.int) ∧ xs.length ≤ 100000 ∧
  ∀ H' : Hp, Same H H' → Q (.bl (decide (xs = ys))) H'
def spLaw (K : PySem.W.Frag) : Sp := fun vs H Q _ => ∃ (a : Addr) (ns : List Int), vs = [.ref a] ∧ SqL K H a (ns.map V.int) ∧ ns.length ≤ 63 ∧ ∀ H' : Hp, Q (.bl true) H'
theorem step_same {H H1 H2 : Hp} {p : Addr} (s : Same H H1) (n : H p = none) (k : Kp [p] H1 H2) : Same H H2 := fun b o e =>
  k b o (fun z => ne_of_none e n (List.mem_singleton.mp z)) (s b o e)
theorem put_same {H H1 : Hp} {p : Addr} {o : HO} (s : Same H H1) (n : H p = none) : Same H (upd H1 p o) := fun b x e => by
  rw [upd_ne (ne_of_none e n)]; exact s b x e
theorem ixN_zero {n : Nat} (h : 0 < n) : ixN n 0 = some 0 := by
  unfold ixN
  rw [if_pos (by decide), if_pos (by omega)]; rfl
theorem laidF_le {r d : List Int} {n m : Nat} (h : r.length ≤ m ∧ n + d.length ≤ m) : (laidF r n d).length ≤ m := by
  by_cases e : d = []
  · subst e; rw [laidF_nil]; exact h.1
  · rw [laidF_length e]; omega
end Sip
namespace Sip
open PySem PySem.Spec PyProof.Rows L2 PySem.Builtin PySem.Builtin.Str PySem.Builtin.Int PySem.Builtin.Float

def figs : List Nat := [48, 49, 50, 51, 52, 53, 54, 55, 56, 57, 97, 98, 99, 100, 101, 102]
/-- two figures of sixteen -/
def two (n : Nat) : Str := ⟨#[figs.getD (n / 16) 0, figs.getD (n % 16) 0]⟩
def hexSpec : FormatSpec := { fill := 48, align := 61, width := some 2, type := some 120 }
theorem hex_parse : parseFormatSpec (Str.ofString "02x").cps.toList "int" 62 = .ok hexSpec := by kernel_rfl
theorem hex_ascii : (((Str.ofString "02x").cps.toList.drop 1).any (· ≥ 128) || ((Str.ofString "02x").cps.getD 0 0 ≥ 128 && !([60, 62, 61, 94] : List Nat).contains ((Str.ofString "02x").cps.getD 1 0))) = false := by decide +kernel
theorem hex_some : ((Str.ofString "02x").length == 0) = false := by decide +kernel
theorem hex_ex : ∃ F : Int → Str, (∀ (a : Int) (t u : Tok), Gives («int.__format__» ⟨[.int a t, .str (Str.ofString "02x") u], []⟩) (.str (F a))) ∧ ∀ b : Fin 256, F (b.val : Int) = two b.val := by
  apply Exists.intro
  apply And.intro
  · intro a t u prog w A R s hq
    unfold «int.__format__»
    simp only [selfAndOne, noKeywords, Int.intOfSelf, asInt?, asStr?, List.isEmpty_nil, if_true, pure_bind, bind_pure, bind_assoc, hex_some, hex_ascii, Bool.false_eq_true, if_false,
      show (Value.str (Str.ofString "02x") u == Value.none) = false from rfl]
    refine wpAny_bind (wpAny_typeNameOf (T := "str") (typeIs_str _ _ _) (by decide) fun _ => wpAny_bind (wpAny_typeNameOfCut_int ?_))
    simp only [hex_parse]
    refine PySem.W.KFB.if_so (by decide +kernel) ?_
    show wpAny _ _ (retStr _) _ _ _
    unfold retStr
    exact wpAny_bind (wpAny_mkStr (wpAny_pure hq.2) hq.1)
  · decide +kernel
end Sip
namespace Sip
open PySem PySem.Spec PyProof.Rows L2 TL

section
variable {X : Cx}
/-- f'{b:02x}' of a byte -/
def tHex (te : TE) : TE := fun σ H Q => te σ H fun x H1 => ∃ b : Nat, b < 256 ∧ x = .int b ∧ Q (.str (two b)) H1
theorem pe_hex {e : Expr} {te : TE} {k : Nat} {p1 p2 p3 p4 : Pos} (he : PE X e te) :
    PE X (.JoinedStr [.FormattedValue e (-1) (some (.JoinedStr [.Constant (.str (Str.ofString "02x")) k p1] p2)) p3] p4) (tHex te) := by
  have hs : PE X (.JoinedStr [.Constant (.str (Str.ofString "02x")) k p1] p2) (tC (.str (Str.ofString "02x"))) := pe_joined1 pe_str
  obtain ⟨F, g1, g2⟩ := hex_ex
  refine ⟨fun pins s σ H Q I h => wpAny_JoinedStr_one (wpAny_FormattedValue_spec (thn (he.run pins s σ H _ I h) fun v s1 ⟨x, H1, I1, r1, q1⟩ => ?_))⟩
  obtain ⟨b, hb, rfl, q⟩ := q1
  obtain ⟨t, rfl⟩ := r1
  refine thn (hs.run pins s1 σ H1 (fun y H2 => y = .str (Str.ofString "02x") ∧ H2 = H1) I1 ⟨rfl, rfl⟩) fun u s2 ⟨y, H2, I2, r2, ey, eH⟩ => ?_
  subst ey eH
  obtain ⟨t2, rfl⟩ := r2
  have e2 : F (b : Int) = two b := g2 ⟨b, hb⟩
  refine ⟨_, _, rfl, wpAny_formatField_spec (x := F (b : Int)) hex_some (fun s' => typeIs_int s' _ _) PySem.F.slot_int_format PySem.F.entry_int_format PySem.F.args_int_format_2 (fun u => g1 b t u) ?_ (by rw [sizeLine_eq]; decide +kernel) (by rw [e2, sizeLine_eq]; show (2 : Nat) ≤ _; decide)⟩
  rw [e2]
  exact ⟨.str (two b), H2, (I2.tok _).tok _, ⟨_, rfl⟩, q⟩
end

/-! the text of a row, as codes -/
def twoL (b : Int) : List Nat := [figs.getD (b.toNat / 16) 0, figs.getD (b.toNat % 16) 0]
def txL (bs : List Int) : List Nat := bs.flatMap twoL
def tx (bs : List Int) : Str := ⟨(txL bs).toArray⟩
def Bytes (bs : List Int) : Prop := ∀ b ∈ bs, 0 ≤ b ∧ b ≤ 255
theorem txL_length : ∀ bs : List Int, (txL bs).length = 2 * bs.length
  | [] => rfl
  | b :: r => by
    show (twoL b ++ txL r).length = 2 * (r.length + 1)
    rw [List.length_append, txL_length r]
    show 2 + 2 * r.length = _
    omega
theorem tx_length (bs : List Int) : (tx bs).length = 2 * bs.length := by
  show (txL bs).toArray.size = _
  rw [List.size_toArray, txL_length]
theorem txL_append (a b : List Int) : txL (a ++ b) = txL a ++ txL b := List.flatMap_append
theorem tx_append (a b : List Int) : tx (a ++ b) = tx a ++ tx b := ext_toList (by
  show (txL (a ++ b)).toArray.toList = ((txL a).toArray ++ (txL b).toArray).toList
  rw [Array.toList_append, txL_append])
/-- a figure's worth -/
def wor (c : Nat) : Nat := figs.idxOf c
theorem wor_figs : ∀ j : Fin 16, wor (figs.getD j.val 0) = j.val := by decide
theorem twoL_back {b : Int} (h : 0 ≤ b ∧ b ≤ 255) : ∃ i j : Nat, i < 16 ∧ j < 16 ∧ twoL b = [figs.getD i 0, figs.getD j 0] ∧ b = 16 * (i : Int) + j :=
  ⟨b.toNat / 16, b.toNat % 16, by omega, by omega, rfl, by omega⟩
theorem figs_inj {i j : Nat} (hi : i < 16) (hj : j < 16) (e : figs.getD i 0 = figs.getD j 0) : i = j := by
  have a : wor (figs.getD i 0) = i := wor_figs ⟨i, hi⟩
  have b : wor (figs.getD j 0) = j := wor_figs ⟨j, hj⟩
  exact a.symm.trans ((congrArg wor e).trans b)
theorem txL_inj : ∀ {a b : List Int}, Bytes a → Bytes b → txL a = txL b → a = b
  | [], [], _, _, _ => rfl
  | [], y :: r, _, _, e => by cases e
  | x :: r, [], _, _, e => by cases e
  | x :: r, y :: q, ha, hb, e => by
    obtain ⟨i, j, hi, hj, e1, e2⟩ := twoL_back (ha x (List.mem_cons_self ..))
    obtain ⟨m, n, hm, hn, e3, e4⟩ := twoL_back (hb y (List.mem_cons_self ..))
    have e5 : twoL x ++ txL r = twoL y ++ txL q := e
    rw [e1, e3] at e5
    have e6 := List.cons.inj e5
    have e7 := List.cons.inj e6.2
    have k1 := figs_inj hi hm e6.1
    have k2 := figs_inj hj hn e7.1
    have k3 := txL_inj (fun z hz => ha z (List.mem_cons_of_mem _ hz)) (fun z hz => hb z (List.mem_cons_of_mem _ hz)) e7.2
    rw [e2, e4, k1, k2, k3]
theorem tx_inj {a b : List Int} (ha : Bytes a) (hb : Bytes b) (e : tx a = tx b) : a = b := txL_inj ha hb (by
  have := congrArg (fun s : Str => s.cps.toList) e
  exact this)
theorem tx_eq {a b : List Int} (ha : Bytes a) (hb : Bytes b) : decide (V.str (tx a) = V.str (tx b)) = decide (a = b) := by
  by_cases h : a = b
  · subst h; rw [decide_eq_true rfl, decide_eq_true rfl]
  · rw [decide_eq_false h, decide_eq_false]
    intro z
    exact h (tx_inj ha hb (V.str.inj z))
/-- joined from its parts -/
theorem join_two : ∀ bs : List Int, Str.join (Str.ofString "") (bs.map fun b => two b.toNat) = tx bs := fun bs => ext_toList (by
  show tl (Str.join (Str.ofString "") _) = txL bs
  rw [tl_join]
  have e0 : tl (Str.ofString "") = [] := by decide +kernel
  rw [e0, List.map_map]
  induction bs with
  | nil => rfl
  | cons b r ih =>
    cases r with
    | nil => show twoL b = twoL b ++ []; rw [List.append_nil]
    | cons c q =>
      show twoL b ++ ([] ++ joinL [] ((c :: q).map _)) = twoL b ++ txL (c :: q)
      rw [List.nil_append, ih])
/-- its signs by place -/
theorem txL_get : ∀ {bs : List Int} {i : Nat} {b : Int}, bs[i]? = some b → (txL bs)[2 * i]? = some (figs.getD (b.toNat / 16) 0) ∧ (txL bs)[2 * i + 1]? = some (figs.getD (b.toNat % 16) 0)
  | [], _, _, h => by simp at h
  | x :: r, 0, b, h => by
    have e : x = b := Option.some.inj h
    subst e
    exact ⟨rfl, rfl⟩
  | x :: r, i + 1, b, h => txL_get (bs := r) (i := i) (b := b) h
theorem tx_at {bs : List Int} {i : Nat} {b : Int} (h : bs[i]? = some b) : atI (tx bs).cps.toList ((2 * i : Nat) : Int) = some (figs.getD (b.toNat / 16) 0) ∧ atI (tx bs).cps.toList ((2 * i + 1 : Nat) : Int) = some (figs.getD (b.toNat % 16) 0) :=
  ⟨atI_nat (txL_get h).1, atI_nat (txL_get h).2⟩
def FIG : Str := Str.ofString "0123456789abcdef"
theorem fig_find : ∀ j : Fin 16, Txt.find FIG ⟨#[figs.getD j.val 0]⟩ = (j.val : Int) := by decide +kernel
theorem fig_at {j : Nat} (h : j < 16) : atI FIG.cps.toList (j : Int) = some (figs.getD j 0) := by
  have e : FIG.cps.toList = figs := by decide +kernel
  rw [e]
  refine atI_nat ?_
  rw [List.getD_eq_getElem?_getD, List.getElem?_eq_getElem (show j < figs.length from h)]; rfl
/-! slices of lists of ints -/
theorem cut_map (bs : List Int) (lo hi : Option Int) : ∃ cs : List Int, cutV (bs.map V.int) lo hi = cs.map V.int ∧ cs.length ≤ bs.length ∧ ∀ x ∈ cs, x ∈ bs := by
  refine ⟨(bs.drop (HT.sIx bs.length 0 lo)).take (HT.sIx bs.length bs.length hi - HT.sIx bs.length 0 lo), ?_, ?_, ?_⟩
  · unfold cutV
    rw [List.length_map, List.map_take, List.map_drop]
  · rw [List.length_take, List.length_drop]; omega
  · intro x hx
    exact List.mem_of_mem_drop (List.mem_of_mem_take hx)
theorem size_two (n : Nat) : Builtin.Range.rangeSize 0 ((2 * n : Nat) : Int) 2 = (n : Int) := by
  unfold Builtin.Range.rangeSize
  rw [if_pos (by decide)]
  split <;> omega
theorem range_two (n : Nat) (h : n ≤ 1000000) : RgC 0 ((2 * n : Nat) : Int) 2 n := by
  refine ⟨by decide, by decide, ?_, size_two n⟩
  have f : ∀ x : Int, 0 ≤ x → x ≤ 3000000 → Builtin.Range.rangeFitsLong x = true := fun x h0 h1 => by
    unfold Builtin.Range.rangeFitsLong
    rw [Bool.and_eq_true, decide_eq_true_eq, decide_eq_true_eq]
    omega
  unfold Builtin.Range.small
  rw [size_two, f 0 (by decide) (by decide), f ((2 * n : Nat) : Int) (by omega) (by omega), f 2 (by decide) (by decide), f (n : Int) (by omega) (by omega)]
  simp only [Bool.true_and, show (2 : Int) > 0 from by decide, if_true, Bool.or_eq_true, beq_iff_eq]
  exact .inr (f _ (by omega) (by omega))
end Sip
namespace Sip
open PySem PySem.Spec PyProof.Rows L2 TL
def spWorth : Sp := fun vs H Q _ => ∃ j : Nat, j < 16 ∧ vs = [.str ⟨#[figs.getD j 0]⟩] ∧ Q (.int j) H
def spRead : Sp := fun vs H Q _ => ∃ bs : List Int, vs = [.str (tx bs)] ∧ Bytes bs ∧ bs.length ≤ 8000 ∧ ∀ (H' : Hp) (p : Addr), H p = none → H' p = some (.lst (bs.map V.int)) → Same H H' → Q (.ref p) H'
def spTxt (K : PySem.W.Frag) : Sp := fun vs H Q _ => ∃ (a : Addr) (bs : List Int), vs = [.ref a] ∧ SqL K H a (bs.map V.int) ∧ Bytes bs ∧ bs.length ≤ 8000 ∧ ∀ H' : Hp, Same H H' → Q (.str (tx bs)) H'
theorem get_int {xs : List Int} {i : Nat} {x : V} (h : (xs.map V.int)[i]? = some x) : ∃ hi : i < xs.length, x = .int xs[i] := by
  have hi : i < xs.length := by
    have := (List.getElem?_eq_some_iff.mp h).1
    rwa [List.length_map] at this
  refine ⟨hi, ?_⟩
  rw [List.getElem?_map, List.getElem?_eq_getElem hi] at h
  exact (Option.some.inj h).symm
theorem sum_two : ∀ bs : List Int, ((bs.map fun b => two b.toNat).map (·.length)).sum = 2 * bs.length
  | [] => rfl
  | b :: r => by
    show 2 + ((r.map fun b => two b.toNat).map (·.length)).sum = 2 * (r.length + 1)
    rw [sum_two r]; omega
theorem fit_two (bs : List Int) (h : bs.length ≤ 8000) : ((bs.map fun b => two b.toNat).map (·.length)).sum + (bs.map fun b => two b.toNat).length * (Str.ofString "").length ≤ 16777216 := by
  rw [sum_two, show (Str.ofString "").length = 0 by decide +kernel]; omega
end Sip
namespace Sip
open PySem PySem.Spec PyProof.Rows L2 TL
def spAsked : Sp := fun vs H Q _ => ∃ (a : Addr) (bs : List Int), vs = [.ref a] ∧ H a = some (.lst (bs.map V.int)) ∧ Bytes bs ∧ bs.length ≤ 4000 ∧ ∀ H' : Hp, Same H H' → Q (.bl true) H'
end Sip
/-! a list comprehension whose element may raise: what is raised leaves the comprehension -/
namespace Sip
open PySem PySem.Spec PyProof.Rows L2

theorem note_same {e : Value} {a b : Env} (h : a.frame = b.frame) : noteFrame e a = noteFrame e b := by
  unfold noteFrame PySem.frameOf
  rw [h]

/-- a comprehension's end, either way -/
def endX (M : Model) (A : Around) (E : Value → Shared → Prop) (Q : Value → Shared → Prop) (acc : Value) (ce : Env) (r : Result) (s' : Shared) : Prop :=
  ∃ m, s'.heap.Ns ce.locals m ∧ ∀ h', Heap.SameBut ce.locals s'.heap h' → match r with
    | .ok _ => Q acc { s' with heap := h' }
    | .error x => wpAny M A (passOn "comprehension.variables-let-go" x ce : Sem Value) (fun _ _ => False) E { s' with heap := h' }

theorem comp_run {M : Model} {A : Around} {E : Value → Shared → Prop} {s : Shared} {env : Env} {e : Expr} {scope : Scope} {pos : Pos} {na fi : Sem Value} {g : Comprehension} {gs : List Comprehension} {cl : List (Str × Addr)} {Q : Value → Shared → Prop}
    (hg : clausesOf e = g :: gs) (hs : ∀ x, foldedSetIterable g.iter env x = pure x) (hcl : closureFor scope env = pure cl) (hk : scope.kind = .function)
    (hn : ∀ x ∈ scope.names, x.2 = .local → scope.names.lookup x.1 = some .local)
    (h : wpAny M A fi (fun x s1 => wpAny M A (pyIter x) (fun it s2 => wpAny M A na (fun acc s3 => wpAny M A (newFunctionEnv scope env.globals cl [] env.qual none .none (some env)) (fun ce s4 =>
      codeAny M A (.compStart e 0 it acc { ce with scope := relabel scope env }) (endX M A E Q acc { ce with scope := relabel scope env }) s4) E s3) E s2) E s1) E s) :
    wpAny M A (comprehension e scope env pos na false fi none) Q E s := by
  unfold comprehension
  rw [hcl, hg]
  refine wpAny_bind (wpAny_mono h (fun x s1 h1 => ?_) fun _ _ z => z)
  refine wpAny_bind (wpAny_standAt (wpAny_bind (wpAny_of_eq (hs x) ?_)))
  refine wpAny_bind (wpAny_holding (wpAny_mono h1 (fun it s2 h2 => ?_) fun _ _ z => z))
  refine wpAny_standIf (wpAny_bind (wpAny_mono h2 (fun acc s3 h3 => ?_) fun _ _ z => z))
  refine wpAny_bind (wpAny_pure (wpAny_bind (wpAny_mono h3 (fun ce s4 h4 => ?_) fun _ _ z => z)))
  dsimp only
  have vs : ∀ x ∈ (scope.names.filter fun x => (x.2 == .local || x.2 == .cell) && x.1 != (".0" : Str)).reverse, x.2 = .local → Env.kindOf { ce with scope := relabel scope env } x.1 = some .local :=
    fun x hx hl => lookup_relabel_local (hn x (List.mem_filter.mp (List.mem_reverse.mp hx)).1 hl)
  refine wpAny_holding (wpAny_bind (wpAny_attempt (wpAny_holding (wpAny_run (codeAny_mono h4 fun r s' hr => ?_)))))
  obtain ⟨m, nm, hr⟩ := hr
  cases r with
  | ok f => exact wpAny_bind (wpAny_holding (wpAny_comp_letGo (cenv := { ce with scope := relabel scope env }) hk _ s' m vs nm fun h' _ _ sb => wpAny_pure (hr h' sb)))
  | error x => exact wpAny_bind (wpAny_holding (wpAny_comp_letGo (cenv := { ce with scope := relabel scope env }) hk _ s' m vs nm fun h' _ _ sb => wpAny_mono (hr h' sb) (fun _ _ f => f.elim) fun _ _ z => z))

theorem frames_to {h h' B B' : Heap} : ∀ {l : List Env}, h.FunFrames B l → (∀ b ∈ frs l, ∀ o, h.get? b = some o → h'.get? b = some o) → (∀ b ∈ frs l, B'.get? b = none) → h'.FunFrames B' l
  | [], _, _, _ => trivial
  | v :: l, f, k, n => by
    obtain ⟨f1, ⟨L, o, f2, f3, f4, f5⟩, f6⟩ := f
    have up : ∀ b ∈ frs l, b ∈ frs (v :: l) := fun b hb => by
      obtain ⟨x, hx, q⟩ := List.mem_filterMap.mp hb
      exact List.mem_filterMap.mpr ⟨x, List.mem_cons_of_mem _ hx, q⟩
    have hL : L ∈ frs (v :: l) := List.mem_filterMap.mpr ⟨v, List.mem_cons_self, f2⟩
    exact ⟨f1, ⟨L, o, f2, n L hL, k L hL o f4, f5⟩, frames_to f6 (fun b hb => k b (up b hb)) fun b hb => n b (up b hb)⟩

section
variable {X : Cx} {pins : List (Addr × Obj)} {σ : L2.St} {H3 : Hp} {s3 : Shared}
set_option maxHeartbeats 1000000 in
theorem comp_out {scope : Scope} {ce : Env} {fp : List Addr} {W : WX} {E : XK} {pb : List (Addr × Obj)} {σb : L2.St} {Hb : Hp} {sb s' : Shared} {u acc : Value} {Q : Value → Shared → Prop}
    (I3 : Inv X pins σ H3 s3) (hst : X.stack = X.env :: X.outer) (hfr : X.env.frame = some X.env.locals) (tk : Takes X W) (hfp : ∀ b ∈ fp, FpOk X pins H3 b)
    (cf : ce.frame = X.env.frame) (cL : ce.locals = s3.heap.objs.size) (Ib : Inv (X.blk s3 H3 scope ce fp) pb σb Hb sb) (hE : ∀ cls d H', E cls d H' → W cls d σ H')
    (c : CX X.prog X.w X.stack Hb sb E u s') :
    notedBy (model X.prog X.w) X.A ce (fun e s'' => endX (model X.prog X.w) X.A X.xe Q acc ce (.error e) s'') u s' := by
  obtain ⟨a, B, H', cls, d, rfl, fl, hok, ub, na, os, ag, hw⟩ := c
  have hA : X.A.frames = some (X.env :: X.outer) := by rw [I3.ok.frames, hst]
  have Bu : Un (frs X.stack) fp H3 Hb s3.heap sb.heap := Ib.base
  have HbC : Hb ce.locals = none := Ib.free
  obtain ⟨m, ⟨oC, es, ep, eC, dC, rC⟩, _⟩ := Ib.loc
  have eC : sb.heap.get? ce.locals = some oC := eC
  have nC : ce.locals ∉ frs X.stack := fun z => by
    rcases List.mem_cons.mp (I3.stkSub _ z) with z | z
    · have := I3.lt
      rw [← z, cL] at this
      exact absurd this (Nat.lt_irrefl _)
    · exact I3.nofs (Nat.le_of_eq cL.symm) z
  have BC : B.get? ce.locals = some oC := ub.keep _ _ eC HbC nC
  have H'C : H' ce.locals = none := ub.free _ _ eC HbC
  have ffl : ∀ b ∈ frs X.stack, ∃ o, s'.heap.get? b = some o ∧ ∀ vs, o.data ≠ .fields vs := fun b hb => (fl.2.2.1.mem hb).2
  show wpAny _ _ (noteFrame (.ref a) ce) _ _ s'
  rw [note_same cf]
  have fl2 := fl
  rw [hst] at fl2
  refine HandSPX.looks_onZ Zc.steady hA hfr fl2 fun h1 hh up1 => ?_
  obtain ⟨st1, en1, ff1, tr1⟩ := hh
  refine ⟨m, ⟨oC, es, ep, st1 _ _ BC, dC, rC⟩, fun h' sbut => ?_⟩
  -- the ground without the comprehension's own names
  obtain ⟨B', b1, b2⟩ := restrict B fun b => !decide (b = ce.locals)
  have Bto : ∀ b o, B.get? b = some o → b ≠ ce.locals → B'.get? b = some o := fun b o e n => by
    rw [b1 b (by simp [n])]; exact e
  have Bof : ∀ b o, B'.get? b = some o → B.get? b = some o ∧ b ≠ ce.locals := fun b o e => by
    by_cases n : b = ce.locals
    · rw [b2 b (by simp [n])] at e; cases e
    · rw [b1 b (by simp [n])] at e; exact ⟨e, n⟩
  have Bno : ∀ b, B.get? b = none → B'.get? b = none ∧ b ≠ ce.locals := fun b e => by
    have n : b ≠ ce.locals := fun z => by rw [z, BC] at e; cases e
    exact ⟨by rw [b1 b (by simp [n])]; exact e, n⟩
  have st2 : B'.StaysIn h' := fun b o e => by
    obtain ⟨e1, n⟩ := Bof b o e
    rw [sbut.2 b n]; exact st1 b o e1
  have ff2 : h'.FunFrames B' (X.env :: X.outer) := frames_to ff1 (fun b hb o e => by
    rw [sbut.2 b (Bno b (ff1.mem hb).1).2]; exact e) fun b hb => (Bno b (ff1.mem hb).1).1
  have tr2 : HandSPX.TracedZ h' B' a (Zc cls d) (rawInt X.env.locals) := by
    obtain ⟨oe, vs, T, oT, ts, t1, t2, t3, t4, t5, t6, t7, t8, t9⟩ := tr1
    exact ⟨oe, vs, T, oT, ts, by rw [sbut.2 a (Bno a en1).2]; exact t1, t2, t3, t4, (Bno T t5).1, t6, by rw [sbut.2 T (Bno T t5).2]; exact t7, t8, t9⟩
  show wpAny _ _ (passOn "comprehension.variables-let-go" (.ref a) ce : Sem Value) _ _ _
  obtain ⟨oe, vs, T, oT, ts, t1, t2, t3, t4, t5, t6, t7, t8, t9⟩ := id tr2
  unfold PySem.passOn
  refine wpAny_bind (wpAny_field t1 t3 t4 ?_)
  rw [if_neg (show ¬ ((Value.ref T == Value.none) = true) from by simp)]
  try refine wpAny_bind (wpAny_pure ?_)
  refine wpAny_bind (HandSPX.setFlight_anyZ (s := { s' with heap := h' }) st2 ff2 tr2 fun h2 k1 k2 k3 k4 => wpAny_throw (tk _ _ ?_))
  rw [cf, hfr] at k3
  -- the state without it
  obtain ⟨G, g1, g2⟩ := restrict h2 fun b => (B'.get? b).isSome || decide (b ∈ frs X.stack)
  have gB : ∀ b o, B'.get? b = some o → G.get? b = some o := fun b o e => by
    rw [g1 b (by simp [e])]; exact k1 b o e
  have gF : ∀ b ∈ frs X.stack, G.get? b = h2.get? b := fun b hb => g1 b (by simp [hb])
  have og : ∀ b o, G.get? b = some o → h2.get? b = some o ∧ ((B'.get? b).isSome = true ∨ b ∈ frs X.stack) := fun b o e => by
    cases q : ((B'.get? b).isSome || decide (b ∈ frs X.stack)) with
    | false => rw [g2 b q] at e; cases e
    | true => rw [g1 b q] at e; exact ⟨e, by simpa [Bool.or_eq_true] using q⟩
  -- a frame's object through all of it
  have fr : ∀ b ∈ frs X.stack, ∀ o, s'.heap.get? b = some o → ∃ sl, h2.get? b = some { o with slots := sl } := fun b hb o e => by
    obtain ⟨o2, e2, nf⟩ := ffl b hb
    rw [e] at e2; cases e2
    obtain ⟨sl1, e3⟩ := up1 b o e nf
    have nb : b ≠ ce.locals := fun z => nC (z ▸ hb)
    rw [← sbut.2 b nb] at e3
    obtain ⟨sl2, e4⟩ := k4 b _ e3 nf
    exact ⟨sl2, e4⟩
  have lt3 : ∀ b o, s3.heap.get? b = some o → b ≠ ce.locals := fun b o e z => by
    have := Heap.lt_size e
    rw [z, cL] at this
    exact absurd this (Nat.lt_irrefl _)
  have U : Un (frs X.stack) fp H3 H' s3.heap G := by
    refine ⟨fun b o e n hb hx => ?_, fun b o e n hb hx => ?_, fun b o e n hx => ?_, fun b o e hx => ?_, fun b xs e => ub.tups b xs (Bu.tups b xs e), fun b o v e => ub.frzs b o v (Bu.frzs b o v e), fun b ps e => ?_⟩
    · exact gB b o (Bto b o (ub.keep b o (Bu.keep b o e n hb hx) (Bu.free b o e n hx) hb) (lt3 b o e))
    · obtain ⟨sl, e1⟩ := Bu.slot b o e n hb hx
      obtain ⟨sl1, e2⟩ := ub.slot b _ e1 hb
      obtain ⟨sl2, e3⟩ := fr b hb _ e2
      exact ⟨sl2, by rw [gF b hb]; exact e3⟩
    · obtain ⟨o1, e1⟩ := Bu.there b o e hx
      exact ub.free b o1 e1 (Bu.free b o e n hx)
    · obtain ⟨o1, e1⟩ := Bu.there b o e hx
      by_cases hb : b ∈ frs X.stack
      · obtain ⟨sl1, e2⟩ := ub.slot b _ e1 hb
        obtain ⟨sl2, e3⟩ := fr b hb _ e2
        exact ⟨_, by rw [gF b hb]; exact e3⟩
      · obtain ⟨o2, e2⟩ := ub.there b o1 e1 hb
        exact ⟨o2, gB b o2 (Bto b o2 e2 (lt3 b o e))⟩
    · obtain ⟨m1, e1⟩ := Bu.tbls b ps e
      obtain ⟨m2, e2⟩ := ub.tbls b _ e1
      exact ⟨m1 ++ m2, by rw [e2]; simp⟩
  have hokG : HOk X.prog X.w H' G := fun b o q => (hok b o q).stay (fun c v hc r => gB c v (Bto c v r fun z => by
    rcases hc with hc | hc
    · rw [← hc, z, H'C] at q; cases q
    · rw [z, H'C] at hc; cases hc)) (fun _ r => r) fun _ _ r => r
  have IX : Inv X pins σ H' { s3 with heap := G, gens := s'.gens, drawn := s'.drawn, toks := s'.toks } :=
    I3.call (ch := fp) U hokG ag fun b hb => ⟨(hfp b hb).2.2.2.1, (hfp b hb).2.1, (hfp b hb).2.2.2.2.1, (hfp b hb).2.2.2.2.2⟩
  refine ⟨a, B', _, pins, σ, H', cls, d, rfl, IX, fun b o e hb => ?_, Heap.UpToSlots.of_keeps fun b o e => (og b o e).1, .inr (.inr ⟨k1, (Bno a en1).1, by rw [hst]; exact k2, k3⟩), na, os.trans Ib.os, ag, hE _ _ _ hw⟩
  obtain ⟨e1, w1⟩ := og b o e
  rcases w1 with w1 | w1
  · obtain ⟨o2, q2⟩ := Option.isSome_iff_exists.mp w1
    have := k1 b o2 q2
    rw [e1] at this; cases this
    exact q2
  · exact absurd w1 hb
end

/-- another wish about what is raised -/
abbrev withX (X : Cx) (xe : Value → Shared → Prop) : Cx := { X with xe := xe }
theorem swapX {X : Cx} {pins : List (Addr × Obj)} {σ : L2.St} {H : Hp} {s : Shared} (xe : Value → Shared → Prop) (I : Inv X pins σ H s) : Inv (withX X xe) pins σ H s :=
  ⟨⟨I.ok.mod, I.ok.kind, I.ok.glob, I.ok.blt, I.ok.above, I.ok.inj, I.ok.has, I.ok.cab, I.ok.hd, I.ok.frames, I.ok.stk, I.ok.exf, I.ok.bs, I.ok.bsz, I.ok.noex, I.ok.exfs, I.ok.funs, I.ok.frf⟩,
    I.os, I.bare, I.base, I.loc, I.cell, I.free, I.freeC, I.pin, I.hok, I.len⟩
theorem unswapX {X : Cx} {pins : List (Addr × Obj)} {σ : L2.St} {H : Hp} {s : Shared} {xe : Value → Shared → Prop} (I : Inv (withX X xe) pins σ H s) : Inv X pins σ H s :=
  ⟨⟨I.ok.mod, I.ok.kind, I.ok.glob, I.ok.blt, I.ok.above, I.ok.inj, I.ok.has, I.ok.cab, I.ok.hd, I.ok.frames, I.ok.stk, I.ok.exf, I.ok.bs, I.ok.bsz, I.ok.noex, I.ok.exfs, I.ok.funs, I.ok.frf⟩,
    I.os, I.bare, I.base, I.loc, I.cell, I.free, I.freeC, I.pin, I.hok, I.len⟩
section
variable {X : Cx}
/-- [elt for target in iter], where elt may raise: W tells what is then wanted -/
def tLcX (wi : TI) (g : TG) (te : XK → TE) (vs : List Nat) (W : WX) : TE := fun σ H Q => tLc wi g tYes (te fun cls d H' => W cls d σ H') vs σ H Q
set_option maxHeartbeats 2000000 in
theorem pe_lcX {elt tg iter : Expr} {scope : Scope} {own : List (Str × Nat)} {pos : Pos} {wi : TI} {g : TG} {te : XK → TE} {W : WX} (hc : X.calm = true) (hst : X.stack = X.env :: X.outer) (hfr : X.env.frame = some X.env.locals) (tk : Takes X W) (hN : X.N.Nodup)
    (hi : PI X tg iter wi) (ok : BlkOk X.N X.env.scope scope own)
    (hg : ∀ (s : Shared) (H : Hp) (C : Addr) (cl : List (Str × Addr)) (fp : List Addr), PG (X.blk s H scope (compEnvC scope cl C X.env) fp) tg g)
    (he : ∀ (s : Shared) (H : Hp) (C : Addr) (cl : List (Str × Addr)) (fp : List Addr) (xe : Value → Shared → Prop) (E : XK), Passes (CX X.prog X.w) (withX (X.blk s H scope (compEnvC scope cl C X.env) fp) xe) E →
      PE (withX (X.blk s H scope (compEnvC scope cl C X.env) fp) xe) elt (te E))
    (hs : ∀ x, foldedSetIterable iter X.env x = pure x := by intro _; rfl) : PE X (.ListComp elt [⟨tg, iter, [], 0⟩] scope pos) (tLcX wi g te (own.map (·.2)) W) := by
  refine ⟨fun pins s σ H Q I h => ?_⟩
  have h : tLc wi g tYes (te fun cls d H' => W cls d σ H') (own.map (·.2)) σ H Q := h
  generalize hE : (fun cls d H' => W cls d σ H' : XK) = E at h
  have hEW : ∀ cls d H', E cls d H' → W cls d σ H' := fun cls d H' q => by rw [← hE] at q; exact q
  rw [eval_ListComp]
  have cells : ∀ y ∈ scope.names, y.2 = .free → ∃ c, X.env.cells.lookup y.1 = some c := fun y hy e => (ok.free y hy e).elim (fun k => I.ok.has _ (.inl k)) fun k => I.ok.has _ (.inr k)
  refine comp_run rfl hs (closure_ok cells) ok.kind (fun y hy e => by rw [ok.uniq y hy, e]) (thn (hi.run pins s σ H _ I h) fun xv s1 hx => ?_)
  refine thn hx fun itv s2 h2 => ?_
  obtain ⟨it, fp, tn, J, H2, rfl, I2, T, st2, f2, q⟩ := h2
  refine wpAny_newObj_type (newEnv_comp ?_) (by show 0 ≤ sizeLine; decide)
  generalize eD : s2.heap.objs.size = D
  have nD : H2 D = none := I2.hok.fresh (Nat.le_of_eq eD)
  obtain ⟨Wi, ⟨m0, w0⟩, turn⟩ := q D nD
  generalize es3 : ({ s2 with heap := s2.heap.push { cls := .type "list", data := .seq ([] : List Value).toArray } } : Shared) = s3
  have p3 : s3.heap = s2.heap.push { cls := .type "list", data := .seq ([] : List Value).toArray } := by rw [← es3]
  have I3 : Inv X pins σ (upd H2 D (.lst [])) s3 := by
    subst es3
    refine I2.laid (t' := s2.toks) (fun b o e => Heap.get?_push_of_some _ e) (Nat.le_of_eq eD) ⟨Nat.zero_le _, [], 0, .nil, ?_⟩
    subst eD
    exact Heap.get?_push_size _ rfl
  have f3 : ∀ b ∈ fp, FpOk X pins (upd H2 D (.lst [])) b ∧ b < s3.heap.objs.size := fun b hb => by
    obtain ⟨o, e, _⟩ := T.obj _ _ st2 b hb
    have lt := Heap.lt_size e
    refine ⟨⟨?_, (f2 b hb).2⟩, by rw [p3, Heap.size_push]; exact Nat.lt_succ_of_lt lt⟩
    rw [upd_ne (by rw [← eD]; exact Nat.ne_of_lt lt)]
    exact (f2 b hb).1
  have st3 : tn 0 s3.heap := T.keep _ _ _ st2 fun b _ o e => by rw [p3]; exact Heap.get?_push_of_some _ e
  have I4 := block_start I3 ok hN f3
  generalize ecl : cellsFrom (s3.heap.objs.size + 1) scope.names (cloFrom X.env.cells scope.names []) = cl at I4 ⊢
  have pg := hg s3 (upd H2 D (.lst [])) s3.heap.objs.size cl fp
  have pe := he s3 (upd H2 D (.lst [])) s3.heap.objs.size cl fp
  have nf : ∀ b ∈ fp, (upd H2 D (.lst [])) b = none := fun b hb => (f3 b hb).1.1
  show codeAny _ _ (.compStart (.ListComp elt [⟨tg, iter, [], 0⟩] scope pos) 0 (.ref it) (.ref D) (compEnvC scope cl s3.heap.objs.size X.env)) (endX (model X.prog X.w) X.A X.xe (EP X pins σ Q) (.ref D) (compEnvC scope cl s3.heap.objs.size X.env)) { s3 with heap := pushCells (s3.heap.push { cls := .type "dict", data := .dict #[] }) scope.names }
  generalize ece : compEnvC scope cl s3.heap.objs.size X.env = ce at I4 pg pe ⊢
  have cL : ce.locals = s3.heap.objs.size := by subst ece; rfl
  have cF : ce.frame = X.env.frame := by subst ece; rfl
  generalize eH3 : upd H2 D (.lst []) = H3 at I3 I4 pg pe w0 nf f3
  generalize es4 : ({ s3 with heap := pushCells (s3.heap.push { cls := .type "dict", data := .dict #[] }) scope.names } : Shared) = s4 at I4 ⊢
  have st4 : tn 0 s4.heap := T.keep _ _ _ st3 fun b _ o e => by rw [← es4]; exact pushCells_keeps _ _ _ _ (Heap.get?_push_of_some _ e)
  generalize eY : X.blk s3 H3 scope ce fp = Y at I4 pg pe
  have Yi : ∀ {σ' : L2.St} {H' : Hp} {s' : Shared}, Inv Y [] σ' H' s' → (∀ b ∈ fp, H' b = none) → ∀ b ∈ fp, FpOk Y [] H' b := fun {σ' H' s'} I' hn b hb => by
    subst eY
    exact ⟨hn b hb, (I'.ok.exf b hb).1, I'.ok.exfs b hb, .inl hb, fun x c e => (I'.ok.exf b hb).2 x c e, fun p hp => absurd (show p ∈ ([] : List (Addr × Obj)) ++ [] from hp) (by simp)⟩
  -- what is raised in the block
  have out : ∀ {pb : List (Addr × Obj)} {σb : L2.St} {Hb : Hp} {sb s' : Shared} {u : Value}, Inv Y pb σb Hb sb → CX X.prog X.w X.stack Hb sb E u s' →
      notedBy (model X.prog X.w) X.A ce (fun e s'' => endX (model X.prog X.w) X.A X.xe (EP X pins σ Q) (.ref D) ce (.error e) s'') u s' := fun {pb σb Hb sb s' u} Ib c => by
    subst eY
    exact comp_out I3 hst hfr tk (fun b hb => (f3 b hb).1) cF cL Ib hEW c
  have Yp : Y.prog = X.prog ∧ Y.w = X.w ∧ Y.K = X.K ∧ Y.A = X.A ∧ Y.env = ce ∧ Y.stack = X.stack ∧ Y.xe = (fun _ _ => False) := by subst eY; exact ⟨rfl, rfl, rfl, rfl, rfl, rfl, rfl⟩
  have back : ∀ {H5 : Hp} {s6 : Shared}, Inv Y [] (wipe σ (own.map (·.2))) H5 s6 → Inv X pins σ H5 s6 ∧ H5 s3.heap.objs.size = none ∧ ∃ m, s6.heap.Ns ce.locals m := fun {H5 s6} I6 => by
    subst eY
    refine ⟨I3.call' (ch := fp) I6.os I6.base I6.hok I6.bare fun b hb => ?_, ?_, ?_⟩
    · obtain ⟨⟨_, z1, _, z3, z4, z5⟩, _⟩ := f3 b hb
      exact ⟨z3, z1, z4, z5⟩
    · have z : H5 ce.locals = none := I6.free
      rw [cL] at z; exact z
    · obtain ⟨m, hn, _⟩ := I6.loc
      exact ⟨m, hn⟩
  subst eY
  have loop : codeAny (model X.prog X.w) X.A (.compLoop (.ListComp elt [⟨tg, iter, [], 0⟩] scope pos) 0 (.ref it) (.ref D) ce) (endX (model X.prog X.w) X.A X.xe (EP X pins σ Q) (.ref D) ce) s4 := by
    refine compLoop_any (fun n s' => ∃ i H', Inv (X.blk s3 H3 scope ce fp) [] (wipe σ (own.map (·.2))) H' s' ∧ tn i s'.heap ∧ (∀ b ∈ fp, H' b = none) ∧ Wi i n H') (fun n s5 hI => ?_) m0 ⟨0, H3, I4, st4, nf, w0⟩
    obtain ⟨i, H5, I5, st5, n5, w5⟩ := hI
    rcases turn i n H5 w5 with ⟨stop, qq⟩ | ⟨go, Nx, hNx, step⟩
    · refine thnF (T.done (X.blk s3 H3 scope ce fp) rfl rfl rfl hc i [] s5 _ H5 (fun _ _ => False) I5 (Yi I5 n5) st5 stop) fun r s6 ⟨hr, I6⟩ => ?_
      subst hr
      obtain ⟨I7, nC, m, hn⟩ := back I6
      refine ⟨m, hn, fun h' sb => ?_⟩
      obtain ⟨c0, c1, c2, c3, c4, c5⟩ := I3.fpOk (Nat.le_refl _) nC
      rw [cL] at sb
      exact ⟨.ref D, H5, I7.turned (t' := s6.toks) (fun b o hb e => (sb.2 b hb).trans e) c0 c1 c3 c4 c5, rfl, qq⟩
    · refine thnF (T.item (X.blk s3 H3 scope ce fp) rfl rfl rfl hc i [] s5 _ H5 (fun _ _ => False) I5 (Yi I5 n5) st5 go) fun r s6 ⟨u, hr, h6⟩ => ?_
      subst hr
      refine thnF h6 fun _ s7 ⟨x, H7, I7, r7, y7, st7, n7⟩ => ?_
      have I7p := I7.pinned (Yi I7 n7) (T.obj _ _ st7)
      refine thnF (pg.run _ s7 _ H7 x u _ I7p r7 (step x H7 y7)) fun _ s8 ⟨σ8, H8, I8, w8, q8⟩ => wpAny_tests_nil ?_
      have q9 : te E σ8 H8 fun y H4 => ∃ acc, H4 D = some (.lst acc) ∧ acc.length < sizeLine ∧ Nx (upd H4 D (.lst (acc ++ [y]))) := q8
      rw [if_pos rfl]
      have pe1 := pe (fun u s' => ∃ pb σb Hb sb, Inv (X.blk s3 H3 scope ce fp) pb σb Hb sb ∧ CX X.prog X.w X.stack Hb sb E u s') E (fun pb σb Hb sb e s' Ib c => ⟨pb, σb, Hb, sb, unswapX Ib, c⟩)
      refine wpAny_mono (pe1.run _ s8 σ8 H8 _ (swapX _ I8) q9) (fun z s10 hz => ?_) (fun e s' hx => ?_)
      · obtain ⟨yv, H10, I10, r10, acc, d10, z10, nx⟩ := hz
        refine app_ok (X := X.blk s3 H3 scope ce fp) (unswapX I10) d10 z10 r10 fun s11 I11 => ?_
        obtain ⟨m', hm, w'⟩ := hNx _ nx
        have pin : ∀ b ∈ fp, ∀ o, s7.heap.get? b = some o → s11.heap.get? b = some o ∧ (upd H10 D (.lst (acc ++ [yv]))) b = none := fun b hb o e => by
          have z := I11.pin (b, o) (List.mem_append_right _ (List.mem_append_right _ (mem_pinsAt hb e)))
          exact ⟨z.1, z.2.1⟩
        refine ⟨m', hm, i + 1, _, (I11.unpinned (pins := [])).weak (by rw [← w8, wipe_length]) (fun j v e => ?_), T.keep _ _ _ st7 fun b hb o e => (pin b hb o e).1, fun b hb => ?_, w'⟩
        · rw [← w8] at e
          exact (wipe_some e).1
        · obtain ⟨o, e, _⟩ := T.obj _ _ st7 b hb
          exact (pin b hb o e).2
      · obtain ⟨pb, σb, Hb, sb, Ib, c⟩ := hx
        exact out Ib c
  exact codeAny_compStart_list loop (T.self X.A 0 _ _ _ st4 loop)
end
end Sip
namespace Sip
open PySem PySem.Spec PyProof.Rows L2 TL

section
variable {X : Cx}
/-- X(), X an own error class without an __init__ of its own -/
theorem pmk_own0 {C : Addr} {bmB : List Value} {B newId initId : String} {x : Str} {p pos : Pos} (F : ExcBaseFacts B newId initId bmB) (q : PySem.W.excIn X.K C bmB newId = true) (gC : X.mg x = some (.ref C)) (kC : PySem.W.keepIn X.K (.ref C) = true)
    (r : Raises X (.ref C)) (hg : Gl X x) (hdb : (x == ("__debug__" : Str)) = false := by decide) : PMk X (.Call (.Name x p) [] [] pos) (fun _ H Q => Q (.ref C) none H) := by
  intro pins s σ H Q I h
  refine wpAny_Call_Name_kw (ld_glob I hg gC (PySem.W.callWith_K0 I.kIn kC ?_) hdb)
  obtain ⟨bm, N, nm, qn, bs, hdct, sn, sub, ab, col, dd, k0, k1, k2, k3, k5, mN, hC, hN, hni, T⟩ := exc_obj I.kIn q
  exact wpAny_call_exc_subT (rest := []) F T hC hN hni (fun h' e hm => mk_of I hm r h (I.hok.gone hm.new)) (Nat.zero_le _)
/-- isinstance(e, c), e the caught error, whose class is to be shown -/
def rIsX (K : PySem.W.Frag) (D : Addr) (cls : Value) (d : Option Addr) (a : Addr) : List V → Hp → VK → Prop := fun xs H Q => cls = .ref D ∧ d = none ∧ rIsE K D a xs H Q
theorem call_isX {a D : Addr} {oe : Obj} {cls : Value} {d : Option Addr} {pn : List (Addr × Obj)} (C : ExcC X.K D) (hz : Zc cls d oe) (hf : ∃ vs, oe.data = .fields vs) : CallR (X.suite a ((a, oe) :: pn)) (.builtin "isinstance") (rIsX X.K D cls d a) := by
  intro pins s σ H xs us Q I r h
  obtain ⟨rfl, rfl, h⟩ := h
  exact call_isE C hz hf pins s σ H xs us Q I r h
end
/-- what the text's error classes are: C the one that is raised, S the one above it -/
structure Errs (K : PySem.W.Frag) (mg : Str → Option Value) (C S : Addr) : Prop where
  gP : mg "NoRow" = some (.ref C)
  gS : mg "SipError" = some (.ref S)
  xP : PySem.W.excIn K C [.type "ValueError", .type "Exception", .type "BaseException", .type "object"] "ValueError.__new__" = true
  kP : PySem.W.keepIn K (.ref C) = true
  bP : PySem.W.subIn K (.ref C) (.type "BaseException") = some true
  tP : PySem.W.typeIn K (.ref C) = some (.type "type")
  te : PySem.W.exmOne K (.ref C) (.ref C) = some true
  i1 : PySem.W.kitOne K (.ref C) (.ref S) = some true
  i2 : PySem.W.kitOne K (.ref C) (.type "ValueError") = some true
  ec : ExcC K C

/-! texts of plain signs -/
def Asc (z : Str) : Prop := ∀ c ∈ z.cps.toList, c < 128
theorem asc_append {a b : Str} (ha : Asc a) (hb : Asc b) : Asc (a ++ b) := fun c hc => by
  have e : (a ++ b).cps.toList = a.cps.toList ++ b.cps.toList := tl_append a b
  rw [e] at hc
  exact (List.mem_append.mp hc).elim (ha c) (hb c)
theorem asc_cut {z : Str} (h : Asc z) (lo hi : Option Int) : Asc (cutS z lo hi) := fun c hc => by
  have e : (cutS z lo hi).cps.toList = (z.cps.toList.drop (HT.sIx z.length 0 lo)).take (HT.sIx z.length z.length hi - HT.sIx z.length 0 lo) := rfl
  rw [e] at hc
  exact h c (List.mem_of_mem_drop (List.mem_of_mem_take hc))
theorem up_small : ∀ c : Fin 128, up1 c.val < 128 := by decide +kernel
theorem asc_upper {z : Str} (h : Asc z) : Asc (Txt.upper z) ∧ (Txt.upper z).length = z.length := by
  rw [upper_ascii h]
  refine ⟨fun c hc => ?_, ?_⟩
  · have e : (z.cps.map up1).toList = z.cps.toList.map up1 := Array.toList_map ..
    have hc : c ∈ (z.cps.map up1).toList := hc
    rw [e] at hc
    obtain ⟨b, hb, rfl⟩ := List.mem_map.mp hc
    exact up_small ⟨b, h b hb⟩
  · show (z.cps.map up1).size = z.cps.size
    exact Array.size_map ..
theorem len_append (a b : Str) : (a ++ b).length = a.length + b.length := strLen_append ..
theorem asc_one {c : Nat} (h : c < 128) : Asc ⟨#[c]⟩ := fun x hx => by
  have : x ∈ [c] := hx
  rw [List.mem_singleton.mp this]; exact h

/-! which texts are read, and to what -/
theorem find_fig : ∀ c : Fin 128, Txt.find FIG ⟨#[c.val]⟩ = if c.val ∈ figs then (wor c.val : Int) else -1 := by decide +kernel
theorem index_fig : ∀ c : Fin 128, c.val ∈ figs → Txt.index0 FIG ⟨#[c.val]⟩ = some (wor c.val) := by decide +kernel
def okT (cs : List Nat) : Prop := cs.length % 2 = 0 ∧ ∀ c ∈ cs, c ∈ figs
def rd (cs : List Nat) (i : Nat) : Int := 16 * (wor (cs.getD (2 * i) 0) : Int) + (wor (cs.getD (2 * i + 1) 0) : Int)
def rdL (cs : List Nat) : List Int := (List.range (cs.length / 2)).map (rd cs)
theorem rdL_length (cs : List Nat) : (rdL cs).length = cs.length / 2 := by
  unfold rdL; rw [List.length_map, List.length_range]
theorem rdL_get {cs : List Nat} {i : Nat} (h : i < cs.length / 2) : (rdL cs)[i]? = some (rd cs i) := by
  unfold rdL; rw [List.getElem?_map, List.getElem?_range h]; rfl
theorem get_at {cs : List Nat} {i : Nat} (h : i < cs.length) : atI cs (i : Int) = some (cs.getD i 0) ∧ cs.getD i 0 ∈ cs := by
  have e : cs.getD i 0 = cs[i] := by rw [List.getD_eq_getElem?_getD, List.getElem?_eq_getElem h]; rfl
  rw [e]
  exact ⟨atI_nat (List.getElem?_eq_getElem h), List.getElem_mem h⟩
theorem len_codes (z : Str) : z.length = z.cps.toList.length := by
  show z.cps.size = _
  exact (Array.length_toList ..).symm
def spWorthX (C : Addr) : Sp := fun vs H Q E => ∃ c : Nat, c < 128 ∧ vs = [.str ⟨#[c]⟩] ∧ (c ∈ figs → Q (.int (wor c : Nat)) H) ∧ (c ∉ figs → E (.ref C) none H)
def spReadX (C : Addr) : Sp := fun vs H Q E => ∃ z : Str, vs = [.str z] ∧ Asc z ∧ z.length ≤ 1000 ∧
  (okT z.cps.toList → ∀ (H' : Hp) (p : Addr), H p = none → H' p = some (.lst ((rdL z.cps.toList).map V.int)) → Same H H' → Q (.ref p) H') ∧ (¬ okT z.cps.toList → ∀ H' : Hp, Same H H' → E (.ref C) none H')
def spDueT : Sp := fun vs H Q _ => ∃ z : Str, vs = [.str z] ∧ Asc z ∧ z.length ≤ 1000 ∧
  (okT z.cps.toList → ∀ (H' : Hp) (p : Addr), H p = none → H' p = some (.lst ((rdL z.cps.toList).map V.int)) → Same H H' → Q (.ref p) H') ∧ (¬ okT z.cps.toList → ∀ H' : Hp, Same H H' → Q .non H')
/-- a text drawn from a pool -/
def spDraw : Sp := fun vs H Q _ => ∃ (p : Addr) (n : Int) (o : HO), vs = [.ref p] ∧ H p = some o ∧ PoolO n o ∧ n ≤ 900000000 ∧
  ∀ (H' : Hp) (z : Str) (o' : HO), H' p = some o' → PoolO (n + 100) o' → Kp [p] H H' → Asc z → z.length ≤ 60 → Q (.str z) H'
def spSign : Sp := fun vs H Q _ => ∃ (p : Addr) (n : Int) (o : HO), vs = [.ref p] ∧ H p = some o ∧ PoolO n o ∧ n ≤ 999999000 ∧
  ∀ (c : Nat) (o' : HO), c < 128 → PoolO (n + 1) o' → Q (.str ⟨#[c]⟩) (upd H p o')
def spSpoilt : Sp := fun vs H Q _ => ∃ (p : Addr) (n : Int) (o : HO) (z : Str), vs = [.ref p, .str z] ∧ H p = some o ∧ PoolO n o ∧ n ≤ 999990000 ∧ Asc z ∧ z.length ≤ 100 ∧
  ∀ (y : Str) (o' : HO), Asc y → y.length ≤ z.length + 1 → PoolO (n + 3) o' → Q (.str y) (upd H p o')
def spAskedT : Sp := fun vs H Q _ => ∃ z : Str, vs = [.str z] ∧ Asc z ∧ z.length ≤ 1000 ∧ ∀ H' : Hp, Same H H' → Q (.bl true) H'
def SIGNS : Str := Str.ofString " !\"#$&'()*+,-./0123456789:;<=>?@ABCDEFGHIJKLMNOPQRSTUVWXYZ[\\]^_`abcdefghijklmnopqrstuvwxyz{|}~"
theorem signs_asc : SIGNS.cps.toList.length = 94 ∧ ∀ c ∈ SIGNS.cps.toList, c < 128 := by decide +kernel
def GIF : Str := Str.ofString "fedcba9876543210"
theorem gif_asc : GIF.cps.toList.length = 16 ∧ ∀ c ∈ GIF.cps.toList, c < 128 := by decide +kernel
theorem fig_asc : FIG.cps.toList.length = 16 ∧ ∀ c ∈ FIG.cps.toList, c < 128 := by decide +kernel
theorem str_at {z : Str} {n : Nat} (hz : z.cps.toList.length = n ∧ ∀ c ∈ z.cps.toList, c < 128) {r : Int} (r0 : 0 ≤ r) (r1 : r < n) : ∃ c, c < 128 ∧ atI z.cps.toList r = some c := by
  obtain ⟨j, rfl⟩ := Int.eq_ofNat_of_zero_le r0
  obtain ⟨e, m⟩ := get_at (cs := z.cps.toList) (i := j) (by rw [hz.1]; omega)
  exact ⟨_, hz.2 _ m, e⟩
end Sip
namespace Sip
open PySem PySem.Spec PyProof.Rows L2 TL
theorem cut_codes (z : Str) (lo hi : Option Int) : (cutS z lo hi).length = ((z.cps.toList.drop (HT.sIx z.length 0 lo)).take (HT.sIx z.length z.length hi - HT.sIx z.length 0 lo)).length := by
  rw [len_codes]; rfl
theorem cut_len1 (z : Str) {k : Nat} (h : k ≤ z.length) : (cutS z none (some (k : Int))).length = k := by
  have lc := len_codes z
  rw [cut_codes, HT.sIx_none, HT.sIx_nat, List.length_take, List.length_drop]; omega
theorem cut_len2 (z : Str) {k : Nat} (h : k ≤ z.length) : (cutS z (some (k : Int)) none).length = z.length - k := by
  have lc := len_codes z
  rw [cut_codes, HT.sIx_none, HT.sIx_nat, List.length_take, List.length_drop]; omega
theorem cut_len3 (z : Str) {k : Nat} (h : k ≤ z.length) : (cutS z (some ((k : Nat) + 1 : Int)) none).length ≤ z.length - k := by
  have lc := len_codes z
  rw [show ((k : Nat) + 1 : Int) = ((k + 1 : Nat) : Int) by omega, cut_codes, HT.sIx_none, HT.sIx_nat, List.length_take, List.length_drop]; omega
end Sip
namespace Sip
open PySem PySem.Spec PyProof.Rows L2 TL
theorem all_figs {cs : List Nat} : ((cs.map fun c => decide (c ∈ figs)).all id) = true ↔ ∀ c ∈ cs, c ∈ figs := by
  rw [List.all_eq_true]
  constructor
  · intro h c hc
    exact of_decide_eq_true (h _ (List.mem_map.mpr ⟨c, hc, rfl⟩))
  · intro h x hx
    obtain ⟨c, hc, rfl⟩ := List.mem_map.mp hx
    exact decide_eq_true (h c hc)
end Sip
namespace Sip
open PySem PySem.Spec PyProof.Rows L2 TL
theorem asc_nil : Asc (Str.ofString "") := fun c hc => by
  have e : (Str.ofString "").cps.toList = [] := by decide +kernel
  rw [e] at hc; cases hc
end Sip
namespace Sip
open PySem PySem.Spec PyProof.Rows L2 TL
theorem kit_own {K : PySem.W.Frag} {C S : Addr} (h1 : PySem.W.isClsIn K S = true) (h2 : PySem.W.typeIn K (.ref S) = some (.type "type")) (h3 : PySem.W.subIn K (.ref C) (.ref S) = some true) : PySem.W.kitOne K (.ref C) (.ref S) = some true := by
  have a : ((PySem.W.clsIn K S).isSome && PySem.W.typeIn K (.ref S) == some (.type "type")) = true := by
    have h1' : (PySem.W.clsIn K S).isSome = true := h1
    rw [h1', h2]; rfl
  unfold PySem.W.kitOne PySem.W.kitCls
  split
  · rfl
  · exact (if_pos a).trans h3
theorem kit_bltn {K : PySem.W.Frag} {C : Addr} {T : String} (h1 : PySem.W.kitMeta T = true) (h3 : PySem.W.subIn K (.ref C) (.type T) = some true) : PySem.W.kitOne K (.ref C) (.type T) = some true := by
  unfold PySem.W.kitOne PySem.W.kitCls
  split
  · rfl
  · exact (if_pos h1).trans h3
end Sip
namespace Sip
open PySem PySem.Spec PyProof.Rows L2 TL

/-- a def of the text, whatever its defaults -/
structure FunA (K : PySem.W.Frag) (x qual : Str) (st : Stmt) (f : Addr) (fd : FuncData) : Prop where
  ex : ∃ (oc : Value) (od : Option Addr) (dV kV doc pm : Value) (an : Option Addr) (cdv ct : Value) (osl : Array (Option Value)),
    fd = PySem.W.fnOf x qual (defArgs st) (defBody st) (defScope st) dV kV doc pm an cdv ct ∧ K.lookup f = some ⟨oc, od, .func fd, osl⟩ ∧ PySem.W.codeIn K cdv qual = true
  kp : PySem.W.keepIn K (.ref f) = true
section
variable {P : Program} {w : World} {K : PySem.W.Frag} {mg : Str → Option Value} {base : Heap} {x qual : Str} {st : Stmt} {f : Addr} {fd : FuncData} {N ps : List Str} {k : Nat} {sp : Sp}
theorem FunA.ok (F : FunA K x qual st f fd) (S : FnScope N ps (defScope st)) (len : ∀ vs H Q E, sp vs H Q E → vs.length = ps.length)
    (hb : ∀ (cdv : Value) (A : Around) (outer : List Env) (s : Shared) (H : Hp) (vs : List V) (Q : VK) (E : XK), Room k (A.deeper (envOfC qual (defScope st) s.heap.objs.size f cdv)) → sp vs H Q E →
      ∃ t, PSs (cxOf CX0 P w K mg base N qual (defScope st) f cdv A outer s H E).nox (defBody st) t ∧ t { nx := fun _ H' => Q .non H', rt := Q } (start N vs) H) : FnOk P w K mg base CX0 (k + 1) f fd ps sp := by
  obtain ⟨oc, od, dV, kV, doc, pm, an, cdv, ct, osl, rfl, lk, hcd⟩ := F.ex
  refine fn_of lk hcd S len fun A outer s H vs Q E hr hsp => ?_
  obtain ⟨t, h, q⟩ := hb cdv A outer s H vs Q E hr hsp
  exact ⟨t, h.nox, q⟩
theorem FunA.okX (F : FunA K x qual st f fd) (S : FnScope N ps (defScope st)) (len : ∀ vs H Q E, sp vs H Q E → vs.length = ps.length)
    (hb : ∀ (cdv : Value) (A : Around) (outer : List Env) (s : Shared) (H : Hp) (vs : List V) (Q : VK) (E : XK), Room k (A.deeper (envOfC qual (defScope st) s.heap.objs.size f cdv)) → sp vs H Q E →
      ∃ t, PSs (cxOf (L2.CX P w) P w K mg base N qual (defScope st) f cdv A outer s H E) (defBody st) t ∧ t { nx := fun _ H' => Q .non H', rt := Q } (start N vs) H) : FnOk P w K mg base (L2.CX P w) (k + 1) f fd ps sp := by
  obtain ⟨oc, od, dV, kV, doc, pm, an, cdv, ct, osl, rfl, lk, hcd⟩ := F.ex
  exact fn_of lk hcd S len fun A outer s H vs Q E hr hsp => hb cdv A outer s H vs Q E hr hsp
end
/-- o.m(e, .., k = v, ..) -/
def tMethN (C : Addr) (m : Str) (n j : Nat) (sp : Sp) (gV : List V → List V → List V) (E : XK) (ta : TE) (t tk : TA) : TE := fun σ H Q => ta σ H fun x H1 =>
  ∃ a dx fs, x = .ref a ∧ H1 a = some (.ins C dx fs) ∧ fs.lookup m = none ∧ t σ H1 fun vs H2 => tk σ H2 fun zs H3 => vs.length = n ∧ zs.length = j ∧ sp (gV (x :: vs) zs) H3 Q E
section
variable {X : Cx} {CX : CXT} {k n : Nat} {f C : Addr} {fd : FuncData} {ps ks : List Str} {sp : Sp} {E : XK} {m : Str} {apos pos : Pos} {o e : Expr} {es : List Expr} {kws : List Keyword} {ta : TE} {t tk : TA} {g : List Value → List Value → List Value} {gV : List V → List V → List V}
theorem pe_methN {pl : Sem Bool} (he : PE X o ta) (c : Cls X.K C) (hm : Meth X.K C m f) (F : FnOk X.prog X.w X.K X.mg X.base CX k f fd ps sp) (hr : Room k X.A) (hb : KBn X.K fd ps (n + 1) ks g gV) (hx : Passes CX X E) (ha : PA X (e :: es) t) (hkw : PK X kws tk)
    (hall : (backToKw pos (keywordEach kws X.env)).all (·.1.isSome) = true := by rfl) (hks : (backToKw pos (keywordEach kws X.env)).filterMap (·.1) = ks := by rfl) (hst : starEach (e :: es) X.env = (false, eval e X.env) :: starEach es X.env := by rfl)
    (hpl : ((backTo pos (starEach (e :: es) X.env)).any (·.1) || (backToKw pos (keywordEach kws X.env)).any (·.1.isNone)) = false := by rfl)
    (ht : eval (.Call (.Attribute o m apos) (e :: es) kws pos) X.env = (do
      let ov ← eval o X.env
      standAt apos.atName
      let (f, first) ← holding [ov] (getMethod ov m pl)
      callWith pos f first (backTo pos (starEach (e :: es) X.env)) (backToKw pos (keywordEach kws X.env))) := by rfl) :
    PE X (.Call (.Attribute o m apos) (e :: es) kws pos) (tMethN C m n ks.length sp gV E ta t tk) := by
  refine ⟨fun pins s σ H Q I h => ?_⟩
  refine PySem.W.methodCall_KW (pl := pl) (thn (he.run pins s σ H _ I h) fun u s1 ⟨x, H1, I1, rx, a, dx, fs, ex, ea, l, q⟩ => ?_) ht
  subst ex
  obtain rfl : u = Value.ref a := rx
  refine getmeth_ok I1 ea c hm l ?_
  refine PySem.W.callWith_KW (first := [.ref a]) (h₀ := X.base) I.ok.mod.kin hm.kp hall (thn (ha.run pos pins s1 σ H1 _ I1 q) fun us s2 ⟨vs, H2, I2, r, q2⟩ => ?_) hpl hst
  refine thn (hkw.run pos pins s2 σ H2 _ I2 q2) fun ws s3 ⟨zs, H3, I3, rz, l1, l2, q3⟩ => ⟨I3.kIn, ?_⟩
  rw [hks]
  exact run_fnN (us := .ref a :: us) (vs := .ref a :: vs) F hr hb hx I3 (.cons rfl r) rz (by rw [List.length_cons, l1]) l2 q3
end
/-- fields by name -/
abbrev Fs := List (Str × V)
example (h c d : V) : putF ("cursor" : Str) d ([("held", h), ("cursor", c)] : Fs) = ([("held", h), ("cursor", d)] : Fs) := by kernel_rfl
example (h c d : V) : putF ("cursor" : Str) d ([("held", h)] : Fs) = ([("held", h), ("cursor", d)] : Fs) := by kernel_rfl
end Sip
namespace Sip
open PySem PySem.Spec PyProof.Rows L2 TL
/-- a def of the top, a method of a class -/
structure Dg (K : PySem.W.Frag) (mg : Str → Option Value) (x : Str) (st : Stmt) (f : Addr) (fd : FuncData) : Prop where
  F : FunA K x x st f fd
  g : mg x = some (.ref f)
structure Mf (K : PySem.W.Frag) (C : Addr) (x qual : Str) (st : Stmt) (f : Addr) (fd : FuncData) : Prop where
  F : FunA K x qual st f fd
  m : Meth K C x f
theorem funA_mk {K : PySem.W.Frag} {x qual : Str} {st : Stmt} {f : Addr} {oc : Value} {od an : Option Addr} {osl : Array (Option Value)} {dV kV doc pm cdv ct : Value} (l : K.lookup f = some ⟨oc, od, .func (PySem.W.fnOf x qual (defArgs st) (defBody st) (defScope st) dV kV doc pm an cdv ct), osl⟩)
    (c : PySem.W.codeIn K cdv qual = true) (k : PySem.W.keepIn K (.ref f) = true) : FunA K x qual st f (PySem.W.fnOf x qual (defArgs st) (defBody st) (defScope st) dV kV doc pm an cdv ct) := ⟨⟨oc, od, dV, kV, doc, pm, an, cdv, ct, osl, rfl, l, c⟩, k⟩
end Sip
namespace Sip
open PySem PySem.Spec PyProof.Rows L2 TL

abbrev Piece := Nat × List Int
/-! all pieces laid one behind another -/
def allF (r : List Int) (ps : List Piece) : List Int := ps.foldl (fun acc p => laidF acc p.1 p.2) r
def mostF (m : Nat) (ps : List Piece) : Nat := ps.foldl (fun m p => if 0 < p.2.length then max m (p.1 + p.2.length) else m) m
def stepB (k : Nat) (b : Int) (p : Piece) : Int := if p.1 ≤ k ∧ k < p.1 + p.2.length then p.2.getD (k - p.1) 0 else b
def byteF (b : Int) (k : Nat) (ps : List Piece) : Int := ps.foldl (stepB k) b
theorem laidF_len (r : List Int) (p : Piece) : (laidF r p.1 p.2).length = if 0 < p.2.length then max r.length (p.1 + p.2.length) else r.length := by
  by_cases h : p.2 = []
  · rw [h, laidF_nil]; rfl
  · rw [laidF_length h, if_pos (List.length_pos_iff.mpr h)]
theorem laidF_byte (r : List Int) (p : Piece) (k : Nat) : (laidF r p.1 p.2)[k]?.getD 0 = stepB k (r[k]?.getD 0) p := by
  unfold stepB
  by_cases h : p.2 = []
  · rw [h, laidF_nil, if_neg (by simp)]
  · rw [laidF_getD h, List.getD_eq_getElem?_getD, List.getD_eq_getElem?_getD]
theorem allF_len : ∀ (ps : List Piece) (r : List Int), (allF r ps).length = mostF r.length ps
  | [], _ => rfl
  | p :: q, r => by
    show (allF (laidF r p.1 p.2) q).length = mostF (if 0 < p.2.length then max r.length (p.1 + p.2.length) else r.length) q
    rw [allF_len q, laidF_len]
theorem allF_byte : ∀ (ps : List Piece) (r : List Int) (k : Nat), (allF r ps)[k]?.getD 0 = byteF (r[k]?.getD 0) k ps
  | [], _, _ => rfl
  | p :: q, r, k => by
    show (allF (laidF r p.1 p.2) q)[k]?.getD 0 = byteF (stepB k (r[k]?.getD 0) p) k q
    rw [allF_byte q, laidF_byte]
theorem allF_append (r : List Int) (a b : List Piece) : allF r (a ++ b) = allF (allF r a) b := List.foldl_append
/-- a piece in two parts -/
theorem laidF_parts (r : List Int) (n c : Nat) (d : List Int) (h : c ≤ d.length) : laidF (laidF r n (d.take c)) (n + c) (d.drop c) = laidF r n d := by
  have l1 := laidF_len r (n, d.take c)
  have l2 := laidF_len (laidF r n (d.take c)) (n + c, d.drop c)
  have l3 := laidF_len r (n, d)
  simp only [List.length_take, List.length_drop] at l1 l2 l3
  refine ext_getD ?_ fun k hk => ?_
  · rw [l2, l3, l1]
    split <;> split <;> split <;> omega
  · rw [laidF_byte _ (n + c, d.drop c), laidF_byte r (n, d.take c), laidF_byte r (n, d)]
    unfold stepB
    simp only [List.length_take, List.length_drop, List.getD_eq_getElem?_getD, List.getElem?_drop]
    by_cases h1 : n + c ≤ k ∧ k < n + c + (d.length - c)
    · rw [if_pos h1, if_pos (by omega)]
      congr 2
      omega
    · rw [if_neg h1]
      by_cases h2 : n ≤ k ∧ k < n + min c d.length
      · rw [if_pos h2, if_pos (by omega), List.getElem?_take_of_lt (by omega)]
      · rw [if_neg h2, if_neg (by omega)]
theorem allF_parts (r : List Int) (a b : List Piece) (n c : Nat) (d : List Int) (h : c ≤ d.length) :
    allF r (a ++ [(n, d.take c), (n + c, d.drop c)] ++ b) = allF r (a ++ [(n, d)] ++ b) := by
  rw [allF_append, allF_append, allF_append, allF_append]
  show allF (laidF (laidF (allF r a) n (d.take c)) (n + c) (d.drop c)) b = allF (laidF (allF r a) n d) b
  rw [laidF_parts _ _ _ _ h]
def Small (p : Piece) : Prop := p.1 ≤ 340 ∧ p.2.length ≤ 400 ∧ Bytes p.2
theorem bytes_getD {bs : List Int} (h : Bytes bs) (k : Nat) : 0 ≤ bs[k]?.getD 0 ∧ bs[k]?.getD 0 ≤ 255 := by
  cases e : bs[k]? with
  | none => exact ⟨by decide, by decide⟩
  | some b =>
    obtain ⟨hk, rfl⟩ := List.getElem?_eq_some_iff.mp e
    exact h _ (List.getElem_mem hk)
theorem bytes_of {bs : List Int} (h : ∀ k, k < bs.length → 0 ≤ bs[k]?.getD 0 ∧ bs[k]?.getD 0 ≤ 255) : Bytes bs := fun b hb => by
  obtain ⟨k, hk, rfl⟩ := List.getElem_of_mem hb
  have := h k hk
  rw [List.getElem?_eq_getElem hk] at this
  exact this
theorem laid_bytes {r : List Int} {p : Piece} (hr : Bytes r) (hp : Bytes p.2) : Bytes (laidF r p.1 p.2) := bytes_of fun k _ => by
  rw [laidF_byte]
  unfold stepB
  split
  · rw [List.getD_eq_getElem?_getD]; exact bytes_getD hp _
  · exact bytes_getD hr k
theorem allF_good : ∀ (ps : List Piece) (r : List Int), Bytes r → r.length ≤ 740 → (∀ p ∈ ps, Small p) → Bytes (allF r ps) ∧ (allF r ps).length ≤ 740
  | [], r, hb, hl, _ => ⟨hb, hl⟩
  | p :: q, r, hb, hl, hp => by
    have h1 := hp p (List.mem_cons_self ..)
    refine allF_good q (laidF r p.1 p.2) (laid_bytes hb h1.2.2) ?_ (fun z hz => hp z (List.mem_cons_of_mem _ hz))
    exact laidF_le ⟨hl, by have := h1.1; have := h1.2.1; omega⟩

/-! pieces in the heap -/
def PieceAt (H : Hp) (v : V) (p : Piece) : Prop := ∃ T D : Addr, v = .ref T ∧ H T = some (.tup [.int (p.1 : Nat), .ref D]) ∧ H D = some (.lst (p.2.map V.int))
def Pieces (H : Hp) (vs : List V) (ps : List Piece) : Prop := vs.length = ps.length ∧ ∀ (i : Nat) (v : V) (p : Piece), vs[i]? = some v → ps[i]? = some p → PieceAt H v p
theorem PieceAt.mono {H H' : Hp} {v : V} {p : Piece} (s : Same H H') (h : PieceAt H v p) : PieceAt H' v p := by
  obtain ⟨T, D, e, h1, h2⟩ := h
  exact ⟨T, D, e, s _ _ h1, s _ _ h2⟩
theorem Pieces.mono {H H' : Hp} {vs : List V} {ps : List Piece} (s : Same H H') (h : Pieces H vs ps) : Pieces H' vs ps :=
  ⟨h.1, fun i v p a b => (h.2 i v p a b).mono s⟩
theorem Pieces.at {H : Hp} {vs : List V} {ps : List Piece} {i : Nat} {v : V} (h : Pieces H vs ps) (e : vs[i]? = some v) : ∃ hi : i < ps.length, PieceAt H v ps[i] := by
  have hi : i < ps.length := by
    have := (List.getElem?_eq_some_iff.mp e).1
    rw [h.1] at this; exact this
  exact ⟨hi, h.2 i v _ e (List.getElem?_eq_getElem hi)⟩
theorem Pieces.nil {H : Hp} : Pieces H [] [] := ⟨rfl, fun i v p a => by simp at a⟩
theorem Pieces.append {H : Hp} {vs us : List V} {ps qs : List Piece} (h : Pieces H vs ps) (k : Pieces H us qs) : Pieces H (vs ++ us) (ps ++ qs) := by
  refine ⟨by rw [List.length_append, List.length_append, h.1, k.1], fun i v p a b => ?_⟩
  by_cases hi : i < vs.length
  · rw [List.getElem?_append_left hi] at a
    rw [List.getElem?_append_left (by rw [← h.1]; exact hi)] at b
    exact h.2 i v p a b
  · rw [List.getElem?_append_right (by omega)] at a
    rw [List.getElem?_append_right (by rw [← h.1]; omega), ← h.1] at b
    exact k.2 _ v p a b
theorem Pieces.one {H : Hp} {v : V} {p : Piece} (h : PieceAt H v p) : Pieces H [v] [p] := ⟨rfl, fun i w q a b => by
  cases i with
  | zero =>
    have e1 : v = w := Option.some.inj a
    have e2 : p = q := Option.some.inj b
    rw [← e1, ← e2]; exact h
  | succ i => simp at a⟩
theorem Pieces.take {H : Hp} {vs : List V} {ps : List Piece} (h : Pieces H vs ps) (n : Nat) : Pieces H (vs.take n) (ps.take n) := by
  refine ⟨by rw [List.length_take, List.length_take, h.1], fun i v p a b => ?_⟩
  have hi : i < n := by
    have := (List.getElem?_eq_some_iff.mp a).1
    rw [List.length_take] at this; omega
  rw [List.getElem?_take_of_lt hi] at a b
  exact h.2 i v p a b
theorem Pieces.drop {H : Hp} {vs : List V} {ps : List Piece} (h : Pieces H vs ps) (n : Nat) : Pieces H (vs.drop n) (ps.drop n) := by
  refine ⟨by rw [List.length_drop, List.length_drop, h.1], fun i v p a b => ?_⟩
  rw [List.getElem?_drop] at a b
  exact h.2 _ v p a b
theorem cut_to (xs : List V) (n : Nat) (h : n ≤ xs.length) : cutV xs none (some (n : Int)) = xs.take n := by
  unfold cutV
  rw [HT.sIx_none, HT.sIx_nat, Nat.min_eq_left h]; rfl
theorem cut_from (xs : List V) (n : Nat) (h : n ≤ xs.length) : cutV xs (some (n : Int)) none = xs.drop n := by
  unfold cutV
  rw [HT.sIx_none, HT.sIx_nat, Nat.min_eq_left h]
  exact List.take_of_length_le (by rw [List.length_drop]; omega)
theorem split_at {α : Type} {ps : List α} {i : Nat} (hi : i < ps.length) : ps.take i ++ [ps[i]] ++ ps.drop (i + 1) = ps := by
  rw [List.append_assoc]
  show ps.take i ++ (ps[i] :: ps.drop (i + 1)) = ps
  rw [List.getElem_cons_drop, List.take_append_drop]
theorem foldl_next {α β : Type} (f : β → α → β) (b : β) (xs : List α) (i : Nat) (hi : i < xs.length) : (xs.take (i + 1)).foldl f b = f ((xs.take i).foldl f b) xs[i] := by
  rw [List.take_add_one, List.getElem?_eq_getElem hi, List.foldl_append]; rfl

def spBytesM (K : PySem.W.Frag) : Sp := fun vs H Q _ => ∃ (p m : Addr) (n : Int) (o : HO) (ms : List Int), vs = [.ref p, .ref m] ∧ H p = some o ∧ PoolO n o ∧ n ≤ 900000000 ∧ SqL K H m (ms.map V.int) ∧ p ≠ m ∧ ms ≠ [] ∧ ms.length ≤ 100 ∧ (∀ z ∈ ms, 0 ≤ z ∧ z ≤ 400) ∧
  ∀ (H' : Hp) (q : Addr) (bs : List Int) (o' : HO), H q = none → H' q = some (.lst (bs.map V.int)) → H' p = some o' → PoolO (n + 1000) o' → Kp [p] H H' → (∃ z ∈ ms, (bs.length : Int) = z) → Bytes bs → Q (.ref q) H'
def spDueP (K : PySem.W.Frag) : Sp := fun vs H Q _ => ∃ (a b : Addr) (r : List Int) (us : List V) (ps : List Piece), vs = [.ref a, .ref b] ∧ SqL K H a (r.map V.int) ∧ SqL K H b us ∧ Pieces H us ps ∧ r.length ≤ 740 ∧ Bytes r ∧ (∀ p ∈ ps, Small p) ∧ ps.length ≤ 100 ∧
  ∀ (H' : Hp) (q : Addr), H q = none → H' q = some (.lst ((allF r ps).map V.int)) → Same H H' → Q (.ref q) H'
/-! what stands apart from some places -/
def mask (qs : List Addr) (H : Hp) : Hp := fun b => if b ∈ qs then none else H b
theorem mask_le (qs : List Addr) (H : Hp) : Same (mask qs H) H := fun b o e => by
  unfold mask at e
  split at e
  · cases e
  · exact e
theorem mask_upd {qs : List Addr} {H : Hp} {q : Addr} {o : HO} (h : q ∈ qs) : mask qs (upd H q o) = mask qs H := by
  funext b
  unfold mask
  split
  · rfl
  · next n =>
    have : b ≠ q := fun z => n (by rw [z]; exact h)
    rw [upd_ne this]
theorem mask_kp {qs : List Addr} {H H' : Hp} (k : Kp qs H H') : Same (mask qs H) (mask qs H') := fun b o e => by
  unfold mask at e ⊢
  split at e
  · cases e
  · next n => rw [if_neg n]; exact k b o n e
theorem mask_at {qs : List Addr} {H : Hp} {b : Addr} (h : b ∉ qs) : mask qs H b = H b := if_neg h
theorem Kp.sub {ps qs : List Addr} {H H' : Hp} (k : Kp ps H H') (h : ∀ x ∈ ps, x ∈ qs ∨ H x = none) : Kp qs H H' := fun b o n e => by
  refine k b o (fun z => ?_) e
  rcases h b z with h | h
  · exact n h
  · rw [h] at e; cases e
def Tiny (p : Piece) : Prop := p.1 ≤ 299 ∧ p.2.length ≤ 40 ∧ Bytes p.2
theorem Tiny.small {p : Piece} (h : Tiny p) : Small p := ⟨by have := h.1; omega, by have := h.2.1; omega, h.2.2⟩
end Sip
namespace Sip
open PySem PySem.Spec PyProof.Rows L2 TL

/-! an object with all that is its own (F): what a call may change -/
def Step (F : Addr → Prop) (H : Hp) (F' : Addr → Prop) (H' : Hp) : Prop := (∀ b o, ¬ F b → H b = some o → H' b = some o) ∧ ∀ b, F' b → F b ∨ H b = none
theorem Step.keep {F F' : Addr → Prop} {H H' : Hp} {b : Addr} {o : HO} (s : Step F H F' H') (n : ¬ F b) (e : H b = some o) : H' b = some o ∧ ¬ F' b :=
  ⟨s.1 b o n e, fun z => (s.2 b z).elim n fun q => by rw [q] at e; cases e⟩
/-- own objects made since H0 alone -/
theorem Step.since {F F' : Addr → Prop} {H0 H H' : Hp} (s : Step F H F' H') (a : Same H0 H) (n : ∀ b, F b → H0 b = none) : Same H0 H' ∧ ∀ b, F' b → H0 b = none := by
  refine ⟨fun b o e => s.1 b o (fun z => by rw [n b z] at e; cases e) (a b o e), fun b z => ?_⟩
  rcases s.2 b z with q | q
  · exact n b q
  · exact a.free q
theorem Step.of {F : Addr → Prop} {H H' : Hp} (s : Same H H') : Step F H F H' := ⟨fun b o _ e => s b o e, fun b z => .inl z⟩
theorem Step.trans {F F' F2 : Addr → Prop} {H H' H2 : Hp} (a : Step F H F' H') (b : Step F' H' F2 H2) : Step F H F2 H2 := by
  refine ⟨fun x o n e => b.1 x o (a.keep n e).2 (a.keep n e).1, fun x z => ?_⟩
  rcases b.2 x z with q | q
  · exact a.2 x q
  · by_cases f : F x
    · exact .inl f
    · cases e : H x with
      | none => exact .inr rfl
      | some o => rw [a.1 x o f e] at q; cases q

/-- a plain file in the heap, however it keeps its row: heap, address, what is its own, row, cursor -/
abbrev PP := Hp → Addr → (Addr → Prop) → List Int → Nat → Prop
structure IsPlain (C : Addr) (PA : PP) : Prop where
  loc : ∀ {H H' : Hp} {p : Addr} {F : Addr → Prop} {r : List Int} {c : Nat}, PA H p F r c → (∀ b o, F b → H b = some o → H' b = some o) → PA H' p F r c
  own : ∀ {H : Hp} {p : Addr} {F : Addr → Prop} {r : List Int} {c : Nat}, PA H p F r c → ∀ b, F b → ∃ o, H b = some o
  ins : ∀ {H : Hp} {p : Addr} {F : Addr → Prop} {r : List Int} {c : Nat}, PA H p F r c → ∃ dx fs, H p = some (.ins C dx fs) ∧ ∀ m ∈ (["read", "read_some", "peek", "readline", "write", "seek", "tell", "size", "row", "cut"] : List Str), fs.lookup m = none
theorem IsPlain.same {C : Addr} {PA : PP} (I : IsPlain C PA) {H H' : Hp} {p : Addr} {F : Addr → Prop} {r : List Int} {c : Nat} (h : PA H p F r c) (s : Same H H') : PA H' p F r c := I.loc h fun b o _ e => s b o e
theorem IsPlain.kp {C : Addr} {PA : PP} (I : IsPlain C PA) {H H' : Hp} {qs : List Addr} {p : Addr} {F : Addr → Prop} {r : List Int} {c : Nat} (h : PA H p F r c) (k : Kp qs H H') (n : ∀ q ∈ qs, ¬ F q) : PA H' p F r c :=
  I.loc h fun b o f e => k b o (fun z => n b z f) e
theorem IsPlain.new {C : Addr} {PA : PP} (I : IsPlain C PA) {H : Hp} {q p : Addr} {F : Addr → Prop} {r : List Int} {c : Nat} (h : PA H p F r c) (n : H q = none) : ¬ F q := fun f => by
  obtain ⟨o, e⟩ := I.own h q f
  rw [n] at e; cases e

def spPInit (K : PySem.W.Frag) (C : Addr) (PA : PP) : Sp := fun vs H Q _ => ∃ (p a dx : Addr) (r : List Int) (c : Nat), vs = [.ref p, .ref a, .int c] ∧ H p = some (.ins C dx []) ∧ H dx = some (.own p) ∧ SqL K H a (r.map V.int) ∧ p ≠ a ∧ r.length ≤ 400 ∧ c ≤ 4000 ∧
  ∀ (H' : Hp) (F' : Addr → Prop), PA H' p F' r c → Step (fun b => b = p ∨ b = dx) H F' H' → Q .non H'
def spPTell (PA : PP) : Sp := fun vs H Q _ => ∃ (p : Addr) (F : Addr → Prop) (r : List Int) (c : Nat), vs = [.ref p] ∧ PA H p F r c ∧ Q (.int c) H
def spPSize (PA : PP) : Sp := fun vs H Q _ => ∃ (p : Addr) (F : Addr → Prop) (r : List Int) (c : Nat), vs = [.ref p] ∧ PA H p F r c ∧ Q (.int r.length) H
def spPRow (PA : PP) : Sp := fun vs H Q _ => ∃ (p : Addr) (F : Addr → Prop) (r : List Int) (c : Nat), vs = [.ref p] ∧ PA H p F r c ∧ ∀ (H' : Hp) (q : Addr), H q = none → H' q = some (.lst (r.map V.int)) → Same H H' → Q (.ref q) H'
def spPSeek (PA : PP) : Sp := fun vs H Q _ => ∃ (p : Addr) (F : Addr → Prop) (r : List Int) (c g : Nat) (pl : Int) (st : Str), vs = [.ref p, .int pl, .str st] ∧ PA H p F r c ∧
  ((st = Str.ofString "head" ∧ (g : Int) = pl) ∨ (st = Str.ofString "here" ∧ (g : Int) = c + pl) ∨ (st = Str.ofString "tail" ∧ (g : Int) = r.length + pl)) ∧ g ≤ 4000 ∧ ∀ (H' : Hp) (F' : Addr → Prop), PA H' p F' r g → Step F H F' H' → Q (.int g) H'
def spPCut (PA : PP) : Sp := fun vs H Q _ => ∃ (p : Addr) (F : Addr → Prop) (r : List Int) (c g : Nat) (v : V), vs = [.ref p, v] ∧ PA H p F r c ∧ ((v = .non ∧ g = c) ∨ v = .int g) ∧ g ≤ 4000 ∧ ∀ (H' : Hp) (F' : Addr → Prop), PA H' p F' (r.take g) c → Step F H F' H' → Q .non H'
def spPWrite (PA : PP) : Sp := fun vs H Q _ => ∃ (p b : Addr) (F : Addr → Prop) (r : List Int) (c : Nat) (d : List Int), vs = [.ref p, .ref b] ∧ PA H p F r c ∧ ¬ F b ∧ H b = some (.lst (d.map V.int)) ∧ Bytes d ∧ r.length ≤ 4000 ∧ c ≤ 4000 ∧ d.length ≤ 400 ∧ (laidF r c d).length ≤ 4000 ∧
  ∀ (H' : Hp) (F' : Addr → Prop), PA H' p F' (laidF r c d) (c + d.length) → Step F H F' H' → Q (.int d.length) H'
/-- a place drawn for a row of n bytes -/
def spGoal (K : PySem.W.Frag) : Sp := fun vs H Q _ => ∃ (p x : Addr) (n : Int) (o : HO) (r : List Int), vs = [.ref p, .ref x] ∧ H p = some o ∧ PoolO n o ∧ n ≤ 900000000 ∧ SqL K H x (r.map V.int) ∧ p ≠ x ∧ r.length ≤ 5000 ∧
  ∀ (H' : Hp) (g : Nat) (o' : HO), g ≤ max (r.length + 20) 4000 → H' p = some o' → PoolO (n + 4) o' → Kp [p] H H' → Q (.int g) H'
def spSought (K : PySem.W.Frag) (PA : PP) : Sp := fun vs H Q _ => ∃ (p x : Addr) (F : Addr → Prop) (r : List Int) (c g : Nat) (way : Int), vs = [.ref p, .int way, .int g, .ref x, .int c] ∧ 0 ≤ way ∧ way ≤ 3 ∧ PA H p F r c ∧ SqL K H x (r.map V.int) ∧ g ≤ 4000 ∧
  ∀ (H' : Hp) (F' : Addr → Prop), PA H' p F' r g → Step F H F' H' → Q (.int g) H'
def spCutL (PA : PP) : Sp := fun vs H Q _ => ∃ (p : Addr) (F : Addr → Prop) (r : List Int) (c g : Nat) (way : Int), vs = [.ref p, .int way, .int g] ∧ 0 ≤ way ∧ way ≤ 2 ∧ (way < 2 → g = c) ∧ PA H p F r c ∧ g ≤ 4000 ∧
  ∀ (H' : Hp) (F' : Addr → Prop), PA H' p F' (r.take g) c → Step F H F' H' → Q .non H'
theorem take_cut (r : List Int) (g : Nat) : cutV (r.map V.int) none (some (g : Int)) = (r.take g).map V.int := by
  unfold cutV
  rw [HT.sIx_none, HT.sIx_nat, List.length_map, List.map_take]
  show (r.map V.int).take (min g r.length - 0) = _
  by_cases h : g ≤ r.length
  · rw [Nat.min_eq_left h]; rfl
  · rw [Nat.min_eq_right (by omega), List.take_of_length_le (by rw [List.length_map]; omega), List.take_of_length_le (by rw [List.length_map]; omega)]
theorem drop_cut (r : List Int) (g : Nat) : cutV (r.map V.int) (some (g : Int)) none = (r.drop g).map V.int := by
  unfold cutV
  rw [HT.sIx_none, HT.sIx_nat, List.length_map, List.map_drop]
  by_cases h : g ≤ r.length
  · rw [Nat.min_eq_left h]
    exact List.take_of_length_le (by rw [List.length_drop, List.length_map]; omega)
  · rw [Nat.min_eq_right (by omega), List.drop_of_length_le (by rw [List.length_map]; omega), List.drop_of_length_le (l := r.map V.int) (by rw [List.length_map]; omega)]
    simp
/-- one byte laid over by hand -/
theorem laid_one (r : List Int) (c : Nat) (v : Int) : (r ++ List.replicate (c - r.length) 0).take c ++ [v] ++ r.drop (c + 1) = laidF r c [v] := by
  rw [laidF_cons (by simp)]
  congr 1
  by_cases h : c + 1 ≤ r.length
  · rw [show c - r.length = 0 by omega]; simp
  · rw [List.drop_of_length_le (l := r) (by omega), List.drop_of_length_le]
    rw [List.length_append, List.length_replicate]
    show _ ≤ c + 1
    omega
end Sip
namespace Sip
open PySem PySem.Spec PyProof.Rows L2 TL
/-! a heap by name: what was made, what was written -/
theorem updG {H H' : Hp} {q : Addr} {o : HO} (g : upd H q o = H') (n : H q = none) : H' q = some o ∧ Same H H' := by
  subst g; exact ⟨upd_same, (Kp.new (ps := []) n).same⟩
theorem updK {H H' : Hp} {q : Addr} {o : HO} (g : upd H q o = H') : H' q = some o ∧ Kp [q] H H' := by
  subst g; exact ⟨upd_same, Kp.at (by simp)⟩
theorem neN {H : Hp} {p x : Addr} {o : HO} (n : H p = none) (e : H x = some o) : x ≠ p := ne_of_none e n
theorem neM {H : Hp} {p x : Addr} {o : HO} (n : H x = none) (e : H p = some o) : x ≠ p := (ne_of_none e n).symm
theorem kp1 {H H' : Hp} {p x : Addr} {o : HO} (k : Kp [p] H H') (n : x ≠ p) (e : H x = some o) : H' x = some o := k x o (by simpa using n) e
theorem sm1 {H H' : Hp} {x : Addr} {o : HO} (k : Same H H') (e : H x = some o) : H' x = some o := k x o e
theorem sqS {K : PySem.W.Frag} {H H' : Hp} {a : Addr} {l : List V} (s : Same H H') (h : SqL K H a l) : SqL K H' a l := s.seq h
theorem sqK {K : PySem.W.Frag} {H H' : Hp} {p a : Addr} {l : List V} (s : Kp [p] H H') (n : a ≠ p) (h : SqL K H a l) : SqL K H' a l := s.seq (by simpa using n) h
end Sip
namespace Sip
open PySem PySem.Spec PyProof.Rows L2 TL
theorem mapI_nil : ([] : List V) = List.map V.int [] := rfl
theorem mapI_cons {a : Int} {l : List V} {ms : List Int} (h : l = List.map V.int ms) : V.int a :: l = List.map V.int (a :: ms) := by rw [h]; rfl
theorem sq_lit {K : PySem.W.Frag} {H : Hp} {m : Addr} {l : List V} {ms : List Int} (h : H m = some (.lst l)) (e : l = ms.map V.int) : SqL K H m (ms.map V.int) := by rw [← e]; exact sq_at h
theorem hp_lit {H : Hp} {m : Addr} {l : List V} {ms : List Int} (h : H m = some (.lst l)) (e : l = ms.map V.int) : H m = some (.lst (ms.map V.int)) := by rw [← e]; exact h
end Sip
namespace Sip
open PySem PySem.Spec PyProof.Rows L2 TL
theorem iteFc {b : Bool} {A B : Prop} (e : b = false) (h : B) : if b = true then A else B := by subst e; exact iteF h
theorem iteTc {b : Bool} {A B : Prop} (e : b = true) (h : A) : if b = true then A else B := by subst e; exact iteT h
theorem free1 {H H' : Hp} {l : Addr} (h : H' l = none) (e : Same H H') : H l = none := e.free h
theorem same_tr {H H1 H2 : Hp} (b : Same H1 H2) (a : Same H H1) : Same H H2 := a.trans b
theorem step_sm {H H1 H2 : Hp} {p : Addr} (k : Kp [p] H1 H2) (n : H p = none) (s : Same H H1) : Same H H2 := step_same s n k
end Sip
namespace Sip
open PySem PySem.Spec PyProof.Rows L2 TL
theorem upd_get {H : Hp} {a b : Addr} {o u : HO} (n : b ≠ a) (e : H b = some u) : upd H a o b = some u := by rw [upd_ne n]; exact e
end Sip
namespace Sip
open PySem PySem.Spec PyProof.Rows L2 TL
/-- an object made: the older ones stay, and are not its own -/
theorem made_new {H H5 : Hp} {f dx : Addr} {o1 o2 : HO} {F : Addr → Prop} (st : Step (fun b => b = f ∨ b = dx) (upd (upd H dx o2) f o1) F H5) (nf : H f = none) (nd : H dx = none) : Same H H5 ∧ ∀ b o, H b = some o → ¬ F b := by
  have k : ∀ b o, H b = some o → H5 b = some o ∧ ¬ F b := fun b o e => by
    have bf : b ≠ f := ne_of_none e nf
    have bd : b ≠ dx := ne_of_none e nd
    exact st.keep (fun z => z.elim bf bd) (by rw [upd_ne bf, upd_ne bd]; exact e)
  exact ⟨fun b o e => (k b o e).1, fun b o e => (k b o e).2⟩
end Sip
namespace Sip
open PySem PySem.Spec PyProof.Rows L2 TL
theorem sqA {K : PySem.W.Frag} {H H' : Hp} {a : Addr} {l : List V} (h : SqL K H a l) (s : Same H H') : SqL K H' a l := s.seq h
end Sip
namespace Sip
open PySem PySem.Spec PyProof.Rows L2 TL
theorem sqB {K K' : PySem.W.Frag} {H H' : Hp} {a : Addr} {l : List V} (h : SqL K H a l) (s : Same H H') (e : K = K') : SqL K' H' a l := e ▸ s.seq h
end Sip
namespace Sip
open PySem PySem.Spec PyProof.Rows L2 TL
/-- what may be found by the way (no word over a frame) -/
class Wit (α : Type) : Prop where
  ok : True
instance : Wit V := ⟨trivial⟩
instance : Wit Int := ⟨trivial⟩
instance : Wit Nat := ⟨trivial⟩
instance : Wit Bool := ⟨trivial⟩
instance : Wit HO := ⟨trivial⟩
instance : Wit Str := ⟨trivial⟩
instance : Wit Value := ⟨trivial⟩
instance : Wit (Addr → Prop) := ⟨trivial⟩
instance {α β : Type} [Wit α] [Wit β] : Wit (α × β) := ⟨trivial⟩
instance {α : Type} [Wit α] : Wit (Option α) := ⟨trivial⟩
instance {α : Type} [Wit α] : Wit (List α) := ⟨trivial⟩
theorem exI {α : Type} [Wit α] {p : α → Prop} (a : α) (h : p a) : ∃ x, p x := ⟨a, h⟩
end Sip
namespace Sip
open PySem PySem.Spec PyProof.Rows L2 TL
theorem isi_ii {K : PySem.W.Frag} {v : Int} {H : Hp} {Q : VK} (h : Q (.bl true) H) : rIsi K [.int v, .ty "int"] H Q := ⟨.int v, .ty "int", _, _, true, rfl, .ty "int", .base (.int v), kit_ty (by decide +kernel), h⟩
theorem isi_ib {K : PySem.W.Frag} {v : Int} {H : Hp} {Q : VK} (h : Q (.bl false) H) : rIsi K [.int v, .ty "bool"] H Q := ⟨.int v, .ty "bool", _, _, false, rfl, .ty "bool", .base (.int v), kit_ty (by decide +kernel), h⟩
end Sip
namespace Sip
open PySem PySem.Spec PyProof.Rows L2

/-! del xs[lo:hi] -/
def delL {α : Type} (xs : List α) (a c : Nat) : List α := xs.take a ++ xs.drop (max a c)
theorem sel_filter {α : Type} (sel : Nat → Bool) (a c : Nat) (h : ∀ k, sel k = (decide (a ≤ k) && decide (k < c))) (xs : List α) :
    ∀ j, (xs.zipIdx j).filterMap (fun p => if sel p.2 = true then none else some p.1) = xs.take (a - j) ++ xs.drop (max (a - j) (c - j)) := by
  induction xs with
  | nil => intro j; simp
  | cons x r ih =>
    intro j
    rw [List.zipIdx_cons, List.filterMap_cons]
    have e := h j
    by_cases h1 : a ≤ j
    · by_cases h2 : j < c
      · rw [decide_eq_true h1, decide_eq_true h2] at e
        have e' : sel j = true := e
        simp only [e', if_true]
        rw [ih (j + 1)]
        have : a - j = 0 := by omega
        have : a - (j + 1) = 0 := by omega
        have : c - j = (c - (j + 1)) + 1 := by omega
        simp [*]
      · rw [decide_eq_true h1, decide_eq_false h2] at e
        have e' : ¬ (sel j = true) := by rw [e]; decide
        simp only [if_neg e']
        rw [ih (j + 1)]
        have : a - j = 0 := by omega
        have : a - (j + 1) = 0 := by omega
        have : c - j = 0 := by omega
        have : c - (j + 1) = 0 := by omega
        simp [*]
    · rw [decide_eq_false h1] at e
      have e' : ¬ (sel j = true) := by rw [e]; simp
      simp only [if_neg e']
      rw [ih (j + 1)]
      have e1 : a - j = (a - (j + 1)) + 1 := by omega
      have e2 : max (a - j) (c - j) = max (a - (j + 1)) (c - (j + 1)) + 1 := by omega
      rw [e2, e1, List.take_succ_cons, List.drop_succ_cons]
      rfl
def selF (a c : Nat) (i : Nat) : Bool :=
  if (1 : Int) > 0 then (a : Int) ≤ i && i < (c : Int) && (i - (a : Int)) % 1 == 0
  else (c : Int) < i && i ≤ (a : Int) && ((a : Int) - i) % (-1) == 0
theorem selF_eq (a c k : Nat) : selF a c k = (decide (a ≤ k) && decide (k < c)) := by
  unfold selF
  rw [if_pos (by decide)]
  have : ((k : Int) - (a : Int)) % 1 = 0 := by omega
  rw [this]
  simp
theorem selF_fun (a c : Nat) : (fun xs : Array Value => (List.filterMap (fun x => if selF a c x.snd = true then none else some x.fst) xs.toList.zipIdx).toArray) = fun t => (delL t.toList a c).toArray := by
  funext t
  have := sel_filter (selF a c) a c (selF_eq a c) t.toList 0
  rw [Nat.sub_zero, Nat.sub_zero] at this
  exact congrArg _ this
theorem sel_fun {sel : Nat → Bool} {a c : Nat} (h : ∀ k, sel k = selF a c k) : (fun xs : Array Value => (List.filterMap (fun x => if sel x.snd = true then none else some x.fst) xs.toList.zipIdx).toArray) = fun t => (delL t.toList a c).toArray := by
  have e : sel = selF a c := funext h
  subst e
  exact selF_fun a c
section
variable {pr : Program} {wd : World} {ar : Around} {er : Value → Shared → Prop} {s : Shared}
set_option maxHeartbeats 4000000 in
theorem del_slice {l z : Addr} {old : Array Value} {m a c : Nat} {lo hi : Option Int} {vl vu : Value} {Q : Unit → Shared → Prop}
    (eo : s.heap.get? l = some { cls := .type "list", data := .seq old m })
    (hz : s.heap.IsSliceOf z vl vu .none) (pl : IsPart vl lo) (pu : IsPart vu hi)
    (bd : sliceBounds lo hi none old.size = ((a : Int), (c : Int), 1)) (fit : old.size ≤ sizeLine)
    (k : Q () { s with heap := s.heap.update l (Obj.mapSeq fun t => (delL t.toList a c).toArray) }) :
    wpAny (model pr wd) ar (delItem (.ref l) (.ref z)) Q er s := by
  have lo' : s.heap.IsList l old := PySem.IsL.isList eo
  obtain ⟨oz, gz, cz, dz⟩ := id hz
  have tz : s.TypeIs (.ref z) "slice" := ⟨oz, gz, cz⟩
  refine wpAny_delItem_slot lo'.typeIs (by decide) PySem.F.slot_list_delitem ?_
  refine wpAny_call_entry PySem.F.slot_list_delitem lo'.typeIs PySem.F.entry_list_delitem ?_ (PySem.F.args_list_delitem_2 _ _)
  show wpAny _ _ (Builtin.List.listSubscript? (.ref z) >>= _) _ _ s
  refine wpAny_bind ?_
  unfold Builtin.List.listSubscript?
  refine wpAny_bind (wpAny_specialOf tz slice_no_index ?_)
  simp only [Option.isNone_none, if_true]
  refine wpAny_pure ?_
  show wpAny _ _ (typeOf (.ref z) >>= _) _ _ s
  refine wpAny_bind (wpAny_typeOf tz ?_)
  first
    | rw [if_neg (by decide)]
    | refine PySem.W.KFB.if_not (by decide) ?_
  rw [listSliceParts_eq]
  refine wpAny_bind (wpAny_bind (wpAny_field gz dz (x := .none) rfl (wpAny_bind (wpAny_listPart .none ?_))))
  rw [if_neg (show ¬ ((rawPart none == rawInt 0) = true) from Bool.false_ne_true)]
  refine wpAny_bind (wpAny_field gz dz (x := vl) rfl (wpAny_bind (wpAny_listPart pl ?_)))
  refine wpAny_bind (wpAny_field gz dz (x := vu) rfl (wpAny_bind (wpAny_listPart pu (wpAny_pure ?_))))
  unfold Builtin.List.listItems
  refine wpAny_bind (wpAny_bind (wpAny_seqItems eo rfl (wpAny_pure ?_)))
  have si := (sliceIndices_raw lo hi none old.size (by simp)).trans (congrArg (pure : Int × Int × Int → Sem (Int × Int × Int)) bd)
  refine wpAny_bind (wpAny_of_eq si ?_)
  refine wpAny_bind (wpAny_rule ?_)
  refine wpAny_bind ?_
  unfold Builtin.List.listUpdate
  simp only []
  rw [sel_fun (a := a) (c := c) (fun k => by with_unfolding_all rfl)]
  have zz : ((fun t : Array Value => (delL t.toList a c).toArray) old).size ≤ sizeLine + 1 := by
    show (delL old.toList a c).toArray.size ≤ _
    rw [List.size_toArray]
    unfold delL
    rw [List.length_append, List.length_take, List.length_drop, Array.length_toList]; omega
  refine wpAny_updateSeq (hz := fit) (_hz' := zz) eo rfl (wpAny_bind (wpAny_letGo ?_))
  first
    | with_reducible exact wpAny_pure ⟨.none, rfl, k⟩
    | exact wpAny_bind (wpAny_pure (wpAny_pure ⟨.none, rfl, k⟩))
    | exact wpAny_pure ⟨.none, rfl, k⟩
end
/-- what is left of a list whose part from lo to hi is deleted -/
def delV (xs : List V) (lo hi : Option Int) : List V := delL xs (HT.sIx xs.length 0 lo) (HT.sIx xs.length xs.length hi)
theorem bounds_sIx (lo hi : Option Int) (n : Nat) : sliceBounds lo hi none n = ((HT.sIx n 0 lo : Int), (HT.sIx n n hi : Int), 1) := by
  have f : ∀ (v : Option Int) (d : Nat), d ≤ n → (match v with | none => (d : Int) | some i => max 0 (min (if i < 0 then i + (n : Int) else i) (n : Int))) = (HT.sIx n d v : Int) ∨ (∃ i, v = some i ∧ i < 0 ∧ i + (n : Int) > n) := by
    intro v d hd
    cases v with
    | none => exact .inl rfl
    | some i =>
      left
      show max 0 (min (if i < 0 then i + (n : Int) else i) (n : Int)) = ((if i < 0 then (i + (n : Int)).toNat else min i.toNat n : Nat) : Int)
      split <;> omega
  have f1 := (f lo 0 (by omega)).resolve_right (by rintro ⟨i, _, h1, h2⟩; omega)
  have f2 := (f hi n (by omega)).resolve_right (by rintro ⟨i, _, h1, h2⟩; omega)
  rw [← f1, ← f2]
  unfold sliceBounds
  cases lo <;> cases hi <;> rfl
section
variable {X : Cx} {pos : Pos}
def tDelS (to : TE) (tl th : TO) : TS := fun D σ H => to σ H fun o H1 => tl σ H1 fun lo H2 => th σ H2 fun hi H3 => ∃ (l : Addr) (xs : List V), o = .ref l ∧ H3 l = some (.lst xs) ∧ D.nx σ (upd H3 l (.lst (delV xs lo hi)))
theorem ps_delS {o : Expr} {lo hi : Option Expr} {to : TE} {tl th : TO} {p2 tpos : Pos} (ho : PE X o to) (hl : PO X lo tl) (hh : PO X hi th) : PS X (.Delete [.Subscript o (.Slice lo hi none p2) tpos] pos) (tDelS to tl th) := by
  refine ⟨fun pins s σ H D I h => ?_⟩
  refine wpAny_Delete (wpAny_deleteEach_cons (wpAny_delete_Subscript (thn (ho.run pins s σ H _ I h) fun ov s1 ⟨x, H1, I1, r1, q1⟩ => ?_)))
  refine wpAny_Slice (thn (hl.run pins s1 σ H1 _ I1 q1) fun wl s2 ⟨l, H2, I2, pl, q2⟩ => ?_)
  refine thn (hh.run pins s2 σ H2 _ I2 q2) fun wu s3 ⟨uu, H3, I3, pu, q3⟩ => ?_
  rw [evalPart_none]
  refine wpAny_pure ?_
  obtain ⟨p, xs, rfl, hp, fin⟩ := q3
  cases r1
  have I4 : Inv X pins σ H3 { s3 with heap := s3.heap.push { cls := .type "slice", data := .fields #[wl, wu, .none] } } := I3.kept (t' := s3.toks) fun b ob e => Heap.get?_push_of_some _ e
  obtain ⟨z1, us1, n1, rv1, hz1, e1⟩ := I4.lstM hp
  have L1 := rv1.length
  refine del_slice (a := HT.sIx xs.length 0 l) (c := HT.sIx xs.length xs.length uu) e1 (Heap.IsSliceOf.new ..) pl pu (by rw [List.size_toArray, ← L1]; exact bounds_sIx _ _ _) (by rw [List.size_toArray]; omega) ?_
  refine wpAny_deleteEach_nil ⟨σ, _, ?_, fin⟩
  refine I4.lset (its' := delL us1 (HT.sIx xs.length 0 l) (HT.sIx xs.length xs.length uu)) (t' := s3.toks) hp e1 rfl (Vals.append (rv1.take _) (rv1.drop _)) ?_
  show (delL _ _ _).length ≤ _
  unfold delL
  rw [List.length_append, List.length_take, List.length_drop]
  omega
end
end Sip
namespace Sip
open PySem PySem.Spec PyProof.Rows L2 TL
/-- for i, x in enumerate(xs), the list standing -/
theorem for_enum {K : PySem.W.Frag} {a : Addr} {xs : List V} {g : TG} {tb : TS} {D : Ends} {σ : L2.St} {H : Hp} (Pv : Nat → L2.St → Hp → Prop) (h0 : Pv 0 σ H) (hl : ∀ i σ H, i ≤ xs.length → Pv i σ H → SqL K H a xs)
    (hs : ∀ i x σ H T, xs[i]? = some x → Pv i σ H → H T = none → g (.ref T) σ (upd H T (.tup [.int (i : Nat), x])) fun σ2 H2 => tb { D with nx := Pv (i + 1), ct := Pv (i + 1), bk := D.nx } σ2 H2) (hd : ∀ σ H, Pv xs.length σ H → D.nx σ H) :
    ∃ W : Nat → Nat → L2.St → Hp → Prop, (∃ m, W 0 m σ H) ∧ ∀ i m σ H, W i m σ H →
      ((Ite K a).stop i H ∧ D.nx σ H) ∨ ((Ite K a).go i H ∧ ∃ N : L2.St → Hp → Prop, (∀ σ' H', N σ' H' → ∃ m', m' < m ∧ W (i + 1) m' σ' H') ∧ ∀ x H', (Ite K a).yld i H x H' → g x σ H' fun σ2 H2 => tb { D with nx := N, ct := N, bk := D.nx } σ2 H2) := by
  refine ⟨fun i m σ H => m = xs.length - i ∧ i ≤ xs.length ∧ Pv i σ H, ⟨xs.length, by simp, Nat.zero_le _, h0⟩, ?_⟩
  rintro i m σ H ⟨rfl, hi, p⟩
  have q := hl i σ H hi p
  by_cases hlt : i < xs.length
  · refine .inr ⟨⟨xs, xs[i], q, by simp [hlt]⟩, Pv (i + 1), fun σ' H' p' => ⟨xs.length - (i + 1), by omega, rfl, hlt, p'⟩, fun x H' y => ?_⟩
    obtain ⟨T, y, rfl, nT, rfl, hy⟩ := y
    exact hs i y σ _ T (hy xs q) p nT
  · have e : i = xs.length := by omega
    subst e
    exact .inl ⟨⟨xs, q, Nat.le_refl _⟩, hd σ H p⟩
end Sip
namespace Sip
open PySem PySem.Spec PyProof.Rows L2 TL
section
variable {X : Cx} {e : Expr} {te : TE}
/-- a bound of a slice that may be None -/
def tPartO (te : TE) : TO := fun σ H Q => te σ H fun x H1 => ∃ k : Option Int, x = (match k with | none => .non | some i => .int i) ∧ Q k H1
theorem po_opt (h : PE X e te) : PO X (some e) (tPartO te) := by
  refine ⟨fun pins s σ H Q I hw => ?_⟩
  rw [evalPart_some]
  refine thn (h.run pins s σ H _ I hw) fun u s1 ⟨x, H1, I1, r1, q1⟩ => ?_
  obtain ⟨k, rfl, q⟩ := q1
  cases k with
  | none =>
    cases (show u = Value.none from r1)
    exact ⟨none, H1, I1, .none, q⟩
  | some i =>
    obtain ⟨t, rfl⟩ := (show ∃ t, u = Value.int i t from r1)
    exact ⟨some i, H1, I1, .int i t, q⟩
end
def cntV : Option Nat → V
  | none => .non
  | some n => .int n
def cntI : Option Nat → Option Int
  | none => none
  | some n => some n
theorem cntV_eq (k : Option Nat) : cntV k = (match cntI k with | none => V.non | some i => .int i) := by cases k <;> rfl
def takeO (k : Option Nat) (xs : List Int) : List Int := match k with
  | none => xs
  | some n => xs.take n
theorem cut_O (r : List Int) (k : Option Nat) : cutV (r.map V.int) none (cntI k) = (takeO k r).map V.int := by
  cases k with
  | none =>
    unfold cutV cntI takeO
    rw [HT.sIx_none, HT.sIx_none, List.length_map]
    show (r.map V.int).take (r.length - 0) = _
    exact List.take_of_length_le (by rw [List.length_map]; omega)
  | some n => exact take_cut r n
theorem takeO_len (k : Option Nat) (xs : List Int) : (takeO k xs).length ≤ xs.length := by
  cases k with
  | none => exact Nat.le_refl _
  | some n => show (xs.take n).length ≤ _; rw [List.length_take]; omega
def lineF (xs : List Int) : List Int := xs.take (xs.idxOf 10 + 1)
theorem lineF_no {xs : List Int} (h : (10 : Int) ∉ xs) : lineF xs = xs := by
  unfold lineF
  exact List.take_of_length_le (by rw [List.idxOf_eq_length h]; omega)
theorem idx_take (xs : List Int) (n : Nat) : (xs.take n).idxOf 10 = min (xs.idxOf 10) (xs.take n).length := by
  induction xs generalizing n with
  | nil => simp
  | cons x r ih =>
    cases n with
    | zero => simp
    | succ n =>
      rw [List.take_succ_cons, List.idxOf_cons, List.idxOf_cons, List.length_cons]
      by_cases h : x = 10
      · subst h; simp
      · have : (x == 10) = false := by simpa using h
        rw [this]
        simp only [cond_false]
        rw [ih n]; omega
theorem lineF_take (xs : List Int) (n : Nat) : lineF (xs.take n) = (lineF xs).take n := by
  unfold lineF
  rw [idx_take, List.take_take, List.take_take]
  rw [List.length_take]
  by_cases h : n ≤ xs.length
  · congr 1; omega
  · rw [List.take_of_length_le (l := xs) (by omega : xs.length ≤ n) |>.symm]
    by_cases g : xs.idxOf 10 < xs.length
    · rw [List.take_of_length_le (l := xs) (by omega : xs.length ≤ n)]; congr 1; omega
    · rw [List.take_of_length_le (l := xs) (by omega : xs.length ≤ n)]
      have : xs.idxOf 10 ≤ xs.length := List.idxOf_le_length
      rw [List.take_of_length_le (by omega), List.take_of_length_le (by omega)]
theorem lineF_O (xs : List Int) (k : Option Nat) : lineF (takeO k xs) = takeO k (lineF xs) := by
  cases k with
  | none => rfl
  | some n => exact lineF_take xs n
theorem inV_ten (xs : List Int) (v : Int) : inV (.int v) (xs.map V.int) = decide (v ∈ xs) := by
  unfold inV
  rw [List.any_map]
  rw [Bool.eq_iff_iff, List.any_eq_true, decide_eq_true_iff]
  constructor
  · rintro ⟨x, hx, e⟩
    have e1 : x = v := by
      have : eqV (.int x) (.int v) = true := e
      simpa [eqV] using this
    rw [← e1]; exact hx
  · intro h
    exact ⟨v, h, by show eqV (.int v) (.int v) = true; simp [eqV]⟩
theorem flat_ints (xs : List Int) : (xs.map V.int).all flatV = true := by
  rw [List.all_map, List.all_eq_true]
  intro x _
  rfl
theorem idx_facts {xs : List Int} {v : Int} (h : v ∈ xs) : (xs.map V.int)[xs.idxOf v]? = some (.int v) ∧ ∀ (m : Nat) (z : V), m < xs.idxOf v → (xs.map V.int)[m]? = some z → eqV z (.int v) = false := by
  have hl : xs.idxOf v < xs.length := List.idxOf_lt_length_of_mem h
  refine ⟨?_, fun m z hm hz => ?_⟩
  · rw [List.getElem?_map, List.getElem?_eq_getElem hl, List.getElem_idxOf hl]; rfl
  · rw [List.getElem?_map] at hz
    obtain ⟨y, hy, rfl⟩ := Option.map_eq_some_iff.mp hz
    have : y ≠ v := by
      intro e
      subst e
      have hm' : m < xs.length := by omega
      rw [List.getElem?_eq_getElem hm'] at hy
      have := List.not_of_lt_findIdx (p := (· == y)) (xs := xs) (i := m) hm
      have e2 : xs[m] = y := Option.some.inj hy
      rw [e2] at this
      simp at this
    show eqV (.int y) (.int v) = false
    simpa [eqV] using this
theorem mid_cut (r : List Int) (c n : Nat) : cutV (r.map V.int) (some (c : Int)) (some ((c + n : Nat) : Int)) = ((r.drop c).take n).map V.int := by
  unfold cutV
  rw [HT.sIx_nat, HT.sIx_nat, List.length_map, ← List.map_drop, ← List.map_take]
  congr 1
  by_cases h : c ≤ r.length
  · rw [Nat.min_eq_left h]
    by_cases g : c + n ≤ r.length
    · rw [Nat.min_eq_left g, Nat.add_sub_cancel_left]
    · rw [Nat.min_eq_right (by omega), List.take_of_length_le (by rw [List.length_drop]; omega), List.take_of_length_le (by rw [List.length_drop]; omega)]
  · rw [Nat.min_eq_right (by omega : r.length ≤ c), Nat.min_eq_right (by omega), List.drop_of_length_le (Nat.le_refl _), List.drop_of_length_le (by omega : r.length ≤ c)]
    simp
theorem past_le (r : List Int) (c n m : Nat) (h1 : r.length ≤ m) (h2 : c ≤ m) : c + ((r.drop c).take n).length ≤ m := by
  rw [List.length_take, List.length_drop]; omega
/-! promises of the reading calls -/
def spPPeek (PA : PP) : Sp := fun vs H Q _ => ∃ (p : Addr) (F : Addr → Prop) (r : List Int) (c : Nat) (k : Option Nat), vs = [.ref p, cntV k] ∧ PA H p F r c ∧
  ∀ (H' : Hp) (q : Addr), H q = none → H' q = some (.lst ((takeO k (r.drop c)).map V.int)) → Same H H' → Q (.ref q) H'
def spPRead (PA : PP) : Sp := fun vs H Q _ => ∃ (p : Addr) (F : Addr → Prop) (r : List Int) (c : Nat) (k : Option Nat), vs = [.ref p, cntV k] ∧ PA H p F r c ∧
  ∀ (H' : Hp) (F' : Addr → Prop) (q : Addr), PA H' p F' r (c + (takeO k (r.drop c)).length) → H q = none → ¬ F' q → H' q = some (.lst ((takeO k (r.drop c)).map V.int)) → Step F H F' H' → Q (.ref q) H'
def spPLine (PA : PP) : Sp := fun vs H Q _ => ∃ (p : Addr) (F : Addr → Prop) (r : List Int) (c : Nat) (k : Option Nat), vs = [.ref p, cntV k] ∧ PA H p F r c ∧ r.length ≤ 10000 ∧
  ∀ (H' : Hp) (F' : Addr → Prop) (q : Addr), PA H' p F' r (c + (takeO k (lineF (r.drop c))).length) → H q = none → ¬ F' q → H' q = some (.lst ((takeO k (lineF (r.drop c))).map V.int)) → Step F H F' H' → Q (.ref q) H'
def spFLine (K : PySem.W.Frag) : Sp := fun vs H Q _ => ∃ (a : Addr) (xs : List Int) (k : Option Nat), vs = [.ref a, cntV k] ∧ SqL K H a (xs.map V.int) ∧ xs.length ≤ 10000 ∧
  ∀ (H' : Hp) (q : Addr), H q = none → H' q = some (.lst ((takeO k (lineF xs)).map V.int)) → Same H H' → Q (.ref q) H'
def spCount : Sp := fun vs H Q _ => ∃ k : Option Nat, vs = [cntV k] ∧ Q .non H
def spAhead (PA : PP) : Sp := fun vs H Q _ => ∃ (p : Addr) (F : Addr → Prop) (r : List Int) (c : Nat), vs = [.ref p] ∧ PA H p F r c ∧
  ∀ (H' : Hp) (q : Addr), H q = none → H' q = some (.lst ((r.drop c).map V.int)) → Same H H' → Q (.ref q) H'
def spPassed (PA : PP) : Sp := fun vs H Q _ => ∃ (p t : Addr) (F : Addr → Prop) (r xs : List Int) (c : Nat), vs = [.ref p, .ref t] ∧ PA H p F r c ∧ ¬ F t ∧ H t = some (.lst (xs.map V.int)) ∧
  ∀ (H' : Hp) (F' : Addr → Prop), PA H' p F' r (c + xs.length) → ¬ F' t → H' t = some (.lst (xs.map V.int)) → Step F H F' H' → Q (.ref t) H'
end Sip
namespace Sip
open PySem PySem.Spec PyProof.Rows L2 TL
def topS (i : Nat) : Stmt := PySem.Challenge.pw_sipstack_k19_plain_reads.main.body.getD i (.Pass ⟨0, 0, 0, 0⟩)
abbrev s_ccount : Stmt := topS 13
abbrev N_ccount : List Str := ["count"]
abbrev P_ccount : List Str := ["count"]
theorem sc_ccount : FnScope N_ccount P_ccount (defScope s_ccount) := ⟨rfl, rfl, rfl, by decide +kernel, rfl, by decide +kernel, by decide +kernel⟩
abbrev s_fline : Stmt := topS 21
abbrev N_fline : List Str := ["row", "limit", "line"]
abbrev P_fline : List Str := ["row", "limit"]
theorem sc_fline : FnScope N_fline P_fline (defScope s_fline) := ⟨rfl, rfl, rfl, by decide +kernel, rfl, by decide +kernel, by decide +kernel⟩
abbrev s_init : Stmt := inClass (topS 20) 0
abbrev N_init : List Str := ["self", "row", "place"]
abbrev P_init : List Str := ["self", "row", "place"]
theorem sc_init : FnScope N_init P_init (defScope s_init) := ⟨rfl, rfl, rfl, by decide +kernel, rfl, by decide +kernel, by decide +kernel⟩
abbrev s_tell : Stmt := inClass (topS 20) 7
abbrev N_tell : List Str := ["self"]
abbrev P_tell : List Str := ["self"]
theorem sc_tell : FnScope N_tell P_tell (defScope s_tell) := ⟨rfl, rfl, rfl, by decide +kernel, rfl, by decide +kernel, by decide +kernel⟩
abbrev s_size : Stmt := inClass (topS 20) 8
abbrev N_size : List Str := ["self"]
abbrev P_size : List Str := ["self"]
theorem sc_size : FnScope N_size P_size (defScope s_size) := ⟨rfl, rfl, rfl, by decide +kernel, rfl, by decide +kernel, by decide +kernel⟩
abbrev s_row : Stmt := inClass (topS 20) 10
abbrev N_row : List Str := ["self"]
abbrev P_row : List Str := ["self"]
theorem sc_row : FnScope N_row P_row (defScope s_row) := ⟨rfl, rfl, rfl, by decide +kernel, rfl, by decide +kernel, by decide +kernel⟩
abbrev s_ahead : Stmt := inClass (topS 20) 11
abbrev N_ahead : List Str := ["self"]
abbrev P_ahead : List Str := ["self"]
theorem sc_ahead : FnScope N_ahead P_ahead (defScope s_ahead) := ⟨rfl, rfl, rfl, by decide +kernel, rfl, by decide +kernel, by decide +kernel⟩
abbrev s_passed : Stmt := inClass (topS 20) 12
abbrev N_passed : List Str := ["self", "told"]
abbrev P_passed : List Str := ["self", "told"]
theorem sc_passed : FnScope N_passed P_passed (defScope s_passed) := ⟨rfl, rfl, rfl, by decide +kernel, rfl, by decide +kernel, by decide +kernel⟩
abbrev s_peek : Stmt := inClass (topS 20) 3
abbrev N_peek : List Str := ["self", "many"]
abbrev P_peek : List Str := ["self", "many"]
theorem sc_peek : FnScope N_peek P_peek (defScope s_peek) := ⟨rfl, rfl, rfl, by decide +kernel, rfl, by decide +kernel, by decide +kernel⟩
abbrev s_read : Stmt := inClass (topS 20) 1
abbrev N_read : List Str := ["self", "many"]
abbrev P_read : List Str := ["self", "many"]
theorem sc_read : FnScope N_read P_read (defScope s_read) := ⟨rfl, rfl, rfl, by decide +kernel, rfl, by decide +kernel, by decide +kernel⟩
abbrev s_rsome : Stmt := inClass (topS 20) 2
abbrev N_rsome : List Str := ["self", "many"]
abbrev P_rsome : List Str := ["self", "many"]
theorem sc_rsome : FnScope N_rsome P_rsome (defScope s_rsome) := ⟨rfl, rfl, rfl, by decide +kernel, rfl, by decide +kernel, by decide +kernel⟩
abbrev s_rline : Stmt := inClass (topS 20) 4
abbrev N_rline : List Str := ["self", "limit"]
abbrev P_rline : List Str := ["self", "limit"]
theorem sc_rline : FnScope N_rline P_rline (defScope s_rline) := ⟨rfl, rfl, rfl, by decide +kernel, rfl, by decide +kernel, by decide +kernel⟩
abbrev s_pool : Stmt := topS 24
abbrev N_pool : List Str := ["_law_script", "_law_at", "_law_cell", "_law_digits"]
abbrev P_pool : List Str := ["_law_script", "_law_at"]
theorem sc_pool : FnScope N_pool P_pool (defScope s_pool) := ⟨rfl, rfl, rfl, by decide +kernel, rfl, by decide +kernel, by decide +kernel⟩
abbrev s_take : Stmt := topS 25
abbrev N_take : List Str := ["_law_pool_here", "_law_wide", "_law_found", "_law_seed"]
abbrev P_take : List Str := ["_law_pool_here", "_law_wide"]
theorem sc_take : FnScope N_take P_take (defScope s_take) := ⟨rfl, rfl, rfl, by decide +kernel, rfl, by decide +kernel, by decide +kernel⟩
abbrev s_bytes : Stmt := topS 26
abbrev N_bytes : List Str := ["_law_pool_here", "_law_menu", "_law_found", "_law_k"]
abbrev P_bytes : List Str := ["_law_pool_here", "_law_menu"]
theorem sc_bytes : FnScope N_bytes P_bytes (defScope s_bytes) := ⟨rfl, rfl, rfl, by decide +kernel, rfl, by decide +kernel, by decide +kernel⟩
abbrev s_fits : Stmt := topS 27
abbrev N_fits : List Str := ["_law_found", "_law_due_here", "_law_thing"]
abbrev P_fits : List Str := ["_law_found", "_law_due_here"]
theorem sc_fits : FnScope N_fits P_fits (defScope s_fits) := ⟨rfl, rfl, rfl, by decide +kernel, rfl, by decide +kernel, by decide +kernel⟩
abbrev s_place : Stmt := topS 28
abbrev N_place : List Str := ["_law_pool_here", "_law_row", "_law_way"]
abbrev P_place : List Str := ["_law_pool_here", "_law_row"]
theorem sc_place : FnScope N_place P_place (defScope s_place) := ⟨rfl, rfl, rfl, by decide +kernel, rfl, by decide +kernel, by decide +kernel⟩
abbrev s_count : Stmt := topS 29
abbrev N_count : List Str := ["_law_pool_here", "_law_row", "_law_way"]
abbrev P_count : List Str := ["_law_pool_here", "_law_row"]
theorem sc_count : FnScope N_count P_count (defScope s_count) := ⟨rfl, rfl, rfl, by decide +kernel, rfl, by decide +kernel, by decide +kernel⟩
abbrev s_lread : Stmt := topS 30
abbrev N_lread : List Str := ["_law_file", "_law_way", "_law_many"]
abbrev P_lread : List Str := ["_law_file", "_law_way", "_law_many"]
theorem sc_lread : FnScope N_lread P_lread (defScope s_lread) := ⟨rfl, rfl, rfl, by decide +kernel, rfl, by decide +kernel, by decide +kernel⟩
abbrev s_due : Stmt := topS 31
abbrev N_due : List Str := ["_law_row", "_law_place_here", "_law_way", "_law_many", "_law_rest"]
abbrev P_due : List Str := ["_law_row", "_law_place_here", "_law_way", "_law_many"]
theorem sc_due : FnScope N_due P_due (defScope s_due) := ⟨rfl, rfl, rfl, by decide +kernel, rfl, by decide +kernel, by decide +kernel⟩
abbrev s_asked : Stmt := topS 32
abbrev N_asked : List Str := ["_law_pool_here", "_law_file", "_law_row", "_law_place_here", "_law_k", "_law_way", "_law_many", "_law_due_here", "_law_found"]
abbrev P_asked : List Str := ["_law_pool_here", "_law_file", "_law_row", "_law_place_here"]
theorem sc_asked : FnScope N_asked P_asked (defScope s_asked) := ⟨rfl, rfl, rfl, by decide +kernel, rfl, by decide +kernel, by decide +kernel⟩
abbrev s_law : Stmt := topS 33
abbrev N_law : List Str := ["_law_script", "_law_k", "_law_pool_here", "_law_row", "_law_place_here", "_law_handed", "_law_file"]
abbrev P_law : List Str := ["_law_script"]
theorem sc_law : FnScope N_law P_law (defScope s_law) := ⟨rfl, rfl, rfl, by decide +kernel, rfl, by decide +kernel, by decide +kernel⟩

def pfs (l : Addr) (c : Nat) : Fs := [("cells", .ref l), ("cursor", .int c)]
theorem pfs_cells (l : Addr) (c : Nat) : (pfs l c).lookup ("cells" : Str) = some (.ref l) := by unfold pfs; kernel_rfl
theorem pfs_cursor (l : Addr) (c : Nat) : (pfs l c).lookup ("cursor" : Str) = some (.int c) := by unfold pfs; kernel_rfl
theorem pfs_put_h (l m : Addr) (c : Nat) : putF ("cells" : Str) (.ref m) (pfs l c) = pfs m c := by unfold pfs; kernel_rfl
theorem pfs_put_c (l : Addr) (c d : Nat) : putF ("cursor" : Str) (.int d) (pfs l c) = pfs l d := by unfold pfs; kernel_rfl
theorem pfs_new (l : Addr) (c : Nat) : putF ("cursor" : Str) (.int c) (putF ("cells" : Str) (.ref l) []) = pfs l c := by unfold pfs; kernel_rfl
theorem pfs_few (l : Addr) (c : Nat) : (pfs l c).length < 1000 := by show 2 < 1000; decide
theorem pfs_no (l : Addr) (c : Nat) : ∀ m ∈ (["read", "read_some", "peek", "readline", "write", "seek", "tell", "size", "row", "cut", "ahead", "passed"] : List Str), (pfs l c).lookup m = none := by
  intro m hm
  simp only [List.mem_cons, List.mem_nil_iff, or_false] at hm
  unfold pfs
  rcases hm with rfl | rfl | rfl | rfl | rfl | rfl | rfl | rfl | rfl | rfl | rfl | rfl <;> kernel_rfl
def PlainAt (C : Addr) : PP := fun H p F r c => ∃ dx l, H p = some (.ins C dx (pfs l c)) ∧ H l = some (.lst (r.map V.int)) ∧ ∀ b, F b ↔ b = p ∨ b = l
theorem isPlain (C : Addr) : IsPlain C (PlainAt C) where
  loc := by
    rintro H H' p F r c ⟨dx, l, h1, h2, h3⟩ k
    exact ⟨dx, l, k _ _ ((h3 p).mpr (.inl rfl)) h1, k _ _ ((h3 l).mpr (.inr rfl)) h2, h3⟩
  own := by
    rintro H p F r c ⟨dx, l, h1, h2, h3⟩ b f
    rcases (h3 b).mp f with rfl | rfl
    · exact ⟨_, h1⟩
    · exact ⟨_, h2⟩
  ins := by
    rintro H p F r c ⟨dx, l, h1, h2, h3⟩
    exact ⟨dx, _, h1, fun m hm => pfs_no l c m (show m ∈ (["read", "read_some", "peek", "readline", "write", "seek", "tell", "size", "row", "cut"] : List Str) ++ (["ahead", "passed"] : List Str) from List.mem_append.mpr (.inl hm))⟩
def spLen : Sp := fun vs H Q _ => ∃ g : Int, vs = [.int g] ∧ g ≤ 4000 ∧ Q .non H
def spGoalC : Sp := fun vs H Q _ => ∃ g : Int, vs = [.int g] ∧ 0 ≤ g ∧ g ≤ 4000 ∧ Q .non H
def spWhole : Sp := fun vs H Q _ => ∃ v : Int, vs = [.int v] ∧ Q (.bl true) H
def spByte : Sp := fun vs H Q _ => ∃ v : Int, vs = [.int v] ∧ 0 ≤ v ∧ v ≤ 255 ∧ Q (.bl true) H
def spBytesC : Sp := fun vs H Q _ => ∃ (b : Addr) (d : List Int), vs = [.ref b] ∧ H b = some (.lst (d.map V.int)) ∧ Bytes d ∧ ∀ H', Same H H' → Q .non H'
def spSeekGoal : Sp := fun vs H Q _ => ∃ (pl : Int) (st : Str) (c n g : Nat), vs = [.int pl, .str st, .int c, .int n] ∧
  ((st = Str.ofString "head" ∧ (g : Int) = pl) ∨ (st = Str.ofString "here" ∧ (g : Int) = c + pl) ∨ (st = Str.ofString "tail" ∧ (g : Int) = n + pl)) ∧ g ≤ 4000 ∧ Q (.int g) H
/-- p and its list are stored to, m is new or its list -/
theorem own_step {F : Addr → Prop} {H H' : Hp} {p l m : Addr} (hF : ∀ b, F b ↔ b = p ∨ b = l) (k : Kp [p, l] H H') (n : m = l ∨ H m = none) : Step F H (fun b => b = p ∨ b = m) H' := by
  refine ⟨fun b o nf e => k b o (fun z => nf ((hF b).mpr (by simpa using z))) e, fun b z => ?_⟩
  rcases z with rfl | rfl
  · exact .inl ((hF _).mpr (.inl rfl))
  · rcases n with rfl | n
    · exact .inl ((hF _).mpr (.inr rfl))
    · exact .inr n
theorem del_from (r : List Int) (g : Nat) : delV (r.map V.int) (some (g : Int)) none = (r.take g).map V.int := by
  unfold delV delL
  rw [HT.sIx_none, HT.sIx_nat, List.length_map, List.drop_of_length_le (by rw [List.length_map]; omega), List.append_nil, ← List.map_take]
  congr 1
  by_cases h : g ≤ r.length
  · rw [Nat.min_eq_left h]
  · rw [Nat.min_eq_right (by omega), List.take_of_length_le (by omega), List.take_of_length_le (by omega)]

def dueF (xs : List Int) (w m : Int) : List Int :=
  if w = 5 then xs.take 1 else if w = 0 ∨ w = 3 ∨ w = 4 then xs.take m.toNat else if w = 6 then (lineF xs).take m.toNat else if 5 < w then lineF xs else xs
def afterF (w : Int) (c n : Nat) : Nat := if w = 4 ∨ w = 5 then c else c + n
def spPlaceL (K : PySem.W.Frag) : Sp := fun vs H Q _ => ∃ (p x : Addr) (n : Int) (o : HO) (r : List Int), vs = [.ref p, .ref x] ∧ H p = some o ∧ PoolO n o ∧ n ≤ 900000000 ∧ SqL K H x (r.map V.int) ∧ p ≠ x ∧ r.length ≤ 400 ∧
  ∀ (H' : Hp) (g : Nat) (o' : HO), g ≤ 4000 → H' p = some o' → PoolO (n + 3) o' → Kp [p] H H' → Q (.int g) H'
def spCountL (K : PySem.W.Frag) : Sp := fun vs H Q _ => ∃ (p x : Addr) (n : Int) (o : HO) (r : List Int), vs = [.ref p, .ref x] ∧ H p = some o ∧ PoolO n o ∧ n ≤ 900000000 ∧ SqL K H x (r.map V.int) ∧ p ≠ x ∧ r.length ≤ 400 ∧
  ∀ (H' : Hp) (g : Nat) (o' : HO), H' p = some o' → PoolO (n + 2) o' → Kp [p] H H' → Q (.int g) H'
def spDueL (K : PySem.W.Frag) : Sp := fun vs H Q _ => ∃ (x : Addr) (r : List Int) (c m : Nat) (w : Int), vs = [.ref x, .int c, .int w, .int m] ∧ 0 ≤ w ∧ w ≤ 8 ∧ SqL K H x (r.map V.int) ∧ r.length ≤ 400 ∧
  ∀ (H' : Hp) (q : Addr), H q = none → H' q = some (.lst ((dueF (r.drop c) w m).map V.int)) → Same H H' → Q (.ref q) H'
def spLRead (PX : PP) : Sp := fun vs H Q _ => ∃ (p : Addr) (F : Addr → Prop) (r : List Int) (c m : Nat) (w : Int), vs = [.ref p, .int w, .int m] ∧ 0 ≤ w ∧ w ≤ 8 ∧ PX H p F r c ∧ r.length ≤ 400 ∧
  ∀ (H' : Hp) (F' : Addr → Prop) (q : Addr), PX H' p F' r (afterF w c (dueF (r.drop c) w m).length) → H q = none → ¬ F' q → H' q = some (.lst ((dueF (r.drop c) w m).map V.int)) → Step F H F' H' → Q (.ref q) H'
def spAskedL (PX : PP) : Sp := fun vs H Q _ => ∃ (p f x : Addr) (F : Addr → Prop) (n : Int) (o : HO) (r : List Int) (c : Nat), vs = [.ref p, .ref f, .ref x, .int c] ∧ H p = some o ∧ PoolO n o ∧ n ≤ 800000000 ∧ PX H f F r c ∧ H x = some (.lst (r.map V.int)) ∧ ¬ F x ∧ ¬ F p ∧ p ≠ x ∧ r.length ≤ 400 ∧
  ∀ H' : Hp, (∀ b o, ¬ F b → b ≠ p → H b = some o → H' b = some o) → Q (.bl true) H'
theorem dueF_len (xs : List Int) (w m : Int) : (dueF xs w m).length ≤ xs.length := by
  have h : (lineF xs).length ≤ xs.length := by unfold lineF; rw [List.length_take]; omega
  unfold dueF
  split
  · rw [List.length_take]; omega
  · split
    · rw [List.length_take]; omega
    · split
      · rw [List.length_take]; omega
      · split
        · exact h
        · exact Nat.le_refl _
theorem inV4 (w : Int) : inV (.int w) [.int 0, .int 3, .int 4, .int 6] = decide (w = 0 ∨ w = 3 ∨ w = 4 ∨ w = 6) := by
  have := inV_ten [0, 3, 4, 6] w
  rw [show ([V.int 0, .int 3, .int 4, .int 6] : List V) = ([0, 3, 4, 6] : List Int).map V.int from rfl, this]
  congr 1
  simp
theorem inV2 (w : Int) : inV (.int w) [.int 4, .int 5] = decide (w = 4 ∨ w = 5) := by
  have := inV_ten [4, 5] w
  rw [show ([V.int 4, .int 5] : List V) = ([4, 5] : List Int).map V.int from rfl, this]
  congr 1
  simp
theorem cpow_10_9 : CPow 10 9 := by unfold CPow; decide +kernel
theorem eq_lineF {xs : List Int} (h : (10 : Int) ∈ xs) : xs.take (xs.idxOf 10 + 1) = lineF xs := rfl
structure Tx (K : PySem.W.Frag) (mg : Str → Option Value) where
  C_Plain : Addr
  f_ccount : Addr
  fd_ccount : FuncData
  D_ccount : Dg K mg "check_count" s_ccount f_ccount fd_ccount
  f_fline : Addr
  fd_fline : FuncData
  D_fline : Dg K mg "first_line" s_fline f_fline fd_fline
  f_init : Addr
  fd_init : FuncData
  D_init : Mf K C_Plain "__init__" "Plain.__init__" s_init f_init fd_init
  f_tell : Addr
  fd_tell : FuncData
  D_tell : Mf K C_Plain "tell" "Plain.tell" s_tell f_tell fd_tell
  f_size : Addr
  fd_size : FuncData
  D_size : Mf K C_Plain "size" "Plain.size" s_size f_size fd_size
  f_row : Addr
  fd_row : FuncData
  D_row : Mf K C_Plain "row" "Plain.row" s_row f_row fd_row
  f_ahead : Addr
  fd_ahead : FuncData
  D_ahead : Mf K C_Plain "ahead" "Plain.ahead" s_ahead f_ahead fd_ahead
  f_passed : Addr
  fd_passed : FuncData
  D_passed : Mf K C_Plain "passed" "Plain.passed" s_passed f_passed fd_passed
  f_peek : Addr
  fd_peek : FuncData
  D_peek : Mf K C_Plain "peek" "Plain.peek" s_peek f_peek fd_peek
  f_read : Addr
  fd_read : FuncData
  D_read : Mf K C_Plain "read" "Plain.read" s_read f_read fd_read
  f_rsome : Addr
  fd_rsome : FuncData
  D_rsome : Mf K C_Plain "read_some" "Plain.read_some" s_rsome f_rsome fd_rsome
  f_rline : Addr
  fd_rline : FuncData
  D_rline : Mf K C_Plain "readline" "Plain.readline" s_rline f_rline fd_rline
  f_pool : Addr
  fd_pool : FuncData
  D_pool : Dg K mg "_law_pool" s_pool f_pool fd_pool
  f_take : Addr
  fd_take : FuncData
  D_take : Dg K mg "_law_take" s_take f_take fd_take
  f_bytes : Addr
  fd_bytes : FuncData
  D_bytes : Dg K mg "_law_bytes" s_bytes f_bytes fd_bytes
  f_fits : Addr
  fd_fits : FuncData
  D_fits : Dg K mg "_law_fits" s_fits f_fits fd_fits
  f_place : Addr
  fd_place : FuncData
  D_place : Dg K mg "_law_place" s_place f_place fd_place
  f_count : Addr
  fd_count : FuncData
  D_count : Dg K mg "_law_count" s_count f_count fd_count
  f_lread : Addr
  fd_lread : FuncData
  D_lread : Dg K mg "_law_read" s_lread f_lread fd_lread
  f_due : Addr
  fd_due : FuncData
  D_due : Dg K mg "_law_due" s_due f_due fd_due
  f_asked : Addr
  fd_asked : FuncData
  D_asked : Dg K mg "_law_asked" s_asked f_asked fd_asked
  f_law : Addr
  fd_law : FuncData
  D_law : Dg K mg "law" s_law f_law fd_law
  cl_Plain : Cls K C_Plain
  g_Plain : mg "Plain" = some (.ref C_Plain)
  mk_Plain : Mk K C_Plain f_init
  n_Plain_cells : NoAttr K C_Plain "cells"
  n_Plain_cursor : NoAttr K C_Plain "cursor"
  bb_ahead : Binds K fd_ahead P_ahead []
  bb_asked : Binds K fd_asked P_asked []
  bb_bytes : Binds K fd_bytes P_bytes []
  bb_ccount : Binds K fd_ccount P_ccount []
  bb_count : Binds K fd_count P_count []
  bb_due : Binds K fd_due P_due []
  bb_fits : Binds K fd_fits P_fits []
  bb_fline : Binds K fd_fline P_fline []
  bb_init : Binds K fd_init P_init []
  bb_lread : Binds K fd_lread P_lread []
  bb_passed : Binds K fd_passed P_passed []
  bb_peek : Binds K fd_peek P_peek []
  bb_place : Binds K fd_place P_place []
  bb_pool : Binds K fd_pool P_pool []
  bb_read : Binds K fd_read P_read []
  bb_rline : Binds K fd_rline P_rline []
  bb_row : Binds K fd_row P_row []
  bb_rsome : Binds K fd_rsome P_rsome []
  bb_size : Binds K fd_size P_size []
  bb_take : Binds K fd_take P_take []
  bb_tell : Binds K fd_tell P_tell []
  ds_init_1 : List Value
  v_init_1 : Vals [.int 0] ds_init_1
  b_init_1 : Binds K fd_init P_init ds_init_1
  ds_peek_0 : List Value
  v_peek_0 : Vals [.int 1] ds_peek_0
  b_peek_0 : Binds K fd_peek P_peek ds_peek_0
  ds_read_0 : List Value
  v_read_0 : Vals [.non] ds_read_0
  b_read_0 : Binds K fd_read P_read ds_read_0
  ds_rline_0 : List Value
  v_rline_0 : Vals [.non] ds_rline_0
  b_rline_0 : Binds K fd_rline P_rline ds_rline_0
  t_LINE_FEED : Tok
  c_LINE_FEED : mg "LINE_FEED" = some (.int 10 t_LINE_FEED)
  m_list : mg "list" = none
  m_len : mg "len" = none
  m_range : mg "range" = none
  m_max : mg "max" = none
  m_min : mg "min" = none
  m_isinstance : mg "isinstance" = none
  m_int : mg "int" = none
  m_bool : mg "bool" = none
  m_all : mg "all" = none
section
variable {P : Program} {w : World} {K : PySem.W.Frag} {mg : Str → Option Value} {base : Heap}

theorem ok_pool (T : Tx K mg) : FnOk P w K mg base CX0 1 T.f_pool T.fd_pool P_pool (spPool K) := by
  have sz : sizeLine = 16777216 := sizeLine_eq
  refine T.D_pool.F.ok sc_pool (fun vs H Q E h => ?_) (fun cdv A outer s H vs Q E hr h => ?_)
  · obtain ⟨a, ns, i, rfl, _⟩ := h
    rfl
  · obtain ⟨a, ns, i, rfl, hS, h63, i0, i1, q⟩ := h
    refine ⟨_, (pss_cons (ps_set (i := 2) sc_pool.nd rfl (.inl rfl) pe_int)
      (C8.pss_cut (ps_if (pt_cmpR op_gt (pe_callB call_len_seq (by rfl) T.m_len PySem.boot_len (pa_cons (pv 0) pa_nil)) pe_int (nomark _)) (pss_one (ps_set (i := 2) sc_pool.nd rfl (.inl rfl) (pe_ix ix_list (pv 0) (pe_op op_mod (pv 1) (pe_callB call_len_seq (by rfl) T.m_len PySem.boot_len (pa_cons (pv 0) pa_nil))) (fun _ _ => rfl)))) pss_nil)
      (pss_cons (ps_set (i := 3) sc_pool.nd rfl (.inl rfl) pe_int)
      (C8.pss_cut (ps_if (PW.pt (pw_and (pt_cmpR op_ge (pv 2) (pe_op op_pow pe_int pe_int) (nomark _)) (pw_and1 (pt_cmpR op_lt (pv 1) (pe_callB call_len_seq (by rfl) T.m_len PySem.boot_len (pa_cons (pv 0) pa_nil)) (nomark _))))) (pss_one (ps_set (i := 3) sc_pool.nd rfl (.inl rfl) (pv 2))) pss_nil)
      (pss_one (ps_ret (pe_lst (pa_cons (pv 3) (pa_cons (pe_op op_mul pe_int (pv 1)) (pa_cons (pv 2) pa_nil)))))))))), ?_⟩
    refine ⟨fun σ' H' => H' = H ∧ ∃ c : Int, σ' = [some (.ref a), some (.int i), some (.int c), none], ?_, fun σ' H' hm => ?_⟩
    · refine ⟨.ref a, rfl, a, ns.map V.int, rfl, .inl hS, _, _, rfl, rfl, _, rfl, ite2 (fun e => ?_) (fun e => ?_)⟩
      · have e1 : (0 : Int) < ((ns.map V.int).length : Int) := of_decide_eq_true e
        rw [List.length_map] at e1
        obtain ⟨m, _, em, _⟩ := atI_int (ms := ns) (i := i % (ns.length : Int)) (Int.emod_nonneg _ (by omega)) (Int.emod_lt_of_pos _ e1)
        refine ⟨.ref a, rfl, .int i, rfl, .ref a, rfl, a, ns.map V.int, rfl, .inl hS, _, _, rfl, rfl, ?_, a, _, _, .int m, rfl, rfl, hS, ?_, rfl, m, rfl⟩
        · rw [List.length_map]; exact e1
        · rw [List.length_map]; exact em
      · exact ⟨rfl, 0, rfl⟩
    · obtain ⟨rfl, c, rfl⟩ := hm
      refine ⟨fun σ' H'' => H'' = H' ∧ ∃ d : Int, 0 ≤ d ∧ σ' = [some (.ref a), some (.int i), some (.int c), some (.int d)], ?_, fun σ' H'' hm => ?_⟩
      · refine ⟨.int c, rfl, _, _, rfl, rfl, ⟨by decide, by decide, by decide⟩, _, _, rfl, rfl, _, rfl, ite2 (fun e => ?_) (fun e => iteF ⟨rfl, 0, by decide, rfl⟩)⟩
        have e1 : ((10 : Int) ^ (18 : Int).toNat) ≤ c := of_decide_eq_true e
        refine ⟨.int i, rfl, .ref a, rfl, a, ns.map V.int, rfl, .inl hS, _, _, rfl, rfl, _, rfl, ite2 (fun e => ?_) (fun e => ⟨rfl, 0, by decide, rfl⟩)⟩
        exact ⟨.int c, rfl, rfl, c, Int.le_trans (by decide) e1, rfl⟩
      · obtain ⟨rfl, d, d0, rfl⟩ := hm
        refine ⟨.int d, rfl, .int i, rfl, _, _, rfl, rfl, .inl ⟨by decide, by decide⟩, .int c, rfl, by show (3 : Nat) ≤ sizeLine; decide, fun p np => q p _ np ⟨d, 1000 * i, c, rfl, d0, by omega, by omega⟩⟩


theorem ok_take (T : Tx K mg) : FnOk P w K mg base CX0 1 T.f_take T.fd_take P_take (spTake) := by
  have sz : sizeLine = 16777216 := sizeLine_eq
  refine T.D_take.F.ok sc_take (fun vs H Q E h => ?_) (fun cdv A outer s H vs Q E hr h => ?_)
  · obtain ⟨p, n, wd, o, rfl, _⟩ := h
    rfl
  · obtain ⟨p, n, wd, o, rfl, hp, ⟨d, c, x, rfl, d0, c0, cn⟩, n9, w0, w1, q⟩ := h
    refine ⟨_, (pss_cons (ps_if (pt_cmpR op_gt (pe_ix ix_list (pv 0) pe_int (fun _ _ => rfl)) pe_int (nomark _)) (pss_cons (ps_set (i := 2) sc_take.nd rfl (.inl rfl) (pe_op op_mod (pe_ix ix_list (pv 0) pe_int (fun _ _ => rfl)) (pv 1)))
      (pss_cons (ps_asg (pe_op op_fdiv (pe_ix ix_list (pv 0) pe_int (fun _ _ => rfl)) (pv 1)) (pg_sub (pv 0) pe_int set_list))
      (pss_one (ps_ret (pv 2))))) pss_nil)
      (pss_cons (ps_asg (pe_op op_add (pe_ix ix_list (pv 0) pe_int (fun _ _ => rfl)) pe_int) (pg_sub (pv 0) pe_int set_list))
      (pss_cons (ps_set (i := 3) sc_take.nd rfl (.inl rfl) (pe_op op_mod (pe_op op_pow (pe_op op_add (pe_op op_mod (pe_ix ix_list (pv 0) pe_int (fun _ _ => rfl)) pe_int) (pe_op op_mul pe_int (pe_ix ix_list (pv 0) pe_int (fun _ _ => rfl)))) pe_int) pe_int))
      (pss_cons (ps_set (i := 3) sc_take.nd rfl (.inl rfl) (pe_op op_add (pe_op op_mul (pv 3) pe_int) (pe_op op_mul (pe_op op_mul (pe_ix ix_list (pv 0) pe_int (fun _ _ => rfl)) (pe_ix ix_list (pv 0) pe_int (fun _ _ => rfl))) pe_int)))
      (pss_one (ps_ret (pe_op op_mod (pe_op op_fdiv (pe_op op_mod (pe_op op_add (pv 3) (pe_op op_fdivW (pe_ix ix_list (pv 0) pe_int (fun _ _ => rfl)) pe_int)) pe_int) pe_int) (pv 1)))))))), ?_⟩
    have S0 : SqL K H p [.int d, .int c, .int x] := sq_at hp
    refine ⟨.ref p, rfl, p, _, 0, .int d, rfl, rfl, S0, rfl, d, 0, rfl, rfl, _, rfl, ite2 (fun e => ?_) (fun e => ?_)⟩
    · refine ⟨.ref p, rfl, p, _, 0, .int d, rfl, rfl, S0, rfl, .int wd, rfl, d, wd, rfl, rfl, w0, ?_⟩
      refine ⟨.ref p, rfl, p, _, 0, .int d, rfl, rfl, S0, rfl, .int wd, rfl, d, wd, rfl, rfl, ⟨w0, w1⟩, ?_⟩
      refine ⟨.ref p, rfl, p, _, 0, 0, rfl, rfl, hp, rfl, .int (d % wd), rfl, ?_⟩
      exact q _ _ (Int.emod_nonneg _ (by omega)) (Int.emod_lt_of_pos _ w0) ⟨d / wd, c, x, rfl, Int.ediv_nonneg d0 (by omega), c0, by omega⟩
    · refine ⟨.ref p, rfl, p, _, 1, .int c, rfl, rfl, S0, rfl, c, 1, rfl, rfl, .ref p, rfl, p, _, 1, 1, rfl, rfl, hp, rfl, ?_⟩
      have S1 : SqL K (upd H p (.lst [.int d, .int (c + 1), .int x])) p [.int d, .int (c + 1), .int x] := sq_new
      have y0 : 0 ≤ x % 2147483647 := Int.emod_nonneg _ (by decide)
      have y1 : x % 2147483647 < 2147483647 := Int.emod_lt_of_pos _ (by decide)
      refine ⟨.ref p, rfl, p, _, 2, .int x, rfl, rfl, S1, rfl, x, _, rfl, rfl, by show (0 : Int) < 2147483647; decide, .ref p, rfl, p, _, 1, .int (c + 1), rfl, rfl, S1, rfl, 40503, c + 1, rfl, rfl, .inl ⟨by decide, by decide⟩, _, _, rfl, rfl, _, 5, rfl, rfl, ⟨by decide, by decide, ?_⟩, _, 2147483647, rfl, rfl, by show (0 : Int) < 2147483647; decide, ?_⟩
      · show (x % 2147483647 + 40503 * (c + 1)).natAbs < 18446744073709551616
        omega
      · refine ⟨_, rfl, _, 48271, rfl, rfl, .inr ⟨by decide, by decide⟩, .ref p, rfl, p, _, 1, .int (c + 1), rfl, rfl, S1, rfl, .ref p, rfl, p, _, 1, .int (c + 1), rfl, rfl, S1, rfl, c + 1, c + 1, rfl, rfl, .inl ⟨by omega, by omega⟩, _, 39373, rfl, rfl, .inr ⟨by decide, by decide⟩, _, _, rfl, rfl, ?_⟩
        refine ⟨_, rfl, .ref p, rfl, p, _, 2, .int x, rfl, rfl, S1, rfl, x, _, rfl, rfl, wide_div (b := 32) (by decide) (by decide) (by decide) (by decide), _, _, rfl, rfl, _, _, rfl, rfl, by show (0 : Int) < 1000000007; decide, _, 16, rfl, rfl, ⟨by decide, by decide⟩, .int wd, rfl, _, wd, rfl, rfl, w0, ?_⟩
        exact q _ _ (Int.emod_nonneg _ (by omega)) (Int.emod_lt_of_pos _ w0) ⟨d, c + 1, x, rfl, d0, by omega, by omega⟩


theorem ok_fits (T : Tx K mg) : FnOk P w K mg base CX0 1 T.f_fits T.fd_fits P_fits (spFits K) := by
  have sz : sizeLine = 16777216 := sizeLine_eq
  refine T.D_fits.F.ok sc_fits (fun vs H Q E h => ?_) (fun cdv A outer s H vs Q E hr h => ?_)
  · obtain ⟨a, b, xs, ys, rfl, _⟩ := h
    rfl
  · obtain ⟨a, b, xs, ys, rfl, hA, hB, lx, q⟩ := h
    refine ⟨_, (pss_cons (ps_if (PW.pt (pw_or (pt_not (pt_val (pe_callB (id := "isinstance") (r := rIsi K) call_isi (by rfl) T.m_isinstance (by decide +kernel) (pa_cons (pv 0) (pa_cons (pe_bltn (v := .ty "list") (by rfl) T.m_list (by decide +kernel) rfl) pa_nil))))) (pw_or1 (pt_cmpR op_ne (pe_callB call_len_seq (by rfl) T.m_len PySem.boot_len (pa_cons (pv 0) pa_nil)) (pe_callB call_len_seq (by rfl) T.m_len PySem.boot_len (pa_cons (pv 1) pa_nil)) (nomark _))))) (pss_one (ps_ret pe_bl)) pss_nil)
      (pss_one (ps_ret (pe_and (pe_callB (cr_all rfl) (by rfl) T.m_all (by decide +kernel) (pa_cons (pe_lc (own := [("_law_thing", 2)]) (g := gName 2) (tt := tYes) (by rfl) sc_fits.nd (pi_list (pv 0)) (blkOk_by (own := [("_law_thing", 2)]) (N := N_fits) (sc := defScope s_fits) (by decide +kernel)) (fun _ _ _ _ _ => pg_name (i := 2) sc_fits.nd rfl (Or.inl rfl)) (fun _ _ _ _ _ => pts_nil) (fun _ _ _ _ _ => (pe_and (pe_callB (id := "isinstance") (r := rIsi K) call_isi (by rfl) T.m_isinstance (by decide +kernel) (pa_cons (pv 2) (pa_cons (pe_bltn (v := .ty "int") (by rfl) T.m_int (by decide +kernel) rfl) pa_nil))) (pe_one (pe_not (pe_callB (id := "isinstance") (r := rIsi K) call_isi (by rfl) T.m_isinstance (by decide +kernel) (pa_cons (pv 2) (pa_cons (pe_bltn (v := .ty "bool") (by rfl) T.m_bool (by decide +kernel) rfl) pa_nil)))))))) pa_nil)) (pe_one (pe_cmpR (op_eqI hr.units) (pv 0) (pv 1) (nomark _))))))), ?_⟩
    refine ⟨.ref a, rfl, .ref a, .ty "list", _, _, true, rfl, .ty "list", .base (.lst hA), kit_ty (by decide +kernel), true, rfl, iteF ?_⟩
    refine ⟨.ref a, rfl, a, _, rfl, .inl (sq_at hA), .ref b, rfl, b, _, rfl, .inl hB, rfl, _, rfl, ite2 (fun e => ?_) (fun e => ?_)⟩
    · have ne : xs ≠ ys := fun z => by
        subst z
        rw [decide_eq_true rfl] at e
        cases e
      have := q H (Same.refl H)
      rw [decide_eq_false ne] at this
      exact this
    · refine ⟨.ref a, rfl, a, rfl, ⟨_, sq_at hA⟩, fun D nD => lc_list (K := K) (a := a) (xs := xs.map V.int) (fun i H' => H' D = some (.lst ((List.replicate i true).map V.bl)) ∧ Same H H') ⟨by rw [upd_same]; rfl, (Kp.new (ps := []) nD).same⟩ (fun i H' _ h => h.2.seq (sq_at hA)) (fun i x H' hx hP => ?_) (fun H' hP => ?_)⟩
      · obtain ⟨eD, sm⟩ := hP
        have hi : i < xs.length := by
          have := (List.getElem?_eq_some_iff.mp hx).1
          rwa [List.length_map] at this
        obtain ⟨v, rfl⟩ : ∃ v : Int, x = .int v := by
          rw [List.getElem?_map, List.getElem?_eq_getElem hi] at hx
          exact ⟨_, (Option.some.inj hx).symm⟩
        refine ⟨rfl, ?_⟩
        refine ⟨.int v, rfl, .int v, .ty "int", _, _, true, rfl, .ty "int", .base (.int v), kit_ty (by decide +kernel), true, rfl, ?_⟩
        refine ⟨.int v, rfl, .int v, .ty "bool", _, _, false, rfl, .ty "bool", .base (.int v), kit_ty (by decide +kernel), false, rfl, _, eD, ?_, ?_, ?_⟩
        · rw [List.length_map, List.length_replicate]
          exact Nat.lt_of_lt_of_le hi (Nat.le_of_lt (Nat.lt_of_le_of_lt lx (by rw [sizeLine_eq]; decide)))
        · rw [upd_same, List.replicate_succ', List.map_append]; rfl
        · exact (Kp.put (ps := []) (Kp.of sm) nD).same
      · obtain ⟨eD, sm⟩ := hP
        refine ⟨D, List.replicate (xs.map V.int).length true, rfl, sq_at eD, _, rfl, ?_⟩
        rw [all_true, if_pos rfl]
        exact ⟨.ref a, rfl, .ref b, rfl, a, b, xs, ys, rfl, rfl, sq_at (sm _ _ hA), sm.seq hB, q _ sm⟩


theorem ok_bytes (T : Tx K mg) : FnOk P w K mg base CX0 2 T.f_bytes T.fd_bytes P_bytes (spBytesM K) := by
  have G_take := ok_take (P := P) (w := w) (base := base) T
  have sz : sizeLine = 16777216 := sizeLine_eq
  refine T.D_bytes.F.ok sc_bytes (fun vs H Q E h => ?_) (fun cdv A outer s H vs Q E hr h => ?_)
  · obtain ⟨p, m, n, o, ms, rfl, _⟩ := h
    rfl
  · obtain ⟨p, m, n, o, ms, rfl, hp, hP, n9, hM, pm, m0, ml, mz, q⟩ := h
    refine ⟨_, (pss_cons (ps_set (i := 2) sc_bytes.nd rfl (.inl rfl) (pe_lst pa_nil))
      (pss_cons (ps_for PassesOwn.never rfl (pi_range1 (by rfl) T.m_range (pa_cons (pe_ix ix_list (pv 1) (pe_call G_take (hr.mono (by decide)) (by rfl) T.D_take.g T.D_take.F.kp T.bb_take .nil pass0 (pa_cons (pv 0) (pa_cons (pe_callB call_len_seq (by rfl) T.m_len PySem.boot_len (pa_cons (pv 1) pa_nil)) pa_nil))) (fun _ _ => rfl)) pa_nil)) (pg_name (i := 3) sc_bytes.nd rfl (.inl rfl)) (pss_one (ps_if (pt_cmpR op_eq (pe_call G_take (hr.mono (by decide)) (by rfl) T.D_take.g T.D_take.F.kp T.bb_take .nil pass0 (pa_cons (pv 0) (pa_cons pe_int pa_nil))) pe_int (nomark _)) (pss_one (ps_expr (pe_bm PySem.F.plainAttrs_list PySem.F.slot_list_append PySem.F.type_list_append mt_append (pv 2) (pa_cons (pe_ix ix_list (pe_lst (pa_cons pe_int (pa_cons pe_int (pa_cons pe_int (pa_cons pe_int pa_nil))))) (pe_call G_take (hr.mono (by decide)) (by rfl) T.D_take.g T.D_take.F.kp T.bb_take .nil pass0 (pa_cons (pv 0) (pa_cons pe_int pa_nil))) (fun _ _ => rfl)) pa_nil)))) (pss_one (ps_expr (pe_bm PySem.F.plainAttrs_list PySem.F.slot_list_append PySem.F.type_list_append mt_append (pv 2) (pa_cons (pe_call G_take (hr.mono (by decide)) (by rfl) T.D_take.g T.D_take.F.kp T.bb_take .nil pass0 (pa_cons (pv 0) (pa_cons pe_int pa_nil))) pa_nil)))))))
      (pss_one (ps_ret (pv 2))))), ?_⟩
    refine ⟨Nat.zero_le _, fun a na => ?_⟩
    have pa : p ≠ a := ne_of_none hp na
    have s1 : Same H (upd H a (.lst [])) := (Kp.new (ps := []) na).same
    have lm : 0 < ms.length := List.length_pos_iff.mpr m0
    refine ⟨.ref m, rfl, .ref p, rfl, .ref m, rfl, m, _, rfl, .inl (s1.seq hM), p, n, _, o, rfl, s1 _ _ hp, hP, by omega, by rw [List.length_map]; omega, by rw [List.length_map]; omega, fun r o1 r0 r1 hP1 => ?_⟩
    rw [List.length_map] at r1
    obtain ⟨z, zm, ez, _⟩ := atI_int (ms := ms) (i := r) r0 r1
    obtain ⟨z0, z1⟩ := mz z zm
    have k2 : Kp [p] H (upd (upd H a (.lst [])) p o1) := (Kp.new na).trans (Kp.at (by simp))
    refine ⟨m, _, r, .int z, rfl, rfl, k2.seq (by simpa using pm.symm) hM, ez, z, rfl, by omega, by omega, for_range (lo := 0) (n := z.toNat) (fun i σ H' => ∃ (bs : List Int) (o2 : HO) (y : Option V), σ = [some (.ref p), some (.ref m), some (.ref a), y] ∧ H' a = some (.lst (bs.map V.int)) ∧ bs.length = i ∧ Bytes bs ∧ H' p = some o2 ∧ PoolO (n + 1 + 2 * i) o2 ∧ Kp [p] H H') ?_ (fun i σ H' hi hW => ?_) (fun σ H' hW => ?_)⟩
    · exact ⟨[], o1, none, rfl, by rw [upd_ne pa.symm]; exact upd_same, rfl, fun b hb => by simp at hb, upd_same, hP1.up (by omega), k2⟩
    · obtain ⟨bs, o2, y, rfl, ea, eb, hb, ep, hP2, kk⟩ := hW
      have fit : (bs.map V.int).length < sizeLine := by rw [List.length_map]; exact small1000 (by omega)
      refine ⟨.ref p, rfl, p, _, 4, o2, rfl, ep, hP2, by omega, by decide, by decide, fun r2 o3 s0 s1 hP3 => ?_⟩
      have ea3 : (upd H' p o3) a = some (.lst (bs.map V.int)) := by rw [upd_ne pa.symm]; exact ea
      have k3 : Kp [p] H (upd H' p o3) := kk.trans (Kp.at (by simp))
      refine ⟨rfl, _, rfl, ite2 (fun e => ?_) (fun e => ?_)⟩
      · refine ⟨.ref a, rfl, .inl ⟨rfl, _, sq_at ea3⟩, by show (4 : Nat) ≤ sizeLine; decide, fun l2 nl2 => ?_⟩
        have pl2 : p ≠ l2 := ne_of_none (upd_same : (upd H' p o3) p = some o3) nl2
        have al2 : a ≠ l2 := ne_of_none ea3 nl2
        refine ⟨.ref p, rfl, p, _, 4, o3, rfl, by rw [upd_ne pl2]; exact upd_same, hP3, by omega, by decide, by decide, fun r3 o4 t0 t1 hP4 => ?_⟩
        obtain ⟨v, mv, ev, _⟩ := atI_int (ms := [0, 10, 10, 255]) (i := r3) t0 t1
        have vb : 0 ≤ v ∧ v ≤ 255 := (show ∀ y ∈ ([0, 10, 10, 255] : List Int), 0 ≤ y ∧ y ≤ 255 by decide) v mv
        refine ⟨l2, _, r3, .int v, rfl, rfl, .inl (.inl (by rw [upd_ne pl2.symm, upd_same]; rfl)), ev, a, bs.map V.int, .int v, rfl, rfl, by rw [upd_ne pa.symm, upd_ne al2]; exact ea3, fit, ?_⟩
        refine ⟨bs ++ [v], o4, _, rfl, by rw [upd_same, List.map_append]; rfl, by rw [List.length_append, eb]; rfl, ?_, by rw [upd_ne pa]; exact upd_same, hP4.up (by omega), ((k3.trans (Kp.new nl2)).trans (Kp.at (by simp))).put na⟩
        intro b hb2
        rcases List.mem_append.mp hb2 with hb3 | hb3
        · exact hb b hb3
        · rw [List.mem_singleton.mp hb3]; exact vb
      · refine ⟨.ref a, rfl, .inl ⟨rfl, _, sq_at ea3⟩, .ref p, rfl, p, _, 256, o3, rfl, upd_same, hP3, by omega, by decide, by decide, fun v o4 t0 t1 hP4 => ?_⟩
        refine ⟨a, bs.map V.int, .int v, rfl, rfl, by rw [upd_ne pa.symm]; exact ea3, fit, ?_⟩
        refine ⟨bs ++ [v], o4, _, rfl, by rw [upd_same, List.map_append]; rfl, by rw [List.length_append, eb]; rfl, ?_, by rw [upd_ne pa]; exact upd_same, hP4.up (by omega), (k3.trans (Kp.at (by simp))).put na⟩
        intro b hb2
        rcases List.mem_append.mp hb2 with hb3 | hb3
        · exact hb b hb3
        · rw [List.mem_singleton.mp hb3]; exact ⟨t0, by omega⟩
    · obtain ⟨bs, o2, y, rfl, ea, eb, hb, ep, hP2, kk⟩ := hW
      exact ⟨.ref a, rfl, q H' a bs o2 na ea ep (hP2.up (by omega)) kk ⟨z, zm, by omega⟩ hb⟩


theorem ok_init (T : Tx K mg) : FnOk P w K mg base CX0 1 T.f_init T.fd_init P_init (spPInit K T.C_Plain (PlainAt T.C_Plain)) := by
  have sz : sizeLine = 16777216 := sizeLine_eq
  refine T.D_init.F.ok sc_init (fun vs H Q E h => ?_) (fun cdv A outer s H vs Q E hr h => ?_)
  · obtain ⟨p, a, dx, r, c, rfl, _⟩ := h
    rfl
  · obtain ⟨p, a, dx, r, c, rfl, hp, hd, hA, pa, lr, lc, q⟩ := h
    refine ⟨_, (pss_cons (ps_fld (pv 0) (pe_callTy call_list_of (by rfl) T.m_list (by decide +kernel) (pa_cons (pv 1) pa_nil)) rfl)
      (pss_one (ps_fld (pv 0) (pv 2) rfl))), ?_⟩
    refine ⟨.ref a, rfl, a, _, rfl, .inl hA, fun l nl => ?_⟩
    have pl : p ≠ l := ne_of_none hp nl
    refine ⟨.ref p, rfl, p, T.C_Plain, dx, [], rfl, by rw [upd_ne pl]; exact hp, T.cl_Plain, T.n_Plain_cells, by show 0 < 1000; decide, ?_⟩
    refine ⟨.int c, rfl, .ref p, rfl, p, T.C_Plain, dx, _, rfl, upd_same, T.cl_Plain, T.n_Plain_cursor, by show 1 < 1000; decide, ?_⟩
    rw [pfs_new, upd_upd]
    refine q _ (fun b => b = p ∨ b = l) ⟨dx, l, upd_same, by rw [upd_ne pl.symm]; exact upd_same, fun _ => Iff.rfl⟩ ⟨fun b o nf e => ?_, fun b z => ?_⟩
    · rw [upd_ne (fun z => nf (.inl z)), upd_ne (ne_of_none e nl)]; exact e
    · rcases z with rfl | rfl
      · exact .inl (.inl rfl)
      · exact .inr nl

theorem ok_tell (T : Tx K mg) : FnOk P w K mg base CX0 1 T.f_tell T.fd_tell P_tell (spPTell (PlainAt T.C_Plain)) := by
  have sz : sizeLine = 16777216 := sizeLine_eq
  refine T.D_tell.F.ok sc_tell (fun vs H Q E h => ?_) (fun cdv A outer s H vs Q E hr h => ?_)
  · obtain ⟨p, F, r, c, rfl, _⟩ := h
    rfl
  · obtain ⟨p, F, r, c, rfl, ⟨dx, l, hp, hl, hF⟩, q⟩ := h
    refine ⟨_, (pss_one (ps_ret (pe_fld (pv 0) rfl))), ?_⟩
    exact ⟨.ref p, rfl, p, T.C_Plain, dx, _, _, rfl, hp, T.cl_Plain, T.n_Plain_cursor, pfs_cursor l c, q⟩

theorem ok_size (T : Tx K mg) : FnOk P w K mg base CX0 1 T.f_size T.fd_size P_size (spPSize (PlainAt T.C_Plain)) := by
  have sz : sizeLine = 16777216 := sizeLine_eq
  refine T.D_size.F.ok sc_size (fun vs H Q E h => ?_) (fun cdv A outer s H vs Q E hr h => ?_)
  · obtain ⟨p, F, r, c, rfl, _⟩ := h
    rfl
  · obtain ⟨p, F, r, c, rfl, ⟨dx, l, hp, hl, hF⟩, q⟩ := h
    refine ⟨_, (pss_one (ps_ret (pe_callB call_len_seq (by rfl) T.m_len PySem.boot_len (pa_cons (pe_fld (pv 0) rfl) pa_nil)))), ?_⟩
    refine ⟨.ref p, rfl, p, T.C_Plain, dx, _, _, rfl, hp, T.cl_Plain, T.n_Plain_cells, pfs_cells l c, l, _, rfl, .inl (sq_at hl), ?_⟩
    rw [List.length_map]
    exact q

theorem ok_row (T : Tx K mg) : FnOk P w K mg base CX0 1 T.f_row T.fd_row P_row (spPRow (PlainAt T.C_Plain)) := by
  have sz : sizeLine = 16777216 := sizeLine_eq
  refine T.D_row.F.ok sc_row (fun vs H Q E h => ?_) (fun cdv A outer s H vs Q E hr h => ?_)
  · obtain ⟨p, F, r, c, rfl, _⟩ := h
    rfl
  · obtain ⟨p, F, r, c, rfl, ⟨dx, l, hp, hl, hF⟩, q⟩ := h
    refine ⟨_, (pss_one (ps_ret (pe_callTy call_list_of (by rfl) T.m_list (by decide +kernel) (pa_cons (pe_fld (pv 0) rfl) pa_nil)))), ?_⟩
    exact ⟨.ref p, rfl, p, T.C_Plain, dx, _, _, rfl, hp, T.cl_Plain, T.n_Plain_cells, pfs_cells l c, l, _, rfl, .inl (sq_at hl), fun m nm => q _ m nm upd_same (Kp.new (ps := []) nm).same⟩

theorem ok_ccount (T : Tx K mg) : FnOk P w K mg base CX0 1 T.f_ccount T.fd_ccount P_ccount (spCount) := by
  have sz : sizeLine = 16777216 := sizeLine_eq
  refine T.D_ccount.F.ok sc_ccount (fun vs H Q E h => ?_) (fun cdv A outer s H vs Q E hr h => ?_)
  · obtain ⟨k, rfl, _⟩ := h
    rfl
  · obtain ⟨k, rfl, q⟩ := h
    refine ⟨_, (pss_one (ps_if (PW.pt (pw_and (pt_cmpR op_notN (pv 0) pe_non (nomark _)) (pw_and1 (pt_cmpR op_lt (pv 0) pe_int (nomark _))))) (pss_one ps_never) pss_nil)), ?_⟩
    cases k with
    | none => exact ⟨.non, rfl, rfl, _, rfl, ite2 (fun e => by cases e) (fun _ => q)⟩
    | some n =>
      refine ⟨.int n, rfl, rfl, _, rfl, ite2 (fun _ => ?_) (fun e => ?_)⟩
      · refine ⟨.int n, rfl, _, _, rfl, rfl, _, rfl, ite2 (fun e => ?_) (fun _ => q)⟩
        have e1 : (n : Int) < 0 := of_decide_eq_true e
        omega
      · exact q

theorem ok_ahead (T : Tx K mg) : FnOk P w K mg base CX0 1 T.f_ahead T.fd_ahead P_ahead (spAhead (PlainAt T.C_Plain)) := by
  have sz : sizeLine = 16777216 := sizeLine_eq
  refine T.D_ahead.F.ok sc_ahead (fun vs H Q E h => ?_) (fun cdv A outer s H vs Q E hr h => ?_)
  · obtain ⟨p, F, r, c, rfl, _⟩ := h
    rfl
  · obtain ⟨p, F, r, c, rfl, ⟨dx, l, hp, hl, hF⟩, q⟩ := h
    refine ⟨_, (pss_one (ps_ret (pe_slice sl_list (pe_fld (pv 0) rfl) (po_some (pe_fld (pv 0) rfl)) po_none))), ?_⟩
    refine ⟨.ref p, rfl, p, T.C_Plain, dx, _, _, rfl, hp, T.cl_Plain, T.n_Plain_cells, pfs_cells l c, .ref p, rfl, p, T.C_Plain, dx, _, _, rfl, hp, T.cl_Plain, T.n_Plain_cursor, pfs_cursor l c, _, rfl, l, _, rfl, sq_at hl, fun m nm => ?_⟩
    rw [drop_cut]
    exact q _ m nm upd_same (Kp.new (ps := []) nm).same

theorem ok_passed (T : Tx K mg) : FnOk P w K mg base CX0 1 T.f_passed T.fd_passed P_passed (spPassed (PlainAt T.C_Plain)) := by
  have sz : sizeLine = 16777216 := sizeLine_eq
  refine T.D_passed.F.ok sc_passed (fun vs H Q E h => ?_) (fun cdv A outer s H vs Q E hr h => ?_)
  · obtain ⟨p, t, F, r, xs, c, rfl, _⟩ := h
    rfl
  · obtain ⟨p, t, F, r, xs, c, rfl, ⟨dx, l, hp, hl, hF⟩, nt, et, q⟩ := h
    refine ⟨_, (pss_cons (ps_fldaug (pv 0) (pe_callB call_len_seq (by rfl) T.m_len PySem.boot_len (pa_cons (pv 1) pa_nil)) in_add)
      (pss_one (ps_ret (pv 1)))), ?_⟩
    have pt : p ≠ t := fun z => nt ((hF t).mpr (.inl z.symm))
    have lt : l ≠ t := fun z => nt ((hF t).mpr (.inr z.symm))
    have pl' : l ≠ p := ne_of hl hp (by intro z; cases z)
    refine ⟨.ref p, rfl, p, T.C_Plain, dx, _, _, rfl, hp, T.cl_Plain, T.n_Plain_cursor, pfs_cursor l c, .ref t, rfl, t, _, rfl, .inl (sq_at et), _, _, rfl, rfl, dx, _, hp, pfs_few l c, ?_⟩
    have e2 : (V.int ((c : Int) + ((xs.map V.int).length : Int))) = V.int ((c + xs.length : Nat) : Int) := by rw [List.length_map]; congr 1
    rw [e2, pfs_put_c]
    exact ⟨.ref t, rfl, q _ _ ⟨dx, l, upd_same, by rw [upd_ne pl']; exact hl, fun _ => Iff.rfl⟩ (fun z => z.elim (fun z => pt z.symm) (fun z => lt z.symm)) (by rw [upd_ne pt.symm]; exact et) (own_step hF (Kp.at (by simp)) (.inl rfl))⟩

theorem ok_peek (T : Tx K mg) : FnOk P w K mg base CX0 2 T.f_peek T.fd_peek P_peek (spPPeek (PlainAt T.C_Plain)) := by
  have G_ccount := ok_ccount (P := P) (w := w) (base := base) T
  have G_ahead := ok_ahead (P := P) (w := w) (base := base) T
  have sz : sizeLine = 16777216 := sizeLine_eq
  refine T.D_peek.F.ok sc_peek (fun vs H Q E h => ?_) (fun cdv A outer s H vs Q E hr h => ?_)
  · obtain ⟨p, F, r, c, k, rfl, _⟩ := h
    rfl
  · obtain ⟨p, F, r, c, k, rfl, hPA, q⟩ := h
    refine ⟨_, (pss_cons (ps_expr (pe_call G_ccount (hr.mono (by decide)) (by rfl) T.D_ccount.g T.D_ccount.F.kp T.bb_ccount .nil pass0 (pa_cons (pv 1) pa_nil)))
      (pss_one (ps_ret (pe_slice sl_list (pe_meth0 (pv 0) T.cl_Plain T.D_ahead.m G_ahead (hr.mono (by decide)) T.bb_ahead .nil pass0) po_none (Sip.po_opt (pv 1)))))), ?_⟩
    have hPA' := hPA
    obtain ⟨dx, l, hp, hl, hF⟩ := hPA'
    refine ⟨cntV k, rfl, k, rfl, .ref p, rfl, p, dx, _, rfl, hp, pfs_no l c "ahead" (by decide +kernel), p, F, r, c, rfl, hPA, fun H2 t nt et s2 => ?_⟩
    refine ⟨cntV k, rfl, cntI k, cntV_eq k, t, _, rfl, sq_at et, fun m nm => ?_⟩
    rw [cut_O]
    exact q _ m (s2.free nm) upd_same (s2.trans (Kp.new (ps := []) nm).same)

theorem ok_read (T : Tx K mg) : FnOk P w K mg base CX0 3 T.f_read T.fd_read P_read (spPRead (PlainAt T.C_Plain)) := by
  have G_passed := ok_passed (P := P) (w := w) (base := base) T
  have G_peek := ok_peek (P := P) (w := w) (base := base) T
  have sz : sizeLine = 16777216 := sizeLine_eq
  refine T.D_read.F.ok sc_read (fun vs H Q E h => ?_) (fun cdv A outer s H vs Q E hr h => ?_)
  · obtain ⟨p, F, r, c, k, rfl, _⟩ := h
    rfl
  · obtain ⟨p, F, r, c, k, rfl, hPA, q⟩ := h
    refine ⟨_, (pss_one (ps_ret (pe_meth (pv 0) T.cl_Plain T.D_passed.m G_passed (hr.mono (by decide)) T.bb_passed .nil pass0 (pa_cons (pe_meth (pv 0) T.cl_Plain T.D_peek.m G_peek (hr.mono (by decide)) T.bb_peek .nil pass0 (pa_cons (pv 1) pa_nil)) pa_nil)))), ?_⟩
    have hPA' := hPA
    obtain ⟨dx, l, hp, hl, hF⟩ := hPA'
    refine ⟨.ref p, rfl, p, dx, _, rfl, hp, pfs_no l c "passed" (by decide +kernel), .ref p, rfl, p, dx, _, rfl, hp, pfs_no l c "peek" (by decide +kernel), cntV k, rfl, p, F, r, c, k, rfl, hPA, fun H2 t nt et s2 => ?_⟩
    have hPA2 := (isPlain T.C_Plain).same hPA s2
    exact ⟨p, t, F, r, _, c, rfl, hPA2, (isPlain T.C_Plain).new hPA nt, et, fun H3 F3 hPA3 nt3 et3 st3 => q _ F3 t hPA3 nt nt3 et3 ((Step.of s2).trans st3)⟩

theorem ok_rsome (T : Tx K mg) : FnOk P w K mg base CX0 3 T.f_rsome T.fd_rsome P_rsome (spPRead (PlainAt T.C_Plain)) := by
  have G_passed := ok_passed (P := P) (w := w) (base := base) T
  have G_peek := ok_peek (P := P) (w := w) (base := base) T
  have sz : sizeLine = 16777216 := sizeLine_eq
  refine T.D_rsome.F.ok sc_rsome (fun vs H Q E h => ?_) (fun cdv A outer s H vs Q E hr h => ?_)
  · obtain ⟨p, F, r, c, k, rfl, _⟩ := h
    rfl
  · obtain ⟨p, F, r, c, k, rfl, hPA, q⟩ := h
    refine ⟨_, (pss_one (ps_ret (pe_meth (pv 0) T.cl_Plain T.D_passed.m G_passed (hr.mono (by decide)) T.bb_passed .nil pass0 (pa_cons (pe_meth (pv 0) T.cl_Plain T.D_peek.m G_peek (hr.mono (by decide)) T.bb_peek .nil pass0 (pa_cons (pv 1) pa_nil)) pa_nil)))), ?_⟩
    have hPA' := hPA
    obtain ⟨dx, l, hp, hl, hF⟩ := hPA'
    refine ⟨.ref p, rfl, p, dx, _, rfl, hp, pfs_no l c "passed" (by decide +kernel), .ref p, rfl, p, dx, _, rfl, hp, pfs_no l c "peek" (by decide +kernel), cntV k, rfl, p, F, r, c, k, rfl, hPA, fun H2 t nt et s2 => ?_⟩
    have hPA2 := (isPlain T.C_Plain).same hPA s2
    exact ⟨p, t, F, r, _, c, rfl, hPA2, (isPlain T.C_Plain).new hPA nt, et, fun H3 F3 hPA3 nt3 et3 st3 => q _ F3 t hPA3 nt nt3 et3 ((Step.of s2).trans st3)⟩

theorem ok_fline (T : Tx K mg) : FnOk P w K mg base CX0 1 T.f_fline T.fd_fline P_fline (spFLine K) := by
  have sz : sizeLine = 16777216 := sizeLine_eq
  refine T.D_fline.F.ok sc_fline (fun vs H Q E h => ?_) (fun cdv A outer s H vs Q E hr h => ?_)
  · obtain ⟨a, xs, k, rfl, _⟩ := h
    rfl
  · obtain ⟨a, xs, k, rfl, hA, lx, q⟩ := h
    refine ⟨_, (pss_cons (ps_set (i := 2) sc_fline.nd rfl (.inl rfl) (pe_slice sl_list (pv 0) po_none (Sip.po_opt (pv 1))))
      (pss_cons (ps_if (pt_cmpR op_in_seq (pe_glob (v := .int 10) (by rfl) T.c_LINE_FEED ⟨_, rfl⟩) (pv 2) rfl) (pss_one (ps_ret (pe_slice sl_list (pv 2) po_none (po_some (pe_op op_add (pe_bm PySem.F.plainAttrs_list PySem.F.slot_list_index PySem.F.type_list_index mt_index (pv 2) (pa_cons (pe_glob (v := .int 10) (by rfl) T.c_LINE_FEED ⟨_, rfl⟩) pa_nil)) pe_int))))) pss_nil)
      (pss_one (ps_ret (pv 2))))), ?_⟩
    refine ⟨.ref a, rfl, cntV k, rfl, cntI k, cntV_eq k, a, _, rfl, hA, fun m nm => ?_⟩
    rw [cut_O]
    have s1 : Same H (upd H m (.lst ((takeO k xs).map V.int))) := (Kp.new (ps := []) nm).same
    have lz : (takeO k xs).length ≤ 10000 := Nat.le_trans (takeO_len k xs) lx
    refine ⟨.ref m, rfl, m, _, rfl, .inl sq_new, rfl, flat_ints _, _, rfl, ?_⟩
    rw [show (if false = true then !inV (V.int 10) ((takeO k xs).map V.int) else inV (V.int 10) ((takeO k xs).map V.int)) = decide ((10 : Int) ∈ takeO k xs) from inV_ten _ _]
    refine ite2 (fun e => ?_) (fun e => ?_)
    · have h10 := of_decide_eq_true e
      obtain ⟨i1, i2⟩ := idx_facts h10
      refine ⟨.ref m, rfl, .ref m, rfl, .inl ⟨rfl, _, sq_new⟩, m, _, .int 10, (takeO k xs).idxOf 10, .int 10, rfl, rfl, sq_new, rfl, flat_ints _, i1, by decide +kernel, i2, ?_⟩
      refine ⟨_, _, rfl, rfl, _, rfl, m, _, rfl, sq_new, fun z nz => ?_⟩
      rw [show (((takeO k xs).idxOf 10 : Nat) : Int) + 1 = (((takeO k xs).idxOf 10 + 1 : Nat) : Int) by omega, take_cut]
      exact q _ z (s1.free nz) (by rw [upd_same, ← lineF_O]; rfl) (s1.trans (Kp.new (ps := []) nz).same)
    · have h10 : (10 : Int) ∉ takeO k xs := fun z => e (decide_eq_true z)
      exact ⟨.ref m, rfl, q _ m nm (by rw [upd_same, ← lineF_O, lineF_no h10]) s1⟩

theorem ok_rline (T : Tx K mg) : FnOk P w K mg base CX0 2 T.f_rline T.fd_rline P_rline (spPLine (PlainAt T.C_Plain)) := by
  have G_ccount := ok_ccount (P := P) (w := w) (base := base) T
  have G_passed := ok_passed (P := P) (w := w) (base := base) T
  have G_fline := ok_fline (P := P) (w := w) (base := base) T
  have G_ahead := ok_ahead (P := P) (w := w) (base := base) T
  have sz : sizeLine = 16777216 := sizeLine_eq
  refine T.D_rline.F.ok sc_rline (fun vs H Q E h => ?_) (fun cdv A outer s H vs Q E hr h => ?_)
  · obtain ⟨p, F, r, c, k, rfl, _⟩ := h
    rfl
  · obtain ⟨p, F, r, c, k, rfl, hPA, lr, q⟩ := h
    refine ⟨_, (pss_cons (ps_expr (pe_call G_ccount (hr.mono (by decide)) (by rfl) T.D_ccount.g T.D_ccount.F.kp T.bb_ccount .nil pass0 (pa_cons (pv 1) pa_nil)))
      (pss_one (ps_ret (pe_meth (pv 0) T.cl_Plain T.D_passed.m G_passed (hr.mono (by decide)) T.bb_passed .nil pass0 (pa_cons (pe_call G_fline (hr.mono (by decide)) (by rfl) T.D_fline.g T.D_fline.F.kp T.bb_fline .nil pass0 (pa_cons (pe_meth0 (pv 0) T.cl_Plain T.D_ahead.m G_ahead (hr.mono (by decide)) T.bb_ahead .nil pass0) (pa_cons (pv 1) pa_nil))) pa_nil))))), ?_⟩
    have hPA' := hPA
    obtain ⟨dx, l, hp, hl, hF⟩ := hPA'
    refine ⟨cntV k, rfl, k, rfl, .ref p, rfl, p, dx, _, rfl, hp, pfs_no l c "passed" (by decide +kernel), .ref p, rfl, p, dx, _, rfl, hp, pfs_no l c "ahead" (by decide +kernel), p, F, r, c, rfl, hPA, fun H1 t nt et s1 => ?_⟩
    refine ⟨cntV k, rfl, t, r.drop c, k, rfl, sq_at et, by rw [List.length_drop]; omega, fun H2 z nz ez s2 => ?_⟩
    have s12 := s1.trans s2
    have nz' := s1.free nz
    have hPA2 := (isPlain T.C_Plain).same hPA s12
    exact ⟨p, z, F, r, _, c, rfl, hPA2, (isPlain T.C_Plain).new hPA nz', ez, fun H3 F3 hPA3 nt3 et3 st3 => q _ F3 z hPA3 nz' nt3 et3 ((Step.of s12).trans st3)⟩

theorem ok_place (T : Tx K mg) : FnOk P w K mg base CX0 2 T.f_place T.fd_place P_place (spPlaceL K) := by
  have G_take := ok_take (P := P) (w := w) (base := base) T
  have sz : sizeLine = 16777216 := sizeLine_eq
  refine T.D_place.F.ok sc_place (fun vs H Q E h => ?_) (fun cdv A outer s H vs Q E hr h => ?_)
  · obtain ⟨p, x, n, o, r, rfl, _⟩ := h
    rfl
  · obtain ⟨p, x, n, o, r, rfl, hp, hP, n9, hx, px, lr, q⟩ := h
    refine ⟨_, (pss_cons (ps_set (i := 2) sc_place.nd rfl (.inl rfl) (pe_call G_take (hr.mono (by decide)) (by rfl) T.D_take.g T.D_take.F.kp T.bb_take .nil pass0 (pa_cons (pv 0) (pa_cons pe_int pa_nil))))
      (pss_cons (ps_if (pt_cmpR op_lt (pv 2) pe_int (nomark _)) (pss_one (ps_ret (pe_call G_take (hr.mono (by decide)) (by rfl) T.D_take.g T.D_take.F.kp T.bb_take .nil pass0 (pa_cons (pv 0) (pa_cons (pe_op op_add (pe_callB call_len_seq (by rfl) T.m_len PySem.boot_len (pa_cons (pv 1) pa_nil)) pe_int) pa_nil))))) pss_nil)
      (pss_one (ps_ret (pe_ix ix_list (pe_lst (pa_cons pe_int (pa_cons (pe_callB call_len_seq (by rfl) T.m_len PySem.boot_len (pa_cons (pv 1) pa_nil)) (pa_cons (pe_op op_add (pe_callB call_len_seq (by rfl) T.m_len PySem.boot_len (pa_cons (pv 1) pa_nil)) (pe_call G_take (hr.mono (by decide)) (by rfl) T.D_take.g T.D_take.F.kp T.bb_take .nil pass0 (pa_cons (pv 0) (pa_cons pe_int pa_nil)))) (pa_cons (pe_call G_take (hr.mono (by decide)) (by rfl) T.D_take.g T.D_take.F.kp T.bb_take .nil pass0 (pa_cons (pv 0) (pa_cons pe_int pa_nil))) pa_nil))))) (pe_op op_sub (pv 2) pe_int) (fun _ _ => rfl)))))), ?_⟩
    refine ⟨.ref p, rfl, p, n, 5, o, rfl, hp, hP, by omega, by decide, by decide, fun w o1 w0 w1 hP1 => ?_⟩
    have k1 : Kp [p] H (upd H p o1) := Kp.at (by simp)
    have x1 := k1.seq (by simpa using px.symm) hx
    refine ⟨.int w, rfl, _, _, rfl, rfl, _, rfl, ite2 (fun e => ?_) (fun e => ?_)⟩
    · refine ⟨.ref p, rfl, .ref x, rfl, x, _, rfl, .inl x1, _, _, rfl, rfl, p, _, _, o1, rfl, upd_same, hP1, by omega, by omega, by rw [List.length_map]; omega, fun g o2 g0 g1 hP2 => ?_⟩
      rw [List.length_map] at g1
      obtain ⟨g, rfl⟩ := Int.eq_ofNat_of_zero_le g0
      exact q _ g o2 (by omega) upd_same (hP2.up (by omega)) (k1.trans (Kp.at (by simp)))
    · have w3 : 2 ≤ w := by
        have e1 : ¬ (w < 2) := fun z => e (decide_eq_true z)
        omega
      refine ⟨.ref x, rfl, x, _, rfl, .inl x1, .ref x, rfl, x, _, rfl, .inl x1, .ref p, rfl, p, _, 30, o1, rfl, upd_same, hP1, by omega, by decide, by decide, fun t o2 t0 t1 hP2 => ?_⟩
      have k2 := k1.trans (Kp.at (H := upd H p o1) (o := o2) (by simp : p ∈ [p]))
      refine ⟨_, _, rfl, rfl, .ref p, rfl, p, _, 4001, o2, rfl, upd_same, hP2, by omega, by decide, by decide, fun u o3 u0 u1 hP3 => ?_⟩
      have k3 := k2.trans (Kp.at (H := upd (upd H p o1) p o2) (o := o3) (by simp : p ∈ [p]))
      refine ⟨by show (4 : Nat) ≤ sizeLine; omega, fun l nl => ?_⟩
      obtain ⟨m, mm, em, _⟩ := atI_int (ms := [0, ((r.map V.int).length : Int), ((r.map V.int).length : Int) + t, u]) (i := w - 1) (by omega) (by show w - 1 < 4; omega)
      have mb : 0 ≤ m ∧ m ≤ 4000 := by
        rw [List.length_map] at mm
        simp only [List.mem_cons, List.mem_nil_iff, or_false] at mm
        rcases mm with rfl | rfl | rfl | rfl <;> omega
      obtain ⟨g, rfl⟩ := Int.eq_ofNat_of_zero_le mb.1
      have pl : p ≠ l := ne_of_none upd_same nl
      exact ⟨.int w, rfl, _, _, rfl, rfl, l, _, _, .int g, rfl, rfl, .inl (.inl (by rw [upd_same]; rfl)), em, q _ g o3 (by omega) (by rw [upd_ne pl]; exact upd_same) (hP3.up (by omega)) (k3.trans (Kp.new nl))⟩

theorem ok_count (T : Tx K mg) : FnOk P w K mg base CX0 2 T.f_count T.fd_count P_count (spCountL K) := by
  have G_take := ok_take (P := P) (w := w) (base := base) T
  have sz : sizeLine = 16777216 := sizeLine_eq
  refine T.D_count.F.ok sc_count (fun vs H Q E h => ?_) (fun cdv A outer s H vs Q E hr h => ?_)
  · obtain ⟨p, x, n, o, r, rfl, _⟩ := h
    rfl
  · obtain ⟨p, x, n, o, r, rfl, hp, hP, n9, hx, px, lr, q⟩ := h
    refine ⟨_, (pss_cons (ps_set (i := 2) sc_count.nd rfl (.inl rfl) (pe_call G_take (hr.mono (by decide)) (by rfl) T.D_take.g T.D_take.F.kp T.bb_take .nil pass0 (pa_cons (pv 0) (pa_cons pe_int pa_nil))))
      (pss_cons (ps_if (pt_cmpR op_lt (pv 2) pe_int (nomark _)) (pss_one (ps_ret (pe_call G_take (hr.mono (by decide)) (by rfl) T.D_take.g T.D_take.F.kp T.bb_take .nil pass0 (pa_cons (pv 0) (pa_cons pe_int pa_nil))))) pss_nil)
      (pss_one (ps_ret (pe_ix ix_list (pe_lst (pa_cons pe_int (pa_cons pe_int (pa_cons (pe_op op_add (pe_callB call_len_seq (by rfl) T.m_len PySem.boot_len (pa_cons (pv 1) pa_nil)) (pe_call G_take (hr.mono (by decide)) (by rfl) T.D_take.g T.D_take.F.kp T.bb_take .nil pass0 (pa_cons (pv 0) (pa_cons pe_int pa_nil)))) (pa_cons (pe_op op_pow pe_int pe_int) (pa_cons pe_int pa_nil)))))) (pe_op op_sub (pv 2) pe_int) (fun _ _ => rfl)))))), ?_⟩
    refine ⟨.ref p, rfl, p, n, 6, o, rfl, hp, hP, by omega, by decide, by decide, fun w o1 w0 w1 hP1 => ?_⟩
    have k1 : Kp [p] H (upd H p o1) := Kp.at (by simp)
    have x1 := k1.seq (by simpa using px.symm) hx
    refine ⟨.int w, rfl, _, _, rfl, rfl, _, rfl, ite2 (fun e => ?_) (fun e => ?_)⟩
    · refine ⟨.ref p, rfl, p, _, 10, o1, rfl, upd_same, hP1, by omega, by decide, by decide, fun g o2 g0 g1 hP2 => ?_⟩
      obtain ⟨g, rfl⟩ := Int.eq_ofNat_of_zero_le g0
      exact q _ g o2 upd_same (hP2.up (by omega)) (k1.trans (Kp.at (by simp)))
    · have w3 : 2 ≤ w := by
        have e1 : ¬ (w < 2) := fun z => e (decide_eq_true z)
        omega
      refine ⟨.ref x, rfl, x, _, rfl, .inl x1, .ref p, rfl, p, _, 3, o1, rfl, upd_same, hP1, by omega, by decide, by decide, fun t o2 t0 t1 hP2 => ?_⟩
      have k2 := k1.trans (Kp.at (H := upd H p o1) (o := o2) (by simp : p ∈ [p]))
      refine ⟨_, _, rfl, rfl, ?_⟩
      refine ⟨_, _, rfl, rfl, cpow_10_9, by show (5 : Nat) ≤ sizeLine; omega, fun l nl => ?_⟩
      obtain ⟨m, mm, em, _⟩ := atI_int (ms := [0, 1, ((r.map V.int).length : Int) + t, 1000000000, 2]) (i := w - 1) (by omega) (by show w - 1 < 5; omega)
      have mb : 0 ≤ m := by
        rw [List.length_map] at mm
        simp only [List.mem_cons, List.mem_nil_iff, or_false] at mm
        rcases mm with rfl | rfl | rfl | rfl | rfl <;> omega
      obtain ⟨g, rfl⟩ := Int.eq_ofNat_of_zero_le mb
      have pl : p ≠ l := ne_of_none upd_same nl
      exact ⟨.int w, rfl, _, _, rfl, rfl, l, _, _, .int g, rfl, rfl, .inl (.inl (by rw [upd_same]; rfl)), em, q _ g o2 (by rw [upd_ne pl]; exact upd_same) (hP2.up (by omega)) (k2.trans (Kp.new nl))⟩

theorem ok_lread (T : Tx K mg) : FnOk P w K mg base CX0 4 T.f_lread T.fd_lread P_lread (spLRead (PlainAt T.C_Plain)) := by
  have G_rline := ok_rline (P := P) (w := w) (base := base) T
  have G_read := ok_read (P := P) (w := w) (base := base) T
  have G_rsome := ok_rsome (P := P) (w := w) (base := base) T
  have G_peek := ok_peek (P := P) (w := w) (base := base) T
  have sz : sizeLine = 16777216 := sizeLine_eq
  refine T.D_lread.F.ok sc_lread (fun vs H Q E h => ?_) (fun cdv A outer s H vs Q E hr h => ?_)
  · obtain ⟨p, F, r, c, m, w, rfl, _⟩ := h
    rfl
  · obtain ⟨p, F, r, c, m, w, rfl, w0, w8, hPA, lr, q⟩ := h
    refine ⟨_, (pss_cons (ps_if (pt_cmpR op_eq (pv 1) pe_int (nomark _)) (pss_one (ps_ret (pe_meth (pv 0) T.cl_Plain T.D_read.m G_read (hr.mono (by decide)) T.bb_read .nil pass0 (pa_cons (pv 2) pa_nil)))) pss_nil)
      (pss_cons (ps_if (pt_cmpR op_eq (pv 1) pe_int (nomark _)) (pss_one (ps_ret (pe_meth0 (pv 0) T.cl_Plain T.D_read.m G_read (hr.mono (by decide)) T.b_read_0 T.v_read_0 pass0))) pss_nil)
      (pss_cons (ps_if (pt_cmpR op_eq (pv 1) pe_int (nomark _)) (pss_one (ps_ret (pe_meth (pv 0) T.cl_Plain T.D_read.m G_read (hr.mono (by decide)) T.bb_read .nil pass0 (pa_cons pe_non pa_nil)))) pss_nil)
      (pss_cons (ps_if (pt_cmpR op_eq (pv 1) pe_int (nomark _)) (pss_one (ps_ret (pe_meth (pv 0) T.cl_Plain T.D_rsome.m G_rsome (hr.mono (by decide)) T.bb_rsome .nil pass0 (pa_cons (pv 2) pa_nil)))) pss_nil)
      (pss_cons (ps_if (pt_cmpR op_eq (pv 1) pe_int (nomark _)) (pss_one (ps_ret (pe_meth (pv 0) T.cl_Plain T.D_peek.m G_peek (hr.mono (by decide)) T.bb_peek .nil pass0 (pa_cons (pv 2) pa_nil)))) pss_nil)
      (pss_cons (ps_if (pt_cmpR op_eq (pv 1) pe_int (nomark _)) (pss_one (ps_ret (pe_meth0 (pv 0) T.cl_Plain T.D_peek.m G_peek (hr.mono (by decide)) T.b_peek_0 T.v_peek_0 pass0))) pss_nil)
      (pss_cons (ps_if (pt_cmpR op_eq (pv 1) pe_int (nomark _)) (pss_one (ps_ret (pe_meth (pv 0) T.cl_Plain T.D_rline.m G_rline (hr.mono (by decide)) T.bb_rline .nil pass0 (pa_cons (pv 2) pa_nil)))) pss_nil)
      (pss_cons (ps_if (pt_cmpR op_eq (pv 1) pe_int (nomark _)) (pss_one (ps_ret (pe_meth0 (pv 0) T.cl_Plain T.D_rline.m G_rline (hr.mono (by decide)) T.b_rline_0 T.v_rline_0 pass0))) pss_nil)
      (pss_one (ps_ret (pe_meth (pv 0) T.cl_Plain T.D_rline.m G_rline (hr.mono (by decide)) T.bb_rline .nil pass0 (pa_cons pe_non pa_nil)))))))))))), ?_⟩
    obtain ⟨dx, fs, hi, no⟩ := (isPlain T.C_Plain).ins hPA
    refine ⟨.int w, rfl, rfl, _, rfl, ite2 (fun e => ?_) (fun e0 => ?_)⟩
    · have ew : w = 0 := V.int.inj (of_decide_eq_true e)
      subst ew
      exact ⟨.ref p, rfl, p, dx, fs, rfl, hi, no "read" (by decide +kernel), .int m, rfl, p, F, r, c, some m, rfl, hPA, fun H2 F2 t h2 nt nF et st => q _ F2 t h2 nt nF et st⟩
    · have n0 : w ≠ 0 := fun z => e0 (decide_eq_true (by rw [z]))
      refine ⟨.int w, rfl, rfl, _, rfl, ite2 (fun e => ?_) (fun e1 => ?_)⟩
      · have ew : w = 1 := V.int.inj (of_decide_eq_true e)
        subst ew
        exact ⟨.ref p, rfl, p, dx, fs, rfl, hi, no "read" (by decide +kernel), p, F, r, c, none, rfl, hPA, fun H2 F2 t h2 nt nF et st => q _ F2 t h2 nt nF et st⟩
      · have n1 : w ≠ 1 := fun z => e1 (decide_eq_true (by rw [z]))
        refine ⟨.int w, rfl, rfl, _, rfl, ite2 (fun e => ?_) (fun e2 => ?_)⟩
        · have ew : w = 2 := V.int.inj (of_decide_eq_true e)
          subst ew
          exact ⟨.ref p, rfl, p, dx, fs, rfl, hi, no "read" (by decide +kernel), p, F, r, c, none, rfl, hPA, fun H2 F2 t h2 nt nF et st => q _ F2 t h2 nt nF et st⟩
        · have n2 : w ≠ 2 := fun z => e2 (decide_eq_true (by rw [z]))
          refine ⟨.int w, rfl, rfl, _, rfl, ite2 (fun e => ?_) (fun e3 => ?_)⟩
          · have ew : w = 3 := V.int.inj (of_decide_eq_true e)
            subst ew
            exact ⟨.ref p, rfl, p, dx, fs, rfl, hi, no "read_some" (by decide +kernel), .int m, rfl, p, F, r, c, some m, rfl, hPA, fun H2 F2 t h2 nt nF et st => q _ F2 t h2 nt nF et st⟩
          · have n3 : w ≠ 3 := fun z => e3 (decide_eq_true (by rw [z]))
            refine ⟨.int w, rfl, rfl, _, rfl, ite2 (fun e => ?_) (fun e4 => ?_)⟩
            · have ew : w = 4 := V.int.inj (of_decide_eq_true e)
              subst ew
              refine ⟨.ref p, rfl, p, dx, fs, rfl, hi, no "peek" (by decide +kernel), .int m, rfl, p, F, r, c, some m, rfl, hPA, fun H2 t nt et s2 => ?_⟩
              exact q _ F t ((isPlain T.C_Plain).same hPA s2) nt ((isPlain T.C_Plain).new hPA nt) et (Step.of s2)
            · have n4 : w ≠ 4 := fun z => e4 (decide_eq_true (by rw [z]))
              refine ⟨.int w, rfl, rfl, _, rfl, ite2 (fun e => ?_) (fun e5 => ?_)⟩
              · have ew : w = 5 := V.int.inj (of_decide_eq_true e)
                subst ew
                refine ⟨.ref p, rfl, p, dx, fs, rfl, hi, no "peek" (by decide +kernel), p, F, r, c, some 1, rfl, hPA, fun H2 t nt et s2 => ?_⟩
                exact q _ F t ((isPlain T.C_Plain).same hPA s2) nt ((isPlain T.C_Plain).new hPA nt) et (Step.of s2)
              · have n5 : w ≠ 5 := fun z => e5 (decide_eq_true (by rw [z]))
                refine ⟨.int w, rfl, rfl, _, rfl, ite2 (fun e => ?_) (fun e6 => ?_)⟩
                · have ew : w = 6 := V.int.inj (of_decide_eq_true e)
                  subst ew
                  exact ⟨.ref p, rfl, p, dx, fs, rfl, hi, no "readline" (by decide +kernel), .int m, rfl, p, F, r, c, some m, rfl, hPA, by omega, fun H2 F2 t h2 nt nF et st => q _ F2 t h2 nt nF et st⟩
                · have n6 : w ≠ 6 := fun z => e6 (decide_eq_true (by rw [z]))
                  refine ⟨.int w, rfl, rfl, _, rfl, ite2 (fun e => ?_) (fun e7 => ?_)⟩
                  · have ew : w = 7 := V.int.inj (of_decide_eq_true e)
                    subst ew
                    exact ⟨.ref p, rfl, p, dx, fs, rfl, hi, no "readline" (by decide +kernel), p, F, r, c, none, rfl, hPA, by omega, fun H2 F2 t h2 nt nF et st => q _ F2 t h2 nt nF et st⟩
                  · have n7 : w ≠ 7 := fun z => e7 (decide_eq_true (by rw [z]))
                    have ew : w = 8 := by omega
                    subst ew
                    exact ⟨.ref p, rfl, p, dx, fs, rfl, hi, no "readline" (by decide +kernel), p, F, r, c, none, rfl, hPA, by omega, fun H2 F2 t h2 nt nF et st => q _ F2 t h2 nt nF et st⟩

theorem ok_due (T : Tx K mg) : FnOk P w K mg base CX0 1 T.f_due T.fd_due P_due (spDueL K) := by
  have sz : sizeLine = 16777216 := sizeLine_eq
  refine T.D_due.F.ok sc_due (fun vs H Q E h => ?_) (fun cdv A outer s H vs Q E hr h => ?_)
  · obtain ⟨x, r, c, m, w, rfl, _⟩ := h
    rfl
  · obtain ⟨x, r, c, m, w, rfl, w0, w8, hx, lr, q⟩ := h
    refine ⟨_, (pss_cons (ps_set (i := 4) sc_due.nd rfl (.inl rfl) (pe_slice sl_list (pv 0) (po_some (pv 1)) po_none))
      (C8.pss_cut (ps_if (PW.pt (pw_and (pt_cmpR op_gt (pv 2) pe_int (nomark _)) (pw_and1 (pt_cmpR op_in_seq pe_int (pv 4) rfl)))) (pss_one (ps_set (i := 4) sc_due.nd rfl (.inl rfl) (pe_slice sl_list (pv 4) po_none (po_some (pe_op op_add (pe_bm PySem.F.plainAttrs_list PySem.F.slot_list_index PySem.F.type_list_index mt_index (pv 4) (pa_cons pe_int pa_nil)) pe_int))))) pss_nil)
      (pss_cons (ps_if (pt_cmpR op_eq (pv 2) pe_int (nomark _)) (pss_one (ps_ret (pe_slice sl_list (pv 4) po_none (po_some pe_int)))) pss_nil)
      (pss_cons (ps_if (pt_cmpR op_in_seq (pv 2) (pe_tup (pa_cons pe_int (pa_cons pe_int (pa_cons pe_int (pa_cons pe_int pa_nil))))) rfl) (pss_one (ps_ret (pe_slice sl_list (pv 4) po_none (po_some (pv 3))))) pss_nil)
      (pss_one (ps_ret (pv 4))))))), ?_⟩
    refine ⟨.ref x, rfl, .int c, rfl, _, rfl, x, _, rfl, hx, fun t nt => ?_⟩
    rw [drop_cut]
    have s1 : Same H (upd H t (.lst ((r.drop c).map V.int))) := (Kp.new (ps := []) nt).same
    generalize eX : r.drop c = xs at *
    have lx : xs.length ≤ 400 := by rw [← eX, List.length_drop]; omega
    refine ⟨fun σ' H' => ∃ (u : Addr) (ys : List Int), σ' = [some (.ref x), some (.int c), some (.int w), some (.int m), some (.ref u)] ∧ ys = (if 5 < w then lineF xs else xs) ∧ H' u = some (.lst (ys.map V.int)) ∧ H u = none ∧ Same H H', ?_, fun σ' H' hm => ?_⟩
    · refine ⟨.int w, rfl, _, _, rfl, rfl, _, rfl, ite2 (fun e5 => ?_) (fun e5 => ?_)⟩
      · have w5 : 5 < w := of_decide_eq_true e5
        refine ⟨.ref t, rfl, t, _, rfl, .inl sq_new, rfl, flat_ints _, _, rfl, ?_⟩
        rw [show (if false = true then !inV (V.int 10) (xs.map V.int) else inV (V.int 10) (xs.map V.int)) = decide ((10 : Int) ∈ xs) from inV_ten _ _]
        refine ite2 (fun e => ?_) (fun e => ?_)
        · have h10 := of_decide_eq_true e
          obtain ⟨i1, i2⟩ := idx_facts h10
          refine ⟨.ref t, rfl, .ref t, rfl, .inl ⟨rfl, _, sq_new⟩, t, _, .int 10, xs.idxOf 10, .int 10, rfl, rfl, sq_new, rfl, flat_ints _, i1, by decide +kernel, i2, ?_⟩
          refine ⟨_, _, rfl, rfl, _, rfl, t, _, rfl, sq_new, fun z nz => ?_⟩
          rw [show ((xs.idxOf 10 : Nat) : Int) + 1 = ((xs.idxOf 10 + 1 : Nat) : Int) by omega, take_cut]
          exact ⟨z, lineF xs, rfl, by rw [if_pos w5], by rw [upd_same]; rfl, s1.free nz, s1.trans (Kp.new (ps := []) nz).same⟩
        · have h10 : (10 : Int) ∉ xs := fun z => e (decide_eq_true z)
          exact ⟨t, xs, rfl, by rw [if_pos w5, lineF_no h10], upd_same, nt, s1⟩
      · have w5 : ¬ (5 < w) := fun z => e5 (decide_eq_true z)
        exact ⟨t, xs, rfl, by rw [if_neg w5], upd_same, nt, s1⟩
    · obtain ⟨u, ys, rfl, ey, eu, nu, s2⟩ := hm
      refine ⟨.int w, rfl, rfl, _, rfl, ite2 (fun e => ?_) (fun e => ?_)⟩
      · have ew : w = 5 := V.int.inj (of_decide_eq_true e)
        subst ew
        refine ⟨.ref u, rfl, _, rfl, u, _, rfl, sq_at eu, fun z nz => ?_⟩
        rw [show (1 : Int) = ((1 : Nat) : Int) from rfl, take_cut]
        rw [if_neg (by omega)] at ey
        subst ey
        exact q _ z (s2.free nz) (by rw [upd_same]; rfl) (s2.trans (Kp.new (ps := []) nz).same)
      · have w5 : w ≠ 5 := fun z => e (decide_eq_true (by rw [z]))
        refine ⟨.int w, rfl, by show (4 : Nat) ≤ sizeLine; omega, fun T4 nT4 => ?_⟩
        have s3 := s2.trans (Kp.new (ps := []) (o := HO.tup [.int 0, .int 3, .int 4, .int 6]) nT4).same
        have eu3 := (Kp.new (ps := []) (o := HO.tup [.int 0, .int 3, .int 4, .int 6]) nT4).same _ _ eu
        refine ⟨T4, _, rfl, .inr (.inl (.inl upd_same)), rfl, rfl, _, rfl, ?_⟩
        rw [show (if false = true then !inV (V.int w) [.int 0, .int 3, .int 4, .int 6] else inV (V.int w) [.int 0, .int 3, .int 4, .int 6]) = decide (w = 0 ∨ w = 3 ∨ w = 4 ∨ w = 6) from inV4 w]
        refine ite2 (fun e2 => ?_) (fun e2 => ?_)
        · have ew := of_decide_eq_true e2
          refine ⟨.ref u, rfl, .int m, rfl, _, rfl, u, _, rfl, sq_at eu3, fun z nz => ?_⟩
          rw [take_cut]
          refine q _ z (s3.free nz) ?_ (s3.trans (Kp.new (ps := []) nz).same)
          rw [upd_same, ey]
          unfold dueF
          rw [if_neg w5]
          by_cases h : w = 0 ∨ w = 3 ∨ w = 4
          · rw [if_pos h, if_neg (by omega)]; rfl
          · rw [if_neg h, if_pos (by omega), if_pos (by omega)]; rfl
        · have ew : ¬ (w = 0 ∨ w = 3 ∨ w = 4 ∨ w = 6) := fun z => e2 (decide_eq_true z)
          refine ⟨.ref u, rfl, q _ u nu ?_ s3⟩
          rw [eu3, ey]
          unfold dueF
          rw [if_neg w5, if_neg (show ¬ (w = 0 ∨ w = 3 ∨ w = 4) by omega), if_neg (show ¬ (w = 6) by omega)]

theorem ok_asked (T : Tx K mg) : FnOk P w K mg base CX0 5 T.f_asked T.fd_asked P_asked (spAskedL (PlainAt T.C_Plain)) := by
  have G_take := ok_take (P := P) (w := w) (base := base) T
  have G_count := ok_count (P := P) (w := w) (base := base) T
  have G_due := ok_due (P := P) (w := w) (base := base) T
  have G_lread := ok_lread (P := P) (w := w) (base := base) T
  have G_fits := ok_fits (P := P) (w := w) (base := base) T
  have G_row := ok_row (P := P) (w := w) (base := base) T
  have G_size := ok_size (P := P) (w := w) (base := base) T
  have G_tell := ok_tell (P := P) (w := w) (base := base) T
  have sz : sizeLine = 16777216 := sizeLine_eq
  refine T.D_asked.F.ok sc_asked (fun vs H Q E h => ?_) (fun cdv A outer s H vs Q E hr h => ?_)
  · obtain ⟨p, f, x, F, n, o, r, c, rfl, _⟩ := h
    rfl
  · obtain ⟨p, f, x, F, n, o, r, c, rfl, hp, hP, n9, hPA, hx, nFx, nFp, px, lr, q⟩ := h
    refine ⟨_, (pss_cons (ps_for PassesOwn.never rfl (pi_range1 (by rfl) T.m_range (pa_cons pe_int pa_nil)) (pg_name (i := 4) sc_asked.nd rfl (.inl rfl)) (pss_cons (ps_set (i := 5) sc_asked.nd rfl (.inl rfl) (pe_call G_take (hr.mono (by decide)) (by rfl) T.D_take.g T.D_take.F.kp T.bb_take .nil pass0 (pa_cons (pv 0) (pa_cons pe_int pa_nil))))
      (pss_cons (ps_set (i := 6) sc_asked.nd rfl (.inl rfl) (pe_call G_count (hr.mono (by decide)) (by rfl) T.D_count.g T.D_count.F.kp T.bb_count .nil pass0 (pa_cons (pv 0) (pa_cons (pv 2) pa_nil))))
      (pss_cons (ps_set (i := 7) sc_asked.nd rfl (.inl rfl) (pe_call G_due (hr.mono (by decide)) (by rfl) T.D_due.g T.D_due.F.kp T.bb_due .nil pass0 (pa_cons (pv 2) (pa_cons (pv 3) (pa_cons (pv 5) (pa_cons (pv 6) pa_nil))))))
      (pss_cons (ps_set (i := 8) sc_asked.nd rfl (.inl rfl) (pe_call G_lread (hr.mono (by decide)) (by rfl) T.D_lread.g T.D_lread.F.kp T.bb_lread .nil pass0 (pa_cons (pv 1) (pa_cons (pv 5) (pa_cons (pv 6) pa_nil)))))
      (pss_cons (ps_if (pt_not (pt_val (pe_call G_fits (hr.mono (by decide)) (by rfl) T.D_fits.g T.D_fits.F.kp T.bb_fits .nil pass0 (pa_cons (pv 8) (pa_cons (pv 7) pa_nil))))) (pss_one (ps_ret pe_bl)) pss_nil)
      (pss_cons (ps_expr (pe_bm PySem.F.plainAttrs_list PySem.F.slot_list_append PySem.F.type_list_append mt_append (pv 8) (pa_cons pe_int pa_nil)))
      (C8.pss_cut (ps_if (pt_cmpR op_notIn_seq (pv 5) (pe_tup (pa_cons pe_int (pa_cons pe_int pa_nil))) rfl) (pss_one (ps_set (i := 3) sc_asked.nd rfl (.inl rfl) (pe_op op_add (pv 3) (pe_callB call_len_seq (by rfl) T.m_len PySem.boot_len (pa_cons (pv 7) pa_nil))))) pss_nil)
      (pss_cons (ps_if (PW.pt (pw_or (pt_cmpR op_ne (pe_meth0 (pv 1) T.cl_Plain T.D_tell.m G_tell (hr.mono (by decide)) T.bb_tell .nil pass0) (pv 3) (nomark _)) (pw_or1 (pt_not (pt_val (pe_call G_fits (hr.mono (by decide)) (by rfl) T.D_fits.g T.D_fits.F.kp T.bb_fits .nil pass0 (pa_cons (pe_meth0 (pv 1) T.cl_Plain T.D_row.m G_row (hr.mono (by decide)) T.bb_row .nil pass0) (pa_cons (pv 2) pa_nil)))))))) (pss_one (ps_ret pe_bl)) pss_nil)
      (pss_one (ps_expr (pe_bm PySem.F.plainAttrs_list PySem.F.slot_list_append PySem.F.type_list_append mt_append (pe_meth0 (pv 1) T.cl_Plain T.D_row.m G_row (hr.mono (by decide)) T.bb_row .nil pass0) (pa_cons pe_int pa_nil)))))))))))))
      (pss_one (ps_ret (pe_and (pe_call G_fits (hr.mono (by decide)) (by rfl) T.D_fits.g T.D_fits.F.kp T.bb_fits .nil pass0 (pa_cons (pe_meth0 (pv 1) T.cl_Plain T.D_row.m G_row (hr.mono (by decide)) T.bb_row .nil pass0) (pa_cons (pv 2) pa_nil))) (pe_one (pe_cmpR op_eq (pe_meth0 (pv 1) T.cl_Plain T.D_size.m G_size (hr.mono (by decide)) T.bb_size .nil pass0) (pe_callB call_len_seq (by rfl) T.m_len PySem.boot_len (pa_cons (pv 2) pa_nil)) (nomark _))))))), ?_⟩
    refine ⟨_, rfl, by decide, by decide, ?_⟩
    refine for_range (lo := 0) (n := 2) (fun i σ H' => ∃ (F' : Addr → Prop) (c : Nat) (o : HO) (y4 y5 y6 y7 y8 : Option V), σ = [some (.ref p), some (.ref f), some (.ref x), some (.int c), y4, y5, y6, y7, y8] ∧ (PlainAt T.C_Plain) H' f F' r c ∧ H' p = some o ∧ PoolO (n + 3 * i) o ∧ ¬ F' p ∧ ∀ b o, ¬ F b → b ≠ p → H b = some o → H' b = some o ∧ ¬ F' b) ⟨F, c, o, none, none, none, none, none, rfl, hPA, hp, hP.up (by omega), nFp, fun b o n1 n2 e => ⟨e, n1⟩⟩ (fun i σ H' hi hW => ?_) (fun σ H' hW => ?_)
    · obtain ⟨F, c, o, y4, y5, y6, y7, y8, rfl, hPA, hp, hP, nFp, keep⟩ := hW
      obtain ⟨hx, nFx⟩ := keep x _ nFx px.symm hx
      refine ⟨.ref p, rfl, p, _, 9, o, rfl, hp, hP, by omega, by decide, by decide, fun w o1 w0 w1 hP1 => ?_⟩
      have k1 : Kp [p] H' (upd H' p o1) := Kp.at (by simp)
      have x1 := k1 _ _ (by simpa using px.symm) hx
      refine ⟨.ref p, rfl, .ref x, rfl, p, x, _, o1, r, rfl, upd_same, hP1, by omega, sq_at x1, px, lr, fun H1 m o2 p2 hP2 k2 => ?_⟩
      have k12 := k1.trans k2
      have x2 := k12 _ _ (by simpa using px.symm) hx
      have hPA1 : (PlainAt T.C_Plain) H1 f F r c := (isPlain T.C_Plain).kp hPA k12 (fun z hz => by rw [List.mem_singleton.mp hz]; exact nFp)
      refine ⟨.ref x, rfl, .int c, rfl, .int w, rfl, .int m, rfl, x, r, c, m, w, rfl, w0, by omega, sq_at x2, lr, fun H2 d nd ed s2 => ?_⟩
      have hPA2 := (isPlain T.C_Plain).same hPA1 s2
      have nFd : ¬ F d := (isPlain T.C_Plain).new hPA1 nd
      have pd : p ≠ d := ne_of_none p2 nd
      refine ⟨.ref f, rfl, .int w, rfl, .int m, rfl, f, F, r, c, m, w, rfl, w0, by omega, hPA2, lr, fun H3 F3 t hPA3 nt nFt et st3 => ?_⟩
      obtain ⟨d3, nFd3⟩ := st3.keep nFd ed
      obtain ⟨x3, nFx3⟩ := st3.keep nFx (s2 _ _ x2)
      obtain ⟨p3, nFp3⟩ := st3.keep nFp (s2 _ _ p2)
      have pt : p ≠ t := ne_of_none (s2 _ _ p2) nt
      have xt : x ≠ t := ne_of_none (s2 _ _ x2) nt
      have dt : d ≠ t := ne_of_none ed nt
      have lx : (dueF (r.drop c) w m).length ≤ 400 := Nat.le_trans (dueF_len _ _ _) (by rw [List.length_drop]; omega)
      generalize dueF (r.drop c) w m = ys at *
      refine ⟨.ref t, rfl, .ref d, rfl, t, d, ys, ys, rfl, et, sq_at d3, by omega, fun H4 s4 => ⟨_, rfl, iteFc (by simp) ?_⟩⟩
      have t4 := s4 _ _ et
      refine ⟨.ref t, rfl, .inl ⟨rfl, _, sq_at t4⟩, t, ys.map V.int, .int 1, rfl, rfl, t4, by rw [List.length_map]; omega, ?_⟩
      have k5 : Kp [t] H4 (upd H4 t (.lst (ys.map V.int ++ [.int 1]))) := Kp.at (by simp)
      generalize upd H4 t (.lst (ys.map V.int ++ [.int 1])) = H5 at k5 ⊢
      have hPA5 := (isPlain T.C_Plain).kp ((isPlain T.C_Plain).same hPA3 s4) k5 (fun z hz => by rw [List.mem_singleton.mp hz]; exact nFt)
      have x5 := k5 _ _ (by simpa using xt) (s4 _ _ x3)
      have p5 := k5 _ _ (by simpa using pt) (s4 _ _ p3)
      have d5 := k5 _ _ (by simpa using dt) (s4 _ _ d3)
      have kp5 : ∀ b o, ¬ F b → b ≠ p → H' b = some o → H5 b = some o ∧ ¬ F3 b := fun b o n1 n2 e => by
        have e1 := k12 b o (by simpa using n2) e
        obtain ⟨e3, n3⟩ := st3.keep n1 (s2 _ _ e1)
        exact ⟨k5 b o (by simpa using ne_of_none (s2 _ _ e1) nt) (s4 _ _ e3), n3⟩
      refine ⟨fun σ' H' => σ' = [some (.ref p), some (.ref f), some (.ref x), some (.int (afterF w c ys.length : Nat)), some (.int (0 + (i : Int))), some (.int w), some (.int m), some (.ref d), some (.ref t)] ∧ Same H5 H', ?_, fun σ' H6 hm => ?_⟩
      · refine ⟨.int w, rfl, by show (2 : Nat) ≤ sizeLine; omega, fun T2 nT2 => ?_⟩
        have s6 := (Kp.new (ps := []) (o := HO.tup [.int 4, .int 5]) nT2).same
        refine ⟨T2, _, rfl, .inr (.inl (.inl upd_same)), rfl, rfl, _, rfl, ?_⟩
        rw [show (if true = true then !inV (V.int w) [.int 4, .int 5] else inV (V.int w) [.int 4, .int 5]) = !decide (w = 4 ∨ w = 5) from congrArg (fun b => !b) (inV2 w)]
        by_cases h : w = 4 ∨ w = 5
        · rw [decide_eq_true h]
          refine iteF ⟨?_, s6⟩
          unfold afterF; rw [if_pos h]; rfl
        · rw [decide_eq_false h]
          refine iteT ⟨.int c, rfl, .ref d, rfl, d, _, rfl, .inl (sq_at (s6 _ _ d5)), _, _, rfl, rfl, ?_, s6⟩
          unfold afterF; rw [if_neg h, List.length_map]; rfl
      · obtain ⟨rfl, s6⟩ := hm
        generalize afterF w c ys.length = c' at *
        have hPA6 := (isPlain T.C_Plain).same hPA5 s6
        obtain ⟨dx, fs, hi6, no6⟩ := (isPlain T.C_Plain).ins hPA6
        refine ⟨.ref f, rfl, f, dx, fs, rfl, hi6, no6 "tell" (by decide +kernel), f, F3, r, c', rfl, hPA6, .int c', rfl, rfl, _, rfl, iteNS rfl ?_⟩
        refine ⟨.ref f, rfl, f, dx, fs, rfl, hi6, no6 "row" (by decide +kernel), f, F3, r, c', rfl, hPA6, fun H7 z nz ez s7 => ?_⟩
        refine ⟨.ref x, rfl, z, x, r, r, rfl, ez, sq_at (s7 _ _ (s6 _ _ x5)), by omega, fun H8 s8 => ⟨_, rfl, iteFc (by simp) ?_⟩⟩
        have s68 := (s6.trans s7).trans s8
        have hPA8 := (isPlain T.C_Plain).same hPA5 s68
        obtain ⟨dx, fs, hi8, no8⟩ := (isPlain T.C_Plain).ins hPA8
        refine ⟨.ref f, rfl, f, dx, fs, rfl, hi8, no8 "row" (by decide +kernel), f, F3, r, c', rfl, hPA8, fun H9 z nz ez s9 => ?_⟩
        refine ⟨.inl ⟨rfl, _, sq_at ez⟩, z, r.map V.int, .int 2, rfl, rfl, ez, by rw [List.length_map]; omega, ?_⟩
        have k10 : Kp [z] H9 (upd H9 z (.lst (r.map V.int ++ [.int 2]))) := Kp.at (by simp)
        have nFz := (isPlain T.C_Plain).new hPA8 nz
        have s510 : Same H5 (upd H9 z (.lst (r.map V.int ++ [.int 2]))) := put_same (s68.trans s9) (s68.free nz)
        exact ⟨F3, c', o2, _, _, _, _, _, rfl, (isPlain T.C_Plain).same hPA5 s510, s510 _ _ p5, hP2.up (by omega), nFp3, fun b o n1 n2 e => by
          obtain ⟨e0, n0⟩ := keep b o n1 n2 e
          obtain ⟨e5, n5⟩ := kp5 b o n0 n2 e0
          exact ⟨s510 _ _ e5, n5⟩⟩
    · obtain ⟨F, c, o, y4, y5, y6, y7, y8, rfl, hPA, hp, hP, nFp, keep⟩ := hW
      obtain ⟨hx, nFx⟩ := keep x _ nFx px.symm hx
      obtain ⟨dx, fs, hi6, no6⟩ := (isPlain T.C_Plain).ins hPA
      refine ⟨.ref f, rfl, f, dx, fs, rfl, hi6, no6 "row" (by decide +kernel), f, F, r, c, rfl, hPA, fun H7 z nz ez s7 => ?_⟩
      refine ⟨.ref x, rfl, z, x, r, r, rfl, ez, sq_at (s7 _ _ hx), by omega, fun H8 s8 => ⟨_, rfl, iteTc (by simp) ?_⟩⟩
      have s78 := s7.trans s8
      have hPA8 := (isPlain T.C_Plain).same hPA s78
      obtain ⟨dx, fs, hi8, no8⟩ := (isPlain T.C_Plain).ins hPA8
      refine ⟨.ref f, rfl, f, dx, fs, rfl, hi8, no8 "size" (by decide +kernel), f, F, r, c, rfl, hPA8, .ref x, rfl, x, _, rfl, .inl (sq_at (s78 _ _ hx)), rfl, ?_⟩
      rw [List.length_map]
      rw [show decide (V.int (r.length : Int) = V.int (r.length : Int)) = true from decide_eq_true rfl]
      exact q _ (fun b o n1 n2 e => s78 _ _ (keep b o n1 n2 e).1)

theorem ok_law (T : Tx K mg) : FnOk P w K mg base CX0 6 T.f_law T.fd_law P_law (spLaw K) := by
  have G_pool := ok_pool (P := P) (w := w) (base := base) T
  have G_bytes := ok_bytes (P := P) (w := w) (base := base) T
  have G_place := ok_place (P := P) (w := w) (base := base) T
  have G_take := ok_take (P := P) (w := w) (base := base) T
  have G_init := ok_init (P := P) (w := w) (base := base) T
  have G_asked := ok_asked (P := P) (w := w) (base := base) T
  have sz : sizeLine = 16777216 := sizeLine_eq
  refine T.D_law.F.ok sc_law (fun vs H Q E h => ?_) (fun cdv A outer s H vs Q E hr h => ?_)
  · obtain ⟨a, ns, rfl, _⟩ := h
    rfl
  · obtain ⟨a, ns, rfl, hS, h63, q⟩ := h
    refine ⟨_, (pss_cons (ps_for PassesOwn.never rfl (pi_range1 (by rfl) T.m_range (pa_cons (pe_callB (call_max2 rfl) (by rfl) T.m_max (by decide +kernel) (pa_cons pe_int (pa_cons (pe_callB (call_min2 rfl) (by rfl) T.m_min (by decide +kernel) (pa_cons pe_int (pa_cons (pe_callB call_len_seq (by rfl) T.m_len PySem.boot_len (pa_cons (pv 0) pa_nil)) pa_nil))) pa_nil))) pa_nil)) (pg_name (i := 1) sc_law.nd rfl (.inl rfl)) (pss_cons (ps_set (i := 2) sc_law.nd rfl (.inl rfl) (pe_call G_pool (hr.mono (by decide)) (by rfl) T.D_pool.g T.D_pool.F.kp T.bb_pool .nil pass0 (pa_cons (pv 0) (pa_cons (pv 1) pa_nil))))
      (pss_cons (ps_set (i := 3) sc_law.nd rfl (.inl rfl) (pe_call G_bytes (hr.mono (by decide)) (by rfl) T.D_bytes.g T.D_bytes.F.kp T.bb_bytes .nil pass0 (pa_cons (pv 2) (pa_cons (pe_lst (pa_cons pe_int (pa_cons pe_int (pa_cons pe_int (pa_cons pe_int (pa_cons pe_int (pa_cons pe_int (pa_cons pe_int (pa_cons pe_int (pa_cons pe_int (pa_cons pe_int pa_nil))))))))))) pa_nil))))
      (pss_cons (ps_set (i := 4) sc_law.nd rfl (.inl rfl) (pe_call G_place (hr.mono (by decide)) (by rfl) T.D_place.g T.D_place.F.kp T.bb_place .nil pass0 (pa_cons (pv 2) (pa_cons (pv 3) pa_nil))))
      (pss_cons (ps_set (i := 5) sc_law.nd rfl (.inl rfl) (pe_callTy call_list_of (by rfl) T.m_list (by decide +kernel) (pa_cons (pv 3) pa_nil)))
      (C8.pss_cut (ps_if (pt_cmpR op_eq (pe_call G_take (hr.mono (by decide)) (by rfl) T.D_take.g T.D_take.F.kp T.bb_take .nil pass0 (pa_cons (pv 2) (pa_cons pe_int pa_nil))) pe_int (nomark _)) (pss_cons (ps_set (i := 4) sc_law.nd rfl (.inl rfl) pe_int)
      (pss_one (ps_set (i := 6) sc_law.nd rfl (.inl rfl) (pe_make T.mk_Plain G_init (hr.mono (by decide)) (by rfl) T.g_Plain T.b_init_1 T.v_init_1 pass0 (pa_cons (pv 5) pa_nil))))) (pss_one (ps_set (i := 6) sc_law.nd rfl (.inl rfl) (pe_make T.mk_Plain G_init (hr.mono (by decide)) (by rfl) T.g_Plain T.bb_init .nil pass0 (pa_cons (pv 5) (pa_cons (pv 4) pa_nil))))))
      (pss_cons (ps_expr (pe_bm PySem.F.plainAttrs_list PySem.F.slot_list_append PySem.F.type_list_append mt_append (pv 5) (pa_cons pe_int pa_nil)))
      (pss_one (ps_if (pt_not (pt_val (pe_call G_asked (hr.mono (by decide)) (by rfl) T.D_asked.g T.D_asked.F.kp T.bb_asked .nil pass0 (pa_cons (pv 2) (pa_cons (pv 6) (pa_cons (pv 3) (pa_cons (pv 4) pa_nil))))))) (pss_one (ps_ret pe_bl)) pss_nil)))))))))
      (pss_one (ps_ret pe_bl))), ?_⟩
    refine ⟨.ref a, rfl, a, _, rfl, .inl hS, _, _, rfl, _, _, rfl, _, rfl, ?_, ?_, ?_⟩
    rotate_left 2
    have en : ∃ n : Nat, n ≤ 63 ∧ ((if (if (((ns.map V.int).length : Nat) : Int) < 8 then (((ns.map V.int).length : Nat) : Int) else 8) > 2 then (if (((ns.map V.int).length : Nat) : Int) < 8 then (((ns.map V.int).length : Nat) : Int) else 8) else 2)).toNat = n := by
      refine ⟨_, ?_, rfl⟩
      split <;> (split <;> omega)
    obtain ⟨n, n20, en⟩ := en
    rw [en]
    refine for_range (lo := 0) (n := n) (fun i σ H' => (∃ y1 y2 y3 y4 y5 y6 : Option V, σ = [some (.ref a), y1, y2, y3, y4, y5, y6]) ∧ Same H H') ⟨⟨none, none, none, none, none, none, rfl⟩, Same.refl _⟩ (fun i σ H' hi hW => ?_) (fun σ H' hW => q _)
    obtain ⟨⟨y1, y2, y3, y4, y5, y6, rfl⟩, sm⟩ := hW
    refine ⟨.ref a, rfl, _, rfl, a, ns, 0 + (i : Int), rfl, sm.seq hS, h63, by omega, by omega, fun p o1 np hP1 => ?_⟩
    have s1 : Same H' (upd H' p o1) := (Kp.new (ps := []) np).same
    refine ⟨.ref p, rfl, by show (10 : Nat) ≤ sizeLine; omega, fun m nm => ?_⟩
    have s2 := s1.trans (Kp.new (ps := []) (o := HO.lst [.int 0, .int 1, .int 2, .int 3, .int 5, .int 8, .int 13, .int 30, .int 60, .int 400]) nm).same
    have pm : p ≠ m := ne_of_none (upd_same : (upd H' p o1) p = some o1) nm
    refine ⟨p, m, _, o1, [0, 1, 2, 3, 5, 8, 13, 30, 60, 400], rfl, by rw [upd_ne pm]; exact upd_same, hP1, by omega, .inl (.inl (by rw [upd_same]; rfl)), pm, by decide, by decide, by decide, fun H2 x r o2 nx ex ep hP2 kk lz hb => ?_⟩
    have s3 : Same H' H2 := step_same s2 np kk
    have lr : r.length ≤ 400 := by
      obtain ⟨z, zm, ze⟩ := lz
      have := (show ∀ y ∈ ([0, 1, 2, 3, 5, 8, 13, 30, 60, 400] : List Int), y ≤ 400 by decide) z zm
      omega
    have px : p ≠ x := fun z => by
      rw [← z, upd_ne pm, upd_same] at nx; cases nx
    refine ⟨.ref p, rfl, .ref x, rfl, p, x, _, o2, r, rfl, ep, hP2, by omega, sq_at ex, px, lr, fun H3 c o3 hc ep3 hP3 kk3 => ?_⟩
    have s4 : Same H' H3 := step_same s3 np kk3
    have ex3 := kk3 x _ (by simpa using px.symm) ex
    refine ⟨.ref x, rfl, x, _, rfl, .inl (sq_at ex3), fun h nh => ?_⟩
    have ph : p ≠ h := ne_of_none ep3 nh
    have xh : x ≠ h := ne_of_none ex3 nh
    have hH : H' h = none := s4.free nh
    refine ⟨fun σ' H6 => ∃ (c : Nat) (f : Addr) (F : Addr → Prop) (o4 : HO) (H5 : Hp), σ' = [some (.ref a), some (.int (0 + (i : Int))), some (.ref p), some (.ref x), some (.int c), some (.ref h), some (.ref f)] ∧ (PlainAt T.C_Plain) H6 f F r c ∧ Same H5 H6 ∧ (∀ b o, H5 b = some o → ¬ F b) ∧ Same H' H5 ∧ H5 h = some (.lst (r.map V.int)) ∧ H5 x = some (.lst (r.map V.int)) ∧ H5 p = some o4 ∧ PoolO (1000 * (0 + (i : Int)) + 1000 + 3 + 1) o4, ?_, fun σ' H6 hm => ?_⟩
    · refine ⟨.ref p, rfl, p, _, 4, o3, rfl, by rw [upd_ne ph]; exact ep3, hP3, by omega, by decide, by decide, fun t o4 t0 t1 hP4 => ?_⟩
      have s5 : Same H' (upd (upd H3 h (.lst (r.map V.int))) p o4) := put_same (s4.trans (Kp.new (ps := []) nh).same) np
      have eh5 : (upd (upd H3 h (.lst (r.map V.int))) p o4) h = some (.lst (r.map V.int)) := by rw [upd_ne ph.symm]; exact upd_same
      have ex5 : (upd (upd H3 h (.lst (r.map V.int))) p o4) x = some (.lst (r.map V.int)) := by rw [upd_ne px.symm, upd_ne xh]; exact ex3
      have ep5 : (upd (upd H3 h (.lst (r.map V.int))) p o4) p = some o4 := upd_same
      generalize upd (upd H3 h (.lst (r.map V.int))) p o4 = H5 at s5 eh5 ex5 ep5 ⊢
      refine ⟨rfl, _, rfl, ite2 (fun _ => ?_) (fun _ => ?_)⟩
      · refine ⟨.ref h, rfl, fun f dx nf ndx nfx => ?_⟩
        have hf : h ≠ f := ne_of_none eh5 nf
        have hd : h ≠ dx := ne_of_none eh5 ndx
        refine ⟨f, h, dx, r, 0, rfl, upd_same, by rw [upd_ne nfx]; exact upd_same, sq_at (by rw [upd_ne hf, upd_ne hd]; exact eh5), hf.symm, by omega, by omega, fun H6 F hPA st => ⟨rfl, ?_⟩⟩
        obtain ⟨sN, nF⟩ := made_new st nf ndx
        exact ⟨0, f, F, o4, H5, rfl, hPA, sN, nF, s5, eh5, ex5, ep5, hP4⟩
      · refine ⟨.ref h, rfl, .int c, rfl, fun f dx nf ndx nfx => ?_⟩
        have hf : h ≠ f := ne_of_none eh5 nf
        have hd : h ≠ dx := ne_of_none eh5 ndx
        refine ⟨f, h, dx, r, c, rfl, upd_same, by rw [upd_ne nfx]; exact upd_same, sq_at (by rw [upd_ne hf, upd_ne hd]; exact eh5), hf.symm, by omega, by omega, fun H6 F hPA st => ⟨rfl, ?_⟩⟩
        obtain ⟨sN, nF⟩ := made_new st nf ndx
        exact ⟨c, f, F, o4, H5, rfl, hPA, sN, nF, s5, eh5, ex5, ep5, hP4⟩
    · obtain ⟨c, f, F, o4, H5, rfl, hPA, s6, nF, s5, eh5, ex5, ep5, hP4⟩ := hm
      have h6 := s6 _ _ eh5
      refine ⟨.ref h, rfl, .inl ⟨rfl, _, sq_at h6⟩, h, r.map V.int, .int 5, rfl, rfl, h6, by rw [List.length_map]; omega, ?_⟩
      have k7 : Kp [h] H6 (upd H6 h (.lst (r.map V.int ++ [.int 5]))) := Kp.at (by simp)
      have s7 : Same H' (upd H6 h (.lst (r.map V.int ++ [.int 5]))) := put_same (s5.trans s6) hH
      generalize upd H6 h (.lst (r.map V.int ++ [.int 5])) = H7 at k7 s7 ⊢
      have hPA7 := (isPlain T.C_Plain).kp hPA k7 (fun z hz => by rw [List.mem_singleton.mp hz]; exact nF h _ eh5)
      refine ⟨.ref p, rfl, .ref f, rfl, .ref x, rfl, .int c, rfl, p, f, x, F, _, o4, r, c, rfl, k7 _ _ (by simpa using ph) (s6 _ _ ep5), hP4, by omega, hPA7, k7 _ _ (by simpa using xh) (s6 _ _ ex5), nF _ _ ex5, nF _ _ ep5, px, lr, fun H8 keep => ⟨_, rfl, iteF ?_⟩⟩
      exact ⟨⟨_, _, _, _, _, _, rfl⟩, fun b o e => by
        have e1 := sm b o e
        exact keep b o (nF b o (s5 _ _ e1)) (ne_of_none e1 np) (s7 _ _ e1)⟩
    · split <;> (split <;> omega)
    · split <;> (split <;> omega)
end
theorem all_mk {l : PySem.W.OpenLaw} {w : World} {K : PySem.W.Frag} {h : Heap} {mg : Str → Option Value} {fa C_Plain f_ccount f_fline f_init T_init f_tell f_size f_row f_ahead f_passed f_peek T_peek f_read T_read f_rsome f_rline T_rline f_pool f_take f_bytes f_fits f_place f_count f_lread f_due f_asked f_law : Addr} (X : K.In h) (G : h.Ns mainGlobals mg) (hfa : mg "law" = some (.ref fa))
    {od_ccount an_ccount : Option Addr} {sl_ccount : Array (Option Value)} {oc_ccount dc_ccount pm_ccount cd_ccount ct_ccount : Value}
    {kV_ccount : Value}
    {od_fline an_fline : Option Addr} {sl_fline : Array (Option Value)} {oc_fline dc_fline pm_fline cd_fline ct_fline : Value}
    {kV_fline : Value}
    {od_init an_init : Option Addr} {sl_init : Array (Option Value)} {oc_init dc_init pm_init cd_init ct_init : Value}
    {tk_init_0 : Tok}
    {uc_init : Value} {ud_init : Option Addr} {un_init : Nat} {us_init : Array (Option Value)}
    {kV_init : Value}
    {od_tell an_tell : Option Addr} {sl_tell : Array (Option Value)} {oc_tell dc_tell pm_tell cd_tell ct_tell : Value}
    {kV_tell : Value}
    {od_size an_size : Option Addr} {sl_size : Array (Option Value)} {oc_size dc_size pm_size cd_size ct_size : Value}
    {kV_size : Value}
    {od_row an_row : Option Addr} {sl_row : Array (Option Value)} {oc_row dc_row pm_row cd_row ct_row : Value}
    {kV_row : Value}
    {od_ahead an_ahead : Option Addr} {sl_ahead : Array (Option Value)} {oc_ahead dc_ahead pm_ahead cd_ahead ct_ahead : Value}
    {kV_ahead : Value}
    {od_passed an_passed : Option Addr} {sl_passed : Array (Option Value)} {oc_passed dc_passed pm_passed cd_passed ct_passed : Value}
    {kV_passed : Value}
    {od_peek an_peek : Option Addr} {sl_peek : Array (Option Value)} {oc_peek dc_peek pm_peek cd_peek ct_peek : Value}
    {tk_peek_0 : Tok}
    {uc_peek : Value} {ud_peek : Option Addr} {un_peek : Nat} {us_peek : Array (Option Value)}
    {kV_peek : Value}
    {od_read an_read : Option Addr} {sl_read : Array (Option Value)} {oc_read dc_read pm_read cd_read ct_read : Value}
    {uc_read : Value} {ud_read : Option Addr} {un_read : Nat} {us_read : Array (Option Value)}
    {kV_read : Value}
    {od_rsome an_rsome : Option Addr} {sl_rsome : Array (Option Value)} {oc_rsome dc_rsome pm_rsome cd_rsome ct_rsome : Value}
    {kV_rsome : Value}
    {od_rline an_rline : Option Addr} {sl_rline : Array (Option Value)} {oc_rline dc_rline pm_rline cd_rline ct_rline : Value}
    {uc_rline : Value} {ud_rline : Option Addr} {un_rline : Nat} {us_rline : Array (Option Value)}
    {kV_rline : Value}
    {od_pool an_pool : Option Addr} {sl_pool : Array (Option Value)} {oc_pool dc_pool pm_pool cd_pool ct_pool : Value}
    {kV_pool : Value}
    {od_take an_take : Option Addr} {sl_take : Array (Option Value)} {oc_take dc_take pm_take cd_take ct_take : Value}
    {kV_take : Value}
    {od_bytes an_bytes : Option Addr} {sl_bytes : Array (Option Value)} {oc_bytes dc_bytes pm_bytes cd_bytes ct_bytes : Value}
    {kV_bytes : Value}
    {od_fits an_fits : Option Addr} {sl_fits : Array (Option Value)} {oc_fits dc_fits pm_fits cd_fits ct_fits : Value}
    {kV_fits : Value}
    {od_place an_place : Option Addr} {sl_place : Array (Option Value)} {oc_place dc_place pm_place cd_place ct_place : Value}
    {kV_place : Value}
    {od_count an_count : Option Addr} {sl_count : Array (Option Value)} {oc_count dc_count pm_count cd_count ct_count : Value}
    {kV_count : Value}
    {od_lread an_lread : Option Addr} {sl_lread : Array (Option Value)} {oc_lread dc_lread pm_lread cd_lread ct_lread : Value}
    {kV_lread : Value}
    {od_due an_due : Option Addr} {sl_due : Array (Option Value)} {oc_due dc_due pm_due cd_due ct_due : Value}
    {kV_due : Value}
    {od_asked an_asked : Option Addr} {sl_asked : Array (Option Value)} {oc_asked dc_asked pm_asked cd_asked ct_asked : Value}
    {kV_asked : Value}
    {od_law an_law : Option Addr} {sl_law : Array (Option Value)} {oc_law dc_law pm_law cd_law ct_law : Value}
    {kV_law : Value}
    {t_LINE_FEED : Tok}
    (qa_Plain : PySem.W.nsIn K mainGlobals "Plain" = some (some (.ref C_Plain)))
    (a_ccount : PySem.W.nsIn K mainGlobals "check_count" = some (some (.ref f_ccount)))
    (l_ccount : K.lookup f_ccount = some ⟨oc_ccount, od_ccount, .func (PySem.W.fnOf "check_count" "check_count" (defArgs s_ccount) (defBody s_ccount) (defScope s_ccount) .none kV_ccount dc_ccount pm_ccount an_ccount cd_ccount ct_ccount), sl_ccount⟩)
    (c_ccount : PySem.W.codeIn K cd_ccount "check_count" = true)
    (k_ccount : PySem.W.keepIn K (.ref f_ccount) = true)
    (a_fline : PySem.W.nsIn K mainGlobals "first_line" = some (some (.ref f_fline)))
    (l_fline : K.lookup f_fline = some ⟨oc_fline, od_fline, .func (PySem.W.fnOf "first_line" "first_line" (defArgs s_fline) (defBody s_fline) (defScope s_fline) .none kV_fline dc_fline pm_fline an_fline cd_fline ct_fline), sl_fline⟩)
    (c_fline : PySem.W.codeIn K cd_fline "first_line" = true)
    (k_fline : PySem.W.keepIn K (.ref f_fline) = true)
    (a_init : PySem.W.findIn K (.ref C_Plain) "__init__" = some (some (.ref f_init)))
    (i_init : PySem.W.isFn K (.ref f_init) = true)
    (l_init : K.lookup f_init = some ⟨oc_init, od_init, .func (PySem.W.fnOf "__init__" "Plain.__init__" (defArgs s_init) (defBody s_init) (defScope s_init) (.ref T_init) kV_init dc_init pm_init an_init cd_init ct_init), sl_init⟩)
    (c_init : PySem.W.codeIn K cd_init "Plain.__init__" = true)
    (k_init : PySem.W.keepIn K (.ref f_init) = true)
    (t_init : K.lookup T_init = some ⟨uc_init, ud_init, .seq #[.int 0 tk_init_0] un_init, us_init⟩)
    (a_tell : PySem.W.findIn K (.ref C_Plain) "tell" = some (some (.ref f_tell)))
    (i_tell : PySem.W.isFn K (.ref f_tell) = true)
    (l_tell : K.lookup f_tell = some ⟨oc_tell, od_tell, .func (PySem.W.fnOf "tell" "Plain.tell" (defArgs s_tell) (defBody s_tell) (defScope s_tell) .none kV_tell dc_tell pm_tell an_tell cd_tell ct_tell), sl_tell⟩)
    (c_tell : PySem.W.codeIn K cd_tell "Plain.tell" = true)
    (k_tell : PySem.W.keepIn K (.ref f_tell) = true)
    (a_size : PySem.W.findIn K (.ref C_Plain) "size" = some (some (.ref f_size)))
    (i_size : PySem.W.isFn K (.ref f_size) = true)
    (l_size : K.lookup f_size = some ⟨oc_size, od_size, .func (PySem.W.fnOf "size" "Plain.size" (defArgs s_size) (defBody s_size) (defScope s_size) .none kV_size dc_size pm_size an_size cd_size ct_size), sl_size⟩)
    (c_size : PySem.W.codeIn K cd_size "Plain.size" = true)
    (k_size : PySem.W.keepIn K (.ref f_size) = true)
    (a_row : PySem.W.findIn K (.ref C_Plain) "row" = some (some (.ref f_row)))
    (i_row : PySem.W.isFn K (.ref f_row) = true)
    (l_row : K.lookup f_row = some ⟨oc_row, od_row, .func (PySem.W.fnOf "row" "Plain.row" (defArgs s_row) (defBody s_row) (defScope s_row) .none kV_row dc_row pm_row an_row cd_row ct_row), sl_row⟩)
    (c_row : PySem.W.codeIn K cd_row "Plain.row" = true)
    (k_row : PySem.W.keepIn K (.ref f_row) = true)
    (a_ahead : PySem.W.findIn K (.ref C_Plain) "ahead" = some (some (.ref f_ahead)))
    (i_ahead : PySem.W.isFn K (.ref f_ahead) = true)
    (l_ahead : K.lookup f_ahead = some ⟨oc_ahead, od_ahead, .func (PySem.W.fnOf "ahead" "Plain.ahead" (defArgs s_ahead) (defBody s_ahead) (defScope s_ahead) .none kV_ahead dc_ahead pm_ahead an_ahead cd_ahead ct_ahead), sl_ahead⟩)
    (c_ahead : PySem.W.codeIn K cd_ahead "Plain.ahead" = true)
    (k_ahead : PySem.W.keepIn K (.ref f_ahead) = true)
    (a_passed : PySem.W.findIn K (.ref C_Plain) "passed" = some (some (.ref f_passed)))
    (i_passed : PySem.W.isFn K (.ref f_passed) = true)
    (l_passed : K.lookup f_passed = some ⟨oc_passed, od_passed, .func (PySem.W.fnOf "passed" "Plain.passed" (defArgs s_passed) (defBody s_passed) (defScope s_passed) .none kV_passed dc_passed pm_passed an_passed cd_passed ct_passed), sl_passed⟩)
    (c_passed : PySem.W.codeIn K cd_passed "Plain.passed" = true)
    (k_passed : PySem.W.keepIn K (.ref f_passed) = true)
    (a_peek : PySem.W.findIn K (.ref C_Plain) "peek" = some (some (.ref f_peek)))
    (i_peek : PySem.W.isFn K (.ref f_peek) = true)
    (l_peek : K.lookup f_peek = some ⟨oc_peek, od_peek, .func (PySem.W.fnOf "peek" "Plain.peek" (defArgs s_peek) (defBody s_peek) (defScope s_peek) (.ref T_peek) kV_peek dc_peek pm_peek an_peek cd_peek ct_peek), sl_peek⟩)
    (c_peek : PySem.W.codeIn K cd_peek "Plain.peek" = true)
    (k_peek : PySem.W.keepIn K (.ref f_peek) = true)
    (t_peek : K.lookup T_peek = some ⟨uc_peek, ud_peek, .seq #[.int 1 tk_peek_0] un_peek, us_peek⟩)
    (a_read : PySem.W.findIn K (.ref C_Plain) "read" = some (some (.ref f_read)))
    (i_read : PySem.W.isFn K (.ref f_read) = true)
    (l_read : K.lookup f_read = some ⟨oc_read, od_read, .func (PySem.W.fnOf "read" "Plain.read" (defArgs s_read) (defBody s_read) (defScope s_read) (.ref T_read) kV_read dc_read pm_read an_read cd_read ct_read), sl_read⟩)
    (c_read : PySem.W.codeIn K cd_read "Plain.read" = true)
    (k_read : PySem.W.keepIn K (.ref f_read) = true)
    (t_read : K.lookup T_read = some ⟨uc_read, ud_read, .seq #[.none] un_read, us_read⟩)
    (a_rsome : PySem.W.findIn K (.ref C_Plain) "read_some" = some (some (.ref f_rsome)))
    (i_rsome : PySem.W.isFn K (.ref f_rsome) = true)
    (l_rsome : K.lookup f_rsome = some ⟨oc_rsome, od_rsome, .func (PySem.W.fnOf "read_some" "Plain.read_some" (defArgs s_rsome) (defBody s_rsome) (defScope s_rsome) .none kV_rsome dc_rsome pm_rsome an_rsome cd_rsome ct_rsome), sl_rsome⟩)
    (c_rsome : PySem.W.codeIn K cd_rsome "Plain.read_some" = true)
    (k_rsome : PySem.W.keepIn K (.ref f_rsome) = true)
    (a_rline : PySem.W.findIn K (.ref C_Plain) "readline" = some (some (.ref f_rline)))
    (i_rline : PySem.W.isFn K (.ref f_rline) = true)
    (l_rline : K.lookup f_rline = some ⟨oc_rline, od_rline, .func (PySem.W.fnOf "readline" "Plain.readline" (defArgs s_rline) (defBody s_rline) (defScope s_rline) (.ref T_rline) kV_rline dc_rline pm_rline an_rline cd_rline ct_rline), sl_rline⟩)
    (c_rline : PySem.W.codeIn K cd_rline "Plain.readline" = true)
    (k_rline : PySem.W.keepIn K (.ref f_rline) = true)
    (t_rline : K.lookup T_rline = some ⟨uc_rline, ud_rline, .seq #[.none] un_rline, us_rline⟩)
    (a_pool : PySem.W.nsIn K mainGlobals "_law_pool" = some (some (.ref f_pool)))
    (l_pool : K.lookup f_pool = some ⟨oc_pool, od_pool, .func (PySem.W.fnOf "_law_pool" "_law_pool" (defArgs s_pool) (defBody s_pool) (defScope s_pool) .none kV_pool dc_pool pm_pool an_pool cd_pool ct_pool), sl_pool⟩)
    (c_pool : PySem.W.codeIn K cd_pool "_law_pool" = true)
    (k_pool : PySem.W.keepIn K (.ref f_pool) = true)
    (a_take : PySem.W.nsIn K mainGlobals "_law_take" = some (some (.ref f_take)))
    (l_take : K.lookup f_take = some ⟨oc_take, od_take, .func (PySem.W.fnOf "_law_take" "_law_take" (defArgs s_take) (defBody s_take) (defScope s_take) .none kV_take dc_take pm_take an_take cd_take ct_take), sl_take⟩)
    (c_take : PySem.W.codeIn K cd_take "_law_take" = true)
    (k_take : PySem.W.keepIn K (.ref f_take) = true)
    (a_bytes : PySem.W.nsIn K mainGlobals "_law_bytes" = some (some (.ref f_bytes)))
    (l_bytes : K.lookup f_bytes = some ⟨oc_bytes, od_bytes, .func (PySem.W.fnOf "_law_bytes" "_law_bytes" (defArgs s_bytes) (defBody s_bytes) (defScope s_bytes) .none kV_bytes dc_bytes pm_bytes an_bytes cd_bytes ct_bytes), sl_bytes⟩)
    (c_bytes : PySem.W.codeIn K cd_bytes "_law_bytes" = true)
    (k_bytes : PySem.W.keepIn K (.ref f_bytes) = true)
    (a_fits : PySem.W.nsIn K mainGlobals "_law_fits" = some (some (.ref f_fits)))
    (l_fits : K.lookup f_fits = some ⟨oc_fits, od_fits, .func (PySem.W.fnOf "_law_fits" "_law_fits" (defArgs s_fits) (defBody s_fits) (defScope s_fits) .none kV_fits dc_fits pm_fits an_fits cd_fits ct_fits), sl_fits⟩)
    (c_fits : PySem.W.codeIn K cd_fits "_law_fits" = true)
    (k_fits : PySem.W.keepIn K (.ref f_fits) = true)
    (a_place : PySem.W.nsIn K mainGlobals "_law_place" = some (some (.ref f_place)))
    (l_place : K.lookup f_place = some ⟨oc_place, od_place, .func (PySem.W.fnOf "_law_place" "_law_place" (defArgs s_place) (defBody s_place) (defScope s_place) .none kV_place dc_place pm_place an_place cd_place ct_place), sl_place⟩)
    (c_place : PySem.W.codeIn K cd_place "_law_place" = true)
    (k_place : PySem.W.keepIn K (.ref f_place) = true)
    (a_count : PySem.W.nsIn K mainGlobals "_law_count" = some (some (.ref f_count)))
    (l_count : K.lookup f_count = some ⟨oc_count, od_count, .func (PySem.W.fnOf "_law_count" "_law_count" (defArgs s_count) (defBody s_count) (defScope s_count) .none kV_count dc_count pm_count an_count cd_count ct_count), sl_count⟩)
    (c_count : PySem.W.codeIn K cd_count "_law_count" = true)
    (k_count : PySem.W.keepIn K (.ref f_count) = true)
    (a_lread : PySem.W.nsIn K mainGlobals "_law_read" = some (some (.ref f_lread)))
    (l_lread : K.lookup f_lread = some ⟨oc_lread, od_lread, .func (PySem.W.fnOf "_law_read" "_law_read" (defArgs s_lread) (defBody s_lread) (defScope s_lread) .none kV_lread dc_lread pm_lread an_lread cd_lread ct_lread), sl_lread⟩)
    (c_lread : PySem.W.codeIn K cd_lread "_law_read" = true)
    (k_lread : PySem.W.keepIn K (.ref f_lread) = true)
    (a_due : PySem.W.nsIn K mainGlobals "_law_due" = some (some (.ref f_due)))
    (l_due : K.lookup f_due = some ⟨oc_due, od_due, .func (PySem.W.fnOf "_law_due" "_law_due" (defArgs s_due) (defBody s_due) (defScope s_due) .none kV_due dc_due pm_due an_due cd_due ct_due), sl_due⟩)
    (c_due : PySem.W.codeIn K cd_due "_law_due" = true)
    (k_due : PySem.W.keepIn K (.ref f_due) = true)
    (a_asked : PySem.W.nsIn K mainGlobals "_law_asked" = some (some (.ref f_asked)))
    (l_asked : K.lookup f_asked = some ⟨oc_asked, od_asked, .func (PySem.W.fnOf "_law_asked" "_law_asked" (defArgs s_asked) (defBody s_asked) (defScope s_asked) .none kV_asked dc_asked pm_asked an_asked cd_asked ct_asked), sl_asked⟩)
    (c_asked : PySem.W.codeIn K cd_asked "_law_asked" = true)
    (k_asked : PySem.W.keepIn K (.ref f_asked) = true)
    (a_law : PySem.W.nsIn K mainGlobals "law" = some (some (.ref f_law)))
    (l_law : K.lookup f_law = some ⟨oc_law, od_law, .func (PySem.W.fnOf "law" "law" (defArgs s_law) (defBody s_law) (defScope s_law) .none kV_law dc_law pm_law an_law cd_law ct_law), sl_law⟩)
    (c_law : PySem.W.codeIn K cd_law "law" = true)
    (k_law : PySem.W.keepIn K (.ref f_law) = true)
    (pg_Plain : PySem.W.plainGet K C_Plain Str.empty = true)
    (hd_Plain : PySem.W.hasDictIn K C_Plain = true)
    (po_Plain : PySem.W.plainOver K C_Plain = true)
    (sa_Plain : PySem.W.findIn K (.ref C_Plain) "__setattr__" = some (some (.builtin "object.__setattr__")))
    (mk_Plain : PySem.W.makesIn K C_Plain = true)
    (kc_Plain : PySem.W.keepIn K (.ref C_Plain) = true)
    (n_Plain_cells : PySem.W.findIn K (.ref C_Plain) "cells" = some none)
    (n_Plain_cursor : PySem.W.findIn K (.ref C_Plain) "cursor" = some none)
    (v_LINE_FEED : PySem.W.nsIn K mainGlobals "LINE_FEED" = some (some (.int 10 t_LINE_FEED)))
    (z_list : PySem.W.nsIn K mainGlobals "list" = some none)
    (z_len : PySem.W.nsIn K mainGlobals "len" = some none)
    (z_range : PySem.W.nsIn K mainGlobals "range" = some none)
    (z_max : PySem.W.nsIn K mainGlobals "max" = some none)
    (z_min : PySem.W.nsIn K mainGlobals "min" = some none)
    (z_isinstance : PySem.W.nsIn K mainGlobals "isinstance" = some none)
    (z_int : PySem.W.nsIn K mainGlobals "int" = some none)
    (z_bool : PySem.W.nsIn K mainGlobals "bool" = some none)
    (z_all : PySem.W.nsIn K mainGlobals "all" = some none) :
    ∃ fd : FuncData, (∀ (s : Shared) (v : Value), BindsTo s fd ⟨[v], []⟩ [("_law_script", v)]) ∧ ∀ base : Heap, K.In base → base.Ns mainGlobals mg → FnOk l.prog w K mg base CX0 6 fa fd ["_law_script"] (spLaw K) := by
  have e := hfa.symm.trans (PySem.W.mg_of X G a_law)
  cases e
  have F_ccount := funA_mk (st := s_ccount) l_ccount c_ccount k_ccount
  have F_fline := funA_mk (st := s_fline) l_fline c_fline k_fline
  have F_init := funA_mk (st := s_init) l_init c_init k_init
  have F_tell := funA_mk (st := s_tell) l_tell c_tell k_tell
  have F_size := funA_mk (st := s_size) l_size c_size k_size
  have F_row := funA_mk (st := s_row) l_row c_row k_row
  have F_ahead := funA_mk (st := s_ahead) l_ahead c_ahead k_ahead
  have F_passed := funA_mk (st := s_passed) l_passed c_passed k_passed
  have F_peek := funA_mk (st := s_peek) l_peek c_peek k_peek
  have F_read := funA_mk (st := s_read) l_read c_read k_read
  have F_rsome := funA_mk (st := s_rsome) l_rsome c_rsome k_rsome
  have F_rline := funA_mk (st := s_rline) l_rline c_rline k_rline
  have F_pool := funA_mk (st := s_pool) l_pool c_pool k_pool
  have F_take := funA_mk (st := s_take) l_take c_take k_take
  have F_bytes := funA_mk (st := s_bytes) l_bytes c_bytes k_bytes
  have F_fits := funA_mk (st := s_fits) l_fits c_fits k_fits
  have F_place := funA_mk (st := s_place) l_place c_place k_place
  have F_count := funA_mk (st := s_count) l_count c_count k_count
  have F_lread := funA_mk (st := s_lread) l_lread c_lread k_lread
  have F_due := funA_mk (st := s_due) l_due c_due k_due
  have F_asked := funA_mk (st := s_asked) l_asked c_asked k_asked
  have F_law := funA_mk (st := s_law) l_law c_law k_law
  have FD_init : FunD K "__init__" "Plain.__init__" (defArgs s_init) (defBody s_init) (defScope s_init) ([.int 0] : List V) ([] : List (Str × V)) f_init (PySem.W.fnOf "__init__" "Plain.__init__" (defArgs s_init) (defBody s_init) (defScope s_init) (.ref T_init) kV_init dc_init pm_init an_init cd_init ct_init) := ⟨⟨_, _, _, _, _, _, _, _, _, _, rfl, l_init, c_init, .inr ⟨by decide, T_init, _, _, un_init, rfl, t_init, rfl, (.cons ⟨tk_init_0, rfl⟩ .nil)⟩, .inl rfl⟩, k_init⟩
  have FD_peek : FunD K "peek" "Plain.peek" (defArgs s_peek) (defBody s_peek) (defScope s_peek) ([.int 1] : List V) ([] : List (Str × V)) f_peek (PySem.W.fnOf "peek" "Plain.peek" (defArgs s_peek) (defBody s_peek) (defScope s_peek) (.ref T_peek) kV_peek dc_peek pm_peek an_peek cd_peek ct_peek) := ⟨⟨_, _, _, _, _, _, _, _, _, _, rfl, l_peek, c_peek, .inr ⟨by decide, T_peek, _, _, un_peek, rfl, t_peek, rfl, (.cons ⟨tk_peek_0, rfl⟩ .nil)⟩, .inl rfl⟩, k_peek⟩
  have FD_read : FunD K "read" "Plain.read" (defArgs s_read) (defBody s_read) (defScope s_read) ([.non] : List V) ([] : List (Str × V)) f_read (PySem.W.fnOf "read" "Plain.read" (defArgs s_read) (defBody s_read) (defScope s_read) (.ref T_read) kV_read dc_read pm_read an_read cd_read ct_read) := ⟨⟨_, _, _, _, _, _, _, _, _, _, rfl, l_read, c_read, .inr ⟨by decide, T_read, _, _, un_read, rfl, t_read, rfl, (.cons rfl .nil)⟩, .inl rfl⟩, k_read⟩
  have FD_rline : FunD K "readline" "Plain.readline" (defArgs s_rline) (defBody s_rline) (defScope s_rline) ([.non] : List V) ([] : List (Str × V)) f_rline (PySem.W.fnOf "readline" "Plain.readline" (defArgs s_rline) (defBody s_rline) (defScope s_rline) (.ref T_rline) kV_rline dc_rline pm_rline an_rline cd_rline ct_rline) := ⟨⟨_, _, _, _, _, _, _, _, _, _, rfl, l_rline, c_rline, .inr ⟨by decide, T_rline, _, _, un_rline, rfl, t_rline, rfl, (.cons rfl .nil)⟩, .inl rfl⟩, k_rline⟩
  obtain ⟨ds_init_1, v_init_1, b_init_1⟩ := FD_init.binds1 (ps := P_init) 2 0 (by decide) rfl fun _ _ _ _ _ _ _ us its h1 h2 => match us, its, h1, h2 with | [_, _], [_], _, _ => ⟨_, rfl, rfl⟩
  obtain ⟨ds_peek_0, v_peek_0, b_peek_0⟩ := FD_peek.binds1 (ps := P_peek) 1 0 (by decide) rfl fun _ _ _ _ _ _ _ us its h1 h2 => match us, its, h1, h2 with | [_], [_], _, _ => ⟨_, rfl, rfl⟩
  obtain ⟨ds_read_0, v_read_0, b_read_0⟩ := FD_read.binds1 (ps := P_read) 1 0 (by decide) rfl fun _ _ _ _ _ _ _ us its h1 h2 => match us, its, h1, h2 with | [_], [_], _, _ => ⟨_, rfl, rfl⟩
  obtain ⟨ds_rline_0, v_rline_0, b_rline_0⟩ := FD_rline.binds1 (ps := P_rline) 1 0 (by decide) rfl fun _ _ _ _ _ _ _ us its h1 h2 => match us, its, h1, h2 with | [_], [_], _, _ => ⟨_, rfl, rfl⟩
  have bb_ahead : Binds K (PySem.W.fnOf "ahead" "Plain.ahead" (defArgs s_ahead) (defBody s_ahead) (defScope s_ahead) .none kV_ahead dc_ahead pm_ahead an_ahead cd_ahead ct_ahead) P_ahead [] := .all fun us hl => match us, hl with | [_], _ => rfl
  have bb_asked : Binds K (PySem.W.fnOf "_law_asked" "_law_asked" (defArgs s_asked) (defBody s_asked) (defScope s_asked) .none kV_asked dc_asked pm_asked an_asked cd_asked ct_asked) P_asked [] := .all fun us hl => match us, hl with | [_, _, _, _], _ => rfl
  have bb_bytes : Binds K (PySem.W.fnOf "_law_bytes" "_law_bytes" (defArgs s_bytes) (defBody s_bytes) (defScope s_bytes) .none kV_bytes dc_bytes pm_bytes an_bytes cd_bytes ct_bytes) P_bytes [] := .all fun us hl => match us, hl with | [_, _], _ => rfl
  have bb_ccount : Binds K (PySem.W.fnOf "check_count" "check_count" (defArgs s_ccount) (defBody s_ccount) (defScope s_ccount) .none kV_ccount dc_ccount pm_ccount an_ccount cd_ccount ct_ccount) P_ccount [] := .all fun us hl => match us, hl with | [_], _ => rfl
  have bb_count : Binds K (PySem.W.fnOf "_law_count" "_law_count" (defArgs s_count) (defBody s_count) (defScope s_count) .none kV_count dc_count pm_count an_count cd_count ct_count) P_count [] := .all fun us hl => match us, hl with | [_, _], _ => rfl
  have bb_due : Binds K (PySem.W.fnOf "_law_due" "_law_due" (defArgs s_due) (defBody s_due) (defScope s_due) .none kV_due dc_due pm_due an_due cd_due ct_due) P_due [] := .all fun us hl => match us, hl with | [_, _, _, _], _ => rfl
  have bb_fits : Binds K (PySem.W.fnOf "_law_fits" "_law_fits" (defArgs s_fits) (defBody s_fits) (defScope s_fits) .none kV_fits dc_fits pm_fits an_fits cd_fits ct_fits) P_fits [] := .all fun us hl => match us, hl with | [_, _], _ => rfl
  have bb_fline : Binds K (PySem.W.fnOf "first_line" "first_line" (defArgs s_fline) (defBody s_fline) (defScope s_fline) .none kV_fline dc_fline pm_fline an_fline cd_fline ct_fline) P_fline [] := .all fun us hl => match us, hl with | [_, _], _ => rfl
  obtain ⟨ds_all_init, v_all_init, b_all_init⟩ := FD_init.binds1 (ps := P_init) 3 1 (by decide) rfl fun _ _ _ _ _ _ _ us its h1 h2 => match us, its, h1, h2 with | [_, _, _], [_], _, _ => ⟨_, rfl, rfl⟩
  have bb_init : Binds K (PySem.W.fnOf "__init__" "Plain.__init__" (defArgs s_init) (defBody s_init) (defScope s_init) (.ref T_init) kV_init dc_init pm_init an_init cd_init ct_init) P_init [] := by cases v_all_init; exact b_all_init
  have bb_lread : Binds K (PySem.W.fnOf "_law_read" "_law_read" (defArgs s_lread) (defBody s_lread) (defScope s_lread) .none kV_lread dc_lread pm_lread an_lread cd_lread ct_lread) P_lread [] := .all fun us hl => match us, hl with | [_, _, _], _ => rfl
  have bb_passed : Binds K (PySem.W.fnOf "passed" "Plain.passed" (defArgs s_passed) (defBody s_passed) (defScope s_passed) .none kV_passed dc_passed pm_passed an_passed cd_passed ct_passed) P_passed [] := .all fun us hl => match us, hl with | [_, _], _ => rfl
  obtain ⟨ds_all_peek, v_all_peek, b_all_peek⟩ := FD_peek.binds1 (ps := P_peek) 2 1 (by decide) rfl fun _ _ _ _ _ _ _ us its h1 h2 => match us, its, h1, h2 with | [_, _], [_], _, _ => ⟨_, rfl, rfl⟩
  have bb_peek : Binds K (PySem.W.fnOf "peek" "Plain.peek" (defArgs s_peek) (defBody s_peek) (defScope s_peek) (.ref T_peek) kV_peek dc_peek pm_peek an_peek cd_peek ct_peek) P_peek [] := by cases v_all_peek; exact b_all_peek
  have bb_place : Binds K (PySem.W.fnOf "_law_place" "_law_place" (defArgs s_place) (defBody s_place) (defScope s_place) .none kV_place dc_place pm_place an_place cd_place ct_place) P_place [] := .all fun us hl => match us, hl with | [_, _], _ => rfl
  have bb_pool : Binds K (PySem.W.fnOf "_law_pool" "_law_pool" (defArgs s_pool) (defBody s_pool) (defScope s_pool) .none kV_pool dc_pool pm_pool an_pool cd_pool ct_pool) P_pool [] := .all fun us hl => match us, hl with | [_, _], _ => rfl
  obtain ⟨ds_all_read, v_all_read, b_all_read⟩ := FD_read.binds1 (ps := P_read) 2 1 (by decide) rfl fun _ _ _ _ _ _ _ us its h1 h2 => match us, its, h1, h2 with | [_, _], [_], _, _ => ⟨_, rfl, rfl⟩
  have bb_read : Binds K (PySem.W.fnOf "read" "Plain.read" (defArgs s_read) (defBody s_read) (defScope s_read) (.ref T_read) kV_read dc_read pm_read an_read cd_read ct_read) P_read [] := by cases v_all_read; exact b_all_read
  obtain ⟨ds_all_rline, v_all_rline, b_all_rline⟩ := FD_rline.binds1 (ps := P_rline) 2 1 (by decide) rfl fun _ _ _ _ _ _ _ us its h1 h2 => match us, its, h1, h2 with | [_, _], [_], _, _ => ⟨_, rfl, rfl⟩
  have bb_rline : Binds K (PySem.W.fnOf "readline" "Plain.readline" (defArgs s_rline) (defBody s_rline) (defScope s_rline) (.ref T_rline) kV_rline dc_rline pm_rline an_rline cd_rline ct_rline) P_rline [] := by cases v_all_rline; exact b_all_rline
  have bb_row : Binds K (PySem.W.fnOf "row" "Plain.row" (defArgs s_row) (defBody s_row) (defScope s_row) .none kV_row dc_row pm_row an_row cd_row ct_row) P_row [] := .all fun us hl => match us, hl with | [_], _ => rfl
  have bb_rsome : Binds K (PySem.W.fnOf "read_some" "Plain.read_some" (defArgs s_rsome) (defBody s_rsome) (defScope s_rsome) .none kV_rsome dc_rsome pm_rsome an_rsome cd_rsome ct_rsome) P_rsome [] := .all fun us hl => match us, hl with | [_, _], _ => rfl
  have bb_size : Binds K (PySem.W.fnOf "size" "Plain.size" (defArgs s_size) (defBody s_size) (defScope s_size) .none kV_size dc_size pm_size an_size cd_size ct_size) P_size [] := .all fun us hl => match us, hl with | [_], _ => rfl
  have bb_take : Binds K (PySem.W.fnOf "_law_take" "_law_take" (defArgs s_take) (defBody s_take) (defScope s_take) .none kV_take dc_take pm_take an_take cd_take ct_take) P_take [] := .all fun us hl => match us, hl with | [_, _], _ => rfl
  have bb_tell : Binds K (PySem.W.fnOf "tell" "Plain.tell" (defArgs s_tell) (defBody s_tell) (defScope s_tell) .none kV_tell dc_tell pm_tell an_tell cd_tell ct_tell) P_tell [] := .all fun us hl => match us, hl with | [_], _ => rfl
  let T : Tx K mg := ⟨C_Plain, f_ccount, _, ⟨F_ccount, PySem.W.mg_of X G a_ccount⟩, f_fline, _, ⟨F_fline, PySem.W.mg_of X G a_fline⟩, f_init, _, ⟨F_init, ⟨a_init, i_init, k_init⟩⟩, f_tell, _, ⟨F_tell, ⟨a_tell, i_tell, k_tell⟩⟩, f_size, _, ⟨F_size, ⟨a_size, i_size, k_size⟩⟩, f_row, _, ⟨F_row, ⟨a_row, i_row, k_row⟩⟩, f_ahead, _, ⟨F_ahead, ⟨a_ahead, i_ahead, k_ahead⟩⟩, f_passed, _, ⟨F_passed, ⟨a_passed, i_passed, k_passed⟩⟩, f_peek, _, ⟨F_peek, ⟨a_peek, i_peek, k_peek⟩⟩, f_read, _, ⟨F_read, ⟨a_read, i_read, k_read⟩⟩, f_rsome, _, ⟨F_rsome, ⟨a_rsome, i_rsome, k_rsome⟩⟩, f_rline, _, ⟨F_rline, ⟨a_rline, i_rline, k_rline⟩⟩, f_pool, _, ⟨F_pool, PySem.W.mg_of X G a_pool⟩, f_take, _, ⟨F_take, PySem.W.mg_of X G a_take⟩, f_bytes, _, ⟨F_bytes, PySem.W.mg_of X G a_bytes⟩, f_fits, _, ⟨F_fits, PySem.W.mg_of X G a_fits⟩, f_place, _, ⟨F_place, PySem.W.mg_of X G a_place⟩, f_count, _, ⟨F_count, PySem.W.mg_of X G a_count⟩, f_lread, _, ⟨F_lread, PySem.W.mg_of X G a_lread⟩, f_due, _, ⟨F_due, PySem.W.mg_of X G a_due⟩, f_asked, _, ⟨F_asked, PySem.W.mg_of X G a_asked⟩, fa, _, ⟨F_law, PySem.W.mg_of X G a_law⟩, ⟨pg_Plain, hd_Plain, po_Plain, sa_Plain⟩, PySem.W.mg_of X G qa_Plain, ⟨mk_Plain, a_init, i_init, kc_Plain⟩, n_Plain_cells, n_Plain_cursor, bb_ahead, bb_asked, bb_bytes, bb_ccount, bb_count, bb_due, bb_fits, bb_fline, bb_init, bb_lread, bb_passed, bb_peek, bb_place, bb_pool, bb_read, bb_rline, bb_row, bb_rsome, bb_size, bb_take, bb_tell, ds_init_1, v_init_1, b_init_1, ds_peek_0, v_peek_0, b_peek_0, ds_read_0, v_read_0, b_read_0, ds_rline_0, v_rline_0, b_rline_0, t_LINE_FEED, PySem.W.mg_of X G v_LINE_FEED, PySem.W.mg_none_of X G z_list, PySem.W.mg_none_of X G z_len, PySem.W.mg_none_of X G z_range, PySem.W.mg_none_of X G z_max, PySem.W.mg_none_of X G z_min, PySem.W.mg_none_of X G z_isinstance, PySem.W.mg_none_of X G z_int, PySem.W.mg_none_of X G z_bool, PySem.W.mg_none_of X G z_all⟩
  exact ⟨_, fun s v => .of_eq rfl, fun base _ _ => ok_law T⟩
end Sip
open PySem PySem.W PyProof.Rows
set_option maxHeartbeats 0 in
theorem PySem.Challenge.cw_sipstack_k19_plain_reads_holds : PySem.Challenge.rw_sipstack_k19_plain_reads.Holds := by
  w_on; o_law; k_head; (case hw => w_witness2)
  k_fill
  refine L2.walk_of (l := PySem.Challenge.rw_sipstack_k19_plain_reads) (n := 63) (k := 6) (x := "_law_script") (CX := fun _ => L2.CX0) (sp := fun w => Sip.spLaw _) rfl (by decide) rfl ⟨rfl, by decide, by decide⟩ (fun w h Y => PySem.W.kIn_of Y) ?F (fun _ _ a ns hl _ hS => ⟨a, ns, rfl, hS, hl, fun _ => rfl⟩) (fun _ _ _ _ _ h => h)
  case F =>
    intro w mg fa h KX G hmg
    refine' Sip.all_mk KX G hmg ?qa_Plain ?a_ccount ?l_ccount ?c_ccount ?k_ccount ?a_fline ?l_fline ?c_fline ?k_fline ?a_init ?i_init ?l_init ?c_init ?k_init ?t_init ?a_tell ?i_tell ?l_tell ?c_tell ?k_tell ?a_size ?i_size ?l_size ?c_size ?k_size ?a_row ?i_row ?l_row ?c_row ?k_row ?a_ahead ?i_ahead ?l_ahead ?c_ahead ?k_ahead ?a_passed ?i_passed ?l_passed ?c_passed ?k_passed ?a_peek ?i_peek ?l_peek ?c_peek ?k_peek ?t_peek ?a_read ?i_read ?l_read ?c_read ?k_read ?t_read ?a_rsome ?i_rsome ?l_rsome ?c_rsome ?k_rsome ?a_rline ?i_rline ?l_rline ?c_rline ?k_rline ?t_rline ?a_pool ?l_pool ?c_pool ?k_pool ?a_take ?l_take ?c_take ?k_take ?a_bytes ?l_bytes ?c_bytes ?k_bytes ?a_fits ?l_fits ?c_fits ?k_fits ?a_place ?l_place ?c_place ?k_place ?a_count ?l_count ?c_count ?k_count ?a_lread ?l_lread ?c_lread ?k_lread ?a_due ?l_due ?c_due ?k_due ?a_asked ?l_asked ?c_asked ?k_asked ?a_law ?l_law ?c_law ?k_law ?pg_Plain ?hd_Plain ?po_Plain ?sa_Plain ?mk_Plain ?kc_Plain ?n_Plain_cells ?n_Plain_cursor ?v_LINE_FEED ?z_list ?z_len ?z_range ?z_max ?z_min ?z_isinstance ?z_int ?z_bool ?z_all
    (case qa_Plain => k_is)
    (case a_ccount => k_is)
    (case l_ccount => k_is)
    (case c_ccount => k_is)
    (case k_ccount => k_is)
    (case a_fline => k_is)
    (case l_fline => k_is)
    (case c_fline => k_is)
    (case k_fline => k_is)
    (case a_init => k_is)
    (case i_init => k_is)
    (case l_init => k_is)
    (case c_init => k_is)
    (case k_init => k_is)
    (case t_init => k_is)
    (case a_tell => k_is)
    (case i_tell => k_is)
    (case l_tell => k_is)
    (case c_tell => k_is)
    (case k_tell => k_is)
    (case a_size => k_is)
    (case i_size => k_is)
    (case l_size => k_is)
    (case c_size => k_is)
    (case k_size => k_is)
    (case a_row => k_is)
    (case i_row => k_is)
    (case l_row => k_is)
    (case c_row => k_is)
    (case k_row => k_is)
    (case a_ahead => k_is)
    (case i_ahead => k_is)
    (case l_ahead => k_is)
    (case c_ahead => k_is)
    (case k_ahead => k_is)
    (case a_passed => k_is)
    (case i_passed => k_is)
    (case l_passed => k_is)
    (case c_passed => k_is)
    (case k_passed => k_is)
    (case a_peek => k_is)
    (case i_peek => k_is)
    (case l_peek => k_is)
    (case c_peek => k_is)
    (case k_peek => k_is)
    (case t_peek => k_is)
    (case a_read => k_is)
    (case i_read => k_is)
    (case l_read => k_is)
    (case c_read => k_is)
    (case k_read => k_is)
    (case t_read => k_is)
    (case a_rsome => k_is)
    (case i_rsome => k_is)
    (case l_rsome => k_is)
    (case c_rsome => k_is)
    (case k_rsome => k_is)
    (case a_rline => k_is)
    (case i_rline => k_is)
    (case l_rline => k_is)
    (case c_rline => k_is)
    (case k_rline => k_is)
    (case t_rline => k_is)
    (case a_pool => k_is)
    (case l_pool => k_is)
    (case c_pool => k_is)
    (case k_pool => k_is)
    (case a_take => k_is)
    (case l_take => k_is)
    (case c_take => k_is)
    (case k_take => k_is)
    (case a_bytes => k_is)
    (case l_bytes => k_is)
    (case c_bytes => k_is)
    (case k_bytes => k_is)
    (case a_fits => k_is)
    (case l_fits => k_is)
    (case c_fits => k_is)
    (case k_fits => k_is)
    (case a_place => k_is)
    (case l_place => k_is)
    (case c_place => k_is)
    (case k_place => k_is)
    (case a_count => k_is)
    (case l_count => k_is)
    (case c_count => k_is)
    (case k_count => k_is)
    (case a_lread => k_is)
    (case l_lread => k_is)
    (case c_lread => k_is)
    (case k_lread => k_is)
    (case a_due => k_is)
    (case l_due => k_is)
    (case c_due => k_is)
    (case k_due => k_is)
    (case a_asked => k_is)
    (case l_asked => k_is)
    (case c_asked => k_is)
    (case k_asked => k_is)
    (case a_law => k_is)
    (case l_law => k_is)
    (case c_law => k_is)
    (case k_law => k_is)
    (case pg_Plain => k_is)
    (case hd_Plain => k_is)
    (case po_Plain => k_is)
    (case sa_Plain => k_is)
    (case mk_Plain => k_is)
    (case kc_Plain => k_is)
    (case n_Plain_cells => k_is)
    (case n_Plain_cursor => k_is)
    (case v_LINE_FEED => k_is)
    (case z_list => k_is)
    (case z_len => k_is)
    (case z_range => k_is)
    (case z_max => k_is)
    (case z_min => k_is)
    (case z_isinstance => k_is)
    (case z_int => k_is)
    (case z_bool => k_is)
    (case z_all => k_is)
