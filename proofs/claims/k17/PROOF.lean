import PyProof.Rows.All
import Wide.All
import OpenK.AllK
import Wide.FinOn
import HandS.List
import HandS.Codes
import HandS.Comp
import HandS.Iter
import HandS.Ends
import HandS.Text
import HandS.Words
import HandS.WordsList
import HandS.Wide
import HandS.IsInst
import HandS.FStr
import PyProof.FString3
import PyProof.Rows.StrIntSpec
import HandS.Walk
import HandS.Exc
import HandS.ExcOwn
import HandS.ExcIs
import HandS.WordsExc
import HandS.StrMore
import HandS.Defaults
import HandS.MakeKwOnly
import HandS.Flow
import HandS.Star
import HandS.Conv
import HandS.Deep
import HandS.ExcInit
import KE.KExcIs
import HandS.TryMany
import HandS.ClsMeth
import HandS.More
import PySem.Challenge.RW_sipstack_k17_whole_chain_of_pipes
set_option Elab.async false
set_option linter.all false
set_option maxRecDepth 100000
namespace Sip
open PySem PySem.Spec PyProof.Rows L2

/-! a slice of step one in a list, laid over by another list; its end may lie behind the list's end -/
theorem clamp {a c n : Nat} (h1 : a ≤ c) (h2 : a ≤ n) :
    sliceBounds (some (a : Int)) (some (c : Int)) none n = ((a : Int), ((min c n : Nat) : Int), 1) := by
  have n1 : ¬ ((a : Int) < 0) := by omega
  have n2 : ¬ ((c : Int) < 0) := by omega
  simp only [sliceBounds, Option.getD_none, n1, n2, if_false, show (1 : Int) > 0 from by decide, if_true]
  refine Prod.ext ?_ (Prod.ext ?_ rfl)
  · show max 0 (min (a : Int) (n : Int)) = (a : Int)
    omega
  · show max 0 (min (c : Int) (n : Int)) = ((min c n : Nat) : Int)
    omega

section
variable {pr : Program} {wd : World} {ar : Around} {er : Value → Shared → Prop} {s : Shared}
set_option maxHeartbeats 4000000 in
theorem put_slice {l b z : Addr} {old new : Array Value} {m m2 a c : Nat} {vl vu : Value} {Q : Unit → Shared → Prop}
    (eo : s.heap.get? l = some { cls := .type "list", data := .seq old m })
    (en : s.heap.get? b = some { cls := .type "list", data := .seq new m2 }) (ne : l ≠ b)
    (hz : s.heap.IsSliceOf z vl vu .none) (pl : IsPart vl (some (a : Int))) (pu : IsPart vu (some (c : Int)))
    (ac : a ≤ c) (an : a ≤ old.size) (fit : old.size + new.size ≤ sizeLine)
    (k : Q () { s with heap := s.heap.update l (Obj.mapSeq fun t => t.extract 0 a ++ new ++ t.extract (min c old.size) t.size) }) :
    wpAny (model pr wd) ar (setItem (.ref l) (.ref z) (.ref b)) Q er s := by
  by_cases hc : c ≤ old.size
  · rw [Nat.min_eq_left hc] at k
    exact setItem_slice eo en ne hz pl pu ac hc fit k
  · have lo : s.heap.IsList l old := PySem.IsL.isList eo
    have ln : s.heap.IsList b new := PySem.IsL.isList en
    obtain ⟨oz, gz, cz, dz⟩ := id hz
    have tz : s.TypeIs (.ref z) "slice" := ⟨oz, gz, cz⟩
    have apart : Builtin.List.listSameRef (.ref l) (.ref b) = false := by
      unfold Builtin.List.listSameRef; exact beq_eq_false_iff_ne.mpr ne
    have zz : ((fun t : Array Value => t.extract 0 a ++ new ++ t.extract (min c old.size) t.size) old).size ≤ sizeLine + 1 := by
      simp only [Array.size_append, Array.size_extract]; omega
    have bd := clamp ac an
    have mx : (max (a : Int) ((min c old.size : Nat) : Int)).toNat = min c old.size := by omega
    unfold setItem
    try (with_reducible refine wpAny_holding ?_)
    try refine wpAny_bind (wpAny_pure ?_)
    refine wpAny_bind (wpAny_sequenceKey lo.typeIs (by decide) (wpAny_bind ?_))
    refine wpAny_callSpecial?_slot (name := Str.ofString "__setitem__") lo.typeIs slot_list_setitem ?_
    refine wpAny_call_entry slot_list_setitem lo.typeIs entry_list_setitem ?_ (args_list_setitem _ _ _)
    show wpAny _ _ (Builtin.List.listSubscript? (.ref z) >>= _) _ _ s
    refine wpAny_bind ?_
    unfold Builtin.List.listSubscript?
    refine wpAny_bind (wpAny_specialOf tz slice_no_index ?_)
    simp only [Option.isNone_none, if_true]
    refine wpAny_pure ?_
    show wpAny _ _ (typeOf (.ref z) >>= _) _ _ s
    refine wpAny_bind (wpAny_typeOf tz ?_)
    first
      | rw [if_neg (by decide)]
      | refine PySem.W.KFB.if_not (by decide) ?_
    rw [listSliceParts_eq]
    refine wpAny_bind (wpAny_bind (wpAny_field gz dz (x := .none) rfl (wpAny_bind (wpAny_listPart .none ?_))))
    rw [if_neg (show ¬ ((rawPart none == rawInt 0) = true) from Bool.false_ne_true)]
    refine wpAny_bind (wpAny_field gz dz (x := vl) rfl (wpAny_bind (wpAny_listPart pl ?_)))
    refine wpAny_bind (wpAny_field gz dz (x := vu) rfl (wpAny_bind (wpAny_listPart pu (wpAny_pure ?_))))
    first
      | simp only [apart, Bool.false_eq_true, if_false]
      | refine PySem.W.KFB.if_not apart ?_
    refine wpAny_bind ?_
    unfold Builtin.List.listAllItems
    refine wpAny_bind (wpAny_typeOf ln.typeIs ?_)
    first
      | refine PySem.W.KFB.if_so (by decide) ?_
      | rw [if_pos (by decide)]
    unfold Builtin.List.listItems
    refine wpAny_bind (wpAny_seqItems en rfl (wpAny_pure (wpAny_bind (wpAny_bind (wpAny_seqItems eo rfl (wpAny_pure ?_))))))
    have si := (sliceIndices_raw (some (a : Int)) (some (c : Int)) none old.size (by simp)).trans (congrArg (pure : Int × Int × Int → Sem (Int × Int × Int)) bd)
    refine wpAny_bind (wpAny_of_eq si ?_)
    show wpAny _ _ (if ((1 : Int) == 1) = true then _ else _) _ _ s
    rw [if_pos (by decide)]
    refine wpAny_bind (wpAny_rule ?_)
    first
      | simp only [notLongL fit, Bool.false_eq_true, if_false]
      | refine PySem.W.KFB.if_not (notLongL fit) ?_
    try refine wpAny_bind (wpAny_pure ?_)
    show wpAny _ _ (updateSeq l (fun t => t.extract 0 ((a : Int)).toNat ++ new ++ t.extract (max (a : Int) ((min c old.size : Nat) : Int)).toNat t.size) >>= _) _ _ s
    rw [mx, Int.toNat_natCast]
    refine wpAny_bind (wpAny_updateSeq (hz := Nat.le_trans (Nat.le_add_right _ _) fit) (_hz' := zz) eo rfl (wpAny_bind (wpAny_letGo ?_)))
    first
      | exact wpAny_bind (wpAny_pure (wpAny_pure ⟨.none, rfl, wpAny_pure k⟩))
      | exact wpAny_pure ⟨.none, rfl, wpAny_pure k⟩
end

section
variable {X : Cx}
theorem splice (xs ys : List Value) (a c : Nat) : xs.toArray.extract 0 a ++ ys.toArray ++ xs.toArray.extract (min c xs.toArray.size) xs.toArray.size = (xs.take a ++ ys ++ xs.drop c).toArray := by
  rw [splice_eq]
  congr 1
  by_cases h : c ≤ xs.length
  · rw [List.size_toArray, Nat.min_eq_left h]
  · rw [List.size_toArray, Nat.min_eq_right (by omega), List.drop_length, List.drop_of_length_le (by omega)]

/-- o[lo:hi] = v, both given, v another list -/
def gCut (to : TE) (tl th : TO) : TG := fun v σ H Q => to σ H fun o H1 => tl σ H1 fun lo H2 => th σ H2 fun hi H3 =>
  ∃ p q xs ys a c, o = .ref p ∧ v = .ref q ∧ lo = some a ∧ hi = some c ∧ H3 p = some (.lst xs) ∧ H3 q = some (.lst ys) ∧ p ≠ q ∧
    0 ≤ a ∧ a ≤ c ∧ a ≤ xs.length ∧ xs.length + ys.length ≤ sizeLine ∧ Q σ (upd H3 p (.lst (xs.take a.toNat ++ ys ++ xs.drop c.toNat)))

theorem pg_cut {o : Expr} {lo hi : Option Expr} {to : TE} {tl th : TO} {p2 pos : Pos} (ho : PE X o to) (hl : PO X lo tl) (hh : PO X hi th)
    (ha : ∀ v, assign (.Subscript o (.Slice lo hi none p2) pos) X.env v = (do
      let ov ← holding [v] (eval o X.env)
      let iv ← holding [v, ov] (eval (.Slice lo hi none p2) X.env)
      standAt pos
      holding [v, ov, iv] (setItem ov iv v)
      release [iv, v, ov] []) := by intro _; rfl) : PG X (.Subscript o (.Slice lo hi none p2) pos) (gCut to tl th) := by
  refine ⟨fun pins s σ H v u Q I r h => ?_⟩
  rw [ha]
  refine wpAny_bind (wpAny_holding (thn (ho.run pins s σ H _ I h) fun ov s1 ⟨x, H1, I1, r1, q1⟩ => wpAny_bind (wpAny_holding ?_)))
  refine wpAny_Slice (thn (hl.run pins s1 σ H1 _ I1 q1) fun wl s2 ⟨l, H2, I2, pl, q2⟩ => ?_)
  refine thn (hh.run pins s2 σ H2 _ I2 q2) fun wu s3 ⟨uu, H3, I3, pu, q3⟩ => ?_
  rw [evalPart_none]
  refine wpAny_pure ?_
  obtain ⟨p, q, xs, ys, a, c, rfl, rfl, rfl, rfl, hp, hq, pq, a0, ac, ax, fit, fin⟩ := q3
  cases r1
  cases r
  have I4 : Inv X pins σ H3 { s3 with heap := s3.heap.push { cls := .type "slice", data := .fields #[wl, wu, .none] } } := I3.kept (t' := s3.toks) fun b ob e => Heap.get?_push_of_some _ e
  refine wpAny_bind (wpAny_standAt (wpAny_bind (wpAny_holding ?_)))
  obtain ⟨z1, us1, n1, rv1, _, e1⟩ := I4.lstM hp
  obtain ⟨z2, us2, n2, rv2, _, e2⟩ := I4.lstM hq
  obtain ⟨a', rfl⟩ := Int.eq_ofNat_of_zero_le a0
  obtain ⟨c', rfl⟩ := Int.eq_ofNat_of_zero_le (Int.le_trans a0 ac)
  simp only [Int.toNat_natCast] at fin
  have L1 := rv1.length
  have L2' := rv2.length
  refine put_slice (a := a') (c := c') e1 e2 pq (Heap.IsSliceOf.new ..) pl pu (by omega) (by rw [List.size_toArray]; omega) (by rw [List.size_toArray, List.size_toArray]; omega) ?_
  refine wpAny_release ⟨σ, _, ?_, fin⟩
  refine I4.lset (its' := us1.take a' ++ us2 ++ us1.drop c') (t' := s3.toks) hp e1 (splice us1 us2 a' c') (Vals.append (Vals.append (rv1.take _) rv2) (rv1.drop _)) ?_
  rw [List.length_append, List.length_append, List.length_take, List.length_drop]
  omega
end
end Sip
namespace Sip
open PySem PySem.Spec PyProof.Rows L2

/-- a def of the text: where it stands, how it is called -/
structure Df (K : PySem.W.Frag) (mg : Str → Option Value) (x : Str) (st : Stmt) (ps : List Str) (f : Addr) (fd : FuncData) : Prop where
  F : Fun K x x st f fd
  b : Binds K fd ps []
  g : mg x = some (.ref f)

/-! heaps: all that was tracked stands, but at the places ps -/
def Kp (ps : List Addr) (H H' : Hp) : Prop := ∀ b o, b ∉ ps → H b = some o → H' b = some o
theorem Kp.refl (ps : List Addr) (H : Hp) : Kp ps H H := fun _ _ _ h => h
theorem Kp.trans {ps : List Addr} {H H1 H2 : Hp} (a : Kp ps H H1) (b : Kp ps H1 H2) : Kp ps H H2 := fun c o n h => b c o n (a c o n h)
theorem Kp.wide {ps qs : List Addr} {H H1 : Hp} (a : Kp ps H H1) (h : ∀ x ∈ ps, x ∈ qs) : Kp qs H H1 := fun c o n e => a c o (fun z => n (h c z)) e
theorem Kp.same {H H1 : Hp} (a : Kp [] H H1) : Same H H1 := fun c o e => a c o (fun h => nomatch h) e
theorem Kp.of {ps : List Addr} {H H1 : Hp} (a : Same H H1) : Kp ps H H1 := fun c o _ e => a c o e
theorem Kp.at {ps : List Addr} {H : Hp} {p : Addr} {o : HO} (h : p ∈ ps) : Kp ps H (upd H p o) := fun b x n e => by
  have hb : b ≠ p := fun z => n (by rw [z]; exact h)
  rw [upd_ne hb]; exact e
theorem Kp.new {ps : List Addr} {H : Hp} {p : Addr} {o : HO} (h : H p = none) : Kp ps H (upd H p o) := fun b x n e => by
  rw [upd_ne (ne_of_none e h)]; exact e
/-- a place that was new at H is written later -/
theorem Kp.put {ps : List Addr} {H H1 : Hp} {p : Addr} {o : HO} (k : Kp ps H H1) (h : H p = none) : Kp ps H (upd H1 p o) := fun b x n e => by
  rw [upd_ne (ne_of_none e h)]; exact k b x n e
theorem Kp.seq {ps : List Addr} {K : PySem.W.Frag} {H H1 : Hp} {a : Addr} {xs : List V} (k : Kp ps H H1) (n : a ∉ ps) (h : SqL K H a xs) : SqL K H1 a xs := by
  rcases h with (h | ⟨o, h⟩) | h
  · exact .inl (.inl (k _ _ n h))
  · exact .inl (.inr ⟨o, k _ _ n h⟩)
  · exact .inr h
theorem Kp.free {H H1 : Hp} {ps : List Addr} (k : Kp ps H H1) {q : Addr} (n : q ∉ ps) (h : H1 q = none) : H q = none := by
  cases e : H q with
  | none => rfl
  | some o => rw [k q o n e] at h; cases h
theorem sq_new {K : PySem.W.Frag} {H : Hp} {p : Addr} {xs : List V} : SqL K (upd H p (.lst xs)) p xs := .inl (.inl upd_same)
theorem sq_at {K : PySem.W.Frag} {H : Hp} {p : Addr} {xs : List V} (h : H p = some (.lst xs)) : SqL K H p xs := .inl (.inl h)
theorem upd_upd {H : Hp} {p : Addr} {a b : HO} : upd (upd H p a) p b = upd H p b := by
  funext x
  by_cases h : x = p
  · subst h; rw [upd_same, upd_same]
  · rw [upd_ne h, upd_ne h, upd_ne h]

/-! the law's own draws: a pool is a list of three ints -/
def PoolO (n : Int) (o : HO) : Prop := ∃ d c x : Int, o = .lst [.int d, .int c, .int x] ∧ 0 ≤ d ∧ 0 ≤ c ∧ c ≤ n
theorem PoolO.up {n m : Int} {o : HO} (h : PoolO n o) (l : n ≤ m) : PoolO m o := by
  obtain ⟨d, c, x, e, h1, h2, h3⟩ := h
  exact ⟨d, c, x, e, h1, h2, by omega⟩
def spTake : Sp := fun vs H Q _ => ∃ (p : Addr) (n wide : Int) (o : HO), vs = [.ref p, .int wide] ∧ H p = some o ∧ PoolO n o ∧ n ≤ 1000000000 ∧ 0 < wide ∧ wide < 1073741824 ∧
  ∀ (r : Int) (o' : HO), 0 ≤ r → r < wide → PoolO (n + 1) o' → Q (.int r) (upd H p o')
def spPool (K : PySem.W.Frag) : Sp := fun vs H Q _ => ∃ (a : Addr) (ns : List Int) (i : Int), vs = [.ref a, .int i] ∧ SqL K H a (ns.map V.int) ∧ ns.length ≤ 63 ∧ 0 ≤ i ∧ i ≤ 1000 ∧
  ∀ (p : Addr) (o : HO), H p = none → PoolO (1000 * i) o → Q (.ref p) (upd H p o)

/-! lists of ints -/
theorem atI_int {ms : List Int} {i : Int} (h0 : 0 ≤ i) (h1 : i < ms.length) : ∃ m, m ∈ ms ∧ atI (ms.map V.int) i = some (.int m) ∧ ms[i.toNat]? = some m := by
  obtain ⟨j, rfl⟩ := Int.eq_ofNat_of_zero_le h0
  have hj : j < ms.length := by omega
  refine ⟨ms[j], List.getElem_mem hj, atI_nat ?_, by rw [Int.toNat_natCast, List.getElem?_eq_getElem hj]⟩
  rw [List.getElem?_map, List.getElem?_eq_getElem hj]; rfl
theorem atI_intV {ms : List Int} {i : Int} (h0 : 0 ≤ i) (h1 : i < ms.length) : atI (ms.map V.int) i = some (.int (ms.getD i.toNat 0)) := by
  obtain ⟨m, _, e, g⟩ := atI_int h0 h1
  rw [e, List.getD_eq_getElem?_getD, g]; rfl
theorem dp_ints {K : PySem.W.Frag} {H : Hp} : ∀ ns : List Int, DpAll K H (ns.map V.int) (ns.map PyData.int)
  | [] => .nil
  | n :: r => .cons (.int n) (dp_ints r)
theorem dp_lst {K : PySem.W.Frag} {H : Hp} {a : Addr} {ns : List Int} (h : SqL K H a (ns.map V.int)) : Dp K H (.ref a) (.list (ns.map PyData.int)) := .lst h (dp_ints ns)
section
variable {X : Cx}
/-- == and != of two lists of ints -/
def rEqI (K : PySem.W.Frag) : R2 := fun x y H Q => ∃ (a b : Addr) (ns ms : List Int), x = .ref a ∧ y = .ref b ∧ SqL K H a (ns.map V.int) ∧ SqL K H b (ms.map V.int) ∧ Q (.bl (decide (ns = ms))) H
def rNeI (K : PySem.W.Frag) : R2 := fun x y H Q => ∃ (a b : Addr) (ns ms : List Int), x = .ref a ∧ y = .ref b ∧ SqL K H a (ns.map V.int) ∧ SqL K H b (ms.map V.int) ∧ Q (.bl (!decide (ns = ms))) H
theorem op_eqI (hu : X.A.units + 64 < cLine) : OpR X (compareOp .Eq) (rEqI X.K) := by
  intro pins s σ H x y v u Q I rx ry h
  obtain ⟨a, b, ns, ms, rfl, rfl, ha, hb, q⟩ := h
  cases rx; cases ry
  obtain ⟨us, rv, hl, _⟩ := I.list ha
  obtain ⟨ws, rw', hl', _⟩ := I.list hb
  exact PySem.W.eq_intsK hl.isList rv.ints hl'.isList rw'.ints hu ⟨.bl (decide (ns = ms)), H, I, rfl, q⟩
theorem op_neI (hu : X.A.units + 64 < cLine) : OpR X (compareOp .NotEq) (rNeI X.K) := by
  intro pins s σ H x y v u Q I rx ry h
  obtain ⟨a, b, ns, ms, rfl, rfl, ha, hb, q⟩ := h
  cases rx; cases ry
  obtain ⟨us, rv, hl, _⟩ := I.list ha
  obtain ⟨ws, rw', hl', _⟩ := I.list hb
  exact PySem.W.ne_intsK hl.isList rv.ints hl'.isList rw'.ints hu ⟨.bl (!decide (ns = ms)), H, I, rfl, q⟩
end
/-! a row laid over another one -/
def laidF (r : List Int) (n : Nat) (d : List Int) : List Int :=
  if d = [] then r else (r ++ List.replicate (n - r.length) 0).take n ++ d ++ (r ++ List.replicate (n - r.length) 0).drop (n + d.length)
theorem laidF_nil (r : List Int) (n : Nat) : laidF r n [] = r := if_pos rfl
theorem laidF_cons {r : List Int} {n : Nat} {d : List Int} (h : d ≠ []) : laidF r n d = (r ++ List.replicate (n - r.length) 0).take n ++ d ++ (r ++ List.replicate (n - r.length) 0).drop (n + d.length) := if_neg h
theorem laidF_length {r : List Int} {n : Nat} {d : List Int} (h : d ≠ []) : (laidF r n d).length = max r.length (n + d.length) := by
  rw [laidF_cons h, List.length_append, List.length_append, List.length_take, List.length_drop, List.length_append, List.length_replicate]
  omega
theorem pad_get (r : List Int) (m i : Nat) : (r ++ List.replicate m 0)[i]?.getD 0 = r.getD i 0 := by
  rw [List.getD_eq_getElem?_getD]
  by_cases h : i < r.length
  · rw [List.getElem?_append_left h]
  · rw [List.getElem?_append_right (by omega), List.getElem?_eq_none (l := r) (by omega)]
    by_cases h2 : i - r.length < m
    · rw [List.getElem?_replicate, if_pos h2]; rfl
    · rw [List.getElem?_eq_none (by rw [List.length_replicate]; omega)]
theorem laidF_getD {r : List Int} {n : Nat} {d : List Int} (h : d ≠ []) (i : Nat) : (laidF r n d)[i]?.getD 0 = if n ≤ i ∧ i < n + d.length then d.getD (i - n) 0 else r.getD i 0 := by
  have lt : ((r ++ List.replicate (n - r.length) 0).take n).length = n := by
    rw [List.length_take, List.length_append, List.length_replicate]; omega
  rw [laidF_cons h, List.append_assoc]
  by_cases h1 : i < n
  · rw [if_neg (by omega), List.getElem?_append_left (by rw [lt]; exact h1), List.getElem?_take_of_lt h1]
    exact pad_get r _ i
  · rw [List.getElem?_append_right (by rw [lt]; omega), lt]
    by_cases h2 : i < n + d.length
    · rw [if_pos ⟨by omega, h2⟩, List.getElem?_append_left (by omega), List.getD_eq_getElem?_getD]
    · rw [if_neg (by omega), List.getElem?_append_right (by omega), List.getElem?_drop, ← pad_get r (n - r.length) i]
      congr 2
      omega
theorem laidF_get {r : List Int} {n : Nat} {d : List Int} {i : Nat} (h : d ≠ []) (hi : i < (laidF r n d).length) : (laidF r n d)[i]? = some (if n ≤ i ∧ i < n + d.length then d.getD (i - n) 0 else r.getD i 0) := by
  rw [← laidF_getD h i, List.getElem?_eq_getElem hi]; rfl
theorem ext_getD {xs ys : List Int} (hl : xs.length = ys.length) (h : ∀ i, i < xs.length → xs[i]?.getD 0 = ys[i]?.getD 0) : xs = ys := by
  apply List.ext_getElem hl
  intro i h1 h2
  have := h i h1
  rw [List.getElem?_eq_getElem h1, List.getElem?_eq_getElem h2] at this
  exact this
/-- laid over once more: the same -/
theorem laidF_twice (r : List Int) (n : Nat) (d : List Int) : laidF (laidF r n d) n d = laidF r n d := by
  by_cases h : d = []
  · subst h; rw [laidF_nil, laidF_nil]
  · have l1 := laidF_length (r := r) (n := n) h
    have l2 := laidF_length (r := laidF r n d) (n := n) h
    refine ext_getD (by omega) fun i hi => ?_
    rw [laidF_getD h, laidF_getD h]
    split
    · rfl
    · next c => rw [List.getD_eq_getElem?_getD, laidF_getD h, if_neg c]
theorem flat_rep (m : Nat) (v : V) : (List.replicate m [v]).flatten = List.replicate m v := by
  induction m with
  | zero => rfl
  | succ m ih => rw [List.replicate_succ, List.flatten_cons, ih, List.replicate_succ]; rfl
theorem all_true (n : Nat) : (List.replicate n true).all id = true := by
  rw [List.all_eq_true]
  intro x hx
  exact (List.mem_replicate.mp hx).2
def spBytes : Sp := fun vs H Q _ => ∃ (p : Addr) (n : Int) (o : HO), vs = [.ref p] ∧ H p = some o ∧ PoolO n o ∧ n ≤ 900000000 ∧
  ∀ (H' : Hp) (q : Addr) (bs : List Int) (o' : HO), H q = none → H' q = some (.lst (bs.map V.int)) → H' p = some o' → PoolO (n + 1000) o' → Kp [p] H H' → bs.length ≤ 400 → (∀ b ∈ bs, 0 ≤ b ∧ b ≤ 255) → Q (.ref q) H'
def spLaid (K : PySem.W.Frag) : Sp := fun vs H Q _ => ∃ (a b : Addr) (r : List Int) (n : Nat) (d : List Int), vs = [.ref a, .int n, .ref b] ∧ SqL K H a (r.map V.int) ∧ H b = some (.lst (d.map V.int)) ∧ r.length ≤ 10000 ∧ n ≤ 4400 ∧ d.length ≤ 4400 ∧
  ∀ (H' : Hp) (q : Addr), H q = none → H' q = some (.lst ((laidF r n d).map V.int)) → Same H H' → Q (.ref q) H'
def spDue (K : PySem.W.Frag) : Sp := fun vs H Q _ => ∃ (a b : Addr) (r : List Int) (n : Nat) (d : List Int), vs = [.ref a, .int n, .ref b] ∧ SqL K H a (r.map V.int) ∧ SqL K H b (d.map V.int) ∧ r.length ≤ 10000 ∧ n ≤ 4400 ∧ d.length ≤ 4400 ∧
  ∀ (H' : Hp) (q : Addr), H q = none → H' q = some (.lst ((laidF r n d).map V.int)) → Same H H' → Q (.ref q) H'
def spFits (K : PySem.W.Frag) : Sp := fun vs H Q _ => ∃ (a b : Addr) (xs ys : List Int), vs = [.ref a, .ref b] ∧ H a = some (.lst (xs.map V.int)) ∧ SqL K H b (ys.map V.int) ∧ xs.length ≤ 100000 ∧
  ∀ H' : Hp, Same H H' → Q (.bl (decide (xs = ys))) H'
def spLaw (K : PySem.W.Frag) : Sp := fun vs H Q _ => ∃ (a : Addr) (ns : List Int), vs = [.ref a] ∧ SqL K H a (ns.map V.int) ∧ ns.length ≤ 63 ∧ ∀ H' : Hp, Q (.bl true) H'
theorem step_same {H H1 H2 : Hp} {p : Addr} (s : Same H H1) (n : H p = none) (k : Kp [p] H1 H2) : Same H H2 := fun b o e =>
  k b o (fun z => ne_of_none e n (List.mem_singleton.mp z)) (s b o e)
theorem put_same {H H1 : Hp} {p : Addr} {o : HO} (s : Same H H1) (n : H p = none) : Same H (upd H1 p o) := fun b x e => by
  rw [upd_ne (ne_of_none e n)]; exact s b x e
theorem ixN_zero {n : Nat} (h : 0 < n) : ixN n 0 = some 0 := by
  unfold ixN
  rw [if_pos (by decide), if_pos (by omega)]; rfl
theorem laidF_le {r d : List Int} {n m : Nat} (h : r.length ≤ m ∧ n + d.length ≤ m) : (laidF r n d).length ≤ m := by
  by_cases e : d = []
  · subst e; rw [laidF_nil]; exact h.1
  · rw [laidF_length e]; omega
end Sip
namespace Sip
open PySem PySem.Spec PyProof.Rows L2 PySem.Builtin PySem.Builtin.Str PySem.Builtin.Int PySem.Builtin.Float

def figs : List Nat := [48, 49, 50, 51, 52, 53, 54, 55, 56, 57, 97, 98, 99, 100, 101, 102]
/-- two figures of sixteen -/
def two (n : Nat) : Str := ⟨#[figs.getD (n / 16) 0, figs.getD (n % 16) 0]⟩
def hexSpec : FormatSpec := { fill := 48, align := 61, width := some 2, type := some 120 }
theorem hex_parse : parseFormatSpec (Str.ofString "02x").cps.toList "int" 62 = .ok hexSpec := by kernel_rfl
theorem hex_ascii : (((Str.ofString "02x").cps.toList.drop 1).any (· ≥ 128) || ((Str.ofString "02x").cps.getD 0 0 ≥ 128 && !([60, 62, 61, 94] : List Nat).contains ((Str.ofString "02x").cps.getD 1 0))) = false := by decide +kernel
theorem hex_some : ((Str.ofString "02x").length == 0) = false := by decide +kernel
theorem hex_ex : ∃ F : Int → Str, (∀ (a : Int) (t u : Tok), Gives («int.__format__» ⟨[.int a t, .str (Str.ofString "02x") u], []⟩) (.str (F a))) ∧ ∀ b : Fin 256, F (b.val : Int) = two b.val := by
  apply Exists.intro
  apply And.intro
  · intro a t u prog w A R s hq
    unfold «int.__format__»
    simp only [selfAndOne, noKeywords, Int.intOfSelf, asInt?, asStr?, List.isEmpty_nil, if_true, pure_bind, bind_pure, bind_assoc, hex_some, hex_ascii, Bool.false_eq_true, if_false,
      show (Value.str (Str.ofString "02x") u == Value.none) = false from rfl]
    refine wpAny_bind (wpAny_typeNameOf (T := "str") (typeIs_str _ _ _) (by decide) fun _ => wpAny_bind (wpAny_typeNameOfCut_int ?_))
    simp only [hex_parse]
    refine PySem.W.KFB.if_so (by decide +kernel) ?_
    show wpAny _ _ (retStr _) _ _ _
    unfold retStr
    exact wpAny_bind (wpAny_mkStr (wpAny_pure hq.2) hq.1)
  · decide +kernel
end Sip
namespace Sip
open PySem PySem.Spec PyProof.Rows L2 TL

section
variable {X : Cx}
/-- f'{b:02x}' of a byte -/
def tHex (te : TE) : TE := fun σ H Q => te σ H fun x H1 => ∃ b : Nat, b < 256 ∧ x = .int b ∧ Q (.str (two b)) H1
theorem pe_hex {e : Expr} {te : TE} {k : Nat} {p1 p2 p3 p4 : Pos} (he : PE X e te) :
    PE X (.JoinedStr [.FormattedValue e (-1) (some (.JoinedStr [.Constant (.str (Str.ofString "02x")) k p1] p2)) p3] p4) (tHex te) := by
  have hs : PE X (.JoinedStr [.Constant (.str (Str.ofString "02x")) k p1] p2) (tC (.str (Str.ofString "02x"))) := pe_joined1 pe_str
  obtain ⟨F, g1, g2⟩ := hex_ex
  refine ⟨fun pins s σ H Q I h => wpAny_JoinedStr_one (wpAny_FormattedValue_spec (thn (he.run pins s σ H _ I h) fun v s1 ⟨x, H1, I1, r1, q1⟩ => ?_))⟩
  obtain ⟨b, hb, rfl, q⟩ := q1
  obtain ⟨t, rfl⟩ := r1
  refine thn (hs.run pins s1 σ H1 (fun y H2 => y = .str (Str.ofString "02x") ∧ H2 = H1) I1 ⟨rfl, rfl⟩) fun u s2 ⟨y, H2, I2, r2, ey, eH⟩ => ?_
  subst ey eH
  obtain ⟨t2, rfl⟩ := r2
  have e2 : F (b : Int) = two b := g2 ⟨b, hb⟩
  refine ⟨_, _, rfl, wpAny_formatField_spec (x := F (b : Int)) hex_some (fun s' => typeIs_int s' _ _) PySem.F.slot_int_format PySem.F.entry_int_format PySem.F.args_int_format_2 (fun u => g1 b t u) ?_ (by rw [sizeLine_eq]; decide +kernel) (by rw [e2, sizeLine_eq]; show (2 : Nat) ≤ _; decide)⟩
  rw [e2]
  exact ⟨.str (two b), H2, (I2.tok _).tok _, ⟨_, rfl⟩, q⟩
end

/-! the text of a row, as codes -/
def twoL (b : Int) : List Nat := [figs.getD (b.toNat / 16) 0, figs.getD (b.toNat % 16) 0]
def txL (bs : List Int) : List Nat := bs.flatMap twoL
def tx (bs : List Int) : Str := ⟨(txL bs).toArray⟩
def Bytes (bs : List Int) : Prop := ∀ b ∈ bs, 0 ≤ b ∧ b ≤ 255
theorem txL_length : ∀ bs : List Int, (txL bs).length = 2 * bs.length
  | [] => rfl
  | b :: r => by
    show (twoL b ++ txL r).length = 2 * (r.length + 1)
    rw [List.length_append, txL_length r]
    show 2 + 2 * r.length = _
    omega
theorem tx_length (bs : List Int) : (tx bs).length = 2 * bs.length := by
  show (txL bs).toArray.size = _
  rw [List.size_toArray, txL_length]
theorem txL_append (a b : List Int) : txL (a ++ b) = txL a ++ txL b := List.flatMap_append
theorem tx_append (a b : List Int) : tx (a ++ b) = tx a ++ tx b := ext_toList (by
  show (txL (a ++ b)).toArray.toList = ((txL a).toArray ++ (txL b).toArray).toList
  rw [Array.toList_append, txL_append])
/-- a figure's worth -/
def wor (c : Nat) : Nat := figs.idxOf c
theorem wor_figs : ∀ j : Fin 16, wor (figs.getD j.val 0) = j.val := by decide
theorem twoL_back {b : Int} (h : 0 ≤ b ∧ b ≤ 255) : ∃ i j : Nat, i < 16 ∧ j < 16 ∧ twoL b = [figs.getD i 0, figs.getD j 0] ∧ b = 16 * (i : Int) + j :=
  ⟨b.toNat / 16, b.toNat % 16, by omega, by omega, rfl, by omega⟩
theorem figs_inj {i j : Nat} (hi : i < 16) (hj : j < 16) (e : figs.getD i 0 = figs.getD j 0) : i = j := by
  have a : wor (figs.getD i 0) = i := wor_figs ⟨i, hi⟩
  have b : wor (figs.getD j 0) = j := wor_figs ⟨j, hj⟩
  exact a.symm.trans ((congrArg wor e).trans b)
theorem txL_inj : ∀ {a b : List Int}, Bytes a → Bytes b → txL a = txL b → a = b
  | [], [], _, _, _ => rfl
  | [], y :: r, _, _, e => by cases e
  | x :: r, [], _, _, e => by cases e
  | x :: r, y :: q, ha, hb, e => by
    obtain ⟨i, j, hi, hj, e1, e2⟩ := twoL_back (ha x (List.mem_cons_self ..))
    obtain ⟨m, n, hm, hn, e3, e4⟩ := twoL_back (hb y (List.mem_cons_self ..))
    have e5 : twoL x ++ txL r = twoL y ++ txL q := e
    rw [e1, e3] at e5
    have e6 := List.cons.inj e5
    have e7 := List.cons.inj e6.2
    have k1 := figs_inj hi hm e6.1
    have k2 := figs_inj hj hn e7.1
    have k3 := txL_inj (fun z hz => ha z (List.mem_cons_of_mem _ hz)) (fun z hz => hb z (List.mem_cons_of_mem _ hz)) e7.2
    rw [e2, e4, k1, k2, k3]
theorem tx_inj {a b : List Int} (ha : Bytes a) (hb : Bytes b) (e : tx a = tx b) : a = b := txL_inj ha hb (by
  have := congrArg (fun s : Str => s.cps.toList) e
  exact this)
theorem tx_eq {a b : List Int} (ha : Bytes a) (hb : Bytes b) : decide (V.str (tx a) = V.str (tx b)) = decide (a = b) := by
  by_cases h : a = b
  · subst h; rw [decide_eq_true rfl, decide_eq_true rfl]
  · rw [decide_eq_false h, decide_eq_false]
    intro z
    exact h (tx_inj ha hb (V.str.inj z))
/-- joined from its parts -/
theorem join_two : ∀ bs : List Int, Str.join (Str.ofString "") (bs.map fun b => two b.toNat) = tx bs := fun bs => ext_toList (by
  show tl (Str.join (Str.ofString "") _) = txL bs
  rw [tl_join]
  have e0 : tl (Str.ofString "") = [] := by decide +kernel
  rw [e0, List.map_map]
  induction bs with
  | nil => rfl
  | cons b r ih =>
    cases r with
    | nil => show twoL b = twoL b ++ []; rw [List.append_nil]
    | cons c q =>
      show twoL b ++ ([] ++ joinL [] ((c :: q).map _)) = twoL b ++ txL (c :: q)
      rw [List.nil_append, ih])
/-- its signs by place -/
theorem txL_get : ∀ {bs : List Int} {i : Nat} {b : Int}, bs[i]? = some b → (txL bs)[2 * i]? = some (figs.getD (b.toNat / 16) 0) ∧ (txL bs)[2 * i + 1]? = some (figs.getD (b.toNat % 16) 0)
  | [], _, _, h => by simp at h
  | x :: r, 0, b, h => by
    have e : x = b := Option.some.inj h
    subst e
    exact ⟨rfl, rfl⟩
  | x :: r, i + 1, b, h => txL_get (bs := r) (i := i) (b := b) h
theorem tx_at {bs : List Int} {i : Nat} {b : Int} (h : bs[i]? = some b) : atI (tx bs).cps.toList ((2 * i : Nat) : Int) = some (figs.getD (b.toNat / 16) 0) ∧ atI (tx bs).cps.toList ((2 * i + 1 : Nat) : Int) = some (figs.getD (b.toNat % 16) 0) :=
  ⟨atI_nat (txL_get h).1, atI_nat (txL_get h).2⟩
def FIG : Str := Str.ofString "0123456789abcdef"
theorem fig_find : ∀ j : Fin 16, Txt.find FIG ⟨#[figs.getD j.val 0]⟩ = (j.val : Int) := by decide +kernel
theorem fig_at {j : Nat} (h : j < 16) : atI FIG.cps.toList (j : Int) = some (figs.getD j 0) := by
  have e : FIG.cps.toList = figs := by decide +kernel
  rw [e]
  refine atI_nat ?_
  rw [List.getD_eq_getElem?_getD, List.getElem?_eq_getElem (show j < figs.length from h)]; rfl
/-! slices of lists of ints -/
theorem cut_map (bs : List Int) (lo hi : Option Int) : ∃ cs : List Int, cutV (bs.map V.int) lo hi = cs.map V.int ∧ cs.length ≤ bs.length ∧ ∀ x ∈ cs, x ∈ bs := by
  refine ⟨(bs.drop (HT.sIx bs.length 0 lo)).take (HT.sIx bs.length bs.length hi - HT.sIx bs.length 0 lo), ?_, ?_, ?_⟩
  · unfold cutV
    rw [List.length_map, List.map_take, List.map_drop]
  · rw [List.length_take, List.length_drop]; omega
  · intro x hx
    exact List.mem_of_mem_drop (List.mem_of_mem_take hx)
theorem size_two (n : Nat) : Builtin.Range.rangeSize 0 ((2 * n : Nat) : Int) 2 = (n : Int) := by
  unfold Builtin.Range.rangeSize
  rw [if_pos (by decide)]
  split <;> omega
theorem range_two (n : Nat) (h : n ≤ 1000000) : RgC 0 ((2 * n : Nat) : Int) 2 n := by
  refine ⟨by decide, by decide, ?_, size_two n⟩
  have f : ∀ x : Int, 0 ≤ x → x ≤ 3000000 → Builtin.Range.rangeFitsLong x = true := fun x h0 h1 => by
    unfold Builtin.Range.rangeFitsLong
    rw [Bool.and_eq_true, decide_eq_true_eq, decide_eq_true_eq]
    omega
  unfold Builtin.Range.small
  rw [size_two, f 0 (by decide) (by decide), f ((2 * n : Nat) : Int) (by omega) (by omega), f 2 (by decide) (by decide), f (n : Int) (by omega) (by omega)]
  simp only [Bool.true_and, show (2 : Int) > 0 from by decide, if_true, Bool.or_eq_true, beq_iff_eq]
  exact .inr (f _ (by omega) (by omega))
end Sip
namespace Sip
open PySem PySem.Spec PyProof.Rows L2 TL
def spWorth : Sp := fun vs H Q _ => ∃ j : Nat, j < 16 ∧ vs = [.str ⟨#[figs.getD j 0]⟩] ∧ Q (.int j) H
def spRead : Sp := fun vs H Q _ => ∃ bs : List Int, vs = [.str (tx bs)] ∧ Bytes bs ∧ bs.length ≤ 8000 ∧ ∀ (H' : Hp) (p : Addr), H p = none → H' p = some (.lst (bs.map V.int)) → Same H H' → Q (.ref p) H'
def spTxt (K : PySem.W.Frag) : Sp := fun vs H Q _ => ∃ (a : Addr) (bs : List Int), vs = [.ref a] ∧ SqL K H a (bs.map V.int) ∧ Bytes bs ∧ bs.length ≤ 8000 ∧ ∀ H' : Hp, Same H H' → Q (.str (tx bs)) H'
theorem get_int {xs : List Int} {i : Nat} {x : V} (h : (xs.map V.int)[i]? = some x) : ∃ hi : i < xs.length, x = .int xs[i] := by
  have hi : i < xs.length := by
    have := (List.getElem?_eq_some_iff.mp h).1
    rwa [List.length_map] at this
  refine ⟨hi, ?_⟩
  rw [List.getElem?_map, List.getElem?_eq_getElem hi] at h
  exact (Option.some.inj h).symm
theorem sum_two : ∀ bs : List Int, ((bs.map fun b => two b.toNat).map (·.length)).sum = 2 * bs.length
  | [] => rfl
  | b :: r => by
    show 2 + ((r.map fun b => two b.toNat).map (·.length)).sum = 2 * (r.length + 1)
    rw [sum_two r]; omega
theorem fit_two (bs : List Int) (h : bs.length ≤ 8000) : ((bs.map fun b => two b.toNat).map (·.length)).sum + (bs.map fun b => two b.toNat).length * (Str.ofString "").length ≤ 16777216 := by
  rw [sum_two, show (Str.ofString "").length = 0 by decide +kernel]; omega
end Sip
namespace Sip
open PySem PySem.Spec PyProof.Rows L2 TL
def spAsked : Sp := fun vs H Q _ => ∃ (a : Addr) (bs : List Int), vs = [.ref a] ∧ H a = some (.lst (bs.map V.int)) ∧ Bytes bs ∧ bs.length ≤ 4000 ∧ ∀ H' : Hp, Same H H' → Q (.bl true) H'
end Sip
/-! a list comprehension whose element may raise: what is raised leaves the comprehension -/
namespace Sip
open PySem PySem.Spec PyProof.Rows L2

theorem note_same {e : Value} {a b : Env} (h : a.frame = b.frame) : noteFrame e a = noteFrame e b := by
  unfold noteFrame PySem.frameOf
  rw [h]

/-- a comprehension's end, either way -/
def endX (M : Model) (A : Around) (E : Value → Shared → Prop) (Q : Value → Shared → Prop) (acc : Value) (ce : Env) (r : Result) (s' : Shared) : Prop :=
  ∃ m, s'.heap.Ns ce.locals m ∧ ∀ h', Heap.SameBut ce.locals s'.heap h' → match r with
    | .ok _ => Q acc { s' with heap := h' }
    | .error x => wpAny M A (passOn "comprehension.variables-let-go" x ce : Sem Value) (fun _ _ => False) E { s' with heap := h' }

theorem comp_run {M : Model} {A : Around} {E : Value → Shared → Prop} {s : Shared} {env : Env} {e : Expr} {scope : Scope} {pos : Pos} {na fi : Sem Value} {g : Comprehension} {gs : List Comprehension} {cl : List (Str × Addr)} {Q : Value → Shared → Prop}
    (hg : clausesOf e = g :: gs) (hs : ∀ x, foldedSetIterable g.iter env x = pure x) (hcl : closureFor scope env = pure cl) (hk : scope.kind = .function)
    (hn : ∀ x ∈ scope.names, x.2 = .local → scope.names.lookup x.1 = some .local)
    (h : wpAny M A fi (fun x s1 => wpAny M A (pyIter x) (fun it s2 => wpAny M A na (fun acc s3 => wpAny M A (newFunctionEnv scope env.globals cl [] env.qual none .none (some env)) (fun ce s4 =>
      codeAny M A (.compStart e 0 it acc { ce with scope := relabel scope env }) (endX M A E Q acc { ce with scope := relabel scope env }) s4) E s3) E s2) E s1) E s) :
    wpAny M A (comprehension e scope env pos na false fi none) Q E s := by
  unfold comprehension
  rw [hcl, hg]
  refine wpAny_bind (wpAny_mono h (fun x s1 h1 => ?_) fun _ _ z => z)
  refine wpAny_bind (wpAny_standAt (wpAny_bind (wpAny_of_eq (hs x) ?_)))
  refine wpAny_bind (wpAny_holding (wpAny_mono h1 (fun it s2 h2 => ?_) fun _ _ z => z))
  refine wpAny_standIf (wpAny_bind (wpAny_mono h2 (fun acc s3 h3 => ?_) fun _ _ z => z))
  refine wpAny_bind (wpAny_pure (wpAny_bind (wpAny_mono h3 (fun ce s4 h4 => ?_) fun _ _ z => z)))
  dsimp only
  have vs : ∀ x ∈ (scope.names.filter fun x => (x.2 == .local || x.2 == .cell) && x.1 != (".0" : Str)).reverse, x.2 = .local → Env.kindOf { ce with scope := relabel scope env } x.1 = some .local :=
    fun x hx hl => lookup_relabel_local (hn x (List.mem_filter.mp (List.mem_reverse.mp hx)).1 hl)
  refine wpAny_holding (wpAny_bind (wpAny_attempt (wpAny_holding (wpAny_run (codeAny_mono h4 fun r s' hr => ?_)))))
  obtain ⟨m, nm, hr⟩ := hr
  cases r with
  | ok f => exact wpAny_bind (wpAny_holding (wpAny_comp_letGo (cenv := { ce with scope := relabel scope env }) hk _ s' m vs nm fun h' _ _ sb => wpAny_pure (hr h' sb)))
  | error x => exact wpAny_bind (wpAny_holding (wpAny_comp_letGo (cenv := { ce with scope := relabel scope env }) hk _ s' m vs nm fun h' _ _ sb => wpAny_mono (hr h' sb) (fun _ _ f => f.elim) fun _ _ z => z))

theorem frames_to {h h' B B' : Heap} : ∀ {l : List Env}, h.FunFrames B l → (∀ b ∈ frs l, ∀ o, h.get? b = some o → h'.get? b = some o) → (∀ b ∈ frs l, B'.get? b = none) → h'.FunFrames B' l
  | [], _, _, _ => trivial
  | v :: l, f, k, n => by
    obtain ⟨f1, ⟨L, o, f2, f3, f4, f5⟩, f6⟩ := f
    have up : ∀ b ∈ frs l, b ∈ frs (v :: l) := fun b hb => by
      obtain ⟨x, hx, q⟩ := List.mem_filterMap.mp hb
      exact List.mem_filterMap.mpr ⟨x, List.mem_cons_of_mem _ hx, q⟩
    have hL : L ∈ frs (v :: l) := List.mem_filterMap.mpr ⟨v, List.mem_cons_self, f2⟩
    exact ⟨f1, ⟨L, o, f2, n L hL, k L hL o f4, f5⟩, frames_to f6 (fun b hb => k b (up b hb)) fun b hb => n b (up b hb)⟩

section
variable {X : Cx} {pins : List (Addr × Obj)} {σ : L2.St} {H3 : Hp} {s3 : Shared}
set_option maxHeartbeats 1000000 in
theorem comp_out {scope : Scope} {ce : Env} {fp : List Addr} {W : WX} {E : XK} {pb : List (Addr × Obj)} {σb : L2.St} {Hb : Hp} {sb s' : Shared} {u acc : Value} {Q : Value → Shared → Prop}
    (I3 : Inv X pins σ H3 s3) (hst : X.stack = X.env :: X.outer) (hfr : X.env.frame = some X.env.locals) (tk : Takes X W) (hfp : ∀ b ∈ fp, FpOk X pins H3 b)
    (cf : ce.frame = X.env.frame) (cL : ce.locals = s3.heap.objs.size) (Ib : Inv (X.blk s3 H3 scope ce fp) pb σb Hb sb) (hE : ∀ cls d H', E cls d H' → W cls d σ H')
    (c : CX X.prog X.w X.stack Hb sb E u s') :
    notedBy (model X.prog X.w) X.A ce (fun e s'' => endX (model X.prog X.w) X.A X.xe Q acc ce (.error e) s'') u s' := by
  obtain ⟨a, B, H', cls, d, rfl, fl, hok, ub, na, os, ag, hw⟩ := c
  have hA : X.A.frames = some (X.env :: X.outer) := by rw [I3.ok.frames, hst]
  have Bu : Un (frs X.stack) fp H3 Hb s3.heap sb.heap := Ib.base
  have HbC : Hb ce.locals = none := Ib.free
  obtain ⟨m, ⟨oC, es, ep, eC, dC, rC⟩, _⟩ := Ib.loc
  have eC : sb.heap.get? ce.locals = some oC := eC
  have nC : ce.locals ∉ frs X.stack := fun z => by
    rcases List.mem_cons.mp (I3.stkSub _ z) with z | z
    · have := I3.lt
      rw [← z, cL] at this
      exact absurd this (Nat.lt_irrefl _)
    · exact I3.nofs (Nat.le_of_eq cL.symm) z
  have BC : B.get? ce.locals = some oC := ub.keep _ _ eC HbC nC
  have H'C : H' ce.locals = none := ub.free _ _ eC HbC
  have ffl : ∀ b ∈ frs X.stack, ∃ o, s'.heap.get? b = some o ∧ ∀ vs, o.data ≠ .fields vs := fun b hb => (fl.2.2.1.mem hb).2
  show wpAny _ _ (noteFrame (.ref a) ce) _ _ s'
  rw [note_same cf]
  have fl2 := fl
  rw [hst] at fl2
  refine HandSPX.looks_onZ Zc.steady hA hfr fl2 fun h1 hh up1 => ?_
  obtain ⟨st1, en1, ff1, tr1⟩ := hh
  refine ⟨m, ⟨oC, es, ep, st1 _ _ BC, dC, rC⟩, fun h' sbut => ?_⟩
  -- the ground without the comprehension's own names
  obtain ⟨B', b1, b2⟩ := restrict B fun b => !decide (b = ce.locals)
  have Bto : ∀ b o, B.get? b = some o → b ≠ ce.locals → B'.get? b = some o := fun b o e n => by
    rw [b1 b (by simp [n])]; exact e
  have Bof : ∀ b o, B'.get? b = some o → B.get? b = some o ∧ b ≠ ce.locals := fun b o e => by
    by_cases n : b = ce.locals
    · rw [b2 b (by simp [n])] at e; cases e
    · rw [b1 b (by simp [n])] at e; exact ⟨e, n⟩
  have Bno : ∀ b, B.get? b = none → B'.get? b = none ∧ b ≠ ce.locals := fun b e => by
    have n : b ≠ ce.locals := fun z => by rw [z, BC] at e; cases e
    exact ⟨by rw [b1 b (by simp [n])]; exact e, n⟩
  have st2 : B'.StaysIn h' := fun b o e => by
    obtain ⟨e1, n⟩ := Bof b o e
    rw [sbut.2 b n]; exact st1 b o e1
  have ff2 : h'.FunFrames B' (X.env :: X.outer) := frames_to ff1 (fun b hb o e => by
    rw [sbut.2 b (Bno b (ff1.mem hb).1).2]; exact e) fun b hb => (Bno b (ff1.mem hb).1).1
  have tr2 : HandSPX.TracedZ h' B' a (Zc cls d) (rawInt X.env.locals) := by
    obtain ⟨oe, vs, T, oT, ts, t1, t2, t3, t4, t5, t6, t7, t8, t9⟩ := tr1
    exact ⟨oe, vs, T, oT, ts, by rw [sbut.2 a (Bno a en1).2]; exact t1, t2, t3, t4, (Bno T t5).1, t6, by rw [sbut.2 T (Bno T t5).2]; exact t7, t8, t9⟩
  show wpAny _ _ (passOn "comprehension.variables-let-go" (.ref a) ce : Sem Value) _ _ _
  obtain ⟨oe, vs, T, oT, ts, t1, t2, t3, t4, t5, t6, t7, t8, t9⟩ := id tr2
  unfold PySem.passOn
  refine wpAny_bind (wpAny_field t1 t3 t4 ?_)
  rw [if_neg (show ¬ ((Value.ref T == Value.none) = true) from by simp)]
  try refine wpAny_bind (wpAny_pure ?_)
  refine wpAny_bind (HandSPX.setFlight_anyZ (s := { s' with heap := h' }) st2 ff2 tr2 fun h2 k1 k2 k3 k4 => wpAny_throw (tk _ _ ?_))
  rw [cf, hfr] at k3
  -- the state without it
  obtain ⟨G, g1, g2⟩ := restrict h2 fun b => (B'.get? b).isSome || decide (b ∈ frs X.stack)
  have gB : ∀ b o, B'.get? b = some o → G.get? b = some o := fun b o e => by
    rw [g1 b (by simp [e])]; exact k1 b o e
  have gF : ∀ b ∈ frs X.stack, G.get? b = h2.get? b := fun b hb => g1 b (by simp [hb])
  have og : ∀ b o, G.get? b = some o → h2.get? b = some o ∧ ((B'.get? b).isSome = true ∨ b ∈ frs X.stack) := fun b o e => by
    cases q : ((B'.get? b).isSome || decide (b ∈ frs X.stack)) with
    | false => rw [g2 b q] at e; cases e
    | true => rw [g1 b q] at e; exact ⟨e, by simpa [Bool.or_eq_true] using q⟩
  -- a frame's object through all of it
  have fr : ∀ b ∈ frs X.stack, ∀ o, s'.heap.get? b = some o → ∃ sl, h2.get? b = some { o with slots := sl } := fun b hb o e => by
    obtain ⟨o2, e2, nf⟩ := ffl b hb
    rw [e] at e2; cases e2
    obtain ⟨sl1, e3⟩ := up1 b o e nf
    have nb : b ≠ ce.locals := fun z => nC (z ▸ hb)
    rw [← sbut.2 b nb] at e3
    obtain ⟨sl2, e4⟩ := k4 b _ e3 nf
    exact ⟨sl2, e4⟩
  have lt3 : ∀ b o, s3.heap.get? b = some o → b ≠ ce.locals := fun b o e z => by
    have := Heap.lt_size e
    rw [z, cL] at this
    exact absurd this (Nat.lt_irrefl _)
  have U : Un (frs X.stack) fp H3 H' s3.heap G := by
    refine ⟨fun b o e n hb hx => ?_, fun b o e n hb hx => ?_, fun b o e n hx => ?_, fun b o e hx => ?_, fun b xs e => ub.tups b xs (Bu.tups b xs e), fun b o v e => ub.frzs b o v (Bu.frzs b o v e), fun b ps e => ?_⟩
    · exact gB b o (Bto b o (ub.keep b o (Bu.keep b o e n hb hx) (Bu.free b o e n hx) hb) (lt3 b o e))
    · obtain ⟨sl, e1⟩ := Bu.slot b o e n hb hx
      obtain ⟨sl1, e2⟩ := ub.slot b _ e1 hb
      obtain ⟨sl2, e3⟩ := fr b hb _ e2
      exact ⟨sl2, by rw [gF b hb]; exact e3⟩
    · obtain ⟨o1, e1⟩ := Bu.there b o e hx
      exact ub.free b o1 e1 (Bu.free b o e n hx)
    · obtain ⟨o1, e1⟩ := Bu.there b o e hx
      by_cases hb : b ∈ frs X.stack
      · obtain ⟨sl1, e2⟩ := ub.slot b _ e1 hb
        obtain ⟨sl2, e3⟩ := fr b hb _ e2
        exact ⟨_, by rw [gF b hb]; exact e3⟩
      · obtain ⟨o2, e2⟩ := ub.there b o1 e1 hb
        exact ⟨o2, gB b o2 (Bto b o2 e2 (lt3 b o e))⟩
    · obtain ⟨m1, e1⟩ := Bu.tbls b ps e
      obtain ⟨m2, e2⟩ := ub.tbls b _ e1
      exact ⟨m1 ++ m2, by rw [e2]; simp⟩
  have hokG : HOk X.prog X.w H' G := fun b o q => (hok b o q).stay (fun c v hc r => gB c v (Bto c v r fun z => by
    rcases hc with hc | hc
    · rw [← hc, z, H'C] at q; cases q
    · rw [z, H'C] at hc; cases hc)) (fun _ r => r) fun _ _ r => r
  have IX : Inv X pins σ H' { s3 with heap := G, gens := s'.gens, drawn := s'.drawn, toks := s'.toks } :=
    I3.call (ch := fp) U hokG ag fun b hb => ⟨(hfp b hb).2.2.2.1, (hfp b hb).2.1, (hfp b hb).2.2.2.2.1, (hfp b hb).2.2.2.2.2⟩
  refine ⟨a, B', _, pins, σ, H', cls, d, rfl, IX, fun b o e hb => ?_, Heap.UpToSlots.of_keeps fun b o e => (og b o e).1, .inr (.inr ⟨k1, (Bno a en1).1, by rw [hst]; exact k2, k3⟩), na, os.trans Ib.os, ag, hE _ _ _ hw⟩
  obtain ⟨e1, w1⟩ := og b o e
  rcases w1 with w1 | w1
  · obtain ⟨o2, q2⟩ := Option.isSome_iff_exists.mp w1
    have := k1 b o2 q2
    rw [e1] at this; cases this
    exact q2
  · exact absurd w1 hb
end

/-- another wish about what is raised -/
abbrev withX (X : Cx) (xe : Value → Shared → Prop) : Cx := { X with xe := xe }
theorem swapX {X : Cx} {pins : List (Addr × Obj)} {σ : L2.St} {H : Hp} {s : Shared} (xe : Value → Shared → Prop) (I : Inv X pins σ H s) : Inv (withX X xe) pins σ H s :=
  ⟨⟨I.ok.mod, I.ok.kind, I.ok.glob, I.ok.blt, I.ok.above, I.ok.inj, I.ok.has, I.ok.cab, I.ok.hd, I.ok.frames, I.ok.stk, I.ok.exf, I.ok.bs, I.ok.bsz, I.ok.noex, I.ok.exfs, I.ok.funs, I.ok.frf⟩,
    I.os, I.bare, I.base, I.loc, I.cell, I.free, I.freeC, I.pin, I.hok, I.len⟩
theorem unswapX {X : Cx} {pins : List (Addr × Obj)} {σ : L2.St} {H : Hp} {s : Shared} {xe : Value → Shared → Prop} (I : Inv (withX X xe) pins σ H s) : Inv X pins σ H s :=
  ⟨⟨I.ok.mod, I.ok.kind, I.ok.glob, I.ok.blt, I.ok.above, I.ok.inj, I.ok.has, I.ok.cab, I.ok.hd, I.ok.frames, I.ok.stk, I.ok.exf, I.ok.bs, I.ok.bsz, I.ok.noex, I.ok.exfs, I.ok.funs, I.ok.frf⟩,
    I.os, I.bare, I.base, I.loc, I.cell, I.free, I.freeC, I.pin, I.hok, I.len⟩
section
variable {X : Cx}
/-- [elt for target in iter], where elt may raise: W tells what is then wanted -/
def tLcX (wi : TI) (g : TG) (te : XK → TE) (vs : List Nat) (W : WX) : TE := fun σ H Q => tLc wi g tYes (te fun cls d H' => W cls d σ H') vs σ H Q
set_option maxHeartbeats 2000000 in
theorem pe_lcX {elt tg iter : Expr} {scope : Scope} {own : List (Str × Nat)} {pos : Pos} {wi : TI} {g : TG} {te : XK → TE} {W : WX} (hc : X.calm = true) (hst : X.stack = X.env :: X.outer) (hfr : X.env.frame = some X.env.locals) (tk : Takes X W) (hN : X.N.Nodup)
    (hi : PI X tg iter wi) (ok : BlkOk X.N X.env.scope scope own)
    (hg : ∀ (s : Shared) (H : Hp) (C : Addr) (cl : List (Str × Addr)) (fp : List Addr), PG (X.blk s H scope (compEnvC scope cl C X.env) fp) tg g)
    (he : ∀ (s : Shared) (H : Hp) (C : Addr) (cl : List (Str × Addr)) (fp : List Addr) (xe : Value → Shared → Prop) (E : XK), Passes (CX X.prog X.w) (withX (X.blk s H scope (compEnvC scope cl C X.env) fp) xe) E →
      PE (withX (X.blk s H scope (compEnvC scope cl C X.env) fp) xe) elt (te E))
    (hs : ∀ x, foldedSetIterable iter X.env x = pure x := by intro _; rfl) : PE X (.ListComp elt [⟨tg, iter, [], 0⟩] scope pos) (tLcX wi g te (own.map (·.2)) W) := by
  refine ⟨fun pins s σ H Q I h => ?_⟩
  have h : tLc wi g tYes (te fun cls d H' => W cls d σ H') (own.map (·.2)) σ H Q := h
  generalize hE : (fun cls d H' => W cls d σ H' : XK) = E at h
  have hEW : ∀ cls d H', E cls d H' → W cls d σ H' := fun cls d H' q => by rw [← hE] at q; exact q
  rw [eval_ListComp]
  have cells : ∀ y ∈ scope.names, y.2 = .free → ∃ c, X.env.cells.lookup y.1 = some c := fun y hy e => (ok.free y hy e).elim (fun k => I.ok.has _ (.inl k)) fun k => I.ok.has _ (.inr k)
  refine comp_run rfl hs (closure_ok cells) ok.kind (fun y hy e => by rw [ok.uniq y hy, e]) (thn (hi.run pins s σ H _ I h) fun xv s1 hx => ?_)
  refine thn hx fun itv s2 h2 => ?_
  obtain ⟨it, fp, tn, J, H2, rfl, I2, T, st2, f2, q⟩ := h2
  refine wpAny_newObj_type (newEnv_comp ?_) (by show 0 ≤ sizeLine; decide)
  generalize eD : s2.heap.objs.size = D
  have nD : H2 D = none := I2.hok.fresh (Nat.le_of_eq eD)
  obtain ⟨Wi, ⟨m0, w0⟩, turn⟩ := q D nD
  generalize es3 : ({ s2 with heap := s2.heap.push { cls := .type "list", data := .seq ([] : List Value).toArray } } : Shared) = s3
  have p3 : s3.heap = s2.heap.push { cls := .type "list", data := .seq ([] : List Value).toArray } := by rw [← es3]
  have I3 : Inv X pins σ (upd H2 D (.lst [])) s3 := by
    subst es3
    refine I2.laid (t' := s2.toks) (fun b o e => Heap.get?_push_of_some _ e) (Nat.le_of_eq eD) ⟨Nat.zero_le _, [], 0, .nil, ?_⟩
    subst eD
    exact Heap.get?_push_size _ rfl
  have f3 : ∀ b ∈ fp, FpOk X pins (upd H2 D (.lst [])) b ∧ b < s3.heap.objs.size := fun b hb => by
    obtain ⟨o, e, _⟩ := T.obj _ _ st2 b hb
    have lt := Heap.lt_size e
    refine ⟨⟨?_, (f2 b hb).2⟩, by rw [p3, Heap.size_push]; exact Nat.lt_succ_of_lt lt⟩
    rw [upd_ne (by rw [← eD]; exact Nat.ne_of_lt lt)]
    exact (f2 b hb).1
  have st3 : tn 0 s3.heap := T.keep _ _ _ st2 fun b _ o e => by rw [p3]; exact Heap.get?_push_of_some _ e
  have I4 := block_start I3 ok hN f3
  generalize ecl : cellsFrom (s3.heap.objs.size + 1) scope.names (cloFrom X.env.cells scope.names []) = cl at I4 ⊢
  have pg := hg s3 (upd H2 D (.lst [])) s3.heap.objs.size cl fp
  have pe := he s3 (upd H2 D (.lst [])) s3.heap.objs.size cl fp
  have nf : ∀ b ∈ fp, (upd H2 D (.lst [])) b = none := fun b hb => (f3 b hb).1.1
  show codeAny _ _ (.compStart (.ListComp elt [⟨tg, iter, [], 0⟩] scope pos) 0 (.ref it) (.ref D) (compEnvC scope cl s3.heap.objs.size X.env)) (endX (model X.prog X.w) X.A X.xe (EP X pins σ Q) (.ref D) (compEnvC scope cl s3.heap.objs.size X.env)) { s3 with heap := pushCells (s3.heap.push { cls := .type "dict", data := .dict #[] }) scope.names }
  generalize ece : compEnvC scope cl s3.heap.objs.size X.env = ce at I4 pg pe ⊢
  have cL : ce.locals = s3.heap.objs.size := by subst ece; rfl
  have cF : ce.frame = X.env.frame := by subst ece; rfl
  generalize eH3 : upd H2 D (.lst []) = H3 at I3 I4 pg pe w0 nf f3
  generalize es4 : ({ s3 with heap := pushCells (s3.heap.push { cls := .type "dict", data := .dict #[] }) scope.names } : Shared) = s4 at I4 ⊢
  have st4 : tn 0 s4.heap := T.keep _ _ _ st3 fun b _ o e => by rw [← es4]; exact pushCells_keeps _ _ _ _ (Heap.get?_push_of_some _ e)
  generalize eY : X.blk s3 H3 scope ce fp = Y at I4 pg pe
  have Yi : ∀ {σ' : L2.St} {H' : Hp} {s' : Shared}, Inv Y [] σ' H' s' → (∀ b ∈ fp, H' b = none) → ∀ b ∈ fp, FpOk Y [] H' b := fun {σ' H' s'} I' hn b hb => by
    subst eY
    exact ⟨hn b hb, (I'.ok.exf b hb).1, I'.ok.exfs b hb, .inl hb, fun x c e => (I'.ok.exf b hb).2 x c e, fun p hp => absurd (show p ∈ ([] : List (Addr × Obj)) ++ [] from hp) (by simp)⟩
  -- what is raised in the block
  have out : ∀ {pb : List (Addr × Obj)} {σb : L2.St} {Hb : Hp} {sb s' : Shared} {u : Value}, Inv Y pb σb Hb sb → CX X.prog X.w X.stack Hb sb E u s' →
      notedBy (model X.prog X.w) X.A ce (fun e s'' => endX (model X.prog X.w) X.A X.xe (EP X pins σ Q) (.ref D) ce (.error e) s'') u s' := fun {pb σb Hb sb s' u} Ib c => by
    subst eY
    exact comp_out I3 hst hfr tk (fun b hb => (f3 b hb).1) cF cL Ib hEW c
  have Yp : Y.prog = X.prog ∧ Y.w = X.w ∧ Y.K = X.K ∧ Y.A = X.A ∧ Y.env = ce ∧ Y.stack = X.stack ∧ Y.xe = (fun _ _ => False) := by subst eY; exact ⟨rfl, rfl, rfl, rfl, rfl, rfl, rfl⟩
  have back : ∀ {H5 : Hp} {s6 : Shared}, Inv Y [] (wipe σ (own.map (·.2))) H5 s6 → Inv X pins σ H5 s6 ∧ H5 s3.heap.objs.size = none ∧ ∃ m, s6.heap.Ns ce.locals m := fun {H5 s6} I6 => by
    subst eY
    refine ⟨I3.call' (ch := fp) I6.os I6.base I6.hok I6.bare fun b hb => ?_, ?_, ?_⟩
    · obtain ⟨⟨_, z1, _, z3, z4, z5⟩, _⟩ := f3 b hb
      exact ⟨z3, z1, z4, z5⟩
    · have z : H5 ce.locals = none := I6.free
      rw [cL] at z; exact z
    · obtain ⟨m, hn, _⟩ := I6.loc
      exact ⟨m, hn⟩
  subst eY
  have loop : codeAny (model X.prog X.w) X.A (.compLoop (.ListComp elt [⟨tg, iter, [], 0⟩] scope pos) 0 (.ref it) (.ref D) ce) (endX (model X.prog X.w) X.A X.xe (EP X pins σ Q) (.ref D) ce) s4 := by
    refine compLoop_any (fun n s' => ∃ i H', Inv (X.blk s3 H3 scope ce fp) [] (wipe σ (own.map (·.2))) H' s' ∧ tn i s'.heap ∧ (∀ b ∈ fp, H' b = none) ∧ Wi i n H') (fun n s5 hI => ?_) m0 ⟨0, H3, I4, st4, nf, w0⟩
    obtain ⟨i, H5, I5, st5, n5, w5⟩ := hI
    rcases turn i n H5 w5 with ⟨stop, qq⟩ | ⟨go, Nx, hNx, step⟩
    · refine thnF (T.done (X.blk s3 H3 scope ce fp) rfl rfl rfl hc i [] s5 _ H5 (fun _ _ => False) I5 (Yi I5 n5) st5 stop) fun r s6 ⟨hr, I6⟩ => ?_
      subst hr
      obtain ⟨I7, nC, m, hn⟩ := back I6
      refine ⟨m, hn, fun h' sb => ?_⟩
      obtain ⟨c0, c1, c2, c3, c4, c5⟩ := I3.fpOk (Nat.le_refl _) nC
      rw [cL] at sb
      exact ⟨.ref D, H5, I7.turned (t' := s6.toks) (fun b o hb e => (sb.2 b hb).trans e) c0 c1 c3 c4 c5, rfl, qq⟩
    · refine thnF (T.item (X.blk s3 H3 scope ce fp) rfl rfl rfl hc i [] s5 _ H5 (fun _ _ => False) I5 (Yi I5 n5) st5 go) fun r s6 ⟨u, hr, h6⟩ => ?_
      subst hr
      refine thnF h6 fun _ s7 ⟨x, H7, I7, r7, y7, st7, n7⟩ => ?_
      have I7p := I7.pinned (Yi I7 n7) (T.obj _ _ st7)
      refine thnF (pg.run _ s7 _ H7 x u _ I7p r7 (step x H7 y7)) fun _ s8 ⟨σ8, H8, I8, w8, q8⟩ => wpAny_tests_nil ?_
      have q9 : te E σ8 H8 fun y H4 => ∃ acc, H4 D = some (.lst acc) ∧ acc.length < sizeLine ∧ Nx (upd H4 D (.lst (acc ++ [y]))) := q8
      rw [if_pos rfl]
      have pe1 := pe (fun u s' => ∃ pb σb Hb sb, Inv (X.blk s3 H3 scope ce fp) pb σb Hb sb ∧ CX X.prog X.w X.stack Hb sb E u s') E (fun pb σb Hb sb e s' Ib c => ⟨pb, σb, Hb, sb, unswapX Ib, c⟩)
      refine wpAny_mono (pe1.run _ s8 σ8 H8 _ (swapX _ I8) q9) (fun z s10 hz => ?_) (fun e s' hx => ?_)
      · obtain ⟨yv, H10, I10, r10, acc, d10, z10, nx⟩ := hz
        refine app_ok (X := X.blk s3 H3 scope ce fp) (unswapX I10) d10 z10 r10 fun s11 I11 => ?_
        obtain ⟨m', hm, w'⟩ := hNx _ nx
        have pin : ∀ b ∈ fp, ∀ o, s7.heap.get? b = some o → s11.heap.get? b = some o ∧ (upd H10 D (.lst (acc ++ [yv]))) b = none := fun b hb o e => by
          have z := I11.pin (b, o) (List.mem_append_right _ (List.mem_append_right _ (mem_pinsAt hb e)))
          exact ⟨z.1, z.2.1⟩
        refine ⟨m', hm, i + 1, _, (I11.unpinned (pins := [])).weak (by rw [← w8, wipe_length]) (fun j v e => ?_), T.keep _ _ _ st7 fun b hb o e => (pin b hb o e).1, fun b hb => ?_, w'⟩
        · rw [← w8] at e
          exact (wipe_some e).1
        · obtain ⟨o, e, _⟩ := T.obj _ _ st7 b hb
          exact (pin b hb o e).2
      · obtain ⟨pb, σb, Hb, sb, Ib, c⟩ := hx
        exact out Ib c
  exact codeAny_compStart_list loop (T.self X.A 0 _ _ _ st4 loop)
end
end Sip
namespace Sip
open PySem PySem.Spec PyProof.Rows L2 TL

section
variable {X : Cx}
/-- X(), X an own error class without an __init__ of its own -/
theorem pmk_own0 {C : Addr} {bmB : List Value} {B newId initId : String} {x : Str} {p pos : Pos} (F : ExcBaseFacts B newId initId bmB) (q : PySem.W.excIn X.K C bmB newId = true) (gC : X.mg x = some (.ref C)) (kC : PySem.W.keepIn X.K (.ref C) = true)
    (r : Raises X (.ref C)) (hg : Gl X x) (hdb : (x == ("__debug__" : Str)) = false := by decide) : PMk X (.Call (.Name x p) [] [] pos) (fun _ H Q => Q (.ref C) none H) := by
  intro pins s σ H Q I h
  refine wpAny_Call_Name_kw (ld_glob I hg gC (PySem.W.callWith_K0 I.kIn kC ?_) hdb)
  obtain ⟨bm, N, nm, qn, bs, hdct, sn, sub, ab, col, dd, k0, k1, k2, k3, k5, mN, hC, hN, hni, T⟩ := exc_obj I.kIn q
  exact wpAny_call_exc_subT (rest := []) F T hC hN hni (fun h' e hm => mk_of I hm r h (I.hok.gone hm.new)) (Nat.zero_le _)
/-- isinstance(e, c), e the caught error, whose class is to be shown -/
def rIsX (K : PySem.W.Frag) (D : Addr) (cls : Value) (d : Option Addr) (a : Addr) : List V → Hp → VK → Prop := fun xs H Q => cls = .ref D ∧ d = none ∧ rIsE K D a xs H Q
theorem call_isX {a D : Addr} {oe : Obj} {cls : Value} {d : Option Addr} {pn : List (Addr × Obj)} (C : ExcC X.K D) (hz : Zc cls d oe) (hf : ∃ vs, oe.data = .fields vs) : CallR (X.suite a ((a, oe) :: pn)) (.builtin "isinstance") (rIsX X.K D cls d a) := by
  intro pins s σ H xs us Q I r h
  obtain ⟨rfl, rfl, h⟩ := h
  exact call_isE C hz hf pins s σ H xs us Q I r h
end
/-- what the text's error classes are: C the one that is raised, S the one above it -/
structure Errs (K : PySem.W.Frag) (mg : Str → Option Value) (C S : Addr) : Prop where
  gP : mg "NoRow" = some (.ref C)
  gS : mg "SipError" = some (.ref S)
  xP : PySem.W.excIn K C [.type "ValueError", .type "Exception", .type "BaseException", .type "object"] "ValueError.__new__" = true
  kP : PySem.W.keepIn K (.ref C) = true
  bP : PySem.W.subIn K (.ref C) (.type "BaseException") = some true
  tP : PySem.W.typeIn K (.ref C) = some (.type "type")
  te : PySem.W.exmOne K (.ref C) (.ref C) = some true
  i1 : PySem.W.kitOne K (.ref C) (.ref S) = some true
  i2 : PySem.W.kitOne K (.ref C) (.type "ValueError") = some true
  ec : ExcC K C

/-! texts of plain signs -/
def Asc (z : Str) : Prop := ∀ c ∈ z.cps.toList, c < 128
theorem asc_append {a b : Str} (ha : Asc a) (hb : Asc b) : Asc (a ++ b) := fun c hc => by
  have e : (a ++ b).cps.toList = a.cps.toList ++ b.cps.toList := tl_append a b
  rw [e] at hc
  exact (List.mem_append.mp hc).elim (ha c) (hb c)
theorem asc_cut {z : Str} (h : Asc z) (lo hi : Option Int) : Asc (cutS z lo hi) := fun c hc => by
  have e : (cutS z lo hi).cps.toList = (z.cps.toList.drop (HT.sIx z.length 0 lo)).take (HT.sIx z.length z.length hi - HT.sIx z.length 0 lo) := rfl
  rw [e] at hc
  exact h c (List.mem_of_mem_drop (List.mem_of_mem_take hc))
theorem up_small : ∀ c : Fin 128, up1 c.val < 128 := by decide +kernel
theorem asc_upper {z : Str} (h : Asc z) : Asc (Txt.upper z) ∧ (Txt.upper z).length = z.length := by
  rw [upper_ascii h]
  refine ⟨fun c hc => ?_, ?_⟩
  · have e : (z.cps.map up1).toList = z.cps.toList.map up1 := Array.toList_map ..
    have hc : c ∈ (z.cps.map up1).toList := hc
    rw [e] at hc
    obtain ⟨b, hb, rfl⟩ := List.mem_map.mp hc
    exact up_small ⟨b, h b hb⟩
  · show (z.cps.map up1).size = z.cps.size
    exact Array.size_map ..
theorem len_append (a b : Str) : (a ++ b).length = a.length + b.length := strLen_append ..
theorem asc_one {c : Nat} (h : c < 128) : Asc ⟨#[c]⟩ := fun x hx => by
  have : x ∈ [c] := hx
  rw [List.mem_singleton.mp this]; exact h

/-! which texts are read, and to what -/
theorem find_fig : ∀ c : Fin 128, Txt.find FIG ⟨#[c.val]⟩ = if c.val ∈ figs then (wor c.val : Int) else -1 := by decide +kernel
theorem index_fig : ∀ c : Fin 128, c.val ∈ figs → Txt.index0 FIG ⟨#[c.val]⟩ = some (wor c.val) := by decide +kernel
def okT (cs : List Nat) : Prop := cs.length % 2 = 0 ∧ ∀ c ∈ cs, c ∈ figs
def rd (cs : List Nat) (i : Nat) : Int := 16 * (wor (cs.getD (2 * i) 0) : Int) + (wor (cs.getD (2 * i + 1) 0) : Int)
def rdL (cs : List Nat) : List Int := (List.range (cs.length / 2)).map (rd cs)
theorem rdL_length (cs : List Nat) : (rdL cs).length = cs.length / 2 := by
  unfold rdL; rw [List.length_map, List.length_range]
theorem rdL_get {cs : List Nat} {i : Nat} (h : i < cs.length / 2) : (rdL cs)[i]? = some (rd cs i) := by
  unfold rdL; rw [List.getElem?_map, List.getElem?_range h]; rfl
theorem get_at {cs : List Nat} {i : Nat} (h : i < cs.length) : atI cs (i : Int) = some (cs.getD i 0) ∧ cs.getD i 0 ∈ cs := by
  have e : cs.getD i 0 = cs[i] := by rw [List.getD_eq_getElem?_getD, List.getElem?_eq_getElem h]; rfl
  rw [e]
  exact ⟨atI_nat (List.getElem?_eq_getElem h), List.getElem_mem h⟩
theorem len_codes (z : Str) : z.length = z.cps.toList.length := by
  show z.cps.size = _
  exact (Array.length_toList ..).symm
def spWorthX (C : Addr) : Sp := fun vs H Q E => ∃ c : Nat, c < 128 ∧ vs = [.str ⟨#[c]⟩] ∧ (c ∈ figs → Q (.int (wor c : Nat)) H) ∧ (c ∉ figs → E (.ref C) none H)
def spReadX (C : Addr) : Sp := fun vs H Q E => ∃ z : Str, vs = [.str z] ∧ Asc z ∧ z.length ≤ 1000 ∧
  (okT z.cps.toList → ∀ (H' : Hp) (p : Addr), H p = none → H' p = some (.lst ((rdL z.cps.toList).map V.int)) → Same H H' → Q (.ref p) H') ∧ (¬ okT z.cps.toList → ∀ H' : Hp, Same H H' → E (.ref C) none H')
def spDueT : Sp := fun vs H Q _ => ∃ z : Str, vs = [.str z] ∧ Asc z ∧ z.length ≤ 1000 ∧
  (okT z.cps.toList → ∀ (H' : Hp) (p : Addr), H p = none → H' p = some (.lst ((rdL z.cps.toList).map V.int)) → Same H H' → Q (.ref p) H') ∧ (¬ okT z.cps.toList → ∀ H' : Hp, Same H H' → Q .non H')
/-- a text drawn from a pool -/
def spDraw : Sp := fun vs H Q _ => ∃ (p : Addr) (n : Int) (o : HO), vs = [.ref p] ∧ H p = some o ∧ PoolO n o ∧ n ≤ 900000000 ∧
  ∀ (H' : Hp) (z : Str) (o' : HO), H' p = some o' → PoolO (n + 100) o' → Kp [p] H H' → Asc z → z.length ≤ 60 → Q (.str z) H'
def spSign : Sp := fun vs H Q _ => ∃ (p : Addr) (n : Int) (o : HO), vs = [.ref p] ∧ H p = some o ∧ PoolO n o ∧ n ≤ 999999000 ∧
  ∀ (c : Nat) (o' : HO), c < 128 → PoolO (n + 1) o' → Q (.str ⟨#[c]⟩) (upd H p o')
def spSpoilt : Sp := fun vs H Q _ => ∃ (p : Addr) (n : Int) (o : HO) (z : Str), vs = [.ref p, .str z] ∧ H p = some o ∧ PoolO n o ∧ n ≤ 999990000 ∧ Asc z ∧ z.length ≤ 100 ∧
  ∀ (y : Str) (o' : HO), Asc y → y.length ≤ z.length + 1 → PoolO (n + 3) o' → Q (.str y) (upd H p o')
def spAskedT : Sp := fun vs H Q _ => ∃ z : Str, vs = [.str z] ∧ Asc z ∧ z.length ≤ 1000 ∧ ∀ H' : Hp, Same H H' → Q (.bl true) H'
def SIGNS : Str := Str.ofString " !\"#$&'()*+,-./0123456789:;<=>?@ABCDEFGHIJKLMNOPQRSTUVWXYZ[\\]^_`abcdefghijklmnopqrstuvwxyz{|}~"
theorem signs_asc : SIGNS.cps.toList.length = 94 ∧ ∀ c ∈ SIGNS.cps.toList, c < 128 := by decide +kernel
def GIF : Str := Str.ofString "fedcba9876543210"
theorem gif_asc : GIF.cps.toList.length = 16 ∧ ∀ c ∈ GIF.cps.toList, c < 128 := by decide +kernel
theorem fig_asc : FIG.cps.toList.length = 16 ∧ ∀ c ∈ FIG.cps.toList, c < 128 := by decide +kernel
theorem str_at {z : Str} {n : Nat} (hz : z.cps.toList.length = n ∧ ∀ c ∈ z.cps.toList, c < 128) {r : Int} (r0 : 0 ≤ r) (r1 : r < n) : ∃ c, c < 128 ∧ atI z.cps.toList r = some c := by
  obtain ⟨j, rfl⟩ := Int.eq_ofNat_of_zero_le r0
  obtain ⟨e, m⟩ := get_at (cs := z.cps.toList) (i := j) (by rw [hz.1]; omega)
  exact ⟨_, hz.2 _ m, e⟩
end Sip
namespace Sip
open PySem PySem.Spec PyProof.Rows L2 TL
theorem cut_codes (z : Str) (lo hi : Option Int) : (cutS z lo hi).length = ((z.cps.toList.drop (HT.sIx z.length 0 lo)).take (HT.sIx z.length z.length hi - HT.sIx z.length 0 lo)).length := by
  rw [len_codes]; rfl
theorem cut_len1 (z : Str) {k : Nat} (h : k ≤ z.length) : (cutS z none (some (k : Int))).length = k := by
  have lc := len_codes z
  rw [cut_codes, HT.sIx_none, HT.sIx_nat, List.length_take, List.length_drop]; omega
theorem cut_len2 (z : Str) {k : Nat} (h : k ≤ z.length) : (cutS z (some (k : Int)) none).length = z.length - k := by
  have lc := len_codes z
  rw [cut_codes, HT.sIx_none, HT.sIx_nat, List.length_take, List.length_drop]; omega
theorem cut_len3 (z : Str) {k : Nat} (h : k ≤ z.length) : (cutS z (some ((k : Nat) + 1 : Int)) none).length ≤ z.length - k := by
  have lc := len_codes z
  rw [show ((k : Nat) + 1 : Int) = ((k + 1 : Nat) : Int) by omega, cut_codes, HT.sIx_none, HT.sIx_nat, List.length_take, List.length_drop]; omega
end Sip
namespace Sip
open PySem PySem.Spec PyProof.Rows L2 TL
theorem all_figs {cs : List Nat} : ((cs.map fun c => decide (c ∈ figs)).all id) = true ↔ ∀ c ∈ cs, c ∈ figs := by
  rw [List.all_eq_true]
  constructor
  · intro h c hc
    exact of_decide_eq_true (h _ (List.mem_map.mpr ⟨c, hc, rfl⟩))
  · intro h x hx
    obtain ⟨c, hc, rfl⟩ := List.mem_map.mp hx
    exact decide_eq_true (h c hc)
end Sip
namespace Sip
open PySem PySem.Spec PyProof.Rows L2 TL
theorem asc_nil : Asc (Str.ofString "") := fun c hc => by
  have e : (Str.ofString "").cps.toList = [] := by decide +kernel
  rw [e] at hc; cases hc
end Sip
namespace Sip
open PySem PySem.Spec PyProof.Rows L2 TL
theorem kit_own {K : PySem.W.Frag} {C S : Addr} (h1 : PySem.W.isClsIn K S = true) (h2 : PySem.W.typeIn K (.ref S) = some (.type "type")) (h3 : PySem.W.subIn K (.ref C) (.ref S) = some true) : PySem.W.kitOne K (.ref C) (.ref S) = some true := by
  have a : ((PySem.W.clsIn K S).isSome && PySem.W.typeIn K (.ref S) == some (.type "type")) = true := by
    have h1' : (PySem.W.clsIn K S).isSome = true := h1
    rw [h1', h2]; rfl
  unfold PySem.W.kitOne PySem.W.kitCls
  split
  · rfl
  · exact (if_pos a).trans h3
theorem kit_bltn {K : PySem.W.Frag} {C : Addr} {T : String} (h1 : PySem.W.kitMeta T = true) (h3 : PySem.W.subIn K (.ref C) (.type T) = some true) : PySem.W.kitOne K (.ref C) (.type T) = some true := by
  unfold PySem.W.kitOne PySem.W.kitCls
  split
  · rfl
  · exact (if_pos h1).trans h3
end Sip
namespace Sip
open PySem PySem.Spec PyProof.Rows L2 TL

/-- a def of the text, whatever its defaults -/
structure FunA (K : PySem.W.Frag) (x qual : Str) (st : Stmt) (f : Addr) (fd : FuncData) : Prop where
  ex : ∃ (oc : Value) (od : Option Addr) (dV kV doc pm : Value) (an : Option Addr) (cdv ct : Value) (osl : Array (Option Value)),
    fd = PySem.W.fnOf x qual (defArgs st) (defBody st) (defScope st) dV kV doc pm an cdv ct ∧ K.lookup f = some ⟨oc, od, .func fd, osl⟩ ∧ PySem.W.codeIn K cdv qual = true
  kp : PySem.W.keepIn K (.ref f) = true
section
variable {P : Program} {w : World} {K : PySem.W.Frag} {mg : Str → Option Value} {base : Heap} {x qual : Str} {st : Stmt} {f : Addr} {fd : FuncData} {N ps : List Str} {k : Nat} {sp : Sp}
theorem FunA.ok (F : FunA K x qual st f fd) (S : FnScope N ps (defScope st)) (len : ∀ vs H Q E, sp vs H Q E → vs.length = ps.length)
    (hb : ∀ (cdv : Value) (A : Around) (outer : List Env) (s : Shared) (H : Hp) (vs : List V) (Q : VK) (E : XK), Room k (A.deeper (envOfC qual (defScope st) s.heap.objs.size f cdv)) → sp vs H Q E →
      ∃ t, PSs (cxOf CX0 P w K mg base N qual (defScope st) f cdv A outer s H E).nox (defBody st) t ∧ t { nx := fun _ H' => Q .non H', rt := Q } (start N vs) H) : FnOk P w K mg base CX0 (k + 1) f fd ps sp := by
  obtain ⟨oc, od, dV, kV, doc, pm, an, cdv, ct, osl, rfl, lk, hcd⟩ := F.ex
  refine fn_of lk hcd S len fun A outer s H vs Q E hr hsp => ?_
  obtain ⟨t, h, q⟩ := hb cdv A outer s H vs Q E hr hsp
  exact ⟨t, h.nox, q⟩
theorem FunA.okX (F : FunA K x qual st f fd) (S : FnScope N ps (defScope st)) (len : ∀ vs H Q E, sp vs H Q E → vs.length = ps.length)
    (hb : ∀ (cdv : Value) (A : Around) (outer : List Env) (s : Shared) (H : Hp) (vs : List V) (Q : VK) (E : XK), Room k (A.deeper (envOfC qual (defScope st) s.heap.objs.size f cdv)) → sp vs H Q E →
      ∃ t, PSs (cxOf (L2.CX P w) P w K mg base N qual (defScope st) f cdv A outer s H E) (defBody st) t ∧ t { nx := fun _ H' => Q .non H', rt := Q } (start N vs) H) : FnOk P w K mg base (L2.CX P w) (k + 1) f fd ps sp := by
  obtain ⟨oc, od, dV, kV, doc, pm, an, cdv, ct, osl, rfl, lk, hcd⟩ := F.ex
  exact fn_of lk hcd S len fun A outer s H vs Q E hr hsp => hb cdv A outer s H vs Q E hr hsp
end
/-- o.m(e, .., k = v, ..) -/
def tMethN (C : Addr) (m : Str) (n j : Nat) (sp : Sp) (gV : List V → List V → List V) (E : XK) (ta : TE) (t tk : TA) : TE := fun σ H Q => ta σ H fun x H1 =>
  ∃ a dx fs, x = .ref a ∧ H1 a = some (.ins C dx fs) ∧ fs.lookup m = none ∧ t σ H1 fun vs H2 => tk σ H2 fun zs H3 => vs.length = n ∧ zs.length = j ∧ sp (gV (x :: vs) zs) H3 Q E
section
variable {X : Cx} {CX : CXT} {k n : Nat} {f C : Addr} {fd : FuncData} {ps ks : List Str} {sp : Sp} {E : XK} {m : Str} {apos pos : Pos} {o e : Expr} {es : List Expr} {kws : List Keyword} {ta : TE} {t tk : TA} {g : List Value → List Value → List Value} {gV : List V → List V → List V}
theorem pe_methN {pl : Sem Bool} (he : PE X o ta) (c : Cls X.K C) (hm : Meth X.K C m f) (F : FnOk X.prog X.w X.K X.mg X.base CX k f fd ps sp) (hr : Room k X.A) (hb : KBn X.K fd ps (n + 1) ks g gV) (hx : Passes CX X E) (ha : PA X (e :: es) t) (hkw : PK X kws tk)
    (hall : (backToKw pos (keywordEach kws X.env)).all (·.1.isSome) = true := by rfl) (hks : (backToKw pos (keywordEach kws X.env)).filterMap (·.1) = ks := by rfl) (hst : starEach (e :: es) X.env = (false, eval e X.env) :: starEach es X.env := by rfl)
    (hpl : ((backTo pos (starEach (e :: es) X.env)).any (·.1) || (backToKw pos (keywordEach kws X.env)).any (·.1.isNone)) = false := by rfl)
    (ht : eval (.Call (.Attribute o m apos) (e :: es) kws pos) X.env = (do
      let ov ← eval o X.env
      standAt apos.atName
      let (f, first) ← holding [ov] (getMethod ov m pl)
      callWith pos f first (backTo pos (starEach (e :: es) X.env)) (backToKw pos (keywordEach kws X.env))) := by rfl) :
    PE X (.Call (.Attribute o m apos) (e :: es) kws pos) (tMethN C m n ks.length sp gV E ta t tk) := by
  refine ⟨fun pins s σ H Q I h => ?_⟩
  refine PySem.W.methodCall_KW (pl := pl) (thn (he.run pins s σ H _ I h) fun u s1 ⟨x, H1, I1, rx, a, dx, fs, ex, ea, l, q⟩ => ?_) ht
  subst ex
  obtain rfl : u = Value.ref a := rx
  refine getmeth_ok I1 ea c hm l ?_
  refine PySem.W.callWith_KW (first := [.ref a]) (h₀ := X.base) I.ok.mod.kin hm.kp hall (thn (ha.run pos pins s1 σ H1 _ I1 q) fun us s2 ⟨vs, H2, I2, r, q2⟩ => ?_) hpl hst
  refine thn (hkw.run pos pins s2 σ H2 _ I2 q2) fun ws s3 ⟨zs, H3, I3, rz, l1, l2, q3⟩ => ⟨I3.kIn, ?_⟩
  rw [hks]
  exact run_fnN (us := .ref a :: us) (vs := .ref a :: vs) F hr hb hx I3 (.cons rfl r) rz (by rw [List.length_cons, l1]) l2 q3
end
/-- fields by name -/
abbrev Fs := List (Str × V)
example (h c d : V) : putF ("cursor" : Str) d ([("held", h), ("cursor", c)] : Fs) = ([("held", h), ("cursor", d)] : Fs) := by kernel_rfl
example (h c d : V) : putF ("cursor" : Str) d ([("held", h)] : Fs) = ([("held", h), ("cursor", d)] : Fs) := by kernel_rfl
end Sip
namespace Sip
open PySem PySem.Spec PyProof.Rows L2 TL
/-- a def of the top, a method of a class -/
structure Dg (K : PySem.W.Frag) (mg : Str → Option Value) (x : Str) (st : Stmt) (f : Addr) (fd : FuncData) : Prop where
  F : FunA K x x st f fd
  g : mg x = some (.ref f)
structure Mf (K : PySem.W.Frag) (C : Addr) (x qual : Str) (st : Stmt) (f : Addr) (fd : FuncData) : Prop where
  F : FunA K x qual st f fd
  m : Meth K C x f
theorem funA_mk {K : PySem.W.Frag} {x qual : Str} {st : Stmt} {f : Addr} {oc : Value} {od an : Option Addr} {osl : Array (Option Value)} {dV kV doc pm cdv ct : Value} (l : K.lookup f = some ⟨oc, od, .func (PySem.W.fnOf x qual (defArgs st) (defBody st) (defScope st) dV kV doc pm an cdv ct), osl⟩)
    (c : PySem.W.codeIn K cdv qual = true) (k : PySem.W.keepIn K (.ref f) = true) : FunA K x qual st f (PySem.W.fnOf x qual (defArgs st) (defBody st) (defScope st) dV kV doc pm an cdv ct) := ⟨⟨oc, od, dV, kV, doc, pm, an, cdv, ct, osl, rfl, l, c⟩, k⟩
end Sip
namespace Sip
open PySem PySem.Spec PyProof.Rows L2 TL

abbrev Piece := Nat × List Int
/-! all pieces laid one behind another -/
def allF (r : List Int) (ps : List Piece) : List Int := ps.foldl (fun acc p => laidF acc p.1 p.2) r
def mostF (m : Nat) (ps : List Piece) : Nat := ps.foldl (fun m p => if 0 < p.2.length then max m (p.1 + p.2.length) else m) m
def stepB (k : Nat) (b : Int) (p : Piece) : Int := if p.1 ≤ k ∧ k < p.1 + p.2.length then p.2.getD (k - p.1) 0 else b
def byteF (b : Int) (k : Nat) (ps : List Piece) : Int := ps.foldl (stepB k) b
theorem laidF_len (r : List Int) (p : Piece) : (laidF r p.1 p.2).length = if 0 < p.2.length then max r.length (p.1 + p.2.length) else r.length := by
  by_cases h : p.2 = []
  · rw [h, laidF_nil]; rfl
  · rw [laidF_length h, if_pos (List.length_pos_iff.mpr h)]
theorem laidF_byte (r : List Int) (p : Piece) (k : Nat) : (laidF r p.1 p.2)[k]?.getD 0 = stepB k (r[k]?.getD 0) p := by
  unfold stepB
  by_cases h : p.2 = []
  · rw [h, laidF_nil, if_neg (by simp)]
  · rw [laidF_getD h, List.getD_eq_getElem?_getD, List.getD_eq_getElem?_getD]
theorem allF_len : ∀ (ps : List Piece) (r : List Int), (allF r ps).length = mostF r.length ps
  | [], _ => rfl
  | p :: q, r => by
    show (allF (laidF r p.1 p.2) q).length = mostF (if 0 < p.2.length then max r.length (p.1 + p.2.length) else r.length) q
    rw [allF_len q, laidF_len]
theorem allF_byte : ∀ (ps : List Piece) (r : List Int) (k : Nat), (allF r ps)[k]?.getD 0 = byteF (r[k]?.getD 0) k ps
  | [], _, _ => rfl
  | p :: q, r, k => by
    show (allF (laidF r p.1 p.2) q)[k]?.getD 0 = byteF (stepB k (r[k]?.getD 0) p) k q
    rw [allF_byte q, laidF_byte]
theorem allF_append (r : List Int) (a b : List Piece) : allF r (a ++ b) = allF (allF r a) b := List.foldl_append
/-- a piece in two parts -/
theorem laidF_parts (r : List Int) (n c : Nat) (d : List Int) (h : c ≤ d.length) : laidF (laidF r n (d.take c)) (n + c) (d.drop c) = laidF r n d := by
  have l1 := laidF_len r (n, d.take c)
  have l2 := laidF_len (laidF r n (d.take c)) (n + c, d.drop c)
  have l3 := laidF_len r (n, d)
  simp only [List.length_take, List.length_drop] at l1 l2 l3
  refine ext_getD ?_ fun k hk => ?_
  · rw [l2, l3, l1]
    split <;> split <;> split <;> omega
  · rw [laidF_byte _ (n + c, d.drop c), laidF_byte r (n, d.take c), laidF_byte r (n, d)]
    unfold stepB
    simp only [List.length_take, List.length_drop, List.getD_eq_getElem?_getD, List.getElem?_drop]
    by_cases h1 : n + c ≤ k ∧ k < n + c + (d.length - c)
    · rw [if_pos h1, if_pos (by omega)]
      congr 2
      omega
    · rw [if_neg h1]
      by_cases h2 : n ≤ k ∧ k < n + min c d.length
      · rw [if_pos h2, if_pos (by omega), List.getElem?_take_of_lt (by omega)]
      · rw [if_neg h2, if_neg (by omega)]
theorem allF_parts (r : List Int) (a b : List Piece) (n c : Nat) (d : List Int) (h : c ≤ d.length) :
    allF r (a ++ [(n, d.take c), (n + c, d.drop c)] ++ b) = allF r (a ++ [(n, d)] ++ b) := by
  rw [allF_append, allF_append, allF_append, allF_append]
  show allF (laidF (laidF (allF r a) n (d.take c)) (n + c) (d.drop c)) b = allF (laidF (allF r a) n d) b
  rw [laidF_parts _ _ _ _ h]
def Small (p : Piece) : Prop := p.1 ≤ 340 ∧ p.2.length ≤ 400 ∧ Bytes p.2
theorem bytes_getD {bs : List Int} (h : Bytes bs) (k : Nat) : 0 ≤ bs[k]?.getD 0 ∧ bs[k]?.getD 0 ≤ 255 := by
  cases e : bs[k]? with
  | none => exact ⟨by decide, by decide⟩
  | some b =>
    obtain ⟨hk, rfl⟩ := List.getElem?_eq_some_iff.mp e
    exact h _ (List.getElem_mem hk)
theorem bytes_of {bs : List Int} (h : ∀ k, k < bs.length → 0 ≤ bs[k]?.getD 0 ∧ bs[k]?.getD 0 ≤ 255) : Bytes bs := fun b hb => by
  obtain ⟨k, hk, rfl⟩ := List.getElem_of_mem hb
  have := h k hk
  rw [List.getElem?_eq_getElem hk] at this
  exact this
theorem laid_bytes {r : List Int} {p : Piece} (hr : Bytes r) (hp : Bytes p.2) : Bytes (laidF r p.1 p.2) := bytes_of fun k _ => by
  rw [laidF_byte]
  unfold stepB
  split
  · rw [List.getD_eq_getElem?_getD]; exact bytes_getD hp _
  · exact bytes_getD hr k
theorem allF_good : ∀ (ps : List Piece) (r : List Int), Bytes r → r.length ≤ 740 → (∀ p ∈ ps, Small p) → Bytes (allF r ps) ∧ (allF r ps).length ≤ 740
  | [], r, hb, hl, _ => ⟨hb, hl⟩
  | p :: q, r, hb, hl, hp => by
    have h1 := hp p (List.mem_cons_self ..)
    refine allF_good q (laidF r p.1 p.2) (laid_bytes hb h1.2.2) ?_ (fun z hz => hp z (List.mem_cons_of_mem _ hz))
    exact laidF_le ⟨hl, by have := h1.1; have := h1.2.1; omega⟩

/-! pieces in the heap -/
def PieceAt (H : Hp) (v : V) (p : Piece) : Prop := ∃ T D : Addr, v = .ref T ∧ H T = some (.tup [.int (p.1 : Nat), .ref D]) ∧ H D = some (.lst (p.2.map V.int))
def Pieces (H : Hp) (vs : List V) (ps : List Piece) : Prop := vs.length = ps.length ∧ ∀ (i : Nat) (v : V) (p : Piece), vs[i]? = some v → ps[i]? = some p → PieceAt H v p
theorem PieceAt.mono {H H' : Hp} {v : V} {p : Piece} (s : Same H H') (h : PieceAt H v p) : PieceAt H' v p := by
  obtain ⟨T, D, e, h1, h2⟩ := h
  exact ⟨T, D, e, s _ _ h1, s _ _ h2⟩
theorem Pieces.mono {H H' : Hp} {vs : List V} {ps : List Piece} (s : Same H H') (h : Pieces H vs ps) : Pieces H' vs ps :=
  ⟨h.1, fun i v p a b => (h.2 i v p a b).mono s⟩
theorem Pieces.at {H : Hp} {vs : List V} {ps : List Piece} {i : Nat} {v : V} (h : Pieces H vs ps) (e : vs[i]? = some v) : ∃ hi : i < ps.length, PieceAt H v ps[i] := by
  have hi : i < ps.length := by
    have := (List.getElem?_eq_some_iff.mp e).1
    rw [h.1] at this; exact this
  exact ⟨hi, h.2 i v _ e (List.getElem?_eq_getElem hi)⟩
theorem Pieces.nil {H : Hp} : Pieces H [] [] := ⟨rfl, fun i v p a => by simp at a⟩
theorem Pieces.append {H : Hp} {vs us : List V} {ps qs : List Piece} (h : Pieces H vs ps) (k : Pieces H us qs) : Pieces H (vs ++ us) (ps ++ qs) := by
  refine ⟨by rw [List.length_append, List.length_append, h.1, k.1], fun i v p a b => ?_⟩
  by_cases hi : i < vs.length
  · rw [List.getElem?_append_left hi] at a
    rw [List.getElem?_append_left (by rw [← h.1]; exact hi)] at b
    exact h.2 i v p a b
  · rw [List.getElem?_append_right (by omega)] at a
    rw [List.getElem?_append_right (by rw [← h.1]; omega), ← h.1] at b
    exact k.2 _ v p a b
theorem Pieces.one {H : Hp} {v : V} {p : Piece} (h : PieceAt H v p) : Pieces H [v] [p] := ⟨rfl, fun i w q a b => by
  cases i with
  | zero =>
    have e1 : v = w := Option.some.inj a
    have e2 : p = q := Option.some.inj b
    rw [← e1, ← e2]; exact h
  | succ i => simp at a⟩
theorem Pieces.take {H : Hp} {vs : List V} {ps : List Piece} (h : Pieces H vs ps) (n : Nat) : Pieces H (vs.take n) (ps.take n) := by
  refine ⟨by rw [List.length_take, List.length_take, h.1], fun i v p a b => ?_⟩
  have hi : i < n := by
    have := (List.getElem?_eq_some_iff.mp a).1
    rw [List.length_take] at this; omega
  rw [List.getElem?_take_of_lt hi] at a b
  exact h.2 i v p a b
theorem Pieces.drop {H : Hp} {vs : List V} {ps : List Piece} (h : Pieces H vs ps) (n : Nat) : Pieces H (vs.drop n) (ps.drop n) := by
  refine ⟨by rw [List.length_drop, List.length_drop, h.1], fun i v p a b => ?_⟩
  rw [List.getElem?_drop] at a b
  exact h.2 _ v p a b
theorem cut_to (xs : List V) (n : Nat) (h : n ≤ xs.length) : cutV xs none (some (n : Int)) = xs.take n := by
  unfold cutV
  rw [HT.sIx_none, HT.sIx_nat, Nat.min_eq_left h]; rfl
theorem cut_from (xs : List V) (n : Nat) (h : n ≤ xs.length) : cutV xs (some (n : Int)) none = xs.drop n := by
  unfold cutV
  rw [HT.sIx_none, HT.sIx_nat, Nat.min_eq_left h]
  exact List.take_of_length_le (by rw [List.length_drop]; omega)
theorem split_at {α : Type} {ps : List α} {i : Nat} (hi : i < ps.length) : ps.take i ++ [ps[i]] ++ ps.drop (i + 1) = ps := by
  rw [List.append_assoc]
  show ps.take i ++ (ps[i] :: ps.drop (i + 1)) = ps
  rw [List.getElem_cons_drop, List.take_append_drop]
theorem foldl_next {α β : Type} (f : β → α → β) (b : β) (xs : List α) (i : Nat) (hi : i < xs.length) : (xs.take (i + 1)).foldl f b = f ((xs.take i).foldl f b) xs[i] := by
  rw [List.take_add_one, List.getElem?_eq_getElem hi, List.foldl_append]; rfl

def spBytesM (K : PySem.W.Frag) : Sp := fun vs H Q _ => ∃ (p m : Addr) (n : Int) (o : HO) (ms : List Int), vs = [.ref p, .ref m] ∧ H p = some o ∧ PoolO n o ∧ n ≤ 900000000 ∧ SqL K H m (ms.map V.int) ∧ p ≠ m ∧ ms ≠ [] ∧ ms.length ≤ 100 ∧ (∀ z ∈ ms, 0 ≤ z ∧ z ≤ 400) ∧
  ∀ (H' : Hp) (q : Addr) (bs : List Int) (o' : HO), H q = none → H' q = some (.lst (bs.map V.int)) → H' p = some o' → PoolO (n + 1000) o' → Kp [p] H H' → (∃ z ∈ ms, (bs.length : Int) = z) → Bytes bs → Q (.ref q) H'
def spDueP (K : PySem.W.Frag) : Sp := fun vs H Q _ => ∃ (a b : Addr) (r : List Int) (us : List V) (ps : List Piece), vs = [.ref a, .ref b] ∧ SqL K H a (r.map V.int) ∧ SqL K H b us ∧ Pieces H us ps ∧ r.length ≤ 740 ∧ Bytes r ∧ (∀ p ∈ ps, Small p) ∧ ps.length ≤ 100 ∧
  ∀ (H' : Hp) (q : Addr), H q = none → H' q = some (.lst ((allF r ps).map V.int)) → Same H H' → Q (.ref q) H'
/-! what stands apart from some places -/
def mask (qs : List Addr) (H : Hp) : Hp := fun b => if b ∈ qs then none else H b
theorem mask_le (qs : List Addr) (H : Hp) : Same (mask qs H) H := fun b o e => by
  unfold mask at e
  split at e
  · cases e
  · exact e
theorem mask_upd {qs : List Addr} {H : Hp} {q : Addr} {o : HO} (h : q ∈ qs) : mask qs (upd H q o) = mask qs H := by
  funext b
  unfold mask
  split
  · rfl
  · next n =>
    have : b ≠ q := fun z => n (by rw [z]; exact h)
    rw [upd_ne this]
theorem mask_kp {qs : List Addr} {H H' : Hp} (k : Kp qs H H') : Same (mask qs H) (mask qs H') := fun b o e => by
  unfold mask at e ⊢
  split at e
  · cases e
  · next n => rw [if_neg n]; exact k b o n e
theorem mask_at {qs : List Addr} {H : Hp} {b : Addr} (h : b ∉ qs) : mask qs H b = H b := if_neg h
theorem Kp.sub {ps qs : List Addr} {H H' : Hp} (k : Kp ps H H') (h : ∀ x ∈ ps, x ∈ qs ∨ H x = none) : Kp qs H H' := fun b o n e => by
  refine k b o (fun z => ?_) e
  rcases h b z with h | h
  · exact n h
  · rw [h] at e; cases e
def Tiny (p : Piece) : Prop := p.1 ≤ 299 ∧ p.2.length ≤ 40 ∧ Bytes p.2
theorem Tiny.small {p : Piece} (h : Tiny p) : Small p := ⟨by have := h.1; omega, by have := h.2.1; omega, h.2.2⟩
end Sip
namespace Sip
open PySem PySem.Spec PyProof.Rows L2 TL

/-! an object with all that is its own (F): what a call may change -/
def Step (F : Addr → Prop) (H : Hp) (F' : Addr → Prop) (H' : Hp) : Prop := (∀ b o, ¬ F b → H b = some o → H' b = some o) ∧ ∀ b, F' b → F b ∨ H b = none
theorem Step.keep {F F' : Addr → Prop} {H H' : Hp} {b : Addr} {o : HO} (s : Step F H F' H') (n : ¬ F b) (e : H b = some o) : H' b = some o ∧ ¬ F' b :=
  ⟨s.1 b o n e, fun z => (s.2 b z).elim n fun q => by rw [q] at e; cases e⟩
/-- own objects made since H0 alone -/
theorem Step.since {F F' : Addr → Prop} {H0 H H' : Hp} (s : Step F H F' H') (a : Same H0 H) (n : ∀ b, F b → H0 b = none) : Same H0 H' ∧ ∀ b, F' b → H0 b = none := by
  refine ⟨fun b o e => s.1 b o (fun z => by rw [n b z] at e; cases e) (a b o e), fun b z => ?_⟩
  rcases s.2 b z with q | q
  · exact n b q
  · exact a.free q
theorem Step.of {F : Addr → Prop} {H H' : Hp} (s : Same H H') : Step F H F H' := ⟨fun b o _ e => s b o e, fun b z => .inl z⟩
theorem Step.trans {F F' F2 : Addr → Prop} {H H' H2 : Hp} (a : Step F H F' H') (b : Step F' H' F2 H2) : Step F H F2 H2 := by
  refine ⟨fun x o n e => b.1 x o (a.keep n e).2 (a.keep n e).1, fun x z => ?_⟩
  rcases b.2 x z with q | q
  · exact a.2 x q
  · by_cases f : F x
    · exact .inl f
    · cases e : H x with
      | none => exact .inr rfl
      | some o => rw [a.1 x o f e] at q; cases q

/-- a plain file in the heap, however it keeps its row: heap, address, what is its own, row, cursor -/
abbrev PP := Hp → Addr → (Addr → Prop) → List Int → Nat → Prop
structure IsPlain (C : Addr) (PA : PP) : Prop where
  loc : ∀ {H H' : Hp} {p : Addr} {F : Addr → Prop} {r : List Int} {c : Nat}, PA H p F r c → (∀ b o, F b → H b = some o → H' b = some o) → PA H' p F r c
  own : ∀ {H : Hp} {p : Addr} {F : Addr → Prop} {r : List Int} {c : Nat}, PA H p F r c → ∀ b, F b → ∃ o, H b = some o
  ins : ∀ {H : Hp} {p : Addr} {F : Addr → Prop} {r : List Int} {c : Nat}, PA H p F r c → ∃ dx fs, H p = some (.ins C dx fs) ∧ ∀ m ∈ (["read", "read_some", "peek", "readline", "write", "seek", "tell", "size", "row", "cut"] : List Str), fs.lookup m = none
theorem IsPlain.same {C : Addr} {PA : PP} (I : IsPlain C PA) {H H' : Hp} {p : Addr} {F : Addr → Prop} {r : List Int} {c : Nat} (h : PA H p F r c) (s : Same H H') : PA H' p F r c := I.loc h fun b o _ e => s b o e
theorem IsPlain.kp {C : Addr} {PA : PP} (I : IsPlain C PA) {H H' : Hp} {qs : List Addr} {p : Addr} {F : Addr → Prop} {r : List Int} {c : Nat} (h : PA H p F r c) (k : Kp qs H H') (n : ∀ q ∈ qs, ¬ F q) : PA H' p F r c :=
  I.loc h fun b o f e => k b o (fun z => n b z f) e
theorem IsPlain.new {C : Addr} {PA : PP} (I : IsPlain C PA) {H : Hp} {q p : Addr} {F : Addr → Prop} {r : List Int} {c : Nat} (h : PA H p F r c) (n : H q = none) : ¬ F q := fun f => by
  obtain ⟨o, e⟩ := I.own h q f
  rw [n] at e; cases e

def spPInit (K : PySem.W.Frag) (C : Addr) (PA : PP) : Sp := fun vs H Q _ => ∃ (p a dx : Addr) (r : List Int) (c : Nat), vs = [.ref p, .ref a, .int c] ∧ H p = some (.ins C dx []) ∧ H dx = some (.own p) ∧ SqL K H a (r.map V.int) ∧ p ≠ a ∧ r.length ≤ 400 ∧ c ≤ 4000 ∧
  ∀ (H' : Hp) (F' : Addr → Prop), PA H' p F' r c → Step (fun b => b = p ∨ b = dx) H F' H' → Q .non H'
def spPTell (PA : PP) : Sp := fun vs H Q _ => ∃ (p : Addr) (F : Addr → Prop) (r : List Int) (c : Nat), vs = [.ref p] ∧ PA H p F r c ∧ Q (.int c) H
def spPSize (PA : PP) : Sp := fun vs H Q _ => ∃ (p : Addr) (F : Addr → Prop) (r : List Int) (c : Nat), vs = [.ref p] ∧ PA H p F r c ∧ Q (.int r.length) H
def spPRow (PA : PP) : Sp := fun vs H Q _ => ∃ (p : Addr) (F : Addr → Prop) (r : List Int) (c : Nat), vs = [.ref p] ∧ PA H p F r c ∧ ∀ (H' : Hp) (q : Addr), H q = none → H' q = some (.lst (r.map V.int)) → Same H H' → Q (.ref q) H'
def spPSeek (PA : PP) : Sp := fun vs H Q _ => ∃ (p : Addr) (F : Addr → Prop) (r : List Int) (c g : Nat) (pl : Int) (st : Str), vs = [.ref p, .int pl, .str st] ∧ PA H p F r c ∧
  ((st = Str.ofString "head" ∧ (g : Int) = pl) ∨ (st = Str.ofString "here" ∧ (g : Int) = c + pl) ∨ (st = Str.ofString "tail" ∧ (g : Int) = r.length + pl)) ∧ g ≤ 4000 ∧ ∀ (H' : Hp) (F' : Addr → Prop), PA H' p F' r g → Step F H F' H' → Q (.int g) H'
def spPCut (PA : PP) : Sp := fun vs H Q _ => ∃ (p : Addr) (F : Addr → Prop) (r : List Int) (c g : Nat) (v : V), vs = [.ref p, v] ∧ PA H p F r c ∧ ((v = .non ∧ g = c) ∨ v = .int g) ∧ g ≤ 4000 ∧ ∀ (H' : Hp) (F' : Addr → Prop), PA H' p F' (r.take g) c → Step F H F' H' → Q .non H'
def spPWrite (PA : PP) : Sp := fun vs H Q _ => ∃ (p b : Addr) (F : Addr → Prop) (r : List Int) (c : Nat) (d : List Int), vs = [.ref p, .ref b] ∧ PA H p F r c ∧ ¬ F b ∧ H b = some (.lst (d.map V.int)) ∧ Bytes d ∧ r.length ≤ 4000 ∧ c ≤ 4000 ∧ d.length ≤ 400 ∧ (laidF r c d).length ≤ 4000 ∧
  ∀ (H' : Hp) (F' : Addr → Prop), PA H' p F' (laidF r c d) (c + d.length) → Step F H F' H' → Q (.int d.length) H'
/-- a place drawn for a row of n bytes -/
def spGoal (K : PySem.W.Frag) : Sp := fun vs H Q _ => ∃ (p x : Addr) (n : Int) (o : HO) (r : List Int), vs = [.ref p, .ref x] ∧ H p = some o ∧ PoolO n o ∧ n ≤ 900000000 ∧ SqL K H x (r.map V.int) ∧ p ≠ x ∧ r.length ≤ 5000 ∧
  ∀ (H' : Hp) (g : Nat) (o' : HO), g ≤ max (r.length + 20) 4000 → H' p = some o' → PoolO (n + 4) o' → Kp [p] H H' → Q (.int g) H'
def spSought (K : PySem.W.Frag) (PA : PP) : Sp := fun vs H Q _ => ∃ (p x : Addr) (F : Addr → Prop) (r : List Int) (c g : Nat) (way : Int), vs = [.ref p, .int way, .int g, .ref x, .int c] ∧ 0 ≤ way ∧ way ≤ 3 ∧ PA H p F r c ∧ SqL K H x (r.map V.int) ∧ g ≤ 4000 ∧
  ∀ (H' : Hp) (F' : Addr → Prop), PA H' p F' r g → Step F H F' H' → Q (.int g) H'
def spCutL (PA : PP) : Sp := fun vs H Q _ => ∃ (p : Addr) (F : Addr → Prop) (r : List Int) (c g : Nat) (way : Int), vs = [.ref p, .int way, .int g] ∧ 0 ≤ way ∧ way ≤ 2 ∧ (way < 2 → g = c) ∧ PA H p F r c ∧ g ≤ 4000 ∧
  ∀ (H' : Hp) (F' : Addr → Prop), PA H' p F' (r.take g) c → Step F H F' H' → Q .non H'
theorem take_cut (r : List Int) (g : Nat) : cutV (r.map V.int) none (some (g : Int)) = (r.take g).map V.int := by
  unfold cutV
  rw [HT.sIx_none, HT.sIx_nat, List.length_map, List.map_take]
  show (r.map V.int).take (min g r.length - 0) = _
  by_cases h : g ≤ r.length
  · rw [Nat.min_eq_left h]; rfl
  · rw [Nat.min_eq_right (by omega), List.take_of_length_le (by rw [List.length_map]; omega), List.take_of_length_le (by rw [List.length_map]; omega)]
theorem drop_cut (r : List Int) (g : Nat) : cutV (r.map V.int) (some (g : Int)) none = (r.drop g).map V.int := by
  unfold cutV
  rw [HT.sIx_none, HT.sIx_nat, List.length_map, List.map_drop]
  by_cases h : g ≤ r.length
  · rw [Nat.min_eq_left h]
    exact List.take_of_length_le (by rw [List.length_drop, List.length_map]; omega)
  · rw [Nat.min_eq_right (by omega), List.drop_of_length_le (by rw [List.length_map]; omega), List.drop_of_length_le (l := r.map V.int) (by rw [List.length_map]; omega)]
    simp
/-- one byte laid over by hand -/
theorem laid_one (r : List Int) (c : Nat) (v : Int) : (r ++ List.replicate (c - r.length) 0).take c ++ [v] ++ r.drop (c + 1) = laidF r c [v] := by
  rw [laidF_cons (by simp)]
  congr 1
  by_cases h : c + 1 ≤ r.length
  · rw [show c - r.length = 0 by omega]; simp
  · rw [List.drop_of_length_le (l := r) (by omega), List.drop_of_length_le]
    rw [List.length_append, List.length_replicate]
    show _ ≤ c + 1
    omega
end Sip
namespace Sip
open PySem PySem.Spec PyProof.Rows L2 TL
/-! a heap by name: what was made, what was written -/
theorem updG {H H' : Hp} {q : Addr} {o : HO} (g : upd H q o = H') (n : H q = none) : H' q = some o ∧ Same H H' := by
  subst g; exact ⟨upd_same, (Kp.new (ps := []) n).same⟩
theorem updK {H H' : Hp} {q : Addr} {o : HO} (g : upd H q o = H') : H' q = some o ∧ Kp [q] H H' := by
  subst g; exact ⟨upd_same, Kp.at (by simp)⟩
theorem neN {H : Hp} {p x : Addr} {o : HO} (n : H p = none) (e : H x = some o) : x ≠ p := ne_of_none e n
theorem neM {H : Hp} {p x : Addr} {o : HO} (n : H x = none) (e : H p = some o) : x ≠ p := (ne_of_none e n).symm
theorem kp1 {H H' : Hp} {p x : Addr} {o : HO} (k : Kp [p] H H') (n : x ≠ p) (e : H x = some o) : H' x = some o := k x o (by simpa using n) e
theorem sm1 {H H' : Hp} {x : Addr} {o : HO} (k : Same H H') (e : H x = some o) : H' x = some o := k x o e
theorem sqS {K : PySem.W.Frag} {H H' : Hp} {a : Addr} {l : List V} (s : Same H H') (h : SqL K H a l) : SqL K H' a l := s.seq h
theorem sqK {K : PySem.W.Frag} {H H' : Hp} {p a : Addr} {l : List V} (s : Kp [p] H H') (n : a ≠ p) (h : SqL K H a l) : SqL K H' a l := s.seq (by simpa using n) h
end Sip
namespace Sip
open PySem PySem.Spec PyProof.Rows L2 TL
theorem mapI_nil : ([] : List V) = List.map V.int [] := rfl
theorem mapI_cons {a : Int} {l : List V} {ms : List Int} (h : l = List.map V.int ms) : V.int a :: l = List.map V.int (a :: ms) := by rw [h]; rfl
theorem sq_lit {K : PySem.W.Frag} {H : Hp} {m : Addr} {l : List V} {ms : List Int} (h : H m = some (.lst l)) (e : l = ms.map V.int) : SqL K H m (ms.map V.int) := by rw [← e]; exact sq_at h
theorem hp_lit {H : Hp} {m : Addr} {l : List V} {ms : List Int} (h : H m = some (.lst l)) (e : l = ms.map V.int) : H m = some (.lst (ms.map V.int)) := by rw [← e]; exact h
end Sip
namespace Sip
open PySem PySem.Spec PyProof.Rows L2 TL
theorem iteFc {b : Bool} {A B : Prop} (e : b = false) (h : B) : if b = true then A else B := by subst e; exact iteF h
theorem iteTc {b : Bool} {A B : Prop} (e : b = true) (h : A) : if b = true then A else B := by subst e; exact iteT h
theorem free1 {H H' : Hp} {l : Addr} (h : H' l = none) (e : Same H H') : H l = none := e.free h
theorem same_tr {H H1 H2 : Hp} (b : Same H1 H2) (a : Same H H1) : Same H H2 := a.trans b
theorem step_sm {H H1 H2 : Hp} {p : Addr} (k : Kp [p] H1 H2) (n : H p = none) (s : Same H H1) : Same H H2 := step_same s n k
end Sip
namespace Sip
open PySem PySem.Spec PyProof.Rows L2 TL
theorem upd_get {H : Hp} {a b : Addr} {o u : HO} (n : b ≠ a) (e : H b = some u) : upd H a o b = some u := by rw [upd_ne n]; exact e
end Sip
namespace Sip
open PySem PySem.Spec PyProof.Rows L2 TL
/-- an object made: the older ones stay, and are not its own -/
theorem made_new {H H5 : Hp} {f dx : Addr} {o1 o2 : HO} {F : Addr → Prop} (st : Step (fun b => b = f ∨ b = dx) (upd (upd H dx o2) f o1) F H5) (nf : H f = none) (nd : H dx = none) : Same H H5 ∧ ∀ b o, H b = some o → ¬ F b := by
  have k : ∀ b o, H b = some o → H5 b = some o ∧ ¬ F b := fun b o e => by
    have bf : b ≠ f := ne_of_none e nf
    have bd : b ≠ dx := ne_of_none e nd
    exact st.keep (fun z => z.elim bf bd) (by rw [upd_ne bf, upd_ne bd]; exact e)
  exact ⟨fun b o e => (k b o e).1, fun b o e => (k b o e).2⟩
end Sip
namespace Sip
open PySem PySem.Spec PyProof.Rows L2 TL
theorem sqA {K : PySem.W.Frag} {H H' : Hp} {a : Addr} {l : List V} (h : SqL K H a l) (s : Same H H') : SqL K H' a l := s.seq h
end Sip
namespace Sip
open PySem PySem.Spec PyProof.Rows L2 TL
theorem sqB {K K' : PySem.W.Frag} {H H' : Hp} {a : Addr} {l : List V} (h : SqL K H a l) (s : Same H H') (e : K = K') : SqL K' H' a l := e ▸ s.seq h
end Sip
namespace Sip
open PySem PySem.Spec PyProof.Rows L2 TL
/-- what may be found by the way (no word over a frame) -/
class Wit (α : Type) : Prop where
  ok : True
instance : Wit V := ⟨trivial⟩
instance : Wit Int := ⟨trivial⟩
instance : Wit Nat := ⟨trivial⟩
instance : Wit Bool := ⟨trivial⟩
instance : Wit HO := ⟨trivial⟩
instance : Wit Str := ⟨trivial⟩
instance : Wit Value := ⟨trivial⟩
instance : Wit (Addr → Prop) := ⟨trivial⟩
instance {α β : Type} [Wit α] [Wit β] : Wit (α × β) := ⟨trivial⟩
instance {α : Type} [Wit α] : Wit (Option α) := ⟨trivial⟩
instance {α : Type} [Wit α] : Wit (List α) := ⟨trivial⟩
theorem exI {α : Type} [Wit α] {p : α → Prop} (a : α) (h : p a) : ∃ x, p x := ⟨a, h⟩
end Sip
namespace Sip
open PySem PySem.Spec PyProof.Rows L2 TL
theorem isi_ii {K : PySem.W.Frag} {v : Int} {H : Hp} {Q : VK} (h : Q (.bl true) H) : rIsi K [.int v, .ty "int"] H Q := ⟨.int v, .ty "int", _, _, true, rfl, .ty "int", .base (.int v), kit_ty (by decide +kernel), h⟩
theorem isi_ib {K : PySem.W.Frag} {v : Int} {H : Hp} {Q : VK} (h : Q (.bl false) H) : rIsi K [.int v, .ty "bool"] H Q := ⟨.int v, .ty "bool", _, _, false, rfl, .ty "bool", .base (.int v), kit_ty (by decide +kernel), h⟩
end Sip
namespace Sip
open PySem PySem.Spec PyProof.Rows L2

/-! del xs[lo:hi] -/
def delL {α : Type} (xs : List α) (a c : Nat) : List α := xs.take a ++ xs.drop (max a c)
theorem sel_filter {α : Type} (sel : Nat → Bool) (a c : Nat) (h : ∀ k, sel k = (decide (a ≤ k) && decide (k < c))) (xs : List α) :
    ∀ j, (xs.zipIdx j).filterMap (fun p => if sel p.2 = true then none else some p.1) = xs.take (a - j) ++ xs.drop (max (a - j) (c - j)) := by
  induction xs with
  | nil => intro j; simp
  | cons x r ih =>
    intro j
    rw [List.zipIdx_cons, List.filterMap_cons]
    have e := h j
    by_cases h1 : a ≤ j
    · by_cases h2 : j < c
      · rw [decide_eq_true h1, decide_eq_true h2] at e
        have e' : sel j = true := e
        simp only [e', if_true]
        rw [ih (j + 1)]
        have : a - j = 0 := by omega
        have : a - (j + 1) = 0 := by omega
        have : c - j = (c - (j + 1)) + 1 := by omega
        simp [*]
      · rw [decide_eq_true h1, decide_eq_false h2] at e
        have e' : ¬ (sel j = true) := by rw [e]; decide
        simp only [if_neg e']
        rw [ih (j + 1)]
        have : a - j = 0 := by omega
        have : a - (j + 1) = 0 := by omega
        have : c - j = 0 := by omega
        have : c - (j + 1) = 0 := by omega
        simp [*]
    · rw [decide_eq_false h1] at e
      have e' : ¬ (sel j = true) := by rw [e]; simp
      simp only [if_neg e']
      rw [ih (j + 1)]
      have e1 : a - j = (a - (j + 1)) + 1 := by omega
      have e2 : max (a - j) (c - j) = max (a - (j + 1)) (c - (j + 1)) + 1 := by omega
      rw [e2, e1, List.take_succ_cons, List.drop_succ_cons]
      rfl
def selF (a c : Nat) (i : Nat) : Bool :=
  if (1 : Int) > 0 then (a : Int) ≤ i && i < (c : Int) && (i - (a : Int)) % 1 == 0
  else (c : Int) < i && i ≤ (a : Int) && ((a : Int) - i) % (-1) == 0
theorem selF_eq (a c k : Nat) : selF a c k = (decide (a ≤ k) && decide (k < c)) := by
  unfold selF
  rw [if_pos (by decide)]
  have : ((k : Int) - (a : Int)) % 1 = 0 := by omega
  rw [this]
  simp
theorem selF_fun (a c : Nat) : (fun xs : Array Value => (List.filterMap (fun x => if selF a c x.snd = true then none else some x.fst) xs.toList.zipIdx).toArray) = fun t => (delL t.toList a c).toArray := by
  funext t
  have := sel_filter (selF a c) a c (selF_eq a c) t.toList 0
  rw [Nat.sub_zero, Nat.sub_zero] at this
  exact congrArg _ this
theorem sel_fun {sel : Nat → Bool} {a c : Nat} (h : ∀ k, sel k = selF a c k) : (fun xs : Array Value => (List.filterMap (fun x => if sel x.snd = true then none else some x.fst) xs.toList.zipIdx).toArray) = fun t => (delL t.toList a c).toArray := by
  have e : sel = selF a c := funext h
  subst e
  exact selF_fun a c
section
variable {pr : Program} {wd : World} {ar : Around} {er : Value → Shared → Prop} {s : Shared}
set_option maxHeartbeats 4000000 in
theorem del_slice {l z : Addr} {old : Array Value} {m a c : Nat} {lo hi : Option Int} {vl vu : Value} {Q : Unit → Shared → Prop}
    (eo : s.heap.get? l = some { cls := .type "list", data := .seq old m })
    (hz : s.heap.IsSliceOf z vl vu .none) (pl : IsPart vl lo) (pu : IsPart vu hi)
    (bd : sliceBounds lo hi none old.size = ((a : Int), (c : Int), 1)) (fit : old.size ≤ sizeLine)
    (k : Q () { s with heap := s.heap.update l (Obj.mapSeq fun t => (delL t.toList a c).toArray) }) :
    wpAny (model pr wd) ar (delItem (.ref l) (.ref z)) Q er s := by
  have lo' : s.heap.IsList l old := PySem.IsL.isList eo
  obtain ⟨oz, gz, cz, dz⟩ := id hz
  have tz : s.TypeIs (.ref z) "slice" := ⟨oz, gz, cz⟩
  refine wpAny_delItem_slot lo'.typeIs (by decide) PySem.F.slot_list_delitem ?_
  refine wpAny_call_entry PySem.F.slot_list_delitem lo'.typeIs PySem.F.entry_list_delitem ?_ (PySem.F.args_list_delitem_2 _ _)
  show wpAny _ _ (Builtin.List.listSubscript? (.ref z) >>= _) _ _ s
  refine wpAny_bind ?_
  unfold Builtin.List.listSubscript?
  refine wpAny_bind (wpAny_specialOf tz slice_no_index ?_)
  simp only [Option.isNone_none, if_true]
  refine wpAny_pure ?_
  show wpAny _ _ (typeOf (.ref z) >>= _) _ _ s
  refine wpAny_bind (wpAny_typeOf tz ?_)
  first
    | rw [if_neg (by decide)]
    | refine PySem.W.KFB.if_not (by decide) ?_
  rw [listSliceParts_eq]
  refine wpAny_bind (wpAny_bind (wpAny_field gz dz (x := .none) rfl (wpAny_bind (wpAny_listPart .none ?_))))
  rw [if_neg (show ¬ ((rawPart none == rawInt 0) = true) from Bool.false_ne_true)]
  refine wpAny_bind (wpAny_field gz dz (x := vl) rfl (wpAny_bind (wpAny_listPart pl ?_)))
  refine wpAny_bind (wpAny_field gz dz (x := vu) rfl (wpAny_bind (wpAny_listPart pu (wpAny_pure ?_))))
  unfold Builtin.List.listItems
  refine wpAny_bind (wpAny_bind (wpAny_seqItems eo rfl (wpAny_pure ?_)))
  have si := (sliceIndices_raw lo hi none old.size (by simp)).trans (congrArg (pure : Int × Int × Int → Sem (Int × Int × Int)) bd)
  refine wpAny_bind (wpAny_of_eq si ?_)
  refine wpAny_bind (wpAny_rule ?_)
  refine wpAny_bind ?_
  unfold Builtin.List.listUpdate
  simp only []
  rw [sel_fun (a := a) (c := c) (fun k => by with_unfolding_all rfl)]
  have zz : ((fun t : Array Value => (delL t.toList a c).toArray) old).size ≤ sizeLine + 1 := by
    show (delL old.toList a c).toArray.size ≤ _
    rw [List.size_toArray]
    unfold delL
    rw [List.length_append, List.length_take, List.length_drop, Array.length_toList]; omega
  refine wpAny_updateSeq (hz := fit) (_hz' := zz) eo rfl (wpAny_bind (wpAny_letGo ?_))
  first
    | with_reducible exact wpAny_pure ⟨.none, rfl, k⟩
    | exact wpAny_bind (wpAny_pure (wpAny_pure ⟨.none, rfl, k⟩))
    | exact wpAny_pure ⟨.none, rfl, k⟩
end
/-- what is left of a list whose part from lo to hi is deleted -/
def delV (xs : List V) (lo hi : Option Int) : List V := delL xs (HT.sIx xs.length 0 lo) (HT.sIx xs.length xs.length hi)
theorem bounds_sIx (lo hi : Option Int) (n : Nat) : sliceBounds lo hi none n = ((HT.sIx n 0 lo : Int), (HT.sIx n n hi : Int), 1) := by
  have f : ∀ (v : Option Int) (d : Nat), d ≤ n → (match v with | none => (d : Int) | some i => max 0 (min (if i < 0 then i + (n : Int) else i) (n : Int))) = (HT.sIx n d v : Int) ∨ (∃ i, v = some i ∧ i < 0 ∧ i + (n : Int) > n) := by
    intro v d hd
    cases v with
    | none => exact .inl rfl
    | some i =>
      left
      show max 0 (min (if i < 0 then i + (n : Int) else i) (n : Int)) = ((if i < 0 then (i + (n : Int)).toNat else min i.toNat n : Nat) : Int)
      split <;> omega
  have f1 := (f lo 0 (by omega)).resolve_right (by rintro ⟨i, _, h1, h2⟩; omega)
  have f2 := (f hi n (by omega)).resolve_right (by rintro ⟨i, _, h1, h2⟩; omega)
  rw [← f1, ← f2]
  unfold sliceBounds
  cases lo <;> cases hi <;> rfl
section
variable {X : Cx} {pos : Pos}
def tDelS (to : TE) (tl th : TO) : TS := fun D σ H => to σ H fun o H1 => tl σ H1 fun lo H2 => th σ H2 fun hi H3 => ∃ (l : Addr) (xs : List V), o = .ref l ∧ H3 l = some (.lst xs) ∧ D.nx σ (upd H3 l (.lst (delV xs lo hi)))
theorem ps_delS {o : Expr} {lo hi : Option Expr} {to : TE} {tl th : TO} {p2 tpos : Pos} (ho : PE X o to) (hl : PO X lo tl) (hh : PO X hi th) : PS X (.Delete [.Subscript o (.Slice lo hi none p2) tpos] pos) (tDelS to tl th) := by
  refine ⟨fun pins s σ H D I h => ?_⟩
  refine wpAny_Delete (wpAny_deleteEach_cons (wpAny_delete_Subscript (thn (ho.run pins s σ H _ I h) fun ov s1 ⟨x, H1, I1, r1, q1⟩ => ?_)))
  refine wpAny_Slice (thn (hl.run pins s1 σ H1 _ I1 q1) fun wl s2 ⟨l, H2, I2, pl, q2⟩ => ?_)
  refine thn (hh.run pins s2 σ H2 _ I2 q2) fun wu s3 ⟨uu, H3, I3, pu, q3⟩ => ?_
  rw [evalPart_none]
  refine wpAny_pure ?_
  obtain ⟨p, xs, rfl, hp, fin⟩ := q3
  cases r1
  have I4 : Inv X pins σ H3 { s3 with heap := s3.heap.push { cls := .type "slice", data := .fields #[wl, wu, .none] } } := I3.kept (t' := s3.toks) fun b ob e => Heap.get?_push_of_some _ e
  obtain ⟨z1, us1, n1, rv1, hz1, e1⟩ := I4.lstM hp
  have L1 := rv1.length
  refine del_slice (a := HT.sIx xs.length 0 l) (c := HT.sIx xs.length xs.length uu) e1 (Heap.IsSliceOf.new ..) pl pu (by rw [List.size_toArray, ← L1]; exact bounds_sIx _ _ _) (by rw [List.size_toArray]; omega) ?_
  refine wpAny_deleteEach_nil ⟨σ, _, ?_, fin⟩
  refine I4.lset (its' := delL us1 (HT.sIx xs.length 0 l) (HT.sIx xs.length xs.length uu)) (t' := s3.toks) hp e1 rfl (Vals.append (rv1.take _) (rv1.drop _)) ?_
  show (delL _ _ _).length ≤ _
  unfold delL
  rw [List.length_append, List.length_take, List.length_drop]
  omega
end
end Sip
namespace Sip
open PySem PySem.Spec PyProof.Rows L2 TL
/-- for i, x in enumerate(xs), the list standing -/
theorem for_enum {K : PySem.W.Frag} {a : Addr} {xs : List V} {g : TG} {tb : TS} {D : Ends} {σ : L2.St} {H : Hp} (Pv : Nat → L2.St → Hp → Prop) (h0 : Pv 0 σ H) (hl : ∀ i σ H, i ≤ xs.length → Pv i σ H → SqL K H a xs)
    (hs : ∀ i x σ H T, xs[i]? = some x → Pv i σ H → H T = none → g (.ref T) σ (upd H T (.tup [.int (i : Nat), x])) fun σ2 H2 => tb { D with nx := Pv (i + 1), ct := Pv (i + 1), bk := D.nx } σ2 H2) (hd : ∀ σ H, Pv xs.length σ H → D.nx σ H) :
    ∃ W : Nat → Nat → L2.St → Hp → Prop, (∃ m, W 0 m σ H) ∧ ∀ i m σ H, W i m σ H →
      ((Ite K a).stop i H ∧ D.nx σ H) ∨ ((Ite K a).go i H ∧ ∃ N : L2.St → Hp → Prop, (∀ σ' H', N σ' H' → ∃ m', m' < m ∧ W (i + 1) m' σ' H') ∧ ∀ x H', (Ite K a).yld i H x H' → g x σ H' fun σ2 H2 => tb { D with nx := N, ct := N, bk := D.nx } σ2 H2) := by
  refine ⟨fun i m σ H => m = xs.length - i ∧ i ≤ xs.length ∧ Pv i σ H, ⟨xs.length, by simp, Nat.zero_le _, h0⟩, ?_⟩
  rintro i m σ H ⟨rfl, hi, p⟩
  have q := hl i σ H hi p
  by_cases hlt : i < xs.length
  · refine .inr ⟨⟨xs, xs[i], q, by simp [hlt]⟩, Pv (i + 1), fun σ' H' p' => ⟨xs.length - (i + 1), by omega, rfl, hlt, p'⟩, fun x H' y => ?_⟩
    obtain ⟨T, y, rfl, nT, rfl, hy⟩ := y
    exact hs i y σ _ T (hy xs q) p nT
  · have e : i = xs.length := by omega
    subst e
    exact .inl ⟨⟨xs, q, Nat.le_refl _⟩, hd σ H p⟩
end Sip
namespace Sip
open PySem PySem.Spec PyProof.Rows L2 TL
section
variable {X : Cx} {e : Expr} {te : TE}
/-- a bound of a slice that may be None -/
def tPartO (te : TE) : TO := fun σ H Q => te σ H fun x H1 => ∃ k : Option Int, x = (match k with | none => .non | some i => .int i) ∧ Q k H1
theorem po_opt (h : PE X e te) : PO X (some e) (tPartO te) := by
  refine ⟨fun pins s σ H Q I hw => ?_⟩
  rw [evalPart_some]
  refine thn (h.run pins s σ H _ I hw) fun u s1 ⟨x, H1, I1, r1, q1⟩ => ?_
  obtain ⟨k, rfl, q⟩ := q1
  cases k with
  | none =>
    cases (show u = Value.none from r1)
    exact ⟨none, H1, I1, .none, q⟩
  | some i =>
    obtain ⟨t, rfl⟩ := (show ∃ t, u = Value.int i t from r1)
    exact ⟨some i, H1, I1, .int i t, q⟩
end
def cntV : Option Nat → V
  | none => .non
  | some n => .int n
def cntI : Option Nat → Option Int
  | none => none
  | some n => some n
theorem cntV_eq (k : Option Nat) : cntV k = (match cntI k with | none => V.non | some i => .int i) := by cases k <;> rfl
def takeO (k : Option Nat) (xs : List Int) : List Int := match k with
  | none => xs
  | some n => xs.take n
theorem cut_O (r : List Int) (k : Option Nat) : cutV (r.map V.int) none (cntI k) = (takeO k r).map V.int := by
  cases k with
  | none =>
    unfold cutV cntI takeO
    rw [HT.sIx_none, HT.sIx_none, List.length_map]
    show (r.map V.int).take (r.length - 0) = _
    exact List.take_of_length_le (by rw [List.length_map]; omega)
  | some n => exact take_cut r n
theorem takeO_len (k : Option Nat) (xs : List Int) : (takeO k xs).length ≤ xs.length := by
  cases k with
  | none => exact Nat.le_refl _
  | some n => show (xs.take n).length ≤ _; rw [List.length_take]; omega
def lineF (xs : List Int) : List Int := xs.take (xs.idxOf 10 + 1)
theorem lineF_no {xs : List Int} (h : (10 : Int) ∉ xs) : lineF xs = xs := by
  unfold lineF
  exact List.take_of_length_le (by rw [List.idxOf_eq_length h]; omega)
theorem idx_take (xs : List Int) (n : Nat) : (xs.take n).idxOf 10 = min (xs.idxOf 10) (xs.take n).length := by
  induction xs generalizing n with
  | nil => simp
  | cons x r ih =>
    cases n with
    | zero => simp
    | succ n =>
      rw [List.take_succ_cons, List.idxOf_cons, List.idxOf_cons, List.length_cons]
      by_cases h : x = 10
      · subst h; simp
      · have : (x == 10) = false := by simpa using h
        rw [this]
        simp only [cond_false]
        rw [ih n]; omega
theorem lineF_take (xs : List Int) (n : Nat) : lineF (xs.take n) = (lineF xs).take n := by
  unfold lineF
  rw [idx_take, List.take_take, List.take_take]
  rw [List.length_take]
  by_cases h : n ≤ xs.length
  · congr 1; omega
  · rw [List.take_of_length_le (l := xs) (by omega : xs.length ≤ n) |>.symm]
    by_cases g : xs.idxOf 10 < xs.length
    · rw [List.take_of_length_le (l := xs) (by omega : xs.length ≤ n)]; congr 1; omega
    · rw [List.take_of_length_le (l := xs) (by omega : xs.length ≤ n)]
      have : xs.idxOf 10 ≤ xs.length := List.idxOf_le_length
      rw [List.take_of_length_le (by omega), List.take_of_length_le (by omega)]
theorem lineF_O (xs : List Int) (k : Option Nat) : lineF (takeO k xs) = takeO k (lineF xs) := by
  cases k with
  | none => rfl
  | some n => exact lineF_take xs n
theorem inV_ten (xs : List Int) (v : Int) : inV (.int v) (xs.map V.int) = decide (v ∈ xs) := by
  unfold inV
  rw [List.any_map]
  rw [Bool.eq_iff_iff, List.any_eq_true, decide_eq_true_iff]
  constructor
  · rintro ⟨x, hx, e⟩
    have e1 : x = v := by
      have : eqV (.int x) (.int v) = true := e
      simpa [eqV] using this
    rw [← e1]; exact hx
  · intro h
    exact ⟨v, h, by show eqV (.int v) (.int v) = true; simp [eqV]⟩
theorem flat_ints (xs : List Int) : (xs.map V.int).all flatV = true := by
  rw [List.all_map, List.all_eq_true]
  intro x _
  rfl
theorem idx_facts {xs : List Int} {v : Int} (h : v ∈ xs) : (xs.map V.int)[xs.idxOf v]? = some (.int v) ∧ ∀ (m : Nat) (z : V), m < xs.idxOf v → (xs.map V.int)[m]? = some z → eqV z (.int v) = false := by
  have hl : xs.idxOf v < xs.length := List.idxOf_lt_length_of_mem h
  refine ⟨?_, fun m z hm hz => ?_⟩
  · rw [List.getElem?_map, List.getElem?_eq_getElem hl, List.getElem_idxOf hl]; rfl
  · rw [List.getElem?_map] at hz
    obtain ⟨y, hy, rfl⟩ := Option.map_eq_some_iff.mp hz
    have : y ≠ v := by
      intro e
      subst e
      have hm' : m < xs.length := by omega
      rw [List.getElem?_eq_getElem hm'] at hy
      have := List.not_of_lt_findIdx (p := (· == y)) (xs := xs) (i := m) hm
      have e2 : xs[m] = y := Option.some.inj hy
      rw [e2] at this
      simp at this
    show eqV (.int y) (.int v) = false
    simpa [eqV] using this
theorem mid_cut (r : List Int) (c n : Nat) : cutV (r.map V.int) (some (c : Int)) (some ((c + n : Nat) : Int)) = ((r.drop c).take n).map V.int := by
  unfold cutV
  rw [HT.sIx_nat, HT.sIx_nat, List.length_map, ← List.map_drop, ← List.map_take]
  congr 1
  by_cases h : c ≤ r.length
  · rw [Nat.min_eq_left h]
    by_cases g : c + n ≤ r.length
    · rw [Nat.min_eq_left g, Nat.add_sub_cancel_left]
    · rw [Nat.min_eq_right (by omega), List.take_of_length_le (by rw [List.length_drop]; omega), List.take_of_length_le (by rw [List.length_drop]; omega)]
  · rw [Nat.min_eq_right (by omega : r.length ≤ c), Nat.min_eq_right (by omega), List.drop_of_length_le (Nat.le_refl _), List.drop_of_length_le (by omega : r.length ≤ c)]
    simp
theorem past_le (r : List Int) (c n m : Nat) (h1 : r.length ≤ m) (h2 : c ≤ m) : c + ((r.drop c).take n).length ≤ m := by
  rw [List.length_take, List.length_drop]; omega
/-! promises of the reading calls -/
def spPPeek (PA : PP) : Sp := fun vs H Q _ => ∃ (p : Addr) (F : Addr → Prop) (r : List Int) (c : Nat) (k : Option Nat), vs = [.ref p, cntV k] ∧ PA H p F r c ∧
  ∀ (H' : Hp) (q : Addr), H q = none → H' q = some (.lst ((takeO k (r.drop c)).map V.int)) → Same H H' → Q (.ref q) H'
def spPRead (PA : PP) : Sp := fun vs H Q _ => ∃ (p : Addr) (F : Addr → Prop) (r : List Int) (c : Nat) (k : Option Nat), vs = [.ref p, cntV k] ∧ PA H p F r c ∧
  ∀ (H' : Hp) (F' : Addr → Prop) (q : Addr), PA H' p F' r (c + (takeO k (r.drop c)).length) → H q = none → ¬ F' q → H' q = some (.lst ((takeO k (r.drop c)).map V.int)) → Step F H F' H' → Q (.ref q) H'
def spPLine (PA : PP) : Sp := fun vs H Q _ => ∃ (p : Addr) (F : Addr → Prop) (r : List Int) (c : Nat) (k : Option Nat), vs = [.ref p, cntV k] ∧ PA H p F r c ∧ r.length ≤ 10000 ∧
  ∀ (H' : Hp) (F' : Addr → Prop) (q : Addr), PA H' p F' r (c + (takeO k (lineF (r.drop c))).length) → H q = none → ¬ F' q → H' q = some (.lst ((takeO k (lineF (r.drop c))).map V.int)) → Step F H F' H' → Q (.ref q) H'
def spFLine (K : PySem.W.Frag) : Sp := fun vs H Q _ => ∃ (a : Addr) (xs : List Int) (k : Option Nat), vs = [.ref a, cntV k] ∧ SqL K H a (xs.map V.int) ∧ xs.length ≤ 10000 ∧
  ∀ (H' : Hp) (q : Addr), H q = none → H' q = some (.lst ((takeO k (lineF xs)).map V.int)) → Same H H' → Q (.ref q) H'
def spCount : Sp := fun vs H Q _ => ∃ k : Option Nat, vs = [cntV k] ∧ Q .non H
def spAhead (PA : PP) : Sp := fun vs H Q _ => ∃ (p : Addr) (F : Addr → Prop) (r : List Int) (c : Nat), vs = [.ref p] ∧ PA H p F r c ∧
  ∀ (H' : Hp) (q : Addr), H q = none → H' q = some (.lst ((r.drop c).map V.int)) → Same H H' → Q (.ref q) H'
def spPassed (PA : PP) : Sp := fun vs H Q _ => ∃ (p t : Addr) (F : Addr → Prop) (r xs : List Int) (c : Nat), vs = [.ref p, .ref t] ∧ PA H p F r c ∧ ¬ F t ∧ H t = some (.lst (xs.map V.int)) ∧
  ∀ (H' : Hp) (F' : Addr → Prop), PA H' p F' r (c + xs.length) → ¬ F' t → H' t = some (.lst (xs.map V.int)) → Step F H F' H' → Q (.ref t) H'
end Sip
namespace Sip
open PySem PySem.Spec PyProof.Rows L2 TL
/-! ### tuples alike -/
section
variable {X : Cx}
def rEqS (K : PySem.W.Frag) : R2 := fun x y H Q => ∃ d, Dp K H x d ∧ Dp K H y d ∧ SeqAt.shaped d = true ∧ Q (.bl true) H
def rNeS (K : PySem.W.Frag) : R2 := fun x y H Q => ∃ d, Dp K H x d ∧ Dp K H y d ∧ SeqAt.shaped d = true ∧ Q (.bl false) H
theorem eqv_same {d : PyData} (h : SeqAt.shaped d = true) : PyData.eqv d d = true := SeqAt.eqv_refl d (SeqAt.canLay_of_shaped h)
theorem op_eqS (hu : X.A.units + 64 < cLine) : OpR X (compareOp .Eq) (rEqS X.K) := by
  intro pins s σ H x y v u Q I rx ry h
  obtain ⟨d, h1, h2, h3, q⟩ := h
  exact op_eqD hu pins s σ H x y v u Q I rx ry ⟨d, d, h1, h2, h3, h3, by rw [eqv_same h3]; exact q⟩
theorem op_neS (hu : X.A.units + 64 < cLine) : OpR X (compareOp .NotEq) (rNeS X.K) := by
  intro pins s σ H x y v u Q I rx ry h
  obtain ⟨d, h1, h2, h3, q⟩ := h
  exact op_neD hu pins s σ H x y v u Q I rx ry ⟨d, d, h1, h2, h3, h3, by rw [eqv_same h3]; exact q⟩
/-- == of two tuples of ints -/
def rEqTI (K : PySem.W.Frag) : R2 := fun x y H Q => ∃ (a b : Addr) (ns ms : List Int), x = .ref a ∧ y = .ref b ∧ SqT K H a (ns.map V.int) ∧ SqT K H b (ms.map V.int) ∧ Q (.bl (decide (ns = ms))) H
theorem lay_ints : ∀ ns : List Int, PyData.canLayAll0 (ns.map PyData.int) = true
  | [] => rfl
  | n :: r => by
    have := lay_ints r
    simp [PyData.canLayAll0, PyData.canLay0, this]
theorem eqv_ints : ∀ ns ms : List Int, PyData.eqvAll (ns.map PyData.int) (ms.map PyData.int) = decide (ns = ms)
  | [], [] => rfl
  | [], _ :: _ => by simp [PyData.eqvAll]
  | _ :: _, [] => by simp [PyData.eqvAll]
  | n :: r, m :: t => by
    show (PyData.eqv (.int n) (.int m) && PyData.eqvAll (r.map PyData.int) (t.map PyData.int)) = _
    rw [eqv_ints r t]
    show ((n == m) && decide (r = t)) = _
    by_cases h : n = m <;> by_cases g : r = t <;> simp [h, g]
end
theorem shaped_ints (ns : List Int) : SeqAt.shaped (.tuple (ns.map PyData.int)) = true := by
  unfold SeqAt.shaped
  rw [Bool.and_eq_true]
  refine ⟨lay_ints ns, decide_eq_true ?_⟩
  have : ∀ ms : List Int, PyData.depthAll (ms.map PyData.int) ≤ 1 := by
    intro ms
    induction ms with
    | nil => simp [PyData.depthAll]
    | cons m r ih => simp [PyData.depthAll, PyData.depth]; try omega
  have h := this ns
  show PyData.depth (.tuple (ns.map PyData.int)) ≤ 64
  simp [PyData.depth]; try omega
section
variable {X : Cx}
theorem op_eqTI (hu : X.A.units + 64 < cLine) : OpR X (compareOp .Eq) (rEqTI X.K) := by
  intro pins s σ H x y v u Q I rx ry h
  obtain ⟨a, b, ns, ms, rfl, rfl, ha, hb, q⟩ := h
  exact op_eqD hu pins s σ H _ _ v u Q I rx ry ⟨.tuple (ns.map PyData.int), .tuple (ms.map PyData.int), .tup ha (dp_ints ns), .tup hb (dp_ints ms), shaped_ints ns, shaped_ints ms, by
    rw [show PyData.eqv (.tuple (ns.map PyData.int)) (.tuple (ms.map PyData.int)) = decide (ns = ms) from eqv_ints ns ms]; exact q⟩
end
theorem dp4 {K : PySem.W.Frag} {H : Hp} {q : Addr} {w : Str} {a b c : Int} (h : SqT K H q [.str w, .int a, .int b, .int c]) : Dp K H (.ref q) (.tuple [.str w, .int a, .int b, .int c]) :=
  .tup h (.cons (.str _) (.cons (.int _) (.cons (.int _) (.cons (.int _) .nil))))
theorem sh4 {w : Str} (h : PyData.strOk w = true) (a b c : Int) : SeqAt.shaped (.tuple [.str w, .int a, .int b, .int c]) = true := by
  simp [SeqAt.shaped, PyData.canLay0, PyData.canLayAll0, PyData.depth, PyData.depthAll, h]
/-! ### the codes -/
inductive Cd
  | plain | steps | wide | turn
def Cd.w : Cd → Str
  | .plain => Str.ofString "plain"
  | .steps => Str.ofString "steps"
  | .wide => Str.ofString "wide"
  | .turn => Str.ofString "turn"
def skipT : List Int → Nat → Int → Nat × Int
  | [], p, s => (p, s)
  | x :: r, p, s => if 128 ≤ x then skipT r (p + 1) (x - 128) else (p, s)
def markW (row : List Int) (p : Nat) : Nat × Int :=
  if (row.drop p).take 2 = [254, 255] then (p + 2, 2) else if (row.drop p).take 2 = [255, 254] then (p + 2, 1) else (p, 2)
def goneF (c : Cd) (row : List Int) (p : Nat) (s : Int) : Nat × Int := match c with
  | .turn => skipT (row.drop p) p s
  | .wide => if s = 0 then markW row p else (p, s)
  | _ => (p, s)
def leadF (x : Int) : Nat × Int :=
  if x < 128 then (1, 0) else if x < 192 then (0, 0) else if x < 224 then (2, 192) else if x < 240 then (3, 224) else if x < 248 then (4, 240) else (0, 0)
def stepsW (n : Int) : List Int :=
  if n < 128 then [n] else if n < 2048 then [192 + n / 64, 128 + n % 64] else if n < 65536 then [224 + n / 4096, 128 + n / 64 % 64, 128 + n % 64]
  else [240 + n / 262144, 128 + n / 4096 % 64, 128 + n / 64 % 64, 128 + n % 64]
def foldS (s : Int) (xs : List Int) : Int := xs.foldl (fun s b => 64 * s + b - 128) s
def stepsAt (xs : List Int) : Int × Nat :=
  let l := leadF (xs.headD 0)
  let wr := xs.take l.1
  let sg := foldS (xs.headD 0 - l.2) (wr.drop 1)
  if stepsW sg = wr then (sg, l.1) else (0, 0)
def signF (c : Cd) (row : List Int) (b : Nat) (s : Int) : Int × Nat := match c with
  | .steps => stepsAt (row.drop b)
  | .wide => if row.length < b + 2 then (0, 0) else if s = 1 then (row.getD b 0 + 256 * row.getD (b + 1) 0, 2) else (256 * row.getD b 0 + row.getD (b + 1) 0, 2)
  | .turn => (128 * s + row.getD b 0, 1)
  | .plain => (row.getD b 0, 1)
def fourV (w : Str) (a : Int) (p : Nat) (s : Int) : List V := [.str w, .int a, .int p, .int s]
def tellF (row : List Int) (p : Nat) (s : Int) (g : Nat × Int) (t : Int × Nat) : List V :=
  if row.length ≤ g.1 then fourV (Str.ofString "end") 0 p s else if t.2 = 0 then fourV (Str.ofString "wrong") 0 (g.1 + 1) g.2 else fourV (Str.ofString "sign") t.1 (g.1 + t.2) g.2
def readF (c : Cd) (row : List Int) (p : Nat) (s : Int) : List V := tellF row p s (goneF c row p s) (signF c row (goneF c row p s).1 (goneF c row p s).2)
theorem readF_shape (c : Cd) (row : List Int) (p : Nat) (s : Int) : ∃ (w : Str) (a : Int) (p' : Nat) (s' : Int), readF c row p s = fourV w a p' s' ∧ PyData.strOk w = true := by
  unfold readF tellF
  split
  · exact ⟨_, _, _, _, rfl, by decide +kernel⟩
  · split
    · exact ⟨_, _, _, _, rfl, by decide +kernel⟩
    · exact ⟨_, _, _, _, rfl, by decide +kernel⟩
/-- two told tuples alike -/
theorem dp_read {K : PySem.W.Frag} {H : Hp} {a b : Addr} {c : Cd} {row : List Int} {p : Nat} {s : Int} (ha : SqT K H a (readF c row p s)) (hb : SqT K H b (readF c row p s)) : ∃ d, Dp K H (.ref a) d ∧ Dp K H (.ref b) d ∧ SeqAt.shaped d = true := by
  obtain ⟨w, x, p', s', e, h⟩ := readF_shape c row p s
  rw [e] at ha hb
  exact ⟨_, dp4 ha, dp4 hb, sh4 h _ _ _⟩
/-! promises -/
def newT (H : Hp) (vs : List V) (Q : VK) : Prop := ∀ (H' : Hp) (q : Addr), H q = none → H' q = some (.tup vs) → Same H H' → Q (.ref q) H'
def spChk : Sp := fun vs H Q _ => ∃ c : Cd, vs = [.str c.w] ∧ ∀ H', Same H H' → Q .non H'
def spBT (K : PySem.W.Frag) : Sp := fun vs H Q _ => ∃ (a : Addr) (row : List Int) (p : Nat) (s : Int), vs = [.ref a, .int p, .int s] ∧ SqL K H a (row.map V.int) ∧ newT H [.int (skipT (row.drop p) p s).1, .int (skipT (row.drop p) p s).2] Q
def spBM (K : PySem.W.Frag) : Sp := fun vs H Q _ => ∃ (a : Addr) (row : List Int) (p : Nat), vs = [.ref a, .int p] ∧ SqL K H a (row.map V.int) ∧ newT H [.int (markW row p).1, .int (markW row p).2] Q
def spGone (K : PySem.W.Frag) : Sp := fun vs H Q _ => ∃ (a : Addr) (row : List Int) (p : Nat) (s : Int) (c : Cd), vs = [.ref a, .int p, .int s, .str c.w] ∧ SqL K H a (row.map V.int) ∧ newT H [.int (goneF c row p s).1, .int (goneF c row p s).2] Q
def spWideAt (K : PySem.W.Frag) : Sp := fun vs H Q _ => ∃ (a : Addr) (row : List Int) (b : Nat) (s : Int), vs = [.ref a, .int b, .int s] ∧ SqL K H a (row.map V.int) ∧ b < row.length ∧ newT H [.int (signF .wide row b s).1, .int (signF .wide row b s).2] Q
def spStepsAt (K : PySem.W.Frag) : Sp := fun vs H Q _ => ∃ (a : Addr) (row : List Int) (b : Nat), vs = [.ref a, .int b] ∧ SqL K H a (row.map V.int) ∧ b < row.length ∧ newT H [.int (stepsAt (row.drop b)).1, .int (stepsAt (row.drop b)).2] Q
def spLead : Sp := fun vs H Q _ => ∃ x : Int, vs = [.int x] ∧ newT H [.int (leadF x).1, .int (leadF x).2] Q
def spStepsW : Sp := fun vs H Q _ => ∃ n : Int, vs = [.int n] ∧ ∀ (H' : Hp) (q : Addr), H q = none → H' q = some (.lst ((stepsW n).map V.int)) → Same H H' → Q (.ref q) H'
def spSignAt (K : PySem.W.Frag) (ok : Cd → Prop) : Sp := fun vs H Q _ => ∃ (a : Addr) (row : List Int) (b : Nat) (s : Int) (c : Cd), vs = [.ref a, .int b, .int s, .str c.w] ∧ ok c ∧ SqL K H a (row.map V.int) ∧ b < row.length ∧ newT H [.int (signF c row b s).1, .int (signF c row b s).2] Q
def spReadS (K : PySem.W.Frag) (ok : Cd → Prop) : Sp := fun vs H Q _ => ∃ (a : Addr) (row : List Int) (p : Nat) (s : Int) (c : Cd), vs = [.ref a, .int p, .int s, .str c.w] ∧ ok c ∧ SqL K H a (row.map V.int) ∧ newT H (readF c row p s) Q
end Sip
namespace Sip
open PySem PySem.Spec PyProof.Rows L2 TL
/-! ### own errors that keep a value -/
/-- __init__(self, f): self.f = f -/
def spErr1 (C : Addr) (f : Str) : Sp := fun vs H Q _ => ∃ (a : Addr) (v : V), vs = [.ref a, v] ∧ H a = some (exo a C none) ∧ ∀ dx, H dx = none → dx ≠ a → Q .non (upd (upd H dx (exd dx [(f, v)])) a (exo a C (some dx)))
/-- what a raise of it asks, once its value stands -/
theorem mk1_fin {C : Addr} {f : Str} {H1 : Hp} {v : V} {Q : XK} (h : ∀ d, H1 d = none → Q (.ref C) (some d) (upd H1 d (.xd [(f, v)]))) :
    [v].length ≤ 1000 ∧ ∀ a, H1 a = none → spErr1 C f (.ref a :: ([v] ++ [])) (upd H1 a (exo a C none))
      (fun v H2 => v = .non ∧ ∃ (d : Addr) (fs : List (Str × V)), H2 a = some (exo a C (some d)) ∧ H2 d = some (exd d fs) ∧ H1 d = none ∧ Q (.ref C) (some d) (upd (del H2 a) d (.xd fs))) (fun _ _ _ => False) := by
  refine ⟨by show 1 ≤ 1000; decide, fun a na => ⟨a, v, rfl, upd_same, fun dx nd ne => ⟨rfl, dx, [(f, v)], upd_same, ?_, ?_, ?_⟩⟩⟩
  · rw [upd_ne ne]; exact upd_same
  · rw [upd_ne ne] at nd; exact nd
  · have nd' : H1 dx = none := by rw [upd_ne ne] at nd; exact nd
    have e : upd (del (upd (upd (upd H1 a (exo a C none)) dx (exd dx [(f, v)])) a (exo a C (some dx))) a) dx (.xd [(f, v)]) = upd H1 dx (.xd [(f, v)]) := by
      funext b
      by_cases hb : b = dx
      · subst hb; rw [upd_same, upd_same]
      · rw [upd_ne hb, upd_ne hb]
        by_cases ha : b = a
        · subst ha; rw [del_same, na]
        · rw [del_ne ha, upd_ne ha, upd_ne hb, upd_ne ha]
    rw [e]
    exact h dx nd'
section
variable {X : Cx}
/-- isinstance(e, c): e is the error that the suite holds, whatever it keeps -/
def rIsO (K : PySem.W.Frag) (cls : Value) (d : Option Addr) (a : Addr) : List V → Hp → VK → Prop := fun xs H Q => ∃ D : Addr, cls = .ref D ∧ ExcC K D ∧ (d = none ∨ ∃ dd fs, d = some dd ∧ H dd = some (.xd fs)) ∧ rIsE K D a xs H Q
theorem inst_of {a D : Addr} {oe : Obj} {d : Option Addr} {H : Hp} {s : Shared} {pins : List (Addr × Obj)} {σ : L2.St} {Y : Cx} (I : Inv Y pins σ H s) (ha : s.heap.get? a = some oe) (hz : Zc (.ref D) d oe) (hf : ∃ vs, oe.data = .fields vs)
    (hd : d = none ∨ ∃ dd fs, d = some dd ∧ H dd = some (.xd fs)) : ∃ od, PySem.W.InstAt s.heap a oe D od := by
  obtain ⟨vs, hv⟩ := hf
  obtain ⟨z1, z2⟩ := hz
  have nc : PySem.W.notCls oe = true := by unfold PySem.W.notCls; rw [hv]
  rcases hd with rfl | ⟨dd, fs, rfl, ed⟩
  · refine ⟨none, ha, z1, nc, ?_⟩
    rw [z2]; trivial
  · have ob : ObjOk Y.prog Y.w H s.heap dd (.xd fs) := I.hok dd _ ed
    obtain ⟨mA, hns, _⟩ := ob
    obtain ⟨od, ho, _⟩ := lookIn_ns hns
    refine ⟨some od, ha, z1, nc, ?_⟩
    rw [z2]; exact ho
theorem call_isO {a : Addr} {oe : Obj} {cls : Value} {d : Option Addr} {pn : List (Addr × Obj)} (hz : Zc cls d oe) (hf : ∃ vs, oe.data = .fields vs) : CallR (X.suite a ((a, oe) :: pn)) (.builtin "isinstance") (rIsO X.K cls d a) := by
  intro pins s σ H xs us Q I r h
  obtain ⟨D, rfl, C, hd, c, cv, b, rfl, hcv, e, q⟩ := h
  obtain ⟨u1, u2, rfl, r1, r2⟩ := vals2 r
  obtain rfl : u1 = Value.ref a := r1
  obtain rfl := hcv _ r2
  obtain ⟨ha, _⟩ := I.pin (a, oe) (List.mem_append_left _ List.mem_cons_self)
  obtain ⟨od, J⟩ := inst_of I ha hz hf hd
  have hcl : (PySem.W.clsIn X.K D).isSome = true := by
    obtain ⟨cd, h1, _⟩ := PySem.W.any_some C.hd
    rw [h1]; rfl
  exact PySem.W.kia_one (PySem.W.kitx_exc hcl C.hg C.hk C.hs C.ha C.hn C.ht C.hm) I.kIn J e (fun z => nomatch z) fun tk => ⟨.bl b, H, I.kept (t' := tk) fun _ _ z => z, rfl, q⟩
/-- e.f of that error -/
def tXf (K : PySem.W.Frag) (f : Str) (a : Addr) (cls : Value) (d : Option Addr) (te : TE) : TE := fun σ H Q => te σ H fun x H1 => ∃ (D dd : Addr) (fs : List (Str × V)) (v : V), x = .ref a ∧ cls = .ref D ∧ ExcC K D ∧ PySem.W.findIn K (.ref D) f = some none ∧ d = some dd ∧ H1 dd = some (.xd fs) ∧ fs.lookup f = some v ∧ Q v H1
theorem pe_xf {f : Str} {a : Addr} {oe : Obj} {cls : Value} {d : Option Addr} {pn : List (Addr × Obj)} {e : Expr} {te : TE} {pos : Pos} (hz : Zc cls d oe) (hf : ∃ vs, oe.data = .fields vs) (he : PE (X.suite a ((a, oe) :: pn)) e te)
    (hb : attributeBase e f X.env (eval e X.env) = eval e X.env := by rfl) : PE (X.suite a ((a, oe) :: pn)) (.Attribute e f pos) (tXf X.K f a cls d te) := by
  refine ⟨fun pins s σ H Q I h => attr_of hb (thn (he.run pins s σ H _ I h) fun u s1 hh => ?_)⟩
  obtain ⟨x, H1, I1, rx, D, dd, fs, v, rfl, rfl, C, no, rfl, ed, lk, q⟩ := hh
  obtain rfl : u = Value.ref a := rx
  obtain ⟨ha, _⟩ := I1.pin (a, oe) (List.mem_append_left _ List.mem_cons_self)
  have ob : ObjOk X.prog X.w H1 s1.heap dd (.xd fs) := I1.hok dd _ ed
  obtain ⟨mA, hns, hr⟩ := ob
  obtain ⟨od, ho, hl⟩ := lookIn_ns hns
  obtain ⟨v', hv', rv⟩ := RelO.some_of (v := v) (o := mA f) (by rw [← lk]; exact hr f)
  obtain ⟨vs, hd⟩ := hf
  have J : PySem.W.InstAt s1.heap a oe D (some od) := by
    refine ⟨ha, hz.1, ?_, ?_⟩
    · unfold PySem.W.notCls; rw [hd]
    · rw [hz.2]; exact ho
  exact HandSPX.exc_get I1.kIn J C.hg C.hk C.hs (PySem.W.findObj_own C.hd no rfl (by rw [hl, hv'])) (handed_of rv) ⟨v, H1, I1.tok _, rv, q⟩
end
/-! ### calls within a try -/
section
variable {X : Cx} {CX : CXT} {k n : Nat} {f : Addr} {fd : FuncData} {ps ks : List Str} {sp : Sp} {E : L2.St → XK} {x : Str} {p pos : Pos} {e : Expr} {es : List Expr} {kws : List Keyword} {t tk : TA} {g : List Value → List Value → List Value} {gV : List V → List V → List V}
def tCallNS (n m : Nat) (sp : Sp) (gV : List V → List V → List V) (E : L2.St → XK) (t tk : TA) : TE := fun σ H Q => t σ H fun vs H1 => tk σ H1 fun zs H2 => vs.length = n ∧ zs.length = m ∧ sp (gV vs zs) H2 Q (E σ)
theorem pe_callNS (F : FnOk X.prog X.w X.K X.mg X.base CX k f fd ps sp) (hr : Room k X.A) (hg : Gl X x) (hm : X.mg x = some (.ref f)) (hk : PySem.W.keepIn X.K (.ref f) = true) (hb : KBn X.K fd ps n ks g gV) (hx : ∀ σ, PassesAt CX X σ (E σ))
    (ha : PA X (e :: es) t) (hkw : PK X kws tk) (hall : (backToKw pos (keywordEach kws X.env)).all (·.1.isSome) = true := by rfl) (hks : (backToKw pos (keywordEach kws X.env)).filterMap (·.1) = ks := by rfl)
    (hdb : (x == ("__debug__" : Str)) = false := by decide) (he : starEach (e :: es) X.env = (false, eval e X.env) :: starEach es X.env := by rfl)
    (hpl : ((backTo pos (starEach (e :: es) X.env)).any (·.1) || (backToKw pos (keywordEach kws X.env)).any (·.1.isNone)) = false := by rfl) :
    PE X (.Call (.Name x p) (e :: es) kws pos) (tCallNS n ks.length sp gV E t tk) := by
  refine ⟨fun pins s σ H Q I h => wpAny_Call_Name_kw (ld_glob I hg hm ?_ hdb)⟩
  refine PySem.W.callWith_KW (h₀ := X.base) I.ok.mod.kin hk hall (thn (ha.run pos pins s σ H _ I h) fun us s1 ⟨vs, H1, I1, r, q⟩ => ?_) hpl he
  refine thn (hkw.run pos pins s1 σ H1 _ I1 q) fun ws s2 w2 => ?_
  obtain ⟨zs, H2, I2, rz, l1, l2, q2⟩ := w2
  refine ⟨I2.kIn, ?_⟩
  rw [hks]
  have bt := hb.to s2 us ws I2.kIn (r.length.symm.trans l1) (rz.length.symm.trans l2)
  refine wpAny_call (codeAny_mono (F.run X.A X.stack s2 H2 ⟨us, ks.zip ws⟩ (g us ws) (gV vs zs) Q (E σ) hr I2.env0 bt (hb.rel r rz) q2) fun out s' hq => ?_)
  match out, hq with
  | .error e, hq => exact hx σ pins H2 s2 e s' I2 hq
  | .ok (.ret u), hq => exact I2.after hq
  | .ok .next, hq => exact hq.elim
  | .ok .brk, hq => exact hq.elim
  | .ok .cont, hq => exact hq.elim
end
/-- a raising callee within a def that lets the error out -/
theorem passX {X : Cx} {E : XK} (tk : Takes X (fun cls d _ H => E cls d H)) : Passes (L2.CX X.prog X.w) X E := fun pins σ H s e s' I c => passes_call tk (fun _ _ _ _ h => h) pins σ H s e s' I c
end Sip
namespace Sip
open PySem PySem.Spec PyProof.Rows L2 TL
theorem kit_ownF {K : PySem.W.Frag} {C S : Addr} (h1 : PySem.W.isClsIn K S = true) (h2 : PySem.W.typeIn K (.ref S) = some (.type "type")) (h0 : PySem.W.subIn K (.ref C) (.ref C) = some true) (h3 : PySem.W.subIn K (.ref C) (.ref S) = some false) : PySem.W.kitOne K (.ref C) (.ref S) = some false := by
  have ne : C ≠ S := fun z => by
    rw [z] at h0 h3
    rw [h0] at h3
    cases h3
  have a : ((PySem.W.clsIn K S).isSome && PySem.W.typeIn K (.ref S) == some (.type "type")) = true := by
    have h1' : (PySem.W.clsIn K S).isSome = true := h1
    rw [h1', h2]; rfl
  unfold PySem.W.kitOne PySem.W.kitCls
  split
  · next h =>
    exfalso
    exact ne (by simpa using h)
  · exact (if_pos a).trans h3
/-- the written class of an own error straight beneath S -/
def IsExcObj (K : PySem.W.Frag) (C S : Addr) : Prop := ∃ nm q N bs bm sn sub ab col dd k0 k1 k2 k3 k5, K.lookup C = some (excClassObj nm q C N bs bm true sn sub ab col dd k0 k1 k2 k3 k5 "ValueError.__new__") ∧ PySem.HandSPX.refsVE bm = true
end Sip
/-! several except clauses, some with a name -/
namespace Sip
open PySem PySem.Spec PyProof.Rows L2 TL
/-- a clause: its class, the slot of its name, its suite -/
abbrev Cl := Value × Option Nat × (Addr → Value → Option Addr → TS)
/-- behind a suite its name is gone -/
def offD (i : Nat) (D : Ends) : Ends where
  nx := fun σ H => D.nx (σ.set i none) H
  rt := D.rt
  bk := fun σ H => D.bk (σ.set i none) H
  ct := fun σ H => D.ct (σ.set i none) H
def suiteW (D : Ends) (ts : Addr → Value → Option Addr → TS) (cls : Value) (d : Option Addr) (σ : L2.St) (H : Hp) (a : Addr) : Option Nat → Prop
  | none => ts a cls d D σ H
  | some i => ts a cls d (offD i D) (σ.set i (some (.ref a))) H
def wMix (K : PySem.W.Frag) (Wo : WX) (D : Ends) : List Cl → WX
  | [] => Wo
  | (c, o, ts) :: r => fun cls d σ H => ∃ b, PySem.W.exmOne K cls c = some b ∧ (b = true → ∀ a, H a = none → suiteW D ts cls d σ H a o) ∧ (b = false → wMix K Wo D r cls d σ H)
/-- the slot of a clause's name -/
def AsOk (X : Cx) : Option Str → Option Nat → Prop
  | none, none => True
  | some n, some i => X.N.Nodup ∧ X.N[i]? = some n ∧ X.env.kindOf n = some .local
  | _, _ => False
abbrev SuiteOk (X : Cx) (su : List Stmt) (ts : Addr → Value → Option Addr → TS) : Prop := ∀ (a : Addr) (oe : Obj) (cls : Value) (d : Option Addr) (pn : List (Addr × Obj)), Zc cls d oe → (∃ vs, oe.data = .fields vs) → PSs (X.suite a ((a, oe) :: pn)) su (ts a cls d)
inductive ClsOk (X : Cx) : List ExceptHandler → List Cl → Prop
  | nil : ClsOk X [] []
  | cons {x : Str} {c : Value} {nm : Option Str} {o : Option Nat} {ts : Addr → Value → Option Addr → TS} {st : Stmt} {su : List Stmt} {q1 q2 : Pos} {hs : List ExceptHandler} {l : List Cl} (hc : Names X x c) (ha : AsOk X nm o) (hsu : SuiteOk X (st :: su) ts) (r : ClsOk X hs l) :
      ClsOk X (.ExceptHandler (some (.Name x q1)) nm (st :: su) q2 :: hs) ((c, o, ts) :: l)
/-- an error that has come to the clauses of a try -/
structure Caught (X : Cx) (pins : List (Addr × Obj)) (a : Addr) (B : Heap) (sI s1 : Shared) (h3 : Heap) (σ : L2.St) (H : Hp) (cls : Value) (d : Option Addr) : Prop where
  ok : X.Ok
  stk : X.stack = X.env :: X.outer
  frm : X.env.frame = some X.env.locals
  inv : Inv X pins σ H sI
  nb : ∀ b o, sI.heap.get? b = some o → b ∉ frs X.stack → B.get? b = some o
  up : sI.heap.UpToSlots h3
  fl : HandSPX.FlyingZ B (X.env :: X.outer) a (Zc cls d) h3
  na : H a = none
  nL : a ≠ X.env.locals
  nF : a ∉ X.fs
  os : s1.os = sI.os
  ag : AllBare s1.gens
section
variable {X : Cx} {pins : List (Addr × Obj)} {a : Addr} {B : Heap} {sI s1 : Shared} {h3 : Heap} {σ : L2.St} {H : Hp} {cls : Value} {d : Option Addr} {D : Ends} {Wo : WX}
theorem Caught.at (C : Caught X pins a B sI s1 h3 σ H cls d) {h4 : Heap} (f : HandSPX.FlyingZ B (X.env :: X.outer) a (Zc cls d) h4) (u : h3.UpToSlots h4) : Inv X pins σ H { s1 with heap := h4 } :=
  C.inv.landed (s' := { s1 with heap := h4 }) (by have := C.nb; exact this) f.1 (C.up.trans u) C.os C.ag
/-- no clause takes it -/
theorem Caught.none (C : Caught X pins a B sI s1 h3 σ H cls d) (tk : Takes X Wo) (w : Wo cls d σ H) : wpAny (model X.prog X.w) X.A (handleBy (.ref a) X.env []) (SP X pins D) X.xe { s1 with heap := h3 } := by
  have C2 := C
  obtain ⟨_, _, _, _, _, T, _, _, he, _, hd, h1, _⟩ := C2.fl
  have go : wpAny (model X.prog X.w) X.A (setFlight (.ref a) X.env.frame) (fun _ s4 => wpAny (model X.prog X.w) X.A (throw (.ref a) : Sem Flow) (SP X pins D) X.xe s4) X.xe { s1 with heap := h3 } := by
    rw [C.frm]
    exact HandSPX.setFlight_upZ C.fl fun h4 held u4 => wpAny_throw (tk _ _ ⟨a, B, sI, pins, σ, H, cls, d, rfl, C.inv, C.nb, C.up.trans u4, .inr (.inr (by rw [C.stk]; exact held)), C.na, C.os, C.ag, w⟩)
  refine wpAny_handleBy_nil ?_
  unfold PySem.passOn
  refine wpAny_bind (wpAny_field he hd h1 ?_)
  have nn : ¬ ((Value.ref T == Value.none) = true) := by simp
  rw [if_neg nn]
  first | exact wpAny_bind (wpAny_pure (wpAny_bind go)) | exact wpAny_bind go
theorem caught_go (C : Caught X pins a B sI s1 h3 σ H cls d) (tk : Takes X Wo) : ∀ {hs : List ExceptHandler} {l : List Cl}, ClsOk X hs l → wMix X.K Wo D l cls d σ H → wpAny (model X.prog X.w) X.A (handleBy (.ref a) X.env hs) (SP X pins D) X.xe { s1 with heap := h3 } := by
  intro hs l hk
  induction hk with
  | nil => exact fun w => C.none tk w
  | @cons x c nm o ts st su q1 q2 hs2 l2 hc ha hsu r ih =>
    rintro ⟨b, hb, yes, no⟩
    have J3 := C.at C.fl (Heap.UpToSlots.refl _)
    obtain ⟨oe, vs, he, hz, hd⟩ := C.fl.there
    have S3 := J3.suite he hd C.na C.nL C.nF
    refine wpAny_handleBy_cons (codeAny_handlers_test ?_) (by intro q; cases q)
    have knows : PySem.W.Looks (model X.prog X.w) h3 (typeOf (.ref a)) cls := fun _ _ _ _ k q => wpAny_typeOf_ref (k _ _ he) (by rw [hz.1]; exact q)
    have look := PySem.W.exm_one (M := model X.prog X.w) J3.kIn knows hb
    have named : ∀ {Q E : Value → Shared → Prop}, Q c { s1 with heap := h3 } → wpAny (model X.prog X.w) (X.A.mark (some (.ref a))) (eval (.Name x q1) X.env) Q E { s1 with heap := h3 } := fun q => by
      rcases hc with ⟨g1, g2, m1 | ⟨m1, m2, m3⟩⟩
      · exact ld_glob (X := X.suite a ((a, oe) :: (X.pn ++ pins))) S3 g1 m1 q g2
      · exact ld_blt (X := X.suite a ((a, oe) :: (X.pn ++ pins))) S3 g1 m1 m2 q m3 g2
    refine named (look.here ?_)
    cases b with
    | false => exact ih (no rfl)
    | true =>
      cases nm with
      | none =>
        cases o with
        | some i => exact ha.elim
        | none =>
          refine codeAny_handlers_suite (HandSPX.lands_againZ C.fl fun h4 f4 u4 => ?_)
          obtain ⟨oe4, _, e4, z4, d4⟩ := f4.there
          have S4 := (C.at f4 u4).suite e4 d4 C.na C.nL C.nF
          refine wpAny_mono ((hsu a oe4 cls d (X.pn ++ pins) z4 ⟨_, d4⟩).run [] _ _ H _ S4 (yes rfl a C.na)) (fun f s6 hp => ?_) fun _ _ z => z.elim
          match f, hp with
          | .next, ⟨_, _, S6, q6⟩ => exact ⟨_, _, S6.unsuite C.ok, q6⟩
          | .brk, ⟨_, _, S6, q6⟩ => exact ⟨_, _, S6.unsuite C.ok, q6⟩
          | .cont, ⟨_, _, S6, q6⟩ => exact ⟨_, _, S6.unsuite C.ok, q6⟩
          | .ret _, ⟨_, _, _, S6, r6, q6⟩ => exact ⟨_, _, _, S6.unsuite C.ok, r6, q6⟩
      | some n =>
        cases o with
        | none => exact ha.elim
        | some i =>
          obtain ⟨hN, hi, hl⟩ := ha
          refine codeAny_handlers_suite_as (HandSPX.lands_againZ C.fl fun h4 f4 u4 => ?_)
          obtain ⟨oe4, _, e4, z4, d4⟩ := f4.there
          have S4 := (C.at f4 u4).suite e4 d4 C.na C.nL C.nF
          refine store_ok (X := X.suite a ((a, oe4) :: (X.pn ++ pins))) (v := .ref a) S4 hN hi (.inl hl) rfl (fun s5 S5 => ?_) (.inr hl)
          refine wpAny_mono ((hsu a oe4 cls d (X.pn ++ pins) z4 ⟨_, d4⟩).run [] s5 _ H _ S5 (yes rfl a C.na)) (fun f s6 hp => ?_) fun _ _ z => z.elim
          have off : ∀ {σ6 : L2.St} {H6 : Hp} {Q : Shared → Prop}, Inv (X.suite a ((a, oe4) :: (X.pn ++ pins))) [] σ6 H6 s6 → (∀ s7, Inv X pins (σ6.set i none) H6 s7 → Q s7) → wpAny (model X.prog X.w) X.A (do bindName X.env n .none; unbindBehindTheSuite X.env n q2) (fun _ s7 => Q s7) X.xe s6 :=
            fun S6 hq => gone_ok (S6.unsuite C.ok) hN hi hl hq
          match f, hp with
          | .next, ⟨_, _, S6, q6⟩ => exact off S6 fun _ J7 => ⟨_, _, J7, q6⟩
          | .brk, ⟨_, _, S6, q6⟩ => exact off S6 fun _ J7 => ⟨_, _, J7, q6⟩
          | .cont, ⟨_, _, S6, q6⟩ => exact off S6 fun _ J7 => ⟨_, _, J7, q6⟩
          | .ret _, ⟨_, _, _, S6, r6, q6⟩ => exact off S6 fun _ J7 => ⟨_, _, _, J7, r6, q6⟩
/-- try: .. except X: .. except Y as n: .. -/
theorem ps_try_mix {body : List Stmt} {h0 : ExceptHandler} {hs : List ExceptHandler} {l : List Cl} {pos : Pos} {tb : WX → TS} (stk : X.stack = X.env :: X.outer) (frm : X.env.frame = some X.env.locals) (tk : Takes X Wo)
    (hb : ∀ (W : WX) (pn : List (Addr × Obj)) (xe : Value → Shared → Prop), Takes (X.tr pn xe) W → PassesOwn (model X.prog X.w) X.A X.env xe → PSs (X.tr pn xe) body (tb W)) (hh : ClsOk X (h0 :: hs) l) :
    PS X (.Try body (h0 :: hs) [] [] pos) (fun D σ H => tb (wMix X.K Wo D l) D σ H) := by
  refine ⟨fun pins s σ H D I h => wpAny_Try_except ?_⟩
  have ok := I.ok
  have fr : X.A.frames = some (X.env :: X.outer) := by rw [ok.frames, stk]
  have run := (hb (wMix X.K Wo D l) (X.pn ++ pins) (fun e t1 => wpAny (model X.prog X.w) X.A (noteFrame e X.env) (fun _ t2 => wpAny (model X.prog X.w) X.A (setFlight e none) (fun _ t3 => wpAny (model X.prog X.w) X.A (handleBy e X.env (h0 :: hs)) (SP X pins D) X.xe t3) X.xe t2) X.xe t1) ?_ PassesOwn.looking).run [] s σ H D (I.toTry _) h
  · refine wpAny_mono run (fun f s1 hp => ?_) fun _ _ he => he
    match f, hp with
    | .next, ⟨_, _, J, q⟩ => exact wpAny_execs_nil ⟨_, _, J.ofTry ok, q⟩
    | .brk, ⟨_, _, J, q⟩ => exact ⟨_, _, J.ofTry ok, q⟩
    | .cont, ⟨_, _, J, q⟩ => exact ⟨_, _, J.ofTry ok, q⟩
    | .ret _, ⟨_, _, _, J, r, q⟩ => exact ⟨_, _, _, J.ofTry ok, r, q⟩
  · rintro u s1 ⟨a, B, sI, pins2, σ2, H2, cls, d, rfl, J2, nb, up, sky, na, os, ag, w⟩
    have sky2 : Sky B (X.env :: X.outer) a (Zc cls d) X.env.locals s1.heap := by rw [← stk]; exact sky
    refine Sky.land Zc.steady fr frm sky2 fun h3 f3 u3 => ?_
    obtain ⟨oe, vs, he, _, hd⟩ := f3.there
    have far : a ∉ frs (X.env :: X.outer) := fun m => by
      obtain ⟨_, o2, e2, nf⟩ := f3.2.2.1.mem m
      rw [he] at e2; cases e2
      exact nf _ hd
    have nL : a ≠ X.env.locals := fun z => far (List.mem_filterMap.mpr ⟨X.env, List.mem_cons_self, by rw [frm, z]⟩)
    have nF : a ∉ X.fs := fun m => by
      obtain ⟨e, h1, h2⟩ := List.mem_filterMap.mp m
      exact far (List.mem_filterMap.mpr ⟨e, List.mem_cons_of_mem _ h1, h2⟩)
    exact caught_go ⟨ok, stk, frm, J2.ofTry ok, nb, up.trans u3, f3, na, nL, nF, os, ag⟩ tk hh w
end
/-- a promise that raises nothing, where one that may raise is asked; two promises of one def -/
theorem FnOk.lift {P : Program} {w : World} {K : PySem.W.Frag} {mg : Str → Option Value} {base : Heap} {CX : CXT} {k : Nat} {f : Addr} {fd : FuncData} {ps : List Str} {sp : Sp} (F : FnOk P w K mg base CX0 k f fd ps sp) : FnOk P w K mg base CX k f fd ps sp :=
  ⟨F.len, fun A outer s H args us vs Q E hr he hb hv h => codeAny_mono (F.run A outer s H args us vs Q E hr he hb hv h) fun r s2 q => match r, q with
    | .ok (.ret _), q => q⟩
theorem FnOk.or {P : Program} {w : World} {K : PySem.W.Frag} {mg : Str → Option Value} {base : Heap} {CX : CXT} {k : Nat} {f : Addr} {fd : FuncData} {ps : List Str} {sp sq : Sp} (F : FnOk P w K mg base CX k f fd ps sp) (G : FnOk P w K mg base CX k f fd ps sq) :
    FnOk P w K mg base CX k f fd ps (fun vs H Q E => sp vs H Q E ∨ sq vs H Q E) :=
  ⟨fun vs H Q E h => h.elim (F.len vs H Q E) (G.len vs H Q E), fun A outer s H args us vs Q E hr he hb hv h => h.elim (F.run A outer s H args us vs Q E hr he hb hv) (G.run A outer s H args us vs Q E hr he hb hv)⟩
end Sip
/-! classes that stand upon another one: a base's def called by its name; a try whose body raises nothing -/
namespace Sip
open PySem PySem.Spec PyProof.Rows L2 TL
/-- C.m(e, ..) where C is a class and m a def of it -/
def tCfn (C : Addr) (sp : Sp) (dvs : List V) (E : XK) (ta : TE) (t : TA) : TE := fun σ H Q => ta σ H fun x H1 => x = .ref C ∧ t σ H1 fun vs H2 => sp (vs ++ dvs) H2 Q E
section
variable {X : Cx} {CX : CXT} {k n : Nat} {f C : Addr} {mc : Value} {fd : FuncData} {ps ks : List Str} {sp : Sp} {E : XK} {m : Str} {apos pos : Pos} {o e : Expr} {es : List Expr} {ta : TE} {t : TA} {dvs : List V} {ds : List Value}
theorem pe_cfn {pl : Sem Bool} (he : PE X o ta) (r : ClX.CRead X.K C mc) (at_ : PySem.W.findCls X.K (.ref C) mc m = some (.val (.ref f))) (hk : PySem.W.keepIn X.K (.ref f) = true) (F : FnOk X.prog X.w X.K X.mg X.base CX k f fd ps sp) (hr : Room k X.A) (hb : Binds X.K fd ps ds) (hd : Vals dvs ds) (hx : Passes CX X E) (ha : PA X (e :: es) t)
    (hst : starEach (e :: es) X.env = (false, eval e X.env) :: starEach es X.env := by rfl) (hpl : ((backTo pos (starEach es X.env)).any (·.1)) = false := by rfl)
    (ht : eval (.Call (.Attribute o m apos) (e :: es) [] pos) X.env = (do
      let ov ← eval o X.env
      standAt apos.atName
      let (f, first) ← holding [ov] (getMethod ov m pl)
      callWith pos f first (backTo pos (starEach (e :: es) X.env)) (backToKw pos (keywordEach [] X.env))) := by rfl) :
    PE X (.Call (.Attribute o m apos) (e :: es) [] pos) (tCfn C sp dvs E ta t) := by
  refine ⟨fun pins s σ H Q I h => ?_⟩
  refine PySem.W.methodCall_KW (pl := pl) (thn (he.run pins s σ H _ I h) fun u s1 ⟨x, H1, I1, rx, ex, q⟩ => ?_) ht
  subst ex
  obtain rfl : u = Value.ref C := rx
  refine PySem.W.method_cls I1.kIn r.ga (PySem.W.cls_value I1.kIn r.rd at_ rfl ?_)
  refine PySem.W.callWith_K (h₀ := X.base) I.ok.mod.kin hk (thn (ha.run pos pins _ σ H1 _ (I1.tok _) q) fun us s2 ⟨vs, H2, I2, rv, q2⟩ => ⟨I2.kIn, ?_⟩) hst hpl
  exact run_fn F hr hb hd hx I2 rv q2
end
section
variable {X : Cx}
/-- try: .. except C: .. where nothing is raised -/
theorem ps_try_calm {body : List Stmt} {h0 : ExceptHandler} {hs : List ExceptHandler} {pos : Pos} {tb : TS}
    (hb : ∀ (pn : List (Addr × Obj)) (xe : Value → Shared → Prop), PassesOwn (model X.prog X.w) X.A X.env xe → PSs (X.tr pn xe) body tb) :
    PS X (.Try body (h0 :: hs) [] [] pos) tb := by
  refine ⟨fun pins s σ H D I h => wpAny_Try_except ?_⟩
  have ok := I.ok
  have run := (hb (X.pn ++ pins) (fun e t1 => wpAny (model X.prog X.w) X.A (noteFrame e X.env) (fun _ t2 => wpAny (model X.prog X.w) X.A (setFlight e none) (fun _ t3 => wpAny (model X.prog X.w) X.A (handleBy e X.env (h0 :: hs)) (SP X pins D) X.xe t3) X.xe t2) X.xe t1) PassesOwn.looking).run [] s σ H D (I.toTry _) h
  refine wpAny_mono run (fun f s1 hp => ?_) fun _ _ he => he
  match f, hp with
  | .next, ⟨_, _, J, q⟩ => exact wpAny_execs_nil ⟨_, _, J.ofTry ok, q⟩
  | .brk, ⟨_, _, J, q⟩ => exact ⟨_, _, J.ofTry ok, q⟩
  | .cont, ⟨_, _, J, q⟩ => exact ⟨_, _, J.ofTry ok, q⟩
  | .ret _, ⟨_, _, _, J, r, q⟩ => exact ⟨_, _, _, J.ofTry ok, r, q⟩
end
end Sip
namespace Sip
open PySem PySem.Spec PyProof.Rows L2 TL
/-- o.m() where o is of one of two classes -/
def tMethOr (C1 C2 : Addr) (m : Str) (sp1 sp2 : Sp) (d1 d2 : List V) (E : XK) (ta : TE) : TE := fun σ H Q => ta σ H fun x H1 =>
  (∃ a dx fs, x = .ref a ∧ H1 a = some (.ins C1 dx fs) ∧ fs.lookup m = none ∧ sp1 (x :: d1) H1 Q E) ∨ ∃ a dx fs, x = .ref a ∧ H1 a = some (.ins C2 dx fs) ∧ fs.lookup m = none ∧ sp2 (x :: d2) H1 Q E
section
variable {X : Cx} {CX : CXT} {k1 k2 : Nat} {f1 f2 C1 C2 : Addr} {fd1 fd2 : FuncData} {ps1 ps2 : List Str} {sp1 sp2 : Sp} {E : XK} {m : Str} {apos pos : Pos} {o : Expr} {ta : TE} {dv1 dv2 : List V} {ds1 ds2 : List Value}
theorem pe_meth0or {pl : Sem Bool} (he : PE X o ta) (c1 : Cls X.K C1) (m1 : Meth X.K C1 m f1) (F1 : FnOk X.prog X.w X.K X.mg X.base CX k1 f1 fd1 ps1 sp1) (r1 : Room k1 X.A) (b1 : Binds X.K fd1 ps1 ds1) (h1 : Vals dv1 ds1)
    (c2 : Cls X.K C2) (m2 : Meth X.K C2 m f2) (F2 : FnOk X.prog X.w X.K X.mg X.base CX k2 f2 fd2 ps2 sp2) (r2 : Room k2 X.A) (b2 : Binds X.K fd2 ps2 ds2) (h2 : Vals dv2 ds2) (hx : Passes CX X E)
    (ht : eval (.Call (.Attribute o m apos) [] [] pos) X.env = (do
      let ov ← eval o X.env
      standAt apos.atName
      let (f, first) ← holding [ov] (getMethod ov m pl)
      callWith pos f first (backTo pos (starEach [] X.env)) (backToKw pos (keywordEach [] X.env))) := by rfl) :
    PE X (.Call (.Attribute o m apos) [] [] pos) (tMethOr C1 C2 m sp1 sp2 dv1 dv2 E ta) := by
  refine ⟨fun pins s σ H Q I h => ?_⟩
  refine PySem.W.methodCall_KW (pl := pl) (thn (he.run pins s σ H _ I h) fun u s1 ⟨x, H1, I1, rx, q⟩ => ?_) ht
  rcases q with ⟨a, dx, fs, ex, ea, l, q⟩ | ⟨a, dx, fs, ex, ea, l, q⟩
  · subst ex
    obtain rfl : u = Value.ref a := rx
    refine getmeth_ok I1 ea c1 m1 l ?_
    refine PySem.W.callWith_K0 (first := [.ref a]) I1.kIn m1.kp ?_
    exact run_fn (us := [.ref a]) (vs := [.ref a]) F1 r1 b1 h1 hx I1 (.cons rfl .nil) q
  · subst ex
    obtain rfl : u = Value.ref a := rx
    refine getmeth_ok I1 ea c2 m2 l ?_
    refine PySem.W.callWith_K0 (first := [.ref a]) I1.kIn m2.kp ?_
    exact run_fn (us := [.ref a]) (vs := [.ref a]) F2 r2 b2 h2 hx I1 (.cons rfl .nil) q
end
end Sip
/-! the notes of a raw; a pipe with its two ends -/
namespace Sip
open PySem PySem.Spec PyProof.Rows L2 TL
/-- a thing that a note holds -/
inductive Tg
  | i (n : Int) | s (w : Str) | l (xs : List Int)
structure Nt where
  w : Str
  p : Nat
  h : Tg
  c : Tg
def tgOk : Tg → Prop
  | .s w => PyData.strOk w = true
  | _ => True
def NtOk (n : Nt) : Prop := PyData.strOk n.w = true ∧ tgOk n.h ∧ tgOk n.c
def TgAt (H : Hp) (G : Addr → Prop) (v : V) : Tg → Prop
  | .i n => v = .int n
  | .s w => v = .str w
  | .l xs => ∃ a, v = .ref a ∧ G a ∧ H a = some (.lst (xs.map V.int))
def NtAt (H : Hp) (G : Addr → Prop) (v : V) (n : Nt) : Prop := ∃ t hv cv, v = .ref t ∧ G t ∧ H t = some (.tup [.str n.w, .int n.p, hv, cv]) ∧ TgAt H G hv n.h ∧ TgAt H G cv n.c ∧ NtOk n
def Nts (H : Hp) (G : Addr → Prop) : List V → List Nt → Prop
  | [], [] => True
  | v :: vs, n :: ns => NtAt H G v n ∧ Nts H G vs ns
  | _, _ => False
theorem TgAt.keep {H H' : Hp} {G G' : Addr → Prop} {v : V} {t : Tg} (h : TgAt H G v t) (k : ∀ b o, G b → H b = some o → H' b = some o) (g : ∀ b, G b → G' b) : TgAt H' G' v t := by
  cases t with
  | i n => exact h
  | s w => exact h
  | l xs => obtain ⟨a, e, ga, ha⟩ := h; exact ⟨a, e, g a ga, k a _ ga ha⟩
theorem NtAt.keep {H H' : Hp} {G G' : Addr → Prop} {v : V} {n : Nt} (h : NtAt H G v n) (k : ∀ b o, G b → H b = some o → H' b = some o) (g : ∀ b, G b → G' b) : NtAt H' G' v n := by
  obtain ⟨t, hv, cv, e, gt, ht, a, b, c⟩ := h
  exact ⟨t, hv, cv, e, g t gt, k t _ gt ht, a.keep k g, b.keep k g, c⟩
theorem Nts.keep {H H' : Hp} {G G' : Addr → Prop} (k : ∀ b o, G b → H b = some o → H' b = some o) (g : ∀ b, G b → G' b) : ∀ {vs : List V} {ns : List Nt}, Nts H G vs ns → Nts H' G' vs ns
  | [], [], _ => trivial
  | v :: vs, n :: ns, ⟨a, b⟩ => ⟨a.keep k g, Nts.keep k g b⟩
theorem Nts.snoc {H : Hp} {G : Addr → Prop} {v : V} {n : Nt} (h : NtAt H G v n) : ∀ {vs : List V} {ns : List Nt}, Nts H G vs ns → Nts H G (vs ++ [v]) (ns ++ [n])
  | [], [], _ => ⟨h, trivial⟩
  | v :: vs, n :: ns, ⟨a, b⟩ => ⟨a, Nts.snoc h b⟩
theorem Nts.len {H : Hp} {G : Addr → Prop} : ∀ {vs : List V} {ns : List Nt}, Nts H G vs ns → vs.length = ns.length
  | [], [], _ => rfl
  | v :: vs, n :: ns, ⟨a, b⟩ => congrArg (· + 1) (Nts.len b)
theorem Nts.at {H : Hp} {G : Addr → Prop} : ∀ {vs : List V} {ns : List Nt} {i : Nat} {v : V}, Nts H G vs ns → vs[i]? = some v → ∃ n, ns[i]? = some n ∧ NtAt H G v n
  | v :: vs, n :: ns, 0, x, ⟨a, b⟩, e => by cases e; exact ⟨n, rfl, a⟩
  | v :: vs, n :: ns, i + 1, x, ⟨a, b⟩, e => by
    obtain ⟨m, h1, h2⟩ := Nts.at b (i := i) (v := x) (by simpa using e)
    exact ⟨m, by simpa using h1, h2⟩
def tgD : Tg → PyData
  | .i n => .int n
  | .s w => .str w
  | .l xs => .list (xs.map .int)
def ntD (n : Nt) : PyData := .tuple [.str n.w, .int n.p, tgD n.h, tgD n.c]
def ntsD (ns : List Nt) : PyData := .list (ns.map ntD)
theorem TgAt.dp {K : PySem.W.Frag} {H : Hp} {G : Addr → Prop} {v : V} {t : Tg} (h : TgAt H G v t) : Dp K H v (tgD t) := by
  cases t with
  | i n => cases (show v = _ from h); exact .int _
  | s w => cases (show v = _ from h); exact .str _
  | l xs => obtain ⟨a, e, ga, ha⟩ := h; subst e; exact dp_lst (sq_at ha)
theorem NtAt.dp {K : PySem.W.Frag} {H : Hp} {G : Addr → Prop} {v : V} {n : Nt} (h : NtAt H G v n) : Dp K H v (ntD n) := by
  obtain ⟨t, hv, cv, e, gt, ht, a, b, c⟩ := h
  subst e
  exact .tup (.inl (.inl ht)) (.cons (.str _) (.cons (.int _) (.cons a.dp (.cons b.dp .nil))))
theorem Nts.dpA {K : PySem.W.Frag} {H : Hp} {G : Addr → Prop} : ∀ {vs : List V} {ns : List Nt}, Nts H G vs ns → DpAll K H vs (ns.map ntD)
  | [], [], _ => .nil
  | v :: vs, n :: ns, ⟨a, b⟩ => .cons a.dp b.dpA
theorem Nts.dp {K : PySem.W.Frag} {H : Hp} {G : Addr → Prop} {vs : List V} {ns : List Nt} {q : Addr} (h : Nts H G vs ns) (e : H q = some (.lst vs)) : Dp K H (.ref q) (ntsD ns) := .lst (sq_at e) h.dpA
theorem tg_lay {t : Tg} (h : tgOk t) : (tgD t).canLay0 = true := by
  cases t with
  | i n => rfl
  | s w => exact h
  | l xs =>
    show PyData.canLayAll0 (xs.map PyData.int) = true
    exact lay_ints xs
theorem ints_depth : ∀ xs : List Int, PyData.depthAll (xs.map PyData.int) = 0
  | [] => rfl
  | x :: xs => by
    show max (PyData.depth (.int x)) (PyData.depthAll (xs.map PyData.int)) = 0
    rw [ints_depth xs]; rfl
theorem tg_depth (t : Tg) : (tgD t).depth ≤ 1 := by
  cases t with
  | i n => exact Nat.zero_le _
  | s w => exact Nat.zero_le _
  | l xs =>
    show PyData.depthAll (xs.map PyData.int) + 1 ≤ 1
    rw [ints_depth]; exact Nat.le_refl _
theorem nt_lay {n : Nt} (h : NtOk n) : (ntD n).canLay0 = true := by
  obtain ⟨a, b, c⟩ := h
  show PyData.canLayAll0 [.str n.w, .int n.p, tgD n.h, tgD n.c] = true
  simp [PyData.canLayAll0, PyData.canLay0, a, tg_lay b, tg_lay c]
theorem nt_depth (n : Nt) : (ntD n).depth ≤ 2 := by
  show PyData.depthAll [.str n.w, .int n.p, tgD n.h, tgD n.c] + 1 ≤ 2
  have h := tg_depth n.h
  have c := tg_depth n.c
  simp [PyData.depthAll, PyData.depth]
  omega
theorem nts_lay : ∀ {ns : List Nt}, (∀ n ∈ ns, NtOk n) → PyData.canLayAll0 (ns.map ntD) = true ∧ PyData.depthAll (ns.map ntD) ≤ 2
  | [], _ => ⟨rfl, Nat.zero_le _⟩
  | n :: ns, h => by
    obtain ⟨a, b⟩ := nts_lay (ns := ns) (fun m hm => h m (List.mem_cons_of_mem _ hm))
    refine ⟨?_, ?_⟩
    · show ((ntD n).canLay0 && PyData.canLayAll0 (ns.map ntD)) = true
      rw [nt_lay (h n List.mem_cons_self), a]; rfl
    · show max (ntD n).depth (PyData.depthAll (ns.map ntD)) ≤ 2
      have := nt_depth n
      omega
theorem Nts.ok {H : Hp} {G : Addr → Prop} : ∀ {vs : List V} {ns : List Nt}, Nts H G vs ns → ∀ n ∈ ns, NtOk n
  | [], [], _, n, h => nomatch h
  | v :: vs, m :: ns, ⟨a, b⟩, n, h => by
    rcases List.mem_cons.mp h with e | e
    · subst e; obtain ⟨_, _, _, _, _, _, _, _, c⟩ := a; exact c
    · exact Nts.ok b n e
theorem two_nts {a b : List Nt} (ha : ∀ n ∈ a, NtOk n) (hb : ∀ n ∈ b, NtOk n) : SeqAt.shaped (.list [ntsD a, ntsD b]) = true := by
  obtain ⟨a1, a2⟩ := nts_lay ha
  obtain ⟨b1, b2⟩ := nts_lay hb
  unfold SeqAt.shaped
  have e1 : (ntsD a).canLay0 = true := a1
  have e2 : (ntsD b).canLay0 = true := b1
  have d1 : (ntsD a).depth ≤ 3 := Nat.succ_le_succ a2
  have d2 : (ntsD b).depth ≤ 3 := Nat.succ_le_succ b2
  simp [PyData.canLay0, PyData.canLayAll0, PyData.depth, PyData.depthAll, e1, e2]
  omega
/-! ### the pipe -/
structure Pst where
  R : Nat
  ws : List Int
  si : Nat
  so : Nat
  bi : Bool
  bo : Bool
  ni : List Nt
  no : List Nt
structure Pad where
  p : Addr
  w : Addr
  ei : Addr
  eo : Addr
  li : Addr
  lo : Addr
def pifs (w ei eo : Addr) (R : Nat) : Fs := [("room", .int R), ("within", .ref w), ("into_end", .ref ei), ("out_end", .ref eo)]
def efs (s : Nat) (b : Bool) (l p : Addr) : Fs := [("can_seek", .bl false), ("spot", .int s), ("barred", .bl b), ("notes", .ref l), ("pipe", .ref p)]
structure PipeIn (CP CI CO : Addr) (H : Hp) (A : Pad) (S : Pst) (dp di dq : Addr) (vi vo : List V) (G : Addr → Prop) : Prop where
  hp : H A.p = some (.ins CP dp (pifs A.w A.ei A.eo S.R))
  hw : H A.w = some (.lst (S.ws.map V.int))
  hi : H A.ei = some (.ins CI di (efs S.si S.bi A.li A.p))
  ho : H A.eo = some (.ins CO dq (efs S.so S.bo A.lo A.p))
  hli : H A.li = some (.lst vi)
  hlo : H A.lo = some (.lst vo)
  ni : Nts H G vi S.ni
  no : Nts H G vo S.no
  al : ∀ b, G b → ∃ o, H b = some o
  ag : ∀ b, G b → b ≠ A.p ∧ b ≠ A.w ∧ b ≠ A.ei ∧ b ≠ A.eo ∧ b ≠ A.li ∧ b ≠ A.lo
  d1 : A.p ≠ A.ei
  d2 : A.p ≠ A.eo
  d3 : A.ei ≠ A.eo
  d4 : A.w ≠ A.li
  d5 : A.w ≠ A.lo
  d6 : A.li ≠ A.lo
def Own6 (A : Pad) (b : Addr) : Prop := b = A.p ∨ b = A.w ∨ b = A.ei ∨ b = A.eo ∨ b = A.li ∨ b = A.lo
def PipeAt (CP CI CO : Addr) (H : Hp) (A : Pad) (F : Addr → Prop) (S : Pst) : Prop := ∃ dp di dq vi vo G, PipeIn CP CI CO H A S dp di dq vi vo G ∧ ∀ b, F b ↔ Own6 A b ∨ G b
section
variable {CP CI CO : Addr} {H H' : Hp} {A : Pad} {S : Pst} {dp di dq : Addr} {vi vo : List V} {G F : Addr → Prop}
theorem lst_ins {C d : Addr} {a b : Addr} {xs : List V} {fs : List (Str × V)} (h1 : H a = some (.lst xs)) (h2 : H b = some (.ins C d fs)) : a ≠ b := ne_of h1 h2 (by intro z; cases z)
theorem PipeIn.nes (h : PipeIn CP CI CO H A S dp di dq vi vo G) : A.w ≠ A.p ∧ A.w ≠ A.ei ∧ A.w ≠ A.eo ∧ A.li ≠ A.p ∧ A.li ≠ A.ei ∧ A.li ≠ A.eo ∧ A.lo ≠ A.p ∧ A.lo ≠ A.ei ∧ A.lo ≠ A.eo :=
  ⟨lst_ins h.hw h.hp, lst_ins h.hw h.hi, lst_ins h.hw h.ho, lst_ins h.hli h.hp, lst_ins h.hli h.hi, lst_ins h.hli h.ho, lst_ins h.hlo h.hp, lst_ins h.hlo h.hi, lst_ins h.hlo h.ho⟩
theorem PipeAt.loc (h : PipeAt CP CI CO H A F S) (k : ∀ b o, F b → H b = some o → H' b = some o) : PipeAt CP CI CO H' A F S := by
  obtain ⟨dp, di, dq, vi, vo, G, I, hF⟩ := h
  have o6 : ∀ {b o}, Own6 A b → H b = some o → H' b = some o := fun {b o} z e => k b o ((hF b).mpr (.inl z)) e
  have kg : ∀ b o, G b → H b = some o → H' b = some o := fun b o z e => k b o ((hF b).mpr (.inr z)) e
  exact ⟨dp, di, dq, vi, vo, G, ⟨o6 (.inl rfl) I.hp, o6 (.inr (.inl rfl)) I.hw, o6 (.inr (.inr (.inl rfl))) I.hi, o6 (.inr (.inr (.inr (.inl rfl)))) I.ho, o6 (.inr (.inr (.inr (.inr (.inl rfl))))) I.hli, o6 (.inr (.inr (.inr (.inr (.inr rfl))))) I.hlo,
    I.ni.keep kg (fun _ z => z), I.no.keep kg (fun _ z => z), fun b z => (I.al b z).elim fun o e => ⟨o, kg b o z e⟩, I.ag, I.d1, I.d2, I.d3, I.d4, I.d5, I.d6⟩, hF⟩
theorem PipeAt.same (h : PipeAt CP CI CO H A F S) (s : Same H H') : PipeAt CP CI CO H' A F S := h.loc fun b o _ e => s b o e
theorem PipeAt.kp {qs : List Addr} (h : PipeAt CP CI CO H A F S) (k : Kp qs H H') (n : ∀ q ∈ qs, ¬ F q) : PipeAt CP CI CO H' A F S := h.loc fun b o f e => k b o (fun z => n b z f) e
theorem PipeAt.own (h : PipeAt CP CI CO H A F S) : ∀ b, F b → ∃ o, H b = some o := by
  obtain ⟨dp, di, dq, vi, vo, G, I, hF⟩ := h
  intro b z
  rcases (hF b).mp z with (rfl | rfl | rfl | rfl | rfl | rfl) | z
  · exact ⟨_, I.hp⟩
  · exact ⟨_, I.hw⟩
  · exact ⟨_, I.hi⟩
  · exact ⟨_, I.ho⟩
  · exact ⟨_, I.hli⟩
  · exact ⟨_, I.hlo⟩
  · exact I.al b z
theorem PipeAt.new {q : Addr} (h : PipeAt CP CI CO H A F S) (n : H q = none) : ¬ F q := fun f => by
  obtain ⟨o, e⟩ := h.own q f
  rw [n] at e; cases e
/-- what lies within is put anew -/
theorem PipeIn.setw (I : PipeIn CP CI CO H A S dp di dq vi vo G) (xs : List Int) : PipeIn CP CI CO (upd H A.w (.lst (xs.map V.int))) A { S with ws := xs } dp di dq vi vo G := by
  obtain ⟨n1, n2, n3, n4, n5, n6, n7, n8, n9⟩ := I.nes
  have kg : ∀ b o, G b → H b = some o → (upd H A.w (.lst (xs.map V.int))) b = some o := fun b o z e => by rw [upd_ne (I.ag b z).2.1]; exact e
  exact ⟨by rw [upd_ne n1.symm]; exact I.hp, upd_same, by rw [upd_ne n2.symm]; exact I.hi, by rw [upd_ne n3.symm]; exact I.ho, by rw [upd_ne I.d4.symm]; exact I.hli, by rw [upd_ne I.d5.symm]; exact I.hlo,
    I.ni.keep kg (fun _ z => z), I.no.keep kg (fun _ z => z), fun b z => (I.al b z).elim fun o e => ⟨o, kg b o z e⟩, I.ag, I.d1, I.d2, I.d3, I.d4, I.d5, I.d6⟩
theorem PipeIn.seti (I : PipeIn CP CI CO H A S dp di dq vi vo G) (s : Nat) (b : Bool) : PipeIn CP CI CO (upd H A.ei (.ins CI di (efs s b A.li A.p))) A { S with si := s, bi := b } dp di dq vi vo G := by
  obtain ⟨n1, n2, n3, n4, n5, n6, n7, n8, n9⟩ := I.nes
  have kg : ∀ x o, G x → H x = some o → (upd H A.ei (.ins CI di (efs s b A.li A.p))) x = some o := fun x o z e => by rw [upd_ne (I.ag x z).2.2.1]; exact e
  exact ⟨by rw [upd_ne I.d1]; exact I.hp, by rw [upd_ne n2]; exact I.hw, upd_same, by rw [upd_ne I.d3.symm]; exact I.ho, by rw [upd_ne n5]; exact I.hli, by rw [upd_ne n8]; exact I.hlo,
    I.ni.keep kg (fun _ z => z), I.no.keep kg (fun _ z => z), fun b z => (I.al b z).elim fun o e => ⟨o, kg b o z e⟩, I.ag, I.d1, I.d2, I.d3, I.d4, I.d5, I.d6⟩
theorem PipeIn.seto (I : PipeIn CP CI CO H A S dp di dq vi vo G) (s : Nat) (b : Bool) : PipeIn CP CI CO (upd H A.eo (.ins CO dq (efs s b A.lo A.p))) A { S with so := s, bo := b } dp di dq vi vo G := by
  obtain ⟨n1, n2, n3, n4, n5, n6, n7, n8, n9⟩ := I.nes
  have kg : ∀ x o, G x → H x = some o → (upd H A.eo (.ins CO dq (efs s b A.lo A.p))) x = some o := fun x o z e => by rw [upd_ne (I.ag x z).2.2.2.1]; exact e
  exact ⟨by rw [upd_ne I.d2]; exact I.hp, by rw [upd_ne n3]; exact I.hw, by rw [upd_ne I.d3]; exact I.hi, upd_same, by rw [upd_ne n6]; exact I.hli, by rw [upd_ne n9]; exact I.hlo,
    I.ni.keep kg (fun _ z => z), I.no.keep kg (fun _ z => z), fun b z => (I.al b z).elim fun o e => ⟨o, kg b o z e⟩, I.ag, I.d1, I.d2, I.d3, I.d4, I.d5, I.d6⟩
/-- a note more: its tuple new, its lists G0 handed over -/
theorem PipeIn.notei (I : PipeIn CP CI CO H A S dp di dq vi vo G) {t : Addr} {n : Nt} {hv cv : V} {G0 : Addr → Prop} (nt : H t = none) (h0 : TgAt H G0 hv n.h) (c0 : TgAt H G0 cv n.c) (ok : NtOk n) (ep : n.p = S.si) (a0 : ∀ b, G0 b → ∃ o, H b = some o) (n0 : ∀ b, G0 b → ¬ Own6 A b) :
    PipeIn CP CI CO (upd (upd H t (.tup [.str n.w, .int S.si, hv, cv])) A.li (.lst (vi ++ [.ref t]))) A { S with ni := S.ni ++ [n] } dp di dq (vi ++ [.ref t]) vo (fun b => G b ∨ b = t ∨ G0 b) := by
  obtain ⟨n1, n2, n3, n4, n5, n6, n7, n8, n9⟩ := I.nes
  have ne : ∀ {b o}, H b = some o → b ≠ t := fun {b o} e => ne_of_none e nt
  have kp : ∀ b o, b ≠ A.li → H b = some o → (upd (upd H t (.tup [.str n.w, .int S.si, hv, cv])) A.li (.lst (vi ++ [.ref t]))) b = some o := fun b o z e => by rw [upd_ne z, upd_ne (ne e)]; exact e
  have kg : ∀ b o, G b → H b = some o → (upd (upd H t (.tup [.str n.w, .int S.si, hv, cv])) A.li (.lst (vi ++ [.ref t]))) b = some o := fun b o z e => kp b o (I.ag b z).2.2.2.2.1 e
  have k0 : ∀ b o, G0 b → H b = some o → (upd (upd H t (.tup [.str n.w, .int S.si, hv, cv])) A.li (.lst (vi ++ [.ref t]))) b = some o := fun b o z e => kp b o (fun y => n0 b z (.inr (.inr (.inr (.inr (.inl y)))))) e
  have tl : t ≠ A.li := (ne I.hli).symm
  refine ⟨kp _ _ n4.symm I.hp, kp _ _ I.d4 I.hw, kp _ _ n5.symm I.hi, kp _ _ n6.symm I.ho, upd_same, kp _ _ I.d6.symm I.hlo, Nts.snoc ⟨t, hv, cv, rfl, .inr (.inl rfl), ?_, h0.keep k0 (fun _ z => .inr (.inr z)), c0.keep k0 (fun _ z => .inr (.inr z)), ok⟩ (I.ni.keep kg (fun _ z => .inl z)), I.no.keep kg (fun _ z => .inl z), ?_, ?_, I.d1, I.d2, I.d3, I.d4, I.d5, I.d6⟩
  · rw [upd_ne tl, upd_same, ep]
  · rintro b (z | rfl | z)
    · exact (I.al b z).elim fun o e => ⟨o, kg b o z e⟩
    · exact ⟨_, by rw [upd_ne tl]; exact upd_same⟩
    · exact (a0 b z).elim fun o e => ⟨o, k0 b o z e⟩
  · rintro b (z | rfl | z)
    · exact I.ag b z
    · exact ⟨(ne I.hp).symm, (ne I.hw).symm, (ne I.hi).symm, (ne I.ho).symm, (ne I.hli).symm, (ne I.hlo).symm⟩
    · have h := n0 b z
      exact ⟨fun y => h (.inl y), fun y => h (.inr (.inl y)), fun y => h (.inr (.inr (.inl y))), fun y => h (.inr (.inr (.inr (.inl y)))), fun y => h (.inr (.inr (.inr (.inr (.inl y))))), fun y => h (.inr (.inr (.inr (.inr (.inr y)))))⟩
theorem PipeIn.noteo (I : PipeIn CP CI CO H A S dp di dq vi vo G) {t : Addr} {n : Nt} {hv cv : V} {G0 : Addr → Prop} (nt : H t = none) (h0 : TgAt H G0 hv n.h) (c0 : TgAt H G0 cv n.c) (ok : NtOk n) (ep : n.p = S.so) (a0 : ∀ b, G0 b → ∃ o, H b = some o) (n0 : ∀ b, G0 b → ¬ Own6 A b) :
    PipeIn CP CI CO (upd (upd H t (.tup [.str n.w, .int S.so, hv, cv])) A.lo (.lst (vo ++ [.ref t]))) A { S with no := S.no ++ [n] } dp di dq vi (vo ++ [.ref t]) (fun b => G b ∨ b = t ∨ G0 b) := by
  obtain ⟨n1, n2, n3, n4, n5, n6, n7, n8, n9⟩ := I.nes
  have ne : ∀ {b o}, H b = some o → b ≠ t := fun {b o} e => ne_of_none e nt
  have kp : ∀ b o, b ≠ A.lo → H b = some o → (upd (upd H t (.tup [.str n.w, .int S.so, hv, cv])) A.lo (.lst (vo ++ [.ref t]))) b = some o := fun b o z e => by rw [upd_ne z, upd_ne (ne e)]; exact e
  have kg : ∀ b o, G b → H b = some o → (upd (upd H t (.tup [.str n.w, .int S.so, hv, cv])) A.lo (.lst (vo ++ [.ref t]))) b = some o := fun b o z e => kp b o (I.ag b z).2.2.2.2.2 e
  have k0 : ∀ b o, G0 b → H b = some o → (upd (upd H t (.tup [.str n.w, .int S.so, hv, cv])) A.lo (.lst (vo ++ [.ref t]))) b = some o := fun b o z e => kp b o (fun y => n0 b z (.inr (.inr (.inr (.inr (.inr y)))))) e
  have tl : t ≠ A.lo := (ne I.hlo).symm
  refine ⟨kp _ _ n7.symm I.hp, kp _ _ I.d5 I.hw, kp _ _ n8.symm I.hi, kp _ _ n9.symm I.ho, kp _ _ I.d6 I.hli, upd_same, I.ni.keep kg (fun _ z => .inl z), Nts.snoc ⟨t, hv, cv, rfl, .inr (.inl rfl), ?_, h0.keep k0 (fun _ z => .inr (.inr z)), c0.keep k0 (fun _ z => .inr (.inr z)), ok⟩ (I.no.keep kg (fun _ z => .inl z)), ?_, ?_, I.d1, I.d2, I.d3, I.d4, I.d5, I.d6⟩
  · rw [upd_ne tl, upd_same, ep]
  · rintro b (z | rfl | z)
    · exact (I.al b z).elim fun o e => ⟨o, kg b o z e⟩
    · exact ⟨_, by rw [upd_ne tl]; exact upd_same⟩
    · exact (a0 b z).elim fun o e => ⟨o, k0 b o z e⟩
  · rintro b (z | rfl | z)
    · exact I.ag b z
    · exact ⟨(ne I.hp).symm, (ne I.hw).symm, (ne I.hi).symm, (ne I.ho).symm, (ne I.hli).symm, (ne I.hlo).symm⟩
    · have h := n0 b z
      exact ⟨fun y => h (.inl y), fun y => h (.inr (.inl y)), fun y => h (.inr (.inr (.inl y))), fun y => h (.inr (.inr (.inr (.inl y)))), fun y => h (.inr (.inr (.inr (.inr (.inl y))))), fun y => h (.inr (.inr (.inr (.inr (.inr y)))))⟩
/-- one of the six is stored to -/
theorem own_one {x : Addr} {o : HO} (hF : ∀ b, F b ↔ Own6 A b ∨ G b) (hx : Own6 A x) : Step F H F (upd H x o) := ⟨fun b o nf e => by
  have n : b ≠ x := fun z => nf ((hF b).mpr (.inl (by rw [z]; exact hx)))
  rw [upd_ne n]; exact e, fun b z => .inl z⟩
end
end Sip
namespace Sip
open PySem PySem.Spec PyProof.Rows L2 TL
def topS (i : Nat) : Stmt := PySem.Challenge.pw_sipstack_k17_whole_chain_of_pipes.main.body.getD i (.Pass ⟨0, 0, 0, 0⟩)
abbrev s_whole : Stmt := topS 15
abbrev N_whole : List Str := ["thing"]
abbrev P_whole : List Str := ["thing"]
theorem sc_whole : FnScope N_whole P_whole (defScope s_whole) := ⟨rfl, rfl, rfl, by decide +kernel, rfl, by decide +kernel, by decide +kernel⟩
abbrev s_croom : Stmt := topS 16
abbrev N_croom : List Str := ["room"]
abbrev P_croom : List Str := ["room"]
theorem sc_croom : FnScope N_croom P_croom (defScope s_croom) := ⟨rfl, rfl, rfl, by decide +kernel, rfl, by decide +kernel, by decide +kernel⟩
abbrev s_ocopy : Stmt := topS 20
abbrev N_ocopy : List Str := ["thing"]
abbrev P_ocopy : List Str := ["thing"]
theorem sc_ocopy : FnScope N_ocopy P_ocopy (defScope s_ocopy) := ⟨rfl, rfl, rfl, by decide +kernel, rfl, by decide +kernel, by decide +kernel⟩
abbrev s_rinit : Stmt := inClass (topS 19) 0
abbrev N_rinit : List Str := ["self", "can_seek"]
abbrev P_rinit : List Str := ["self", "can_seek"]
theorem sc_rinit : FnScope N_rinit P_rinit (defScope s_rinit) := ⟨rfl, rfl, rfl, by decide +kernel, rfl, by decide +kernel, by decide +kernel⟩
abbrev s_iinit : Stmt := inClass (topS 22) 0
abbrev N_iinit : List Str := ["self", "pipe"]
abbrev P_iinit : List Str := ["self", "pipe"]
theorem sc_iinit : FnScope N_iinit P_iinit (defScope s_iinit) := ⟨rfl, rfl, rfl, by decide +kernel, rfl, by decide +kernel, by decide +kernel⟩
abbrev s_oinit : Stmt := inClass (topS 23) 0
abbrev N_oinit : List Str := ["self", "pipe"]
abbrev P_oinit : List Str := ["self", "pipe"]
theorem sc_oinit : FnScope N_oinit P_oinit (defScope s_oinit) := ⟨rfl, rfl, rfl, by decide +kernel, rfl, by decide +kernel, by decide +kernel⟩
abbrev s_pinit : Stmt := inClass (topS 24) 0
abbrev N_pinit : List Str := ["self", "room"]
abbrev P_pinit : List Str := ["self", "room"]
theorem sc_pinit : FnScope N_pinit P_pinit (defScope s_pinit) := ⟨rfl, rfl, rfl, by decide +kernel, rfl, by decide +kernel, by decide +kernel⟩
abbrev s_pinto : Stmt := inClass (topS 24) 1
abbrev N_pinto : List Str := ["self"]
abbrev P_pinto : List Str := ["self"]
theorem sc_pinto : FnScope N_pinto P_pinto (defScope s_pinto) := ⟨rfl, rfl, rfl, by decide +kernel, rfl, by decide +kernel, by decide +kernel⟩
abbrev s_pout : Stmt := inClass (topS 24) 2
abbrev N_pout : List Str := ["self"]
abbrev P_pout : List Str := ["self"]
theorem sc_pout : FnScope N_pout P_pout (defScope s_pout) := ⟨rfl, rfl, rfl, by decide +kernel, rfl, by decide +kernel, by decide +kernel⟩
abbrev s_pheld : Stmt := inClass (topS 24) 3
abbrev N_pheld : List Str := ["self"]
abbrev P_pheld : List Str := ["self"]
theorem sc_pheld : FnScope N_pheld P_pheld (defScope s_pheld) := ⟨rfl, rfl, rfl, by decide +kernel, rfl, by decide +kernel, by decide +kernel⟩
abbrev s_play : Stmt := inClass (topS 24) 4
abbrev N_play : List Str := ["self", "data", "fitting"]
abbrev P_play : List Str := ["self", "data"]
theorem sc_play : FnScope N_play P_play (defScope s_play) := ⟨rfl, rfl, rfl, by decide +kernel, rfl, by decide +kernel, by decide +kernel⟩
abbrev s_plift : Stmt := inClass (topS 24) 5
abbrev N_plift : List Str := ["self", "many", "told"]
abbrev P_plift : List Str := ["self", "many"]
theorem sc_plift : FnScope N_plift P_plift (defScope s_plift) := ⟨rfl, rfl, rfl, by decide +kernel, rfl, by decide +kernel, by decide +kernel⟩
abbrev s_iaccept : Stmt := inClass (topS 22) 2
abbrev N_iaccept : List Str := ["self", "data"]
abbrev P_iaccept : List Str := ["self", "data"]
theorem sc_iaccept : FnScope N_iaccept P_iaccept (defScope s_iaccept) := ⟨rfl, rfl, rfl, by decide +kernel, rfl, by decide +kernel, by decide +kernel⟩
abbrev s_ogive : Stmt := inClass (topS 23) 2
abbrev N_ogive : List Str := ["self", "many"]
abbrev P_ogive : List Str := ["self", "many"]
theorem sc_ogive : FnScope N_ogive P_ogive (defScope s_ogive) := ⟨rfl, rfl, rfl, by decide +kernel, rfl, by decide +kernel, by decide +kernel⟩
abbrev s_iput : Stmt := inClass (topS 19) 2
abbrev N_iput : List Str := ["self", "data", "handed", "took"]
abbrev P_iput : List Str := ["self", "data"]
theorem sc_iput : FnScope N_iput P_iput (defScope s_iput) := ⟨rfl, rfl, rfl, by decide +kernel, rfl, by decide +kernel, by decide +kernel⟩
abbrev s_iopen : Stmt := inClass (topS 19) 13
abbrev N_iopen : List Str := ["self"]
abbrev P_iopen : List Str := ["self"]
theorem sc_iopen : FnScope N_iopen P_iopen (defScope s_iopen) := ⟨rfl, rfl, rfl, by decide +kernel, rfl, by decide +kernel, by decide +kernel⟩
abbrev s_imay : Stmt := inClass (topS 19) 16
abbrev N_imay : List Str := ["self", "data"]
abbrev P_imay : List Str := ["self", "data"]
theorem sc_imay : FnScope N_imay P_imay (defScope s_imay) := ⟨rfl, rfl, rfl, by decide +kernel, rfl, by decide +kernel, by decide +kernel⟩
abbrev s_inote : Stmt := inClass (topS 19) 12
abbrev N_inote : List Str := ["self", "word", "handed", "came"]
abbrev P_inote : List Str := ["self", "word", "handed", "came"]
theorem sc_inote : FnScope N_inote P_inote (defScope s_inote) := ⟨rfl, rfl, rfl, by decide +kernel, rfl, by decide +kernel, by decide +kernel⟩
abbrev s_ishut : Stmt := inClass (topS 19) 9
abbrev N_ishut : List Str := ["self"]
abbrev P_ishut : List Str := ["self"]
theorem sc_ishut : FnScope N_ishut P_ishut (defScope s_ishut) := ⟨rfl, rfl, rfl, by decide +kernel, rfl, by decide +kernel, by decide +kernel⟩
abbrev s_ilog : Stmt := inClass (topS 19) 10
abbrev N_ilog : List Str := ["self"]
abbrev P_ilog : List Str := ["self"]
theorem sc_ilog : FnScope N_ilog P_ilog (defScope s_ilog) := ⟨rfl, rfl, rfl, by decide +kernel, rfl, by decide +kernel, by decide +kernel⟩
abbrev s_ilogb : Stmt := inClass (topS 19) 11
abbrev N_ilogb : List Str := ["self", "many", "word", "place", "handed", "came"]
abbrev P_ilogb : List Str := ["self", "many"]
theorem sc_ilogb : FnScope N_ilogb P_ilogb (defScope s_ilogb) := ⟨rfl, rfl, rfl, by decide +kernel, rfl, by decide +kernel, by decide +kernel⟩
abbrev s_otake : Stmt := inClass (topS 19) 1
abbrev N_otake : List Str := ["self", "many", "came"]
abbrev P_otake : List Str := ["self", "many"]
theorem sc_otake : FnScope N_otake P_otake (defScope s_otake) := ⟨rfl, rfl, rfl, by decide +kernel, rfl, by decide +kernel, by decide +kernel⟩
abbrev s_oopen : Stmt := inClass (topS 19) 13
abbrev N_oopen : List Str := ["self"]
abbrev P_oopen : List Str := ["self"]
theorem sc_oopen : FnScope N_oopen P_oopen (defScope s_oopen) := ⟨rfl, rfl, rfl, by decide +kernel, rfl, by decide +kernel, by decide +kernel⟩
abbrev s_omay : Stmt := inClass (topS 19) 15
abbrev N_omay : List Str := ["self"]
abbrev P_omay : List Str := ["self"]
theorem sc_omay : FnScope N_omay P_omay (defScope s_omay) := ⟨rfl, rfl, rfl, by decide +kernel, rfl, by decide +kernel, by decide +kernel⟩
abbrev s_onote : Stmt := inClass (topS 19) 12
abbrev N_onote : List Str := ["self", "word", "handed", "came"]
abbrev P_onote : List Str := ["self", "word", "handed", "came"]
theorem sc_onote : FnScope N_onote P_onote (defScope s_onote) := ⟨rfl, rfl, rfl, by decide +kernel, rfl, by decide +kernel, by decide +kernel⟩
abbrev s_oshut : Stmt := inClass (topS 19) 9
abbrev N_oshut : List Str := ["self"]
abbrev P_oshut : List Str := ["self"]
theorem sc_oshut : FnScope N_oshut P_oshut (defScope s_oshut) := ⟨rfl, rfl, rfl, by decide +kernel, rfl, by decide +kernel, by decide +kernel⟩
abbrev s_olog : Stmt := inClass (topS 19) 10
abbrev N_olog : List Str := ["self"]
abbrev P_olog : List Str := ["self"]
theorem sc_olog : FnScope N_olog P_olog (defScope s_olog) := ⟨rfl, rfl, rfl, by decide +kernel, rfl, by decide +kernel, by decide +kernel⟩
abbrev s_ologb : Stmt := inClass (topS 19) 11
abbrev N_ologb : List Str := ["self", "many", "word", "place", "handed", "came"]
abbrev P_ologb : List Str := ["self", "many"]
theorem sc_ologb : FnScope N_ologb P_ologb (defScope s_ologb) := ⟨rfl, rfl, rfl, by decide +kernel, rfl, by decide +kernel, by decide +kernel⟩
abbrev s_idown : Stmt := inClass (topS 19) 5
abbrev N_idown : List Str := ["self"]
abbrev P_idown : List Str := ["self"]
theorem sc_idown : FnScope N_idown P_idown (defScope s_idown) := ⟨rfl, rfl, rfl, by decide +kernel, rfl, by decide +kernel, by decide +kernel⟩
abbrev s_pool : Stmt := topS 26
abbrev N_pool : List Str := ["_law_script", "_law_at", "_law_cell", "_law_digits"]
abbrev P_pool : List Str := ["_law_script", "_law_at"]
theorem sc_pool : FnScope N_pool P_pool (defScope s_pool) := ⟨rfl, rfl, rfl, by decide +kernel, rfl, by decide +kernel, by decide +kernel⟩
abbrev s_take : Stmt := topS 27
abbrev N_take : List Str := ["_law_pool_here", "_law_wide", "_law_found", "_law_seed"]
abbrev P_take : List Str := ["_law_pool_here", "_law_wide"]
theorem sc_take : FnScope N_take P_take (defScope s_take) := ⟨rfl, rfl, rfl, by decide +kernel, rfl, by decide +kernel, by decide +kernel⟩
abbrev s_lrow : Stmt := topS 28
abbrev N_lrow : List Str := ["_law_pool_here", "_law_long", "_law_row_here", "_law_k", "_law_way"]
abbrev P_lrow : List Str := ["_law_pool_here", "_law_long"]
theorem sc_lrow : FnScope N_lrow P_lrow (defScope s_lrow) := ⟨rfl, rfl, rfl, by decide +kernel, rfl, by decide +kernel, by decide +kernel⟩
abbrev s_lput : Stmt := topS 29
abbrev N_lput : List Str := ["_law_pipe", "_law_number", "_law_hands", "_law_at", "_law_many", "_law_held", "_law_some", "_law_told", "_law_fit"]
abbrev P_lput : List Str := ["_law_pipe", "_law_number", "_law_hands", "_law_at", "_law_many"]
theorem sc_lput : FnScope N_lput P_lput (defScope s_lput) := ⟨rfl, rfl, rfl, by decide +kernel, rfl, by decide +kernel, by decide +kernel⟩
abbrev s_ltaken : Stmt := topS 30
abbrev N_ltaken : List Str := ["_law_pipe", "_law_hands", "_law_at", "_law_many", "_law_held", "_law_told"]
abbrev P_ltaken : List Str := ["_law_pipe", "_law_hands", "_law_at", "_law_many"]
theorem sc_ltaken : FnScope N_ltaken P_ltaken (defScope s_ltaken) := ⟨rfl, rfl, rfl, by decide +kernel, rfl, by decide +kernel, by decide +kernel⟩
abbrev s_inord : Stmt := topS 31
abbrev N_inord : List Str := ["_law_pipes", "_law_hands", "_law_found", "_law_at"]
abbrev P_inord : List Str := ["_law_pipes", "_law_hands"]
theorem sc_inord : FnScope N_inord P_inord (defScope s_inord) := ⟨rfl, rfl, rfl, by decide +kernel, rfl, by decide +kernel, by decide +kernel⟩
abbrev s_logged : Stmt := topS 32
abbrev N_logged : List Str := ["_law_pipe", "_law_inside", "_law_word", "_law_place", "_law_handed", "_law_came", "_law_gone"]
abbrev P_logged : List Str := ["_law_pipe"]
theorem sc_logged : FnScope N_logged P_logged (defScope s_logged) := ⟨rfl, rfl, rfl, by decide +kernel, rfl, by decide +kernel, by decide +kernel⟩
abbrev s_passed : Stmt := topS 33
abbrev N_passed : List Str := ["_law_pipe", "_law_number", "_law_hands", "_law_at", "_law_turn"]
abbrev P_passed : List Str := ["_law_pipe", "_law_number", "_law_hands", "_law_at"]
theorem sc_passed : FnScope N_passed P_passed (defScope s_passed) := ⟨rfl, rfl, rfl, by decide +kernel, rfl, by decide +kernel, by decide +kernel⟩
abbrev s_law : Stmt := topS 34
abbrev N_law : List Str := ["_law_script", "_law_pool_here", "_law_numbers", "_law_k", "_law_pipes", "_law_number", "_law_row_here", "_law_hands", "_law_pipe", "_law_at", "_law_many"]
abbrev P_law : List Str := ["_law_script"]
theorem sc_law : FnScope N_law P_law (defScope s_law) := ⟨rfl, rfl, rfl, by decide +kernel, rfl, by decide +kernel, by decide +kernel⟩

abbrev PQ := Hp → Pad → (Addr → Prop) → Pst → Prop
theorem efs_seek (s : Nat) (b : Bool) (l p : Addr) : (efs s b l p).lookup ("can_seek" : Str) = some (.bl false) := by unfold efs; kernel_rfl
theorem efs_spot (s : Nat) (b : Bool) (l p : Addr) : (efs s b l p).lookup ("spot" : Str) = some (.int s) := by unfold efs; kernel_rfl
theorem efs_barred (s : Nat) (b : Bool) (l p : Addr) : (efs s b l p).lookup ("barred" : Str) = some (.bl b) := by unfold efs; kernel_rfl
theorem efs_notes (s : Nat) (b : Bool) (l p : Addr) : (efs s b l p).lookup ("notes" : Str) = some (.ref l) := by unfold efs; kernel_rfl
theorem efs_pipe (s : Nat) (b : Bool) (l p : Addr) : (efs s b l p).lookup ("pipe" : Str) = some (.ref p) := by unfold efs; kernel_rfl
theorem efs_put_s (s r : Nat) (b : Bool) (l p : Addr) : putF ("spot" : Str) (.int r) (efs s b l p) = efs r b l p := by unfold efs; kernel_rfl
theorem efs_put_b (s : Nat) (b c : Bool) (l p : Addr) : putF ("barred" : Str) (.bl c) (efs s b l p) = efs s c l p := by unfold efs; kernel_rfl
theorem efs_few (s : Nat) (b : Bool) (l p : Addr) : (efs s b l p).length < 1000 := by show 5 < 1000; decide
theorem efs_new (l p : Addr) : putF ("pipe" : Str) (.ref p) (putF ("notes" : Str) (.ref l) (putF ("barred" : Str) (.bl false) (putF ("spot" : Str) (.int 0) (putF ("can_seek" : Str) (.bl false) [])))) = efs 0 false l p := by unfold efs; kernel_rfl
theorem efs_no (s : Nat) (b : Bool) (l p : Addr) : ∀ m ∈ (["take", "put", "go", "cut", "shut", "place", "size", "seeks", "is_shut", "log", "log_behind", "note", "check_open", "check_seeks", "may_take", "may_put", "may_cut", "give", "accept"] : List Str), (efs s b l p).lookup m = none := by
  intro m hm
  simp only [List.mem_cons, List.mem_nil_iff, or_false] at hm
  unfold efs
  rcases hm with rfl | rfl | rfl | rfl | rfl | rfl | rfl | rfl | rfl | rfl | rfl | rfl | rfl | rfl | rfl | rfl | rfl | rfl | rfl <;> kernel_rfl
theorem pifs_room (w ei eo : Addr) (R : Nat) : (pifs w ei eo R).lookup ("room" : Str) = some (.int R) := by unfold pifs; kernel_rfl
theorem pifs_within (w ei eo : Addr) (R : Nat) : (pifs w ei eo R).lookup ("within" : Str) = some (.ref w) := by unfold pifs; kernel_rfl
theorem pifs_into_end (w ei eo : Addr) (R : Nat) : (pifs w ei eo R).lookup ("into_end" : Str) = some (.ref ei) := by unfold pifs; kernel_rfl
theorem pifs_out_end (w ei eo : Addr) (R : Nat) : (pifs w ei eo R).lookup ("out_end" : Str) = some (.ref eo) := by unfold pifs; kernel_rfl
theorem pifs_new (w ei eo : Addr) (R : Nat) : putF ("out_end" : Str) (.ref eo) (putF ("into_end" : Str) (.ref ei) (putF ("within" : Str) (.ref w) (putF ("room" : Str) (.int R) []))) = pifs w ei eo R := by unfold pifs; kernel_rfl
theorem pifs_no (w ei eo : Addr) (R : Nat) : ∀ m ∈ (["into", "out", "held", "lay", "lift", "drop"] : List Str), (pifs w ei eo R).lookup m = none := by
  intro m hm
  simp only [List.mem_cons, List.mem_nil_iff, or_false] at hm
  unfold pifs
  rcases hm with rfl | rfl | rfl | rfl | rfl | rfl <;> kernel_rfl
theorem cut_0 (xs : List V) : cutV xs (some 0) none = xs := by
  unfold cutV
  rw [HT.sIx_none, show ((0 : Int)) = ((0 : Nat) : Int) from rfl, HT.sIx_nat]
  simp
theorem del_to (r : List Int) (n : Nat) : delV (r.map V.int) none (some (n : Int)) = (r.drop n).map V.int := by
  unfold delV delL
  rw [HT.sIx_none, HT.sIx_nat, List.length_map, List.map_drop]
  by_cases h : n ≤ r.length
  · rw [Nat.min_eq_left h]; simp
  · rw [Nat.min_eq_right (by omega), List.drop_of_length_le (l := r.map V.int) (by rw [List.length_map]; omega), List.drop_of_length_le (l := r.map V.int) (by rw [List.length_map]; omega)]; simp
def spWhole : Sp := fun vs H Q _ => ∃ v : Int, vs = [.int v] ∧ Q (.bl true) H
def spRoomC : Sp := fun vs H Q _ => ∃ R : Int, vs = [.int R] ∧ 1 ≤ R ∧ R ≤ 64 ∧ Q .non H
def spOwnC : Sp := fun vs H Q _ => ∃ (v : V) (t : Tg) (G : Addr → Prop), vs = [v] ∧ TgAt H G v t ∧ ∀ (H' : Hp) (v' : V), TgAt H' (fun b => H b = none) v' t → Same H H' → Q v' H'
/-- a raw's first fields, whatever class stands upon it -/
def spRInit (K : PySem.W.Frag) : Sp := fun vs H Q _ => ∃ (e C dx : Addr), vs = [.ref e, .bl false] ∧ H e = some (.ins C dx []) ∧ Cls K C ∧ NoAttr K C "can_seek" ∧ NoAttr K C "spot" ∧ NoAttr K C "barred" ∧ NoAttr K C "notes" ∧
  ∀ (H' : Hp) (l : Addr), H l = none → H' l = some (.lst []) → H' e = some (.ins C dx (putF ("notes" : Str) (.ref l) (putF ("barred" : Str) (.bl false) (putF ("spot" : Str) (.int 0) (putF ("can_seek" : Str) (.bl false) []))))) → Kp [e] H H' → Q .non H'
def spEInit (C : Addr) : Sp := fun vs H Q _ => ∃ (e p dx : Addr), vs = [.ref e, .ref p] ∧ H e = some (.ins C dx []) ∧
  ∀ (H' : Hp) (l : Addr), H l = none → H' l = some (.lst []) → H' e = some (.ins C dx (efs 0 false l p)) → Kp [e] H H' → Q .non H'
def pst0 (R : Nat) : Pst := ⟨R, [], 0, 0, false, false, [], []⟩
def spPiInit (CP : Addr) (PA : PQ) : Sp := fun vs H Q _ => ∃ (p dx : Addr) (R : Nat), vs = [.ref p, .int R] ∧ H p = some (.ins CP dx []) ∧ 1 ≤ R ∧ R ≤ 64 ∧
  ∀ (H' : Hp) (A : Pad) (F : Addr → Prop), A.p = p → PA H' A F (pst0 R) → Step (fun b => b = p ∨ b = dx) H F H' → Q .non H'
def spInto (PA : PQ) : Sp := fun vs H Q _ => ∃ (A : Pad) (F : Addr → Prop) (S : Pst), vs = [.ref A.p] ∧ PA H A F S ∧ Q (.ref A.ei) H
def spOut (PA : PQ) : Sp := fun vs H Q _ => ∃ (A : Pad) (F : Addr → Prop) (S : Pst), vs = [.ref A.p] ∧ PA H A F S ∧ Q (.ref A.eo) H
def spHeld (PA : PQ) : Sp := fun vs H Q _ => ∃ (A : Pad) (F : Addr → Prop) (S : Pst), vs = [.ref A.p] ∧ PA H A F S ∧ ∀ (H' : Hp) (q : Addr), H q = none → H' q = some (.lst (S.ws.map V.int)) → Same H H' → Q (.ref q) H'
def spShutI (PA : PQ) : Sp := fun vs H Q _ => ∃ (A : Pad) (F : Addr → Prop) (S : Pst), vs = [.ref A.ei] ∧ PA H A F S ∧ Q (.bl S.bi) H
def spShutO (PA : PQ) : Sp := fun vs H Q _ => ∃ (A : Pad) (F : Addr → Prop) (S : Pst), vs = [.ref A.eo] ∧ PA H A F S ∧ Q (.bl S.bo) H
def spOpenI (PA : PQ) : Sp := fun vs H Q _ => ∃ (A : Pad) (F : Addr → Prop) (S : Pst), vs = [.ref A.ei] ∧ PA H A F S ∧ S.bi = false ∧ Q .non H
def spOpenO (PA : PQ) : Sp := fun vs H Q _ => ∃ (A : Pad) (F : Addr → Prop) (S : Pst), vs = [.ref A.eo] ∧ PA H A F S ∧ S.bo = false ∧ Q .non H
def spMayP (PA : PQ) : Sp := fun vs H Q _ => ∃ (A : Pad) (v : V) (F : Addr → Prop) (S : Pst), vs = [.ref A.ei, v] ∧ PA H A F S ∧ Q .non H
def spMayT (PA : PQ) : Sp := fun vs H Q _ => ∃ (A : Pad) (F : Addr → Prop) (S : Pst), vs = [.ref A.eo] ∧ PA H A F S ∧ Q .non H
/-- as many as have room -/
def fitF (S : Pst) (ds : List Int) : List Int := ds.take (S.R - S.ws.length)
def numV (xs : List Int) : V := if xs = [] then .non else .int xs.length
def numT (xs : List Int) : Tg := if xs = [] then .s (Str.ofString "stall") else .i xs.length
def laidP (S : Pst) (ds : List Int) : Pst := { S with ws := S.ws ++ fitF S ds }
def putP (S : Pst) (ds : List Int) : Pst := { S with ws := S.ws ++ fitF S ds, si := S.si + (fitF S ds).length, ni := S.ni ++ [⟨Str.ofString "put", S.si, .l ds, numT (fitF S ds)⟩] }
/-- all that the pipe's numbers keep to -/
def PstOk (S : Pst) : Prop := S.ws.length ≤ S.R ∧ S.R ≤ 64 ∧ S.ni.length ≤ 100000 ∧ S.no.length ≤ 100000
def spLay (PA : PQ) (e : Pad → Addr) : Sp := fun vs H Q _ => ∃ (A : Pad) (d : Addr) (F : Addr → Prop) (S : Pst) (ds : List Int), vs = [.ref (e A), .ref d] ∧ PA H A F S ∧ PstOk S ∧ S.bo = false ∧ ¬ F d ∧ H d = some (.lst (ds.map V.int)) ∧ ds.length ≤ 100000 ∧
  ∀ H' : Hp, PA H' A F (laidP S ds) → Step F H F H' → Q (numV (fitF S ds)) H'
def spPut (PA : PQ) : Sp := fun vs H Q _ => ∃ (A : Pad) (d : Addr) (F : Addr → Prop) (S : Pst) (ds : List Int), vs = [.ref A.ei, .ref d] ∧ PA H A F S ∧ PstOk S ∧ S.bi = false ∧ S.bo = false ∧ H d = some (.lst (ds.map V.int)) ∧ ds.length ≤ 100000 ∧
  ∀ (H' : Hp) (F' : Addr → Prop), PA H' A F' (putP S ds) → Step F H F' H' → Q (numV (fitF S ds)) H'
/-- whether a take of so many tells None -/
def stallB (S : Pst) (n : Nat) : Bool := decide (S.ws.take n = []) && !S.bi
def liftP (S : Pst) (n : Nat) : Pst := { S with ws := S.ws.drop n }
def takeP (S : Pst) (n : Nat) : Pst := { S with ws := S.ws.drop n, so := S.so + (S.ws.take n).length, no := S.no ++ [⟨Str.ofString "take", S.so, .i n, if stallB S n then .s (Str.ofString "stall") else .l (S.ws.take n)⟩] }
def spLift (PA : PQ) (e : Pad → Addr) : Sp := fun vs H Q _ => ∃ (A : Pad) (n : Nat) (F : Addr → Prop) (S : Pst), vs = [.ref (e A), .int n] ∧ PA H A F S ∧
  ∀ (H' : Hp) (q : Addr), PA H' A F (liftP S n) → H q = none → H' q = some (.lst ((S.ws.take n).map V.int)) → Step F H F H' → Q (if stallB S n then .non else .ref q) H'
def spTakeO (PA : PQ) : Sp := fun vs H Q _ => ∃ (A : Pad) (n : Nat) (F : Addr → Prop) (S : Pst), vs = [.ref A.eo, .int n] ∧ PA H A F S ∧ PstOk S ∧ S.bo = false ∧
  ∀ (H' : Hp) (F' : Addr → Prop) (q : Addr), PA H' A F' (takeP S n) → H q = none → H' q = some (.lst ((S.ws.take n).map V.int)) → ¬ F' q → Step F H F' H' → Q (if stallB S n then .non else .ref q) H'
def spNoteI (PA : PQ) : Sp := fun vs H Q _ => ∃ (A : Pad) (w : Str) (hv cv : V) (F G0 : Addr → Prop) (S : Pst) (h c : Tg), vs = [.ref A.ei, .str w, hv, cv] ∧ PA H A F S ∧ PstOk S ∧ TgAt H G0 hv h ∧ TgAt H G0 cv c ∧ NtOk ⟨w, S.si, h, c⟩ ∧ (∀ b, G0 b → ¬ F b) ∧ (∀ b, G0 b → ∃ o, H b = some o) ∧
  ∀ (H' : Hp) (F' : Addr → Prop), PA H' A F' { S with ni := S.ni ++ [⟨w, S.si, h, c⟩] } → (∀ b o, ¬ F b → H b = some o → H' b = some o) → (∀ b, F' b → F b ∨ G0 b ∨ H b = none) → Q .non H'
def spNoteO (PA : PQ) : Sp := fun vs H Q _ => ∃ (A : Pad) (w : Str) (hv cv : V) (F G0 : Addr → Prop) (S : Pst) (h c : Tg), vs = [.ref A.eo, .str w, hv, cv] ∧ PA H A F S ∧ PstOk S ∧ TgAt H G0 hv h ∧ TgAt H G0 cv c ∧ NtOk ⟨w, S.so, h, c⟩ ∧ (∀ b, G0 b → ¬ F b) ∧ (∀ b, G0 b → ∃ o, H b = some o) ∧
  ∀ (H' : Hp) (F' : Addr → Prop), PA H' A F' { S with no := S.no ++ [⟨w, S.so, h, c⟩] } → (∀ b o, ¬ F b → H b = some o → H' b = some o) → (∀ b, F' b → F b ∨ G0 b ∨ H b = none) → Q .non H'
/-- a log is told: all of it new -/
def LogTo (H : Hp) (Q : VK) (ns : List Nt) : Prop := ∀ (H' : Hp) (q : Addr) (vs : List V) (G : Addr → Prop), H q = none → ¬ G q → H' q = some (.lst vs) → Nts H' G vs ns → (∀ b, G b → H b = none) → Same H H' → Q (.ref q) H'
def spLogI (PA : PQ) : Sp := fun vs H Q _ => ∃ (A : Pad) (F : Addr → Prop) (S : Pst), vs = [.ref A.ei] ∧ PA H A F S ∧ PstOk S ∧ LogTo H Q S.ni
def spLogO (PA : PQ) : Sp := fun vs H Q _ => ∃ (A : Pad) (F : Addr → Prop) (S : Pst), vs = [.ref A.eo] ∧ PA H A F S ∧ PstOk S ∧ LogTo H Q S.no
def spLogbI (PA : PQ) : Sp := fun vs H Q _ => ∃ (A : Pad) (F : Addr → Prop) (S : Pst), vs = [.ref A.ei, .int 0] ∧ PA H A F S ∧ PstOk S ∧ LogTo H Q S.ni
def spLogbO (PA : PQ) : Sp := fun vs H Q _ => ∃ (A : Pad) (F : Addr → Prop) (S : Pst), vs = [.ref A.eo, .int 0] ∧ PA H A F S ∧ PstOk S ∧ LogTo H Q S.no

def spRowL : Sp := fun vs H Q _ => ∃ (p : Addr) (n N : Int) (o : HO), vs = [.ref p, .int N] ∧ H p = some o ∧ PoolO n o ∧ n ≤ 900000000 ∧ 0 ≤ N ∧ N ≤ 400 ∧
  ∀ (H' : Hp) (b : Addr) (bs : List Int) (o' : HO), H b = none → H' b = some (.lst (bs.map V.int)) → H' p = some o' → PoolO (n + 1000) o' → Kp [p] H H' → (bs.length : Int) ≤ N → Bytes bs → Q (.ref b) H'

def spDown (PA : PQ) : Sp := fun vs H Q _ => ∃ (A : Pad) (F : Addr → Prop) (S : Pst), vs = [.ref A.ei] ∧ PA H A F S ∧ ∀ H', PA H' A F { S with bi := true } → Step F H F H' → Q .non H'

/-! the notes walked -/
def stepI (acc : List Int) (n : Nt) : List Int := match n.h, n.c with
  | .l ds, .i k => acc ++ ds.take k.toNat
  | _, _ => acc
def stepO (acc : List Int) (n : Nt) : List Int := match n.c with
  | .l xs => acc ++ xs
  | _ => acc
def insF (ns : List Nt) : List Int := ns.foldl stepI []
def gonF (ns : List Nt) : List Int := ns.foldl stepO []
theorem insF_snoc (ns : List Nt) (n : Nt) : insF (ns ++ [n]) = stepI (insF ns) n := by unfold insF; rw [List.foldl_append]; rfl
theorem gonF_snoc (ns : List Nt) (n : Nt) : gonF (ns ++ [n]) = stepO (gonF ns) n := by unfold gonF; rw [List.foldl_append]; rfl
def GoodI (ns : List Nt) : Prop := ∀ i n, ns[i]? = some n → n.w = Str.ofString "put" ∧ n.p = (insF (ns.take i)).length ∧ ∃ ds, n.h = .l ds ∧ (n.c = .s (Str.ofString "stall") ∨ ∃ k : Nat, k ≤ 64 ∧ n.c = .i k)
def GoodO (ns : List Nt) : Prop := ∀ i n, ns[i]? = some n → n.w = Str.ofString "take" ∧ n.p = (gonF (ns.take i)).length ∧ (∃ m, n.h = .i m) ∧ (n.c = .s (Str.ofString "stall") ∨ ∃ xs : List Int, xs.length ≤ 64 ∧ n.c = .l xs)
theorem good_snoc {P : List Nt → Nt → Prop} {ns : List Nt} {n : Nt} (h : ∀ i m, ns[i]? = some m → P (ns.take i) m) (hn : P ns n) : ∀ i m, (ns ++ [n])[i]? = some m → P ((ns ++ [n]).take i) m := fun i m e => by
  by_cases l : i < ns.length
  · rw [List.getElem?_append_left l] at e
    rw [List.take_append_of_le_length (by omega)]
    exact h i m e
  · have il : i = ns.length := by
      have := (List.getElem?_eq_some_iff.mp e).1
      rw [List.length_append] at this
      have : i < ns.length + 1 := this
      omega
    subst il
    rw [List.getElem?_append_right (Nat.le_refl _), Nat.sub_self] at e
    cases e
    rw [List.take_left']
    · exact hn
    · rfl
structure JS (S : Pst) : Prop where
  i : GoodI S.ni
  o : GoodO S.no
  si : S.si = (insF S.ni).length
  so : S.so = (gonF S.no).length
  eq : gonF S.no ++ S.ws = insF S.ni
theorem insF_take {ns : List Nt} {i : Nat} {n : Nt} (h : ns[i]? = some n) : insF (ns.take (i + 1)) = stepI (insF (ns.take i)) n := by rw [List.take_add_one, h]; exact insF_snoc _ _
theorem gonF_take {ns : List Nt} {i : Nat} {n : Nt} (h : ns[i]? = some n) : gonF (ns.take (i + 1)) = stepO (gonF (ns.take i)) n := by rw [List.take_add_one, h]; exact gonF_snoc _ _
theorem GoodI.le {ns : List Nt} (h : GoodI ns) : ∀ i, i ≤ ns.length → (insF (ns.take i)).length ≤ 64 * i
  | 0, _ => Nat.zero_le _
  | i + 1, l => by
    have hn : ns[i]? = some ns[i] := List.getElem?_eq_getElem (by omega)
    have ih := h.le i (by omega)
    obtain ⟨_, _, ds, eh, ec⟩ := h i _ hn
    rw [insF_take hn]
    unfold stepI
    rw [eh]
    rcases ec with ec | ⟨k, hk, ec⟩
    · rw [ec]; show (insF (ns.take i)).length ≤ _; omega
    · rw [ec]
      show (insF (ns.take i) ++ ds.take ((k : Int).toNat)).length ≤ _
      rw [List.length_append, List.length_take, Int.toNat_natCast]; omega
theorem GoodO.le {ns : List Nt} (h : GoodO ns) : ∀ i, i ≤ ns.length → (gonF (ns.take i)).length ≤ 64 * i
  | 0, _ => Nat.zero_le _
  | i + 1, l => by
    have hn : ns[i]? = some ns[i] := List.getElem?_eq_getElem (by omega)
    have ih := h.le i (by omega)
    obtain ⟨_, _, _, ec⟩ := h i _ hn
    rw [gonF_take hn]
    unfold stepO
    rcases ec with ec | ⟨xs, hk, ec⟩
    · rw [ec]; show (gonF (ns.take i)).length ≤ _; omega
    · rw [ec]
      show (gonF (ns.take i) ++ xs).length ≤ _
      rw [List.length_append]; omega
theorem JS.put {S : Pst} (h : JS S) (r : S.R ≤ 64) (ds : List Int) : JS (putP S ds) := by
  have e : insF (putP S ds).ni = insF S.ni ++ fitF S ds := by
    show insF (S.ni ++ [_]) = _
    rw [insF_snoc]
    by_cases h0 : fitF S ds = []
    · rw [show numT (fitF S ds) = .s (Str.ofString "stall") from if_pos h0, h0, List.append_nil]; rfl
    · rw [show numT (fitF S ds) = .i (fitF S ds).length from if_neg h0]
      show insF S.ni ++ ds.take (((fitF S ds).length : Nat) : Int).toNat = _
      congr 1
      unfold fitF
      rw [Int.toNat_natCast, List.length_take]
      exact List.take_eq_take_min.symm
  refine ⟨?_, h.o, ?_, h.so, ?_⟩
  · refine good_snoc (P := fun pre n => n.w = Str.ofString "put" ∧ n.p = (insF pre).length ∧ ∃ ds, n.h = .l ds ∧ (n.c = .s (Str.ofString "stall") ∨ ∃ k : Nat, k ≤ 64 ∧ n.c = .i k)) h.i ⟨rfl, h.si, ds, rfl, ?_⟩
    by_cases h0 : fitF S ds = []
    · exact .inl (if_pos h0)
    · refine .inr ⟨_, ?_, if_neg h0⟩
      unfold fitF
      rw [List.length_take]; omega
  · rw [e, List.length_append, ← h.si]; rfl
  · rw [e, ← h.eq, List.append_assoc]; rfl
theorem take_nil {ws : List Int} {n : Nat} (h : ws.take n = []) : ws.drop n = ws := by
  rcases List.take_eq_nil_iff.mp h with e | e
  · rw [e]; rfl
  · rw [e]; simp
theorem JS.take {S : Pst} (h : JS S) (r : S.ws.length ≤ 64) (n : Nat) : JS (takeP S n) := by
  have e : gonF (takeP S n).no = gonF S.no ++ S.ws.take n := by
    show gonF (S.no ++ [_]) = _
    rw [gonF_snoc]
    cases hs : stallB S n with
    | true =>
      have h0 : S.ws.take n = [] := by
        unfold stallB at hs
        rw [Bool.and_eq_true] at hs
        exact of_decide_eq_true hs.1
      rw [h0, List.append_nil]; rfl
    | false => rfl
  refine ⟨h.i, ?_, h.si, ?_, ?_⟩
  · refine good_snoc (P := fun pre n => n.w = Str.ofString "take" ∧ n.p = (gonF pre).length ∧ (∃ m, n.h = .i m) ∧ (n.c = .s (Str.ofString "stall") ∨ ∃ xs : List Int, xs.length ≤ 64 ∧ n.c = .l xs)) h.o ⟨rfl, h.so, ⟨_, rfl⟩, ?_⟩
    cases hs : stallB S n with
    | true => exact .inl rfl
    | false => exact .inr ⟨_, by rw [List.length_take]; omega, rfl⟩
  · rw [e, List.length_append, ← h.so]; rfl
  · rw [e]
    show gonF S.no ++ S.ws.take n ++ S.ws.drop n = insF S.ni
    rw [List.append_assoc, List.take_append_drop, h.eq]
/-! all bytes in their order -/
def ordF : List (List Int) → List (List Int) → List Int
  | [], x :: _ => x
  | w :: ws, x :: xs => ordF ws xs ++ w ++ x
  | _, [] => []
theorem ord_put : ∀ {ws xs : List (List Int)} {j : Nat} {w x w' x' : List Int}, xs.length = ws.length + 1 → ws[j]? = some w → xs[j]? = some x → w' ++ x' = w ++ x → ordF (ws.set j w') (xs.set j x') = ordF ws xs
  | w0 :: ws, x0 :: xs, 0, w, x, w', x', _, hw, hx, e => by
    cases hw; cases hx
    show ordF ws xs ++ w' ++ x' = ordF ws xs ++ _ ++ _
    rw [List.append_assoc, List.append_assoc, e]
  | w0 :: ws, x0 :: xs, j + 1, w, x, w', x', l, hw, hx, e => by
    show ordF (ws.set j w') (xs.set j x') ++ w0 ++ x0 = ordF ws xs ++ w0 ++ x0
    rw [ord_put (by simpa using l) (by simpa using hw) (by simpa using hx) e]
theorem ord_add (ws : List (List Int)) (y t : List Int) (xs : List (List Int)) : ordF ws ((y ++ t) :: xs) = ordF ws (y :: xs) ++ t := by
  cases ws with
  | nil => rfl
  | cons w ws => show _ ++ w ++ (y ++ t) = _ ++ w ++ y ++ t; rw [List.append_assoc _ y t]
theorem ord_take : ∀ {ws xs : List (List Int)} {j : Nat} {w w' t x : List Int}, xs.length = ws.length + 1 → ws[j]? = some w → xs[j + 1]? = some x → w = t ++ w' → ordF (ws.set j w') (xs.set (j + 1) (x ++ t)) = ordF ws xs
  | w0 :: ws, x0 :: x1 :: xs, 0, w, w', t, x, _, hw, hx, e => by
    cases hw; cases hx
    show ordF ws ((x1 ++ t) :: xs) ++ w' ++ x0 = ordF ws (x1 :: xs) ++ w0 ++ x0
    rw [ord_add, e, List.append_assoc, List.append_assoc, List.append_assoc, List.append_assoc]
  | w0 :: ws, x0 :: xs, j + 1, w, w', t, x, l, hw, hx, e => by
    show ordF (ws.set j w') (xs.set (j + 1) (x ++ t)) ++ w0 ++ x0 = ordF ws xs ++ w0 ++ x0
    rw [ord_take (by simpa using l) (by simpa using hw) (by simpa using hx) e]
theorem ord_le : ∀ {ws xs : List (List Int)}, xs.length = ws.length + 1 → (∀ x ∈ xs, x.length ≤ (ordF ws xs).length) ∧ ∀ w ∈ ws, w.length ≤ (ordF ws xs).length
  | [], [x], _ => ⟨fun y hy => by rw [List.mem_singleton.mp hy]; exact Nat.le_refl _, fun w hw => by cases hw⟩
  | w0 :: ws, x0 :: xs, l => by
    obtain ⟨a, b⟩ := ord_le (ws := ws) (xs := xs) (by simpa using l)
    have e : (ordF (w0 :: ws) (x0 :: xs)).length = (ordF ws xs).length + w0.length + x0.length := by
      show (ordF ws xs ++ w0 ++ x0).length = _
      rw [List.length_append, List.length_append]
    refine ⟨fun y hy => ?_, fun w hw => ?_⟩
    · rcases List.mem_cons.mp hy with rfl | hy
      · omega
      · have := a y hy; omega
    · rcases List.mem_cons.mp hw with rfl | hw
      · omega
      · have := b w hw; omega
theorem ord_drop : ∀ {ws xs : List (List Int)} {j : Nat} {w x : List Int}, ws[j]? = some w → xs[j]? = some x → ordF (ws.drop j) (xs.drop j) = ordF (ws.drop (j + 1)) (xs.drop (j + 1)) ++ w ++ x
  | w0 :: ws, x0 :: xs, 0, w, x, hw, hx => by cases hw; cases hx; rfl
  | w0 :: ws, x0 :: xs, j + 1, w, x, hw, hx => by
    show ordF (ws.drop j) (xs.drop j) = ordF (ws.drop (j + 1)) (xs.drop (j + 1)) ++ w ++ x
    exact ord_drop (by simpa using hw) (by simpa using hx)

structure PX where
  A : Pad
  F : Addr → Prop
  S : Pst
def AnyF (ps : List PX) (b : Addr) : Prop := ∃ p ∈ ps, p.F b
structure AllQ (PA : PQ) (H : Hp) (ps : List PX) : Prop where
  p : ∀ p ∈ ps, PA H p.A p.F p.S
  d : ∀ (i j : Nat) (p q : PX), i ≠ j → ps[i]? = some p → ps[j]? = some q → ∀ b, p.F b → ¬ q.F b
structure CH (PA : PQ) (H : Hp) (ps : List PX) (hn : Addr) (hs : List Addr) (xs : List (List Int)) : Prop where
  p : AllQ PA H ps
  h : H hn = some (.lst (hs.map V.ref))
  l : hs.length = xs.length
  e : ∀ (j : Nat) (a : Addr) (x : List Int), hs[j]? = some a → xs[j]? = some x → H a = some (.lst (x.map V.int))
  nh : ∀ a ∈ hs, a ≠ hn
  fh : ¬ AnyF ps hn
  fa : ∀ a ∈ hs, ¬ AnyF ps a
  len : xs.length = ps.length + 1
structure Fr (ps : List PX) (hn : Addr) (H : Hp) (ps' : List PX) (H' : Hp) : Prop where
  k : ∀ b o, ¬ AnyF ps b → b ≠ hn → H b = some o → H' b = some o
  f : ∀ b, AnyF ps' b → AnyF ps b ∨ H b = none
  a : (∃ o, H hn = some o) → ∃ o, H' hn = some o
section
variable {CP CI CO : Addr} {H H' H2 : Hp} {ps ps' ps2 : List PX} {hn : Addr} {hs : List Addr} {xs : List (List Int)}
theorem AllQ.same (h : AllQ (PipeAt CP CI CO) H ps) (s : ∀ b o, AnyF ps b → H b = some o → H' b = some o) : AllQ (PipeAt CP CI CO) H' ps := ⟨fun p hp => (h.p p hp).loc fun b o z e => s b o ⟨p, hp, z⟩ e, h.d⟩
theorem AllQ.new (h : AllQ (PipeAt CP CI CO) H ps) {b : Addr} (n : H b = none) : ¬ AnyF ps b := fun ⟨p, hp, z⟩ => (h.p p hp).new n z
theorem AllQ.step {j : Nat} {p : PX} {F' : Addr → Prop} {S' : Pst} (h : AllQ (PipeAt CP CI CO) H ps) (hj : ps[j]? = some p) (hP : PipeAt CP CI CO H' p.A F' S') (st : Step p.F H F' H') : AllQ (PipeAt CP CI CO) H' (ps.set j ⟨p.A, F', S'⟩) := by
  have jl := (List.getElem?_eq_some_iff.mp hj).1
  have oth : ∀ i q, i ≠ j → ps[i]? = some q → ∀ b, q.F b → ¬ p.F b ∧ ¬ F' b := fun i q ij hq b z => by
    have np := h.d i j q p ij hq hj b z
    obtain ⟨o, e⟩ := (h.p q (List.mem_of_getElem? hq)).own b z
    exact ⟨np, (st.keep np e).2⟩
  refine ⟨fun q hq => ?_, fun i k q r ik hq hr b z => ?_⟩
  · obtain ⟨i, hi⟩ := List.mem_iff_getElem?.mp hq
    rw [List.getElem?_set] at hi
    by_cases ij : j = i
    · rw [if_pos ij, if_pos (by omega)] at hi
      cases hi; exact hP
    · rw [if_neg ij] at hi
      exact (h.p q (List.mem_of_getElem? hi)).loc fun b o z e => st.1 b o (oth i q (fun y => ij y.symm) hi b z).1 e
  · rw [List.getElem?_set] at hq hr
    by_cases ij : j = i
    · rw [if_pos ij, if_pos (by omega)] at hq
      cases hq
      rw [if_neg (fun y => ik (ij.symm.trans y))] at hr
      intro y
      exact (oth k r (fun w => ik (by rw [w, ij])) hr b y).2 z
    · rw [if_neg ij] at hq
      by_cases kj : j = k
      · rw [if_pos kj, if_pos (by omega)] at hr
        cases hr
        exact (oth i q (fun y => ij y.symm) hq b z).2
      · rw [if_neg kj] at hr
        exact h.d i k q r ik hq hr b z
theorem any_set {j : Nat} {p : PX} {F' : Addr → Prop} {S' : Pst} (hj : ps[j]? = some p) (st : Step p.F H F' H') : ∀ b, AnyF (ps.set j ⟨p.A, F', S'⟩) b → AnyF ps b ∨ H b = none := by
  rintro b ⟨q, hq, z⟩
  obtain ⟨i, hi⟩ := List.mem_iff_getElem?.mp hq
  rw [List.getElem?_set] at hi
  have jl := (List.getElem?_eq_some_iff.mp hj).1
  by_cases ij : j = i
  · rw [if_pos ij, if_pos (by omega)] at hi
    cases hi
    rcases st.2 b z with y | y
    · exact .inl ⟨p, List.mem_of_getElem? hj, y⟩
    · exact .inr y
  · rw [if_neg ij] at hi
    exact .inl ⟨q, List.mem_of_getElem? hi, z⟩
theorem Fr.same (s : Same H H') : Fr ps hn H ps H' := ⟨fun b o _ _ e => s b o e, fun b z => .inl z, fun ⟨o, e⟩ => ⟨o, s _ _ e⟩⟩
theorem Fr.trans (a : Fr ps hn H ps' H') (b : Fr ps' hn H' ps2 H2) : Fr ps hn H ps2 H2 := by
  have nF : ∀ x o, ¬ AnyF ps x → H x = some o → ¬ AnyF ps' x := fun x o n e z => (a.f x z).elim n fun y => by rw [e] at y; cases y
  refine ⟨fun x o n m e => b.k x o (nF x o n e) m (a.k x o n m e), fun x z => ?_, fun e => b.a (a.a e)⟩
  by_cases f : AnyF ps x
  · exact .inl f
  · cases e : H x with
    | none => exact .inr rfl
    | some o =>
      rcases b.f x z with y | y
      · exact absurd y (nF x o f e)
      · by_cases m : x = hn
        · obtain ⟨o', e'⟩ := a.a ⟨o, m ▸ e⟩
          rw [m, e'] at y; cases y
        · rw [a.k x o f m e] at y; cases y
theorem Fr.pipe {j : Nat} {p : PX} {F' : Addr → Prop} {S' : Pst} (c : CH (PipeAt CP CI CO) H ps hn hs xs) (hj : ps[j]? = some p) (st : Step p.F H F' H') : Fr ps hn H (ps.set j ⟨p.A, F', S'⟩) H' :=
  ⟨fun b o n _ e => st.1 b o (fun z => n ⟨p, List.mem_of_getElem? hj, z⟩) e, any_set hj st, fun _ => ⟨_, st.1 hn _ (fun z => c.fh ⟨p, List.mem_of_getElem? hj, z⟩) c.h⟩⟩
theorem Fr.hand {o : HO} : Fr ps hn H ps (upd H hn o) := ⟨fun b o _ m e => by rw [upd_ne m]; exact e, fun b z => .inl z, fun _ => ⟨_, upd_same⟩⟩
theorem CH.same (c : CH (PipeAt CP CI CO) H ps hn hs xs) (s : Same H H') : CH (PipeAt CP CI CO) H' ps hn hs xs :=
  ⟨c.p.same fun b o _ e => s b o e, s _ _ c.h, c.l, fun j a x h1 h2 => s _ _ (c.e j a x h1 h2), c.nh, c.fh, c.fa, c.len⟩
theorem CH.pipe {j : Nat} {p : PX} {F' : Addr → Prop} {S' : Pst} (c : CH (PipeAt CP CI CO) H ps hn hs xs) (hj : ps[j]? = some p) (hP : PipeAt CP CI CO H' p.A F' S') (st : Step p.F H F' H') : CH (PipeAt CP CI CO) H' (ps.set j ⟨p.A, F', S'⟩) hn hs xs := by
  have nf : ∀ b, ¬ AnyF ps b → ¬ p.F b := fun b n z => n ⟨p, List.mem_of_getElem? hj, z⟩
  have nw : ∀ b o, ¬ AnyF ps b → H b = some o → ¬ AnyF (ps.set j ⟨p.A, F', S'⟩) b := fun b o n e z => (any_set hj st b z).elim n fun y => by rw [e] at y; cases y
  refine ⟨c.p.step hj hP st, st.1 _ _ (nf _ c.fh) c.h, c.l, fun i a x h1 h2 => st.1 _ _ (nf _ (c.fa a (List.mem_of_getElem? h1))) (c.e i a x h1 h2), c.nh, nw _ _ c.fh c.h, fun a ha => ?_, by rw [List.length_set]; exact c.len⟩
  obtain ⟨i, hi⟩ := List.mem_iff_getElem?.mp ha
  have il := (List.getElem?_eq_some_iff.mp hi).1
  exact nw a _ (c.fa a ha) (c.e i a _ hi (List.getElem?_eq_getElem (by have := c.l; omega)))
theorem CH.hand {j : Nat} {a : Addr} {x : List Int} (c : CH (PipeAt CP CI CO) H ps hn hs xs) (ea : H a = some (.lst (x.map V.int))) (na : a ≠ hn) (fa : ¬ AnyF ps a) : CH (PipeAt CP CI CO) (upd H hn (.lst ((hs.set j a).map V.ref))) ps hn (hs.set j a) (xs.set j x) := by
  refine ⟨c.p.same fun b o z e => by rw [upd_ne (fun y => c.fh (by rw [← y]; exact z))]; exact e, upd_same, by rw [List.length_set, List.length_set]; exact c.l, fun i b y h1 h2 => ?_, fun b hb => ?_, c.fh, fun b hb => ?_, by rw [List.length_set]; exact c.len⟩
  · rw [List.getElem?_set] at h1 h2
    by_cases ij : j = i
    · have il : i < hs.length ∧ i < xs.length := by
        have := c.l
        rw [if_pos ij] at h1
        split at h1
        · omega
        · cases h1
      rw [if_pos ij, if_pos (by omega)] at h1
      rw [if_pos ij, if_pos (by omega)] at h2
      cases h1; cases h2
      rw [upd_ne na]; exact ea
    · rw [if_neg ij] at h1 h2
      rw [upd_ne (c.nh b (List.mem_of_getElem? h1))]; exact c.e i b y h1 h2
  · rcases List.mem_or_eq_of_mem_set hb with h | h
    · exact c.nh b h
    · rw [h]; exact na
  · rcases List.mem_or_eq_of_mem_set hb with h | h
    · exact c.fa b h
    · rw [h]; exact fa
theorem map_set_ref (hs : List Addr) (j : Nat) (a : Addr) : (hs.map V.ref).set j (.ref a) = (hs.set j a).map V.ref := by rw [List.map_set]
theorem ixN_lt {n j : Nat} (h : j < n) : ixN n (j : Int) = some j := by
  unfold ixN
  rw [if_pos (by omega), if_pos (by omega)]; rfl
end
/-- a pipe of the chain, its numbers -/
structure SX (c : Nat) (S : Pst) : Prop where
  w : S.ws.length ≤ S.R
  r : S.R ≤ 64
  r1 : 1 ≤ S.R
  bo : S.bo = false
  ni : S.ni.length ≤ c
  no : S.no.length ≤ c
  j : JS S
theorem SX.ok {c : Nat} {S : Pst} (h : SX c S) (l : c ≤ 100000) : PstOk S := ⟨h.w, h.r, by have := h.ni; omega, by have := h.no; omega⟩
theorem SX.up {c d : Nat} {S : Pst} (h : SX c S) (l : c ≤ d) : SX d S := ⟨h.w, h.r, h.r1, h.bo, by have := h.ni; omega, by have := h.no; omega, h.j⟩
theorem SX.put {c : Nat} {S : Pst} (h : SX c S) (ds : List Int) : SX (c + 1) (putP S ds) := by
  refine ⟨?_, h.r, h.r1, h.bo, ?_, by show S.no.length ≤ _; have := h.no; omega, h.j.put h.r ds⟩
  · show (S.ws ++ fitF S ds).length ≤ S.R
    unfold fitF
    have := h.w
    rw [List.length_append, List.length_take]; omega
  · show (S.ni ++ [_]).length ≤ _
    have := h.ni
    rw [List.length_append]; show _ + 1 ≤ _; omega
theorem SX.take {c : Nat} {S : Pst} (h : SX c S) (n : Nat) : SX (c + 1) (takeP S n) := by
  refine ⟨?_, h.r, h.r1, h.bo, by show S.ni.length ≤ _; have := h.ni; omega, ?_, h.j.take (by have := h.w; have := h.r; omega) n⟩
  · show (S.ws.drop n).length ≤ S.R
    have := h.w
    rw [List.length_drop]; omega
  · show (S.no ++ [_]).length ≤ _
    have := h.no
    rw [List.length_append]; show _ + 1 ≤ _; omega
def PutR (S : Pst) (x : List Int) (n : Nat) (S' : Pst) (x' : List Int) : Prop := (x.take n = [] ∧ S' = S ∧ x' = x) ∨ (x.take n ≠ [] ∧ S' = putP S (x.take n) ∧ x' = x.drop (fitF S (x.take n)).length)
theorem put_same_ord {S S' : Pst} {x x' : List Int} {n : Nat} (h : PutR S x n S' x') : S'.ws ++ x' = S.ws ++ x := by
  rcases h with ⟨_, rfl, rfl⟩ | ⟨_, rfl, rfl⟩
  · rfl
  · show S.ws ++ fitF S (x.take n) ++ x.drop (fitF S (x.take n)).length = S.ws ++ x
    have e : fitF S (x.take n) = x.take (fitF S (x.take n)).length := by
      unfold fitF
      rw [List.take_take, List.length_take]
      exact List.take_eq_take_min
    rw [List.append_assoc]
    congr 1
    conv => lhs; lhs; rw [e]
    exact List.take_append_drop _ _
def spLPut (PA : PQ) : Sp := fun vs H Q _ => ∃ (ps : List PX) (j n c : Nat) (p : PX) (hn : Addr) (hs : List Addr) (xs : List (List Int)) (x : List Int), vs = [.ref p.A.p, .int p.S.R, .ref hn, .int j, .int n] ∧ CH PA H ps hn hs xs ∧ ps[j]? = some p ∧ xs[j]? = some x ∧ SX c p.S ∧ c ≤ 10000 ∧ p.S.bi = false ∧ x.length ≤ 1000 ∧
  ∀ (H' : Hp) (F' : Addr → Prop) (hs' : List Addr) (S' : Pst) (x' : List Int), CH PA H' (ps.set j ⟨p.A, F', S'⟩) hn hs' (xs.set j x') → PutR p.S x n S' x' → Fr ps hn H (ps.set j ⟨p.A, F', S'⟩) H' → Q (.bl true) H'
def spLTaken (PA : PQ) : Sp := fun vs H Q _ => ∃ (ps : List PX) (j n c : Nat) (p : PX) (hn : Addr) (hs : List Addr) (xs : List (List Int)) (y : List Int), vs = [.ref p.A.p, .ref hn, .int j, .int n] ∧ CH PA H ps hn hs xs ∧ ps[j]? = some p ∧ xs[j + 1]? = some y ∧ SX c p.S ∧ c ≤ 10000 ∧ p.S.bi = false ∧ y.length ≤ 1000 ∧ 1 ≤ n ∧
  ∀ (H' : Hp) (F' : Addr → Prop) (hs' : List Addr), CH PA H' (ps.set j ⟨p.A, F', takeP p.S n⟩) hn hs' (xs.set (j + 1) (y ++ p.S.ws.take n)) → Fr ps hn H (ps.set j ⟨p.A, F', takeP p.S n⟩) H' → Q (.bl true) H'

def wsL (ps : List PX) : List (List Int) := ps.map fun p => p.S.ws
theorem wsL_set (ps : List PX) (j : Nat) (p : PX) : wsL (ps.set j p) = (wsL ps).set j p.S.ws := by unfold wsL; rw [List.map_set]
theorem wsL_at {ps : List PX} {j : Nat} {p : PX} (h : ps[j]? = some p) : (wsL ps)[j]? = some p.S.ws := by unfold wsL; rw [List.getElem?_map, h]; rfl
theorem wsL_len (ps : List PX) : (wsL ps).length = ps.length := by unfold wsL; rw [List.length_map]
def spInOrd (PA : PQ) : Sp := fun vs H Q _ => ∃ (ps : List PX) (pl hn : Addr) (hs : List Addr) (xs : List (List Int)), vs = [.ref pl, .ref hn] ∧ CH PA H ps hn hs xs ∧ H pl = some (.lst (ps.map fun p => V.ref p.A.p)) ∧ ps.length ≤ 3 ∧ (ordF (wsL ps) xs).length ≤ 100 ∧
  ∀ (H' : Hp) (u : Addr), H u = none → H' u = some (.lst ((ordF (wsL ps) xs).map V.int)) → Same H H' → Q (.ref u) H'
theorem ord_end {ws xs : List (List Int)} {m : Nat} (l : xs.length = ws.length + 1) (hm : m = ws.length) {x : List Int} (hx : xs[m]? = some x) : ordF (ws.drop m) (xs.drop m) = x := by
  subst hm
  rw [List.drop_length]
  have e : xs.drop ws.length = [x] := by
    have h := List.drop_eq_getElem_cons (l := xs) (i := ws.length) (by omega)
    rw [h, List.drop_of_length_le (by omega)]
    have := (List.getElem?_eq_some_iff.mp hx).2
    rw [this]
  rw [e]; rfl
theorem ord_suf : ∀ (m : Nat) {ws xs : List (List Int)}, m ≤ ws.length → xs.length = ws.length + 1 → (ordF (ws.drop m) (xs.drop m)).length ≤ (ordF ws xs).length
  | 0, ws, xs, _, _ => Nat.le_refl _
  | m + 1, ws, xs, hm, l => by
    obtain ⟨w, hw⟩ : ∃ w, ws[m]? = some w := ⟨_, List.getElem?_eq_getElem (by omega)⟩
    obtain ⟨x, hx⟩ : ∃ x, xs[m]? = some x := ⟨_, List.getElem?_eq_getElem (by omega)⟩
    have h := ord_suf m (by omega) l
    rw [ord_drop hw hx, List.length_append, List.length_append] at h
    omega

theorem shape0 (xs : List Int) : SeqAt.shaped (.list (xs.map .int)) = true := by
  unfold SeqAt.shaped
  have h : (PyData.list (xs.map .int)).canLay0 = true := lay_ints xs
  have d : (PyData.list (xs.map .int)).depth = 1 := by show PyData.depthAll (xs.map PyData.int) + 1 = 1; rw [ints_depth]
  rw [h, d]; rfl
def spLogged (PA : PQ) : Sp := fun vs H Q _ => ∃ (A : Pad) (F : Addr → Prop) (S : Pst) (c : Nat), vs = [.ref A.p] ∧ PA H A F S ∧ SX c S ∧ c ≤ 10000 ∧ ∀ H', Same H H' → Q (.bl true) H'

theorem get_set {α : Type} {l : List α} {j : Nat} {v w : α} (h : l[j]? = some v) : (l.set j w)[j]? = some w := by
  rw [List.getElem?_set, if_pos rfl, if_pos (List.getElem?_eq_some_iff.mp h).1]
theorem get_ne {α : Type} {l : List α} {j i : Nat} {w : α} (h : i ≠ j) : (l.set j w)[i]? = l[i]? := by
  rw [List.getElem?_set, if_neg (fun z => h z.symm)]
theorem set_id {α : Type} {l : List α} {j : Nat} {v : α} (h : l[j]? = some v) : l.set j v = l := by
  apply List.ext_getElem?
  intro i
  by_cases ij : i = j
  · subst ij; rw [get_set h, h]
  · rw [get_ne ij]
def AP (ps : List PX) : List V := ps.map fun p => V.ref p.A.p
def RP (ps : List PX) : List V := ps.map fun p => V.int p.S.R
theorem AP_set {ps : List PX} {j : Nat} {p : PX} {F' : Addr → Prop} {S' : Pst} (h : ps[j]? = some p) : AP (ps.set j ⟨p.A, F', S'⟩) = AP ps := by
  unfold AP
  rw [List.map_set]
  exact set_id (by rw [List.getElem?_map, h]; rfl)
theorem RP_set {ps : List PX} {j : Nat} {p : PX} {F' : Addr → Prop} {S' : Pst} (h : ps[j]? = some p) (e : S'.R = p.S.R) : RP (ps.set j ⟨p.A, F', S'⟩) = RP ps := by
  unfold RP
  rw [List.map_set]
  exact set_id (by rw [List.getElem?_map, h]; show some (V.int p.S.R) = some (V.int S'.R); rw [e])
theorem PutR.ws {S S' : Pst} {x x' : List Int} (h : PutR S x 60 S' x') (r1 : 1 ≤ S.R) (e : S'.ws = []) : S.ws.length + x.length = 0 := by
  rcases h with ⟨h0, rfl, rfl⟩ | ⟨h0, rfl, rfl⟩
  · rcases List.take_eq_nil_iff.mp h0 with z | z
    · cases z
    · rw [e, z]; rfl
  · exfalso
    have e' : S.ws ++ fitF S (x.take 60) = [] := e
    obtain ⟨a, b⟩ := List.append_eq_nil_iff.mp e'
    unfold fitF at b
    rw [a] at b
    rcases List.take_eq_nil_iff.mp b with z | z
    · have : S.R - 0 = 0 := z
      omega
    · exact h0 z
theorem PutR.keeps {c : Nat} {S S' : Pst} {x x' : List Int} {n : Nat} (h : PutR S x n S' x') (sx : SX c S) : SX (c + 1) S' ∧ S'.R = S.R ∧ S'.bi = S.bi := by
  rcases h with ⟨_, rfl, rfl⟩ | ⟨_, rfl, rfl⟩
  · exact ⟨sx.up (by omega), rfl, rfl⟩
  · exact ⟨sx.put _, rfl, rfl⟩
def spAllOn (PA : PQ) : Sp := fun vs H Q _ => ∃ (ps : List PX) (j c : Nat) (p : PX) (hn : Addr) (hs : List Addr) (xs : List (List Int)) (x y : List Int), vs = [.ref p.A.p, .int p.S.R, .ref hn, .int j] ∧ CH PA H ps hn hs xs ∧ ps[j]? = some p ∧ xs[j]? = some x ∧ xs[j + 1]? = some y ∧ SX c p.S ∧ c ≤ 5000 ∧ p.S.bi = false ∧ (ordF (wsL ps) xs).length ≤ 60 ∧
  ∀ (H' : Hp) (ps' : List PX) (hs' : List Addr) (xs' : List (List Int)) (p' : PX), CH PA H' ps' hn hs' xs' → ps'[j]? = some p' → xs'[j]? = some [] → p'.S.ws = [] → SX (c + 300) p'.S → AP ps' = AP ps → RP ps' = RP ps → (∀ i, i ≠ j → ps'[i]? = ps[i]?) → (∀ i, i ≠ j → i ≠ j + 1 → xs'[i]? = xs[i]?) → ordF (wsL ps') xs' = ordF (wsL ps) xs → Fr ps hn H ps' H' → Q (.bl true) H'

section
variable {CP CI CO : Addr} {H H' : Hp} {ps : List PX} {hn : Addr} {hs : List Addr} {xs : List (List Int)}
theorem AllQ.snoc {A : Pad} {F : Addr → Prop} {S : Pst} (h : AllQ (PipeAt CP CI CO) H ps) (hP : PipeAt CP CI CO H A F S) (d : ∀ b, AnyF ps b → ¬ F b) : AllQ (PipeAt CP CI CO) H (ps ++ [⟨A, F, S⟩]) := by
  have last : ∀ (i : Nat) (q : PX), (ps ++ [⟨A, F, S⟩])[i]? = some q → (i < ps.length ∧ ps[i]? = some q) ∨ (i = ps.length ∧ q = ⟨A, F, S⟩) := fun i q e => by
    by_cases l : i < ps.length
    · rw [List.getElem?_append_left l] at e; exact .inl ⟨l, e⟩
    · have il : i = ps.length := by
        have := (List.getElem?_eq_some_iff.mp e).1
        rw [List.length_append] at this
        have : i < ps.length + 1 := this
        omega
      subst il
      rw [List.getElem?_append_right (Nat.le_refl _), Nat.sub_self] at e
      cases e; exact .inr ⟨rfl, rfl⟩
  refine ⟨fun q hq => ?_, fun i j q r ij hq hr b z => ?_⟩
  · rcases List.mem_append.mp hq with hq | hq
    · exact h.p q hq
    · rw [List.mem_singleton.mp hq]; exact hP
  · rcases last i q hq with ⟨_, hq⟩ | ⟨e1, rfl⟩ <;> rcases last j r hr with ⟨_, hr⟩ | ⟨e2, rfl⟩
    · exact h.d i j q r ij hq hr b z
    · exact d b ⟨q, List.mem_of_getElem? hq, z⟩
    · exact fun y => d b ⟨r, List.mem_of_getElem? hr, y⟩ z
    · exact absurd (e1.trans e2.symm) ij
end
theorem wsL_nil {ps : List PX} (h : ∀ q ∈ ps, q.S.ws = []) : wsL ps = List.replicate ps.length [] := by
  induction ps with
  | nil => rfl
  | cons q ps ih =>
    show q.S.ws :: wsL ps = _
    rw [h q List.mem_cons_self, ih (fun r hr => h r (List.mem_cons_of_mem _ hr))]; rfl
theorem ord_nil : ∀ m : Nat, ordF (List.replicate m []) (List.replicate (m + 1) []) = []
  | 0 => rfl
  | m + 1 => by
    show ordF (List.replicate m []) (List.replicate (m + 1) []) ++ [] ++ [] = []
    rw [ord_nil m]; rfl
theorem ord_init (m : Nat) (bs : List Int) : ordF (List.replicate m []) (bs :: List.replicate m []) = bs := by
  cases m with
  | zero => rfl
  | succ m =>
    show ordF (List.replicate m []) (List.replicate (m + 1) []) ++ [] ++ bs = bs
    rw [ord_nil]; rfl
theorem ord_last : ∀ {ws xs : List (List Int)}, xs.length = ws.length + 1 → (∀ w ∈ ws, w = []) → (∀ j, j < ws.length → xs[j]? = some []) → xs[ws.length]? = some (ordF ws xs)
  | [], x :: xs, _, _, _ => rfl
  | w :: ws, x :: xs, l, hw, hx => by
    have e := ord_last (ws := ws) (xs := xs) (by simpa using l) (fun v hv => hw v (List.mem_cons_of_mem _ hv)) (fun j hj => by simpa using hx (j + 1) (by simpa using hj))
    have x0 : x = [] := by simpa using hx 0 (by simp)
    have w0 := hw w List.mem_cons_self
    show xs[ws.length]? = some (ordF ws xs ++ w ++ x)
    rw [x0, w0, List.append_nil, List.append_nil]; exact e
theorem pst0_sx (r : Nat) (h1 : 1 ≤ r) (h2 : r ≤ 64) : SX 0 (pst0 r) := ⟨Nat.zero_le _, h2, h1, rfl, Nat.le_refl _, Nat.le_refl _, ⟨fun i n e => by simp [pst0] at e, fun i n e => by simp [pst0] at e, rfl, rfl, rfl⟩⟩
theorem rooms_at {w : Int} (w0 : 0 ≤ w) (w1 : w < 3) : ∃ N : Int, 1 ≤ N ∧ N ≤ 64 ∧ atI [V.int 2, .int 9, .int 64] w = some (.int N) := by
  rcases (show w = 0 ∨ w = 1 ∨ w = 2 by omega) with rfl | rfl | rfl
  · exact ⟨2, by decide, by decide, rfl⟩
  · exact ⟨9, by decide, by decide, rfl⟩
  · exact ⟨64, by decide, by decide, rfl⟩
theorem manys_at {w : Int} (w0 : 0 ≤ w) (w1 : w < 3) : ∃ N : Int, 1 ≤ N ∧ N ≤ 60 ∧ atI [V.int 3, .int 20, .int 60] w = some (.int N) := by
  rcases (show w = 0 ∨ w = 1 ∨ w = 2 by omega) with rfl | rfl | rfl
  · exact ⟨3, by decide, by decide, rfl⟩
  · exact ⟨20, by decide, by decide, rfl⟩
  · exact ⟨60, by decide, by decide, rfl⟩
structure Tx (K : PySem.W.Frag) (mg : Str → Option Value) where
  C_IntoEnd : Addr
  C_OutEnd : Addr
  C_Pipe : Addr
  C_Raw : Addr
  f_whole : Addr
  fd_whole : FuncData
  D_whole : Dg K mg "is_whole" s_whole f_whole fd_whole
  f_croom : Addr
  fd_croom : FuncData
  D_croom : Dg K mg "check_room" s_croom f_croom fd_croom
  f_ocopy : Addr
  fd_ocopy : FuncData
  D_ocopy : Dg K mg "own_copy" s_ocopy f_ocopy fd_ocopy
  f_rinit : Addr
  fd_rinit : FuncData
  D_rinit : Mf K C_Raw "__init__" "Raw.__init__" s_rinit f_rinit fd_rinit
  f_iinit : Addr
  fd_iinit : FuncData
  D_iinit : Mf K C_IntoEnd "__init__" "IntoEnd.__init__" s_iinit f_iinit fd_iinit
  f_oinit : Addr
  fd_oinit : FuncData
  D_oinit : Mf K C_OutEnd "__init__" "OutEnd.__init__" s_oinit f_oinit fd_oinit
  f_pinit : Addr
  fd_pinit : FuncData
  D_pinit : Mf K C_Pipe "__init__" "Pipe.__init__" s_pinit f_pinit fd_pinit
  f_pinto : Addr
  fd_pinto : FuncData
  D_pinto : Mf K C_Pipe "into" "Pipe.into" s_pinto f_pinto fd_pinto
  f_pout : Addr
  fd_pout : FuncData
  D_pout : Mf K C_Pipe "out" "Pipe.out" s_pout f_pout fd_pout
  f_pheld : Addr
  fd_pheld : FuncData
  D_pheld : Mf K C_Pipe "held" "Pipe.held" s_pheld f_pheld fd_pheld
  f_play : Addr
  fd_play : FuncData
  D_play : Mf K C_Pipe "lay" "Pipe.lay" s_play f_play fd_play
  f_plift : Addr
  fd_plift : FuncData
  D_plift : Mf K C_Pipe "lift" "Pipe.lift" s_plift f_plift fd_plift
  f_iaccept : Addr
  fd_iaccept : FuncData
  D_iaccept : Mf K C_IntoEnd "accept" "IntoEnd.accept" s_iaccept f_iaccept fd_iaccept
  f_ogive : Addr
  fd_ogive : FuncData
  D_ogive : Mf K C_OutEnd "give" "OutEnd.give" s_ogive f_ogive fd_ogive
  f_iput : Addr
  fd_iput : FuncData
  D_iput : Mf K C_IntoEnd "put" "Raw.put" s_iput f_iput fd_iput
  f_iopen : Addr
  fd_iopen : FuncData
  D_iopen : Mf K C_IntoEnd "check_open" "Raw.check_open" s_iopen f_iopen fd_iopen
  f_imay : Addr
  fd_imay : FuncData
  D_imay : Mf K C_IntoEnd "may_put" "Raw.may_put" s_imay f_imay fd_imay
  f_inote : Addr
  fd_inote : FuncData
  D_inote : Mf K C_IntoEnd "note" "Raw.note" s_inote f_inote fd_inote
  f_ishut : Addr
  fd_ishut : FuncData
  D_ishut : Mf K C_IntoEnd "is_shut" "Raw.is_shut" s_ishut f_ishut fd_ishut
  f_ilog : Addr
  fd_ilog : FuncData
  D_ilog : Mf K C_IntoEnd "log" "Raw.log" s_ilog f_ilog fd_ilog
  f_ilogb : Addr
  fd_ilogb : FuncData
  D_ilogb : Mf K C_IntoEnd "log_behind" "Raw.log_behind" s_ilogb f_ilogb fd_ilogb
  f_otake : Addr
  fd_otake : FuncData
  D_otake : Mf K C_OutEnd "take" "Raw.take" s_otake f_otake fd_otake
  f_oopen : Addr
  fd_oopen : FuncData
  D_oopen : Mf K C_OutEnd "check_open" "Raw.check_open" s_oopen f_oopen fd_oopen
  f_omay : Addr
  fd_omay : FuncData
  D_omay : Mf K C_OutEnd "may_take" "Raw.may_take" s_omay f_omay fd_omay
  f_onote : Addr
  fd_onote : FuncData
  D_onote : Mf K C_OutEnd "note" "Raw.note" s_onote f_onote fd_onote
  f_oshut : Addr
  fd_oshut : FuncData
  D_oshut : Mf K C_OutEnd "is_shut" "Raw.is_shut" s_oshut f_oshut fd_oshut
  f_olog : Addr
  fd_olog : FuncData
  D_olog : Mf K C_OutEnd "log" "Raw.log" s_olog f_olog fd_olog
  f_ologb : Addr
  fd_ologb : FuncData
  D_ologb : Mf K C_OutEnd "log_behind" "Raw.log_behind" s_ologb f_ologb fd_ologb
  f_idown : Addr
  fd_idown : FuncData
  D_idown : Mf K C_IntoEnd "shut" "Raw.shut" s_idown f_idown fd_idown
  f_pool : Addr
  fd_pool : FuncData
  D_pool : Dg K mg "_law_pool" s_pool f_pool fd_pool
  f_take : Addr
  fd_take : FuncData
  D_take : Dg K mg "_law_take" s_take f_take fd_take
  f_lrow : Addr
  fd_lrow : FuncData
  D_lrow : Dg K mg "_law_row" s_lrow f_lrow fd_lrow
  f_lput : Addr
  fd_lput : FuncData
  D_lput : Dg K mg "_law_put" s_lput f_lput fd_lput
  f_ltaken : Addr
  fd_ltaken : FuncData
  D_ltaken : Dg K mg "_law_taken" s_ltaken f_ltaken fd_ltaken
  f_inord : Addr
  fd_inord : FuncData
  D_inord : Dg K mg "_law_in_order" s_inord f_inord fd_inord
  f_logged : Addr
  fd_logged : FuncData
  D_logged : Dg K mg "_law_logged" s_logged f_logged fd_logged
  f_passed : Addr
  fd_passed : FuncData
  D_passed : Dg K mg "_law_passed" s_passed f_passed fd_passed
  f_law : Addr
  fd_law : FuncData
  D_law : Dg K mg "law" s_law f_law fd_law
  cl_IntoEnd : Cls K C_IntoEnd
  g_IntoEnd : mg "IntoEnd" = some (.ref C_IntoEnd)
  mk_IntoEnd : Mk K C_IntoEnd f_iinit
  n_IntoEnd_can_seek : NoAttr K C_IntoEnd "can_seek"
  n_IntoEnd_spot : NoAttr K C_IntoEnd "spot"
  n_IntoEnd_barred : NoAttr K C_IntoEnd "barred"
  n_IntoEnd_notes : NoAttr K C_IntoEnd "notes"
  n_IntoEnd_pipe : NoAttr K C_IntoEnd "pipe"
  cl_OutEnd : Cls K C_OutEnd
  g_OutEnd : mg "OutEnd" = some (.ref C_OutEnd)
  mk_OutEnd : Mk K C_OutEnd f_oinit
  n_OutEnd_can_seek : NoAttr K C_OutEnd "can_seek"
  n_OutEnd_spot : NoAttr K C_OutEnd "spot"
  n_OutEnd_barred : NoAttr K C_OutEnd "barred"
  n_OutEnd_notes : NoAttr K C_OutEnd "notes"
  n_OutEnd_pipe : NoAttr K C_OutEnd "pipe"
  cl_Pipe : Cls K C_Pipe
  g_Pipe : mg "Pipe" = some (.ref C_Pipe)
  mk_Pipe : Mk K C_Pipe f_pinit
  n_Pipe_room : NoAttr K C_Pipe "room"
  n_Pipe_within : NoAttr K C_Pipe "within"
  n_Pipe_into_end : NoAttr K C_Pipe "into_end"
  n_Pipe_out_end : NoAttr K C_Pipe "out_end"
  g_Raw : mg "Raw" = some (.ref C_Raw)
  cr_Raw : ClX.CRead K C_Raw (.type "type")
  cv_rinit : PySem.W.findCls K (.ref C_Raw) (.type "type") "__init__" = some (.val (.ref f_rinit))
  bb_croom : Binds K fd_croom P_croom []
  bb_iaccept : Binds K fd_iaccept P_iaccept []
  bb_idown : Binds K fd_idown P_idown []
  bb_iinit : Binds K fd_iinit P_iinit []
  bb_ilog : Binds K fd_ilog P_ilog []
  bb_ilogb : Binds K fd_ilogb P_ilogb []
  bb_imay : Binds K fd_imay P_imay []
  bb_inord : Binds K fd_inord P_inord []
  bb_inote : Binds K fd_inote P_inote []
  bb_iopen : Binds K fd_iopen P_iopen []
  bb_iput : Binds K fd_iput P_iput []
  bb_ishut : Binds K fd_ishut P_ishut []
  bb_logged : Binds K fd_logged P_logged []
  bb_lput : Binds K fd_lput P_lput []
  bb_lrow : Binds K fd_lrow P_lrow []
  bb_ltaken : Binds K fd_ltaken P_ltaken []
  bb_ocopy : Binds K fd_ocopy P_ocopy []
  bb_ogive : Binds K fd_ogive P_ogive []
  bb_oinit : Binds K fd_oinit P_oinit []
  bb_olog : Binds K fd_olog P_olog []
  bb_ologb : Binds K fd_ologb P_ologb []
  bb_omay : Binds K fd_omay P_omay []
  bb_onote : Binds K fd_onote P_onote []
  bb_oopen : Binds K fd_oopen P_oopen []
  bb_oshut : Binds K fd_oshut P_oshut []
  bb_otake : Binds K fd_otake P_otake []
  bb_passed : Binds K fd_passed P_passed []
  bb_pheld : Binds K fd_pheld P_pheld []
  bb_pinto : Binds K fd_pinto P_pinto []
  bb_play : Binds K fd_play P_play []
  bb_plift : Binds K fd_plift P_plift []
  bb_pool : Binds K fd_pool P_pool []
  bb_pout : Binds K fd_pout P_pout []
  bb_rinit : Binds K fd_rinit P_rinit []
  bb_take : Binds K fd_take P_take []
  bb_whole : Binds K fd_whole P_whole []
  kb_pinit_0_room : KBn K fd_pinit P_pinit 1 ["room"] (fun us ws => us ++ ws) (fun vs zs => vs ++ zs)
  t_ROOM : Tok
  c_ROOM : mg "ROOM" = some (.int 8 t_ROOM)
  t_GREATEST_ROOM : Tok
  c_GREATEST_ROOM : mg "GREATEST_ROOM" = some (.int 64 t_GREATEST_ROOM)
  m_list : mg "list" = none
  m_len : mg "len" = none
  m_range : mg "range" = none
  m_max : mg "max" = none
  m_min : mg "min" = none
  m_isinstance : mg "isinstance" = none
  m_int : mg "int" = none
  m_bool : mg "bool" = none
  m_all : mg "all" = none
section
variable {P : Program} {w : World} {K : PySem.W.Frag} {mg : Str → Option Value} {base : Heap}

theorem ok_pool (T : Tx K mg) : FnOk P w K mg base CX0 1 T.f_pool T.fd_pool P_pool (spPool K) := by
  have sz : sizeLine = 16777216 := sizeLine_eq
  refine T.D_pool.F.ok sc_pool (fun vs H Q E h => ?_) (fun cdv A outer s H vs Q E hr h => ?_)
  · obtain ⟨a, ns, i, rfl, _⟩ := h
    rfl
  · obtain ⟨a, ns, i, rfl, hS, h63, i0, i1, q⟩ := h
    refine ⟨_, (pss_cons (ps_set (i := 2) sc_pool.nd rfl (.inl rfl) pe_int)
      (C8.pss_cut (ps_if (pt_cmpR op_gt (pe_callB call_len_seq (by rfl) T.m_len PySem.boot_len (pa_cons (pv 0) pa_nil)) pe_int (nomark _)) (pss_one (ps_set (i := 2) sc_pool.nd rfl (.inl rfl) (pe_ix ix_list (pv 0) (pe_op op_mod (pv 1) (pe_callB call_len_seq (by rfl) T.m_len PySem.boot_len (pa_cons (pv 0) pa_nil))) (fun _ _ => rfl)))) pss_nil)
      (pss_cons (ps_set (i := 3) sc_pool.nd rfl (.inl rfl) pe_int)
      (C8.pss_cut (ps_if (PW.pt (pw_and (pt_cmpR op_ge (pv 2) (pe_op op_pow pe_int pe_int) (nomark _)) (pw_and1 (pt_cmpR op_lt (pv 1) (pe_callB call_len_seq (by rfl) T.m_len PySem.boot_len (pa_cons (pv 0) pa_nil)) (nomark _))))) (pss_one (ps_set (i := 3) sc_pool.nd rfl (.inl rfl) (pv 2))) pss_nil)
      (pss_one (ps_ret (pe_lst (pa_cons (pv 3) (pa_cons (pe_op op_mul pe_int (pv 1)) (pa_cons (pv 2) pa_nil)))))))))), ?_⟩
    refine ⟨fun σ' H' => H' = H ∧ ∃ c : Int, σ' = [some (.ref a), some (.int i), some (.int c), none], ?_, fun σ' H' hm => ?_⟩
    · refine ⟨.ref a, rfl, a, ns.map V.int, rfl, .inl hS, _, _, rfl, rfl, _, rfl, ite2 (fun e => ?_) (fun e => ?_)⟩
      · have e1 : (0 : Int) < ((ns.map V.int).length : Int) := of_decide_eq_true e
        rw [List.length_map] at e1
        obtain ⟨m, _, em, _⟩ := atI_int (ms := ns) (i := i % (ns.length : Int)) (Int.emod_nonneg _ (by omega)) (Int.emod_lt_of_pos _ e1)
        refine ⟨.ref a, rfl, .int i, rfl, .ref a, rfl, a, ns.map V.int, rfl, .inl hS, _, _, rfl, rfl, ?_, a, _, _, .int m, rfl, rfl, hS, ?_, rfl, m, rfl⟩
        · rw [List.length_map]; exact e1
        · rw [List.length_map]; exact em
      · exact ⟨rfl, 0, rfl⟩
    · obtain ⟨rfl, c, rfl⟩ := hm
      refine ⟨fun σ' H'' => H'' = H' ∧ ∃ d : Int, 0 ≤ d ∧ σ' = [some (.ref a), some (.int i), some (.int c), some (.int d)], ?_, fun σ' H'' hm => ?_⟩
      · refine ⟨.int c, rfl, _, _, rfl, rfl, ⟨by decide, by decide, by decide⟩, _, _, rfl, rfl, _, rfl, ite2 (fun e => ?_) (fun e => iteF ⟨rfl, 0, by decide, rfl⟩)⟩
        have e1 : ((10 : Int) ^ (18 : Int).toNat) ≤ c := of_decide_eq_true e
        refine ⟨.int i, rfl, .ref a, rfl, a, ns.map V.int, rfl, .inl hS, _, _, rfl, rfl, _, rfl, ite2 (fun e => ?_) (fun e => ⟨rfl, 0, by decide, rfl⟩)⟩
        exact ⟨.int c, rfl, rfl, c, Int.le_trans (by decide) e1, rfl⟩
      · obtain ⟨rfl, d, d0, rfl⟩ := hm
        refine ⟨.int d, rfl, .int i, rfl, _, _, rfl, rfl, .inl ⟨by decide, by decide⟩, .int c, rfl, by show (3 : Nat) ≤ sizeLine; decide, fun p np => q p _ np ⟨d, 1000 * i, c, rfl, d0, by omega, by omega⟩⟩


theorem ok_take (T : Tx K mg) : FnOk P w K mg base CX0 1 T.f_take T.fd_take P_take (spTake) := by
  have sz : sizeLine = 16777216 := sizeLine_eq
  refine T.D_take.F.ok sc_take (fun vs H Q E h => ?_) (fun cdv A outer s H vs Q E hr h => ?_)
  · obtain ⟨p, n, wd, o, rfl, _⟩ := h
    rfl
  · obtain ⟨p, n, wd, o, rfl, hp, ⟨d, c, x, rfl, d0, c0, cn⟩, n9, w0, w1, q⟩ := h
    refine ⟨_, (pss_cons (ps_if (pt_cmpR op_gt (pe_ix ix_list (pv 0) pe_int (fun _ _ => rfl)) pe_int (nomark _)) (pss_cons (ps_set (i := 2) sc_take.nd rfl (.inl rfl) (pe_op op_mod (pe_ix ix_list (pv 0) pe_int (fun _ _ => rfl)) (pv 1)))
      (pss_cons (ps_asg (pe_op op_fdiv (pe_ix ix_list (pv 0) pe_int (fun _ _ => rfl)) (pv 1)) (pg_sub (pv 0) pe_int set_list))
      (pss_one (ps_ret (pv 2))))) pss_nil)
      (pss_cons (ps_asg (pe_op op_add (pe_ix ix_list (pv 0) pe_int (fun _ _ => rfl)) pe_int) (pg_sub (pv 0) pe_int set_list))
      (pss_cons (ps_set (i := 3) sc_take.nd rfl (.inl rfl) (pe_op op_mod (pe_op op_pow (pe_op op_add (pe_op op_mod (pe_ix ix_list (pv 0) pe_int (fun _ _ => rfl)) pe_int) (pe_op op_mul pe_int (pe_ix ix_list (pv 0) pe_int (fun _ _ => rfl)))) pe_int) pe_int))
      (pss_cons (ps_set (i := 3) sc_take.nd rfl (.inl rfl) (pe_op op_add (pe_op op_mul (pv 3) pe_int) (pe_op op_mul (pe_op op_mul (pe_ix ix_list (pv 0) pe_int (fun _ _ => rfl)) (pe_ix ix_list (pv 0) pe_int (fun _ _ => rfl))) pe_int)))
      (pss_one (ps_ret (pe_op op_mod (pe_op op_fdiv (pe_op op_mod (pe_op op_add (pv 3) (pe_op op_fdivW (pe_ix ix_list (pv 0) pe_int (fun _ _ => rfl)) pe_int)) pe_int) pe_int) (pv 1)))))))), ?_⟩
    have S0 : SqL K H p [.int d, .int c, .int x] := sq_at hp
    refine ⟨.ref p, rfl, p, _, 0, .int d, rfl, rfl, S0, rfl, d, 0, rfl, rfl, _, rfl, ite2 (fun e => ?_) (fun e => ?_)⟩
    · refine ⟨.ref p, rfl, p, _, 0, .int d, rfl, rfl, S0, rfl, .int wd, rfl, d, wd, rfl, rfl, w0, ?_⟩
      refine ⟨.ref p, rfl, p, _, 0, .int d, rfl, rfl, S0, rfl, .int wd, rfl, d, wd, rfl, rfl, ⟨w0, w1⟩, ?_⟩
      refine ⟨.ref p, rfl, p, _, 0, 0, rfl, rfl, hp, rfl, .int (d % wd), rfl, ?_⟩
      exact q _ _ (Int.emod_nonneg _ (by omega)) (Int.emod_lt_of_pos _ w0) ⟨d / wd, c, x, rfl, Int.ediv_nonneg d0 (by omega), c0, by omega⟩
    · refine ⟨.ref p, rfl, p, _, 1, .int c, rfl, rfl, S0, rfl, c, 1, rfl, rfl, .ref p, rfl, p, _, 1, 1, rfl, rfl, hp, rfl, ?_⟩
      have S1 : SqL K (upd H p (.lst [.int d, .int (c + 1), .int x])) p [.int d, .int (c + 1), .int x] := sq_new
      have y0 : 0 ≤ x % 2147483647 := Int.emod_nonneg _ (by decide)
      have y1 : x % 2147483647 < 2147483647 := Int.emod_lt_of_pos _ (by decide)
      refine ⟨.ref p, rfl, p, _, 2, .int x, rfl, rfl, S1, rfl, x, _, rfl, rfl, by show (0 : Int) < 2147483647; decide, .ref p, rfl, p, _, 1, .int (c + 1), rfl, rfl, S1, rfl, 40503, c + 1, rfl, rfl, .inl ⟨by decide, by decide⟩, _, _, rfl, rfl, _, 5, rfl, rfl, ⟨by decide, by decide, ?_⟩, _, 2147483647, rfl, rfl, by show (0 : Int) < 2147483647; decide, ?_⟩
      · show (x % 2147483647 + 40503 * (c + 1)).natAbs < 18446744073709551616
        omega
      · refine ⟨_, rfl, _, 48271, rfl, rfl, .inr ⟨by decide, by decide⟩, .ref p, rfl, p, _, 1, .int (c + 1), rfl, rfl, S1, rfl, .ref p, rfl, p, _, 1, .int (c + 1), rfl, rfl, S1, rfl, c + 1, c + 1, rfl, rfl, .inl ⟨by omega, by omega⟩, _, 39373, rfl, rfl, .inr ⟨by decide, by decide⟩, _, _, rfl, rfl, ?_⟩
        refine ⟨_, rfl, .ref p, rfl, p, _, 2, .int x, rfl, rfl, S1, rfl, x, _, rfl, rfl, wide_div (b := 32) (by decide) (by decide) (by decide) (by decide), _, _, rfl, rfl, _, _, rfl, rfl, by show (0 : Int) < 1000000007; decide, _, 16, rfl, rfl, ⟨by decide, by decide⟩, .int wd, rfl, _, wd, rfl, rfl, w0, ?_⟩
        exact q _ _ (Int.emod_nonneg _ (by omega)) (Int.emod_lt_of_pos _ w0) ⟨d, c + 1, x, rfl, d0, by omega, by omega⟩


theorem ok_whole (T : Tx K mg) : FnOk P w K mg base CX0 1 T.f_whole T.fd_whole P_whole (spWhole) := by
  have sz : sizeLine = 16777216 := sizeLine_eq
  refine T.D_whole.F.ok sc_whole (fun vs H Q E h => ?_) (fun cdv A outer s H vs Q E hr h => ?_)
  · obtain ⟨v, rfl, _⟩ := h
    rfl
  · obtain ⟨v, rfl, q⟩ := h
    refine ⟨_, (pss_one (ps_ret (pe_and (pe_callB (id := "isinstance") (r := rIsi K) call_isi (by rfl) T.m_isinstance (by decide +kernel) (pa_cons (pv 0) (pa_cons (pe_bltn (v := .ty "int") (by rfl) T.m_int (by decide +kernel) rfl) pa_nil))) (pe_one (pe_not (pe_callB (id := "isinstance") (r := rIsi K) call_isi (by rfl) T.m_isinstance (by decide +kernel) (pa_cons (pv 0) (pa_cons (pe_bltn (v := .ty "bool") (by rfl) T.m_bool (by decide +kernel) rfl) pa_nil)))))))), ?_⟩
    refine ⟨.int v, rfl, .int v, .ty "int", _, _, true, rfl, .ty "int", .base (.int v), kit_ty (by decide +kernel), true, rfl, ?_⟩
    exact ⟨.int v, rfl, .int v, .ty "bool", _, _, false, rfl, .ty "bool", .base (.int v), kit_ty (by decide +kernel), false, rfl, q⟩

theorem ok_croom (T : Tx K mg) : FnOk P w K mg base CX0 2 T.f_croom T.fd_croom P_croom (spRoomC) := by
  have G_whole := ok_whole (P := P) (w := w) (base := base) T
  have sz : sizeLine = 16777216 := sizeLine_eq
  refine T.D_croom.F.ok sc_croom (fun vs H Q E h => ?_) (fun cdv A outer s H vs Q E hr h => ?_)
  · obtain ⟨R, rfl, _⟩ := h
    rfl
  · obtain ⟨R, rfl, r1, r2, q⟩ := h
    refine ⟨_, (pss_one (ps_if (PW.pt (pw_or (pt_not (pt_val (pe_call G_whole (hr.mono (by decide)) (by rfl) T.D_whole.g T.D_whole.F.kp T.bb_whole .nil pass0 (pa_cons (pv 0) pa_nil)))) (pw_or1 (pt_not (pt_chain op_le op_le pe_int (pv 0) (pe_glob (v := .int 64) (by rfl) T.c_GREATEST_ROOM ⟨_, rfl⟩)))))) (pss_one ps_never) pss_nil)), ?_⟩
    refine ⟨.int R, rfl, R, rfl, true, rfl, iteF ?_⟩
    refine ⟨.int R, rfl, _, _, rfl, rfl, _, rfl, ?_⟩
    rw [if_pos (decide_eq_true r1)]
    refine ⟨_, _, rfl, rfl, _, rfl, ?_⟩
    rw [decide_eq_true r2]
    exact iteF q

theorem ok_ocopy (T : Tx K mg) : FnOk P w K mg base CX0 1 T.f_ocopy T.fd_ocopy P_ocopy (spOwnC) := by
  have sz : sizeLine = 16777216 := sizeLine_eq
  refine T.D_ocopy.F.ok sc_ocopy (fun vs H Q E h => ?_) (fun cdv A outer s H vs Q E hr h => ?_)
  · obtain ⟨v, t, G, rfl, _⟩ := h
    rfl
  · obtain ⟨v, t, G, rfl, ht, q⟩ := h
    refine ⟨_, (pss_cons (ps_if (pt_val (pe_callB (id := "isinstance") (r := rIsi K) call_isi (by rfl) T.m_isinstance (by decide +kernel) (pa_cons (pv 0) (pa_cons (pe_bltn (v := .ty "list") (by rfl) T.m_list (by decide +kernel) rfl) pa_nil)))) (pss_one (ps_ret (pe_callTy call_list_of (by rfl) T.m_list (by decide +kernel) (pa_cons (pv 0) pa_nil)))) pss_nil)
      (pss_one (ps_ret (pv 0)))), ?_⟩
    cases t with
    | i n =>
      cases (show v = _ from ht)
      exact ⟨.int n, rfl, .int n, .ty "list", _, _, false, rfl, .ty "list", .base (.int n), kit_ty (by decide +kernel), false, rfl, iteF ⟨.int n, rfl, q _ _ rfl (Same.refl _)⟩⟩
    | s w =>
      cases (show v = _ from ht)
      exact ⟨.str w, rfl, .str w, .ty "list", _, _, false, rfl, .ty "list", .base (.str w), kit_ty (by decide +kernel), false, rfl, iteF ⟨.str w, rfl, q _ _ rfl (Same.refl _)⟩⟩
    | l xs =>
      obtain ⟨a, rfl, ga, ha⟩ := ht
      exact ⟨.ref a, rfl, .ref a, .ty "list", _, _, true, rfl, .ty "list", .base (.lst ha), kit_ty (by decide +kernel), true, rfl, iteT ⟨.ref a, rfl, a, _, rfl, .inl (sq_at ha), fun z nz => q _ _ ⟨z, rfl, nz, upd_same⟩ (Kp.new (ps := []) nz).same⟩⟩

theorem ok_rinit (T : Tx K mg) : FnOk P w K mg base CX0 1 T.f_rinit T.fd_rinit P_rinit (spRInit K) := by
  have sz : sizeLine = 16777216 := sizeLine_eq
  refine T.D_rinit.F.ok sc_rinit (fun vs H Q E h => ?_) (fun cdv A outer s H vs Q E hr h => ?_)
  · obtain ⟨e, C, dx, rfl, _⟩ := h
    rfl
  · obtain ⟨e, C, dx, rfl, he, hC, n1, n2, n3, n4, q⟩ := h
    refine ⟨_, (pss_cons (ps_fld (pv 0) (pv 1) rfl)
      (pss_cons (ps_fld (pv 0) pe_int rfl)
      (pss_cons (ps_fld (pv 0) pe_bl rfl)
      (pss_one (ps_fld (pv 0) (pe_lst pa_nil) rfl))))), ?_⟩
    refine ⟨_, rfl, .ref e, rfl, e, C, dx, [], rfl, he, hC, n1, by show 0 < 1000; decide, ?_⟩
    refine ⟨.ref e, rfl, e, C, dx, _, rfl, upd_same, hC, n2, by show 1 < 1000; decide, ?_⟩
    refine ⟨.ref e, rfl, e, C, dx, _, rfl, upd_same, hC, n3, by show 2 < 1000; decide, ?_⟩
    rw [upd_upd, upd_upd]
    refine ⟨by show (0 : Nat) ≤ sizeLine; omega, fun l nl => ?_⟩
    have el : e ≠ l := ne_of_none upd_same nl
    refine ⟨.ref e, rfl, e, C, dx, _, rfl, by rw [upd_ne el]; exact upd_same, hC, n4, by show 3 < 1000; decide, ?_⟩
    have nl0 : H l = none := by rw [upd_ne el.symm] at nl; exact nl
    refine q _ l nl0 (by rw [upd_ne el.symm]; exact upd_same) upd_same (fun b o nb eb => ?_)
    rw [upd_ne (by simpa using nb), upd_ne (ne_of_none eb nl0), upd_ne (by simpa using nb)]
    exact eb

theorem ok_iinit (T : Tx K mg) : FnOk P w K mg base CX0 2 T.f_iinit T.fd_iinit P_iinit (spEInit T.C_IntoEnd) := by
  have G_rinit := ok_rinit (P := P) (w := w) (base := base) T
  have sz : sizeLine = 16777216 := sizeLine_eq
  refine T.D_iinit.F.ok sc_iinit (fun vs H Q E h => ?_) (fun cdv A outer s H vs Q E hr h => ?_)
  · obtain ⟨e, p, dx, rfl, _⟩ := h
    rfl
  · obtain ⟨e, p, dx, rfl, he, q⟩ := h
    refine ⟨_, (pss_cons (ps_expr (Sip.pe_cfn (pe_glob (v := .ref T.C_Raw) (by rfl) T.g_Raw rfl) T.cr_Raw T.cv_rinit T.D_rinit.F.kp G_rinit (hr.mono (by decide)) T.bb_rinit .nil pass0 (pa_cons (pv 0) (pa_cons pe_bl pa_nil))))
      (pss_one (ps_fld (pv 0) (pv 1) rfl))), ?_⟩
    refine ⟨rfl, .ref e, rfl, e, T.C_IntoEnd, dx, rfl, he, T.cl_IntoEnd, T.n_IntoEnd_can_seek, T.n_IntoEnd_spot, T.n_IntoEnd_barred, T.n_IntoEnd_notes, fun H1 l nl el ee k => ?_⟩
    refine ⟨.ref p, rfl, .ref e, rfl, e, T.C_IntoEnd, dx, _, rfl, ee, T.cl_IntoEnd, T.n_IntoEnd_pipe, by show 4 < 1000; decide, ?_⟩
    rw [efs_new]
    have ne : l ≠ e := (ne_of_none he nl).symm
    refine q _ l nl (by rw [upd_ne ne]; exact el) upd_same (k.trans (Kp.at (by simp)))

theorem ok_oinit (T : Tx K mg) : FnOk P w K mg base CX0 2 T.f_oinit T.fd_oinit P_oinit (spEInit T.C_OutEnd) := by
  have G_rinit := ok_rinit (P := P) (w := w) (base := base) T
  have sz : sizeLine = 16777216 := sizeLine_eq
  refine T.D_oinit.F.ok sc_oinit (fun vs H Q E h => ?_) (fun cdv A outer s H vs Q E hr h => ?_)
  · obtain ⟨e, p, dx, rfl, _⟩ := h
    rfl
  · obtain ⟨e, p, dx, rfl, he, q⟩ := h
    refine ⟨_, (pss_cons (ps_expr (Sip.pe_cfn (pe_glob (v := .ref T.C_Raw) (by rfl) T.g_Raw rfl) T.cr_Raw T.cv_rinit T.D_rinit.F.kp G_rinit (hr.mono (by decide)) T.bb_rinit .nil pass0 (pa_cons (pv 0) (pa_cons pe_bl pa_nil))))
      (pss_one (ps_fld (pv 0) (pv 1) rfl))), ?_⟩
    refine ⟨rfl, .ref e, rfl, e, T.C_OutEnd, dx, rfl, he, T.cl_OutEnd, T.n_OutEnd_can_seek, T.n_OutEnd_spot, T.n_OutEnd_barred, T.n_OutEnd_notes, fun H1 l nl el ee k => ?_⟩
    refine ⟨.ref p, rfl, .ref e, rfl, e, T.C_OutEnd, dx, _, rfl, ee, T.cl_OutEnd, T.n_OutEnd_pipe, by show 4 < 1000; decide, ?_⟩
    rw [efs_new]
    have ne : l ≠ e := (ne_of_none he nl).symm
    refine q _ l nl (by rw [upd_ne ne]; exact el) upd_same (k.trans (Kp.at (by simp)))

theorem ok_pinto (T : Tx K mg) : FnOk P w K mg base CX0 1 T.f_pinto T.fd_pinto P_pinto (spInto (PipeAt T.C_Pipe T.C_IntoEnd T.C_OutEnd)) := by
  have sz : sizeLine = 16777216 := sizeLine_eq
  refine T.D_pinto.F.ok sc_pinto (fun vs H Q E h => ?_) (fun cdv A outer s H vs Q E hr h => ?_)
  · obtain ⟨A, F, S, rfl, _⟩ := h
    rfl
  · obtain ⟨A, F, S, rfl, ⟨dp, di, dq, vi, vo, G, I, hF⟩, q⟩ := h
    refine ⟨_, (pss_one (ps_ret (pe_fld (pv 0) rfl))), ?_⟩
    exact ⟨.ref A.p, rfl, A.p, T.C_Pipe, dp, _, _, rfl, I.hp, T.cl_Pipe, T.n_Pipe_into_end, pifs_into_end _ _ _ _, q⟩

theorem ok_pout (T : Tx K mg) : FnOk P w K mg base CX0 1 T.f_pout T.fd_pout P_pout (spOut (PipeAt T.C_Pipe T.C_IntoEnd T.C_OutEnd)) := by
  have sz : sizeLine = 16777216 := sizeLine_eq
  refine T.D_pout.F.ok sc_pout (fun vs H Q E h => ?_) (fun cdv A outer s H vs Q E hr h => ?_)
  · obtain ⟨A, F, S, rfl, _⟩ := h
    rfl
  · obtain ⟨A, F, S, rfl, ⟨dp, di, dq, vi, vo, G, I, hF⟩, q⟩ := h
    refine ⟨_, (pss_one (ps_ret (pe_fld (pv 0) rfl))), ?_⟩
    exact ⟨.ref A.p, rfl, A.p, T.C_Pipe, dp, _, _, rfl, I.hp, T.cl_Pipe, T.n_Pipe_out_end, pifs_out_end _ _ _ _, q⟩

theorem ok_pheld (T : Tx K mg) : FnOk P w K mg base CX0 1 T.f_pheld T.fd_pheld P_pheld (spHeld (PipeAt T.C_Pipe T.C_IntoEnd T.C_OutEnd)) := by
  have sz : sizeLine = 16777216 := sizeLine_eq
  refine T.D_pheld.F.ok sc_pheld (fun vs H Q E h => ?_) (fun cdv A outer s H vs Q E hr h => ?_)
  · obtain ⟨A, F, S, rfl, _⟩ := h
    rfl
  · obtain ⟨A, F, S, rfl, ⟨dp, di, dq, vi, vo, G, I, hF⟩, q⟩ := h
    refine ⟨_, (pss_one (ps_ret (pe_callTy call_list_of (by rfl) T.m_list (by decide +kernel) (pa_cons (pe_fld (pv 0) rfl) pa_nil)))), ?_⟩
    exact ⟨.ref A.p, rfl, A.p, T.C_Pipe, dp, _, _, rfl, I.hp, T.cl_Pipe, T.n_Pipe_within, pifs_within _ _ _ _, A.w, _, rfl, .inl (sq_at I.hw), fun m nm => q _ m nm upd_same (Kp.new (ps := []) nm).same⟩

theorem ok_ishut (T : Tx K mg) : FnOk P w K mg base CX0 1 T.f_ishut T.fd_ishut P_ishut (spShutI (PipeAt T.C_Pipe T.C_IntoEnd T.C_OutEnd)) := by
  have sz : sizeLine = 16777216 := sizeLine_eq
  refine T.D_ishut.F.ok sc_ishut (fun vs H Q E h => ?_) (fun cdv A outer s H vs Q E hr h => ?_)
  · obtain ⟨A, F, S, rfl, _⟩ := h
    rfl
  · obtain ⟨A, F, S, rfl, ⟨dp, di, dq, vi, vo, G, I, hF⟩, q⟩ := h
    refine ⟨_, (pss_one (ps_ret (pe_fld (pv 0) rfl))), ?_⟩
    exact ⟨.ref A.ei, rfl, A.ei, T.C_IntoEnd, di, _, _, rfl, I.hi, T.cl_IntoEnd, T.n_IntoEnd_barred, efs_barred _ _ _ _, q⟩

theorem ok_iopen (T : Tx K mg) : FnOk P w K mg base CX0 1 T.f_iopen T.fd_iopen P_iopen (spOpenI (PipeAt T.C_Pipe T.C_IntoEnd T.C_OutEnd)) := by
  have sz : sizeLine = 16777216 := sizeLine_eq
  refine T.D_iopen.F.ok sc_iopen (fun vs H Q E h => ?_) (fun cdv A outer s H vs Q E hr h => ?_)
  · obtain ⟨A, F, S, rfl, _⟩ := h
    rfl
  · obtain ⟨A, F, S, rfl, ⟨dp, di, dq, vi, vo, G, I, hF⟩, hb, q⟩ := h
    refine ⟨_, (pss_one (ps_if (pt_val (pe_fld (pv 0) rfl)) (pss_one ps_never) pss_nil)), ?_⟩
    refine ⟨.ref A.ei, rfl, A.ei, T.C_IntoEnd, di, _, _, rfl, I.hi, T.cl_IntoEnd, T.n_IntoEnd_barred, efs_barred _ _ _ _, ?_⟩
    rw [hb]
    exact ⟨_, rfl, iteF q⟩

theorem ok_oshut (T : Tx K mg) : FnOk P w K mg base CX0 1 T.f_oshut T.fd_oshut P_oshut (spShutO (PipeAt T.C_Pipe T.C_IntoEnd T.C_OutEnd)) := by
  have sz : sizeLine = 16777216 := sizeLine_eq
  refine T.D_oshut.F.ok sc_oshut (fun vs H Q E h => ?_) (fun cdv A outer s H vs Q E hr h => ?_)
  · obtain ⟨A, F, S, rfl, _⟩ := h
    rfl
  · obtain ⟨A, F, S, rfl, ⟨dp, di, dq, vi, vo, G, I, hF⟩, q⟩ := h
    refine ⟨_, (pss_one (ps_ret (pe_fld (pv 0) rfl))), ?_⟩
    exact ⟨.ref A.eo, rfl, A.eo, T.C_OutEnd, dq, _, _, rfl, I.ho, T.cl_OutEnd, T.n_OutEnd_barred, efs_barred _ _ _ _, q⟩

theorem ok_oopen (T : Tx K mg) : FnOk P w K mg base CX0 1 T.f_oopen T.fd_oopen P_oopen (spOpenO (PipeAt T.C_Pipe T.C_IntoEnd T.C_OutEnd)) := by
  have sz : sizeLine = 16777216 := sizeLine_eq
  refine T.D_oopen.F.ok sc_oopen (fun vs H Q E h => ?_) (fun cdv A outer s H vs Q E hr h => ?_)
  · obtain ⟨A, F, S, rfl, _⟩ := h
    rfl
  · obtain ⟨A, F, S, rfl, ⟨dp, di, dq, vi, vo, G, I, hF⟩, hb, q⟩ := h
    refine ⟨_, (pss_one (ps_if (pt_val (pe_fld (pv 0) rfl)) (pss_one ps_never) pss_nil)), ?_⟩
    refine ⟨.ref A.eo, rfl, A.eo, T.C_OutEnd, dq, _, _, rfl, I.ho, T.cl_OutEnd, T.n_OutEnd_barred, efs_barred _ _ _ _, ?_⟩
    rw [hb]
    exact ⟨_, rfl, iteF q⟩

theorem ok_imay (T : Tx K mg) : FnOk P w K mg base CX0 1 T.f_imay T.fd_imay P_imay (spMayP (PipeAt T.C_Pipe T.C_IntoEnd T.C_OutEnd)) := by
  have sz : sizeLine = 16777216 := sizeLine_eq
  refine T.D_imay.F.ok sc_imay (fun vs H Q E h => ?_) (fun cdv A outer s H vs Q E hr h => ?_)
  · obtain ⟨A, v, F, S, rfl, _⟩ := h
    rfl
  · obtain ⟨A, v, F, S, rfl, ⟨dp, di, dq, vi, vo, G, I, hF⟩, q⟩ := h
    refine ⟨_, (pss_one (ps_if (pt_val (pe_fld (pv 0) rfl)) (pss_one ps_never) pss_nil)), ?_⟩
    exact ⟨.ref A.ei, rfl, A.ei, T.C_IntoEnd, di, _, _, rfl, I.hi, T.cl_IntoEnd, T.n_IntoEnd_can_seek, efs_seek _ _ _ _, _, rfl, iteF q⟩

theorem ok_omay (T : Tx K mg) : FnOk P w K mg base CX0 1 T.f_omay T.fd_omay P_omay (spMayT (PipeAt T.C_Pipe T.C_IntoEnd T.C_OutEnd)) := by
  have sz : sizeLine = 16777216 := sizeLine_eq
  refine T.D_omay.F.ok sc_omay (fun vs H Q E h => ?_) (fun cdv A outer s H vs Q E hr h => ?_)
  · obtain ⟨A, F, S, rfl, _⟩ := h
    rfl
  · obtain ⟨A, F, S, rfl, ⟨dp, di, dq, vi, vo, G, I, hF⟩, q⟩ := h
    refine ⟨_, (pss_one ps_pass), ?_⟩
    exact q

theorem ok_inote (T : Tx K mg) : FnOk P w K mg base CX0 1 T.f_inote T.fd_inote P_inote (spNoteI (PipeAt T.C_Pipe T.C_IntoEnd T.C_OutEnd)) := by
  have sz : sizeLine = 16777216 := sizeLine_eq
  refine T.D_inote.F.ok sc_inote (fun vs H Q E h => ?_) (fun cdv A outer s H vs Q E hr h => ?_)
  · obtain ⟨A, w, hv, cv, F, G0, S, h, c, rfl, _⟩ := h
    rfl
  · obtain ⟨A, w, hv, cv, F, G0, S, h, c, rfl, ⟨dp, di, dq, vi, vo, G, I, hF⟩, ok, h0, c0, nok, n0, a0, q⟩ := h
    refine ⟨_, (pss_one (ps_expr (pe_bm PySem.F.plainAttrs_list PySem.F.slot_list_append PySem.F.type_list_append mt_append (pe_fld (pv 0) rfl) (pa_cons (pe_tup (pa_cons (pv 1) (pa_cons (pe_fld (pv 0) rfl) (pa_cons (pv 2) (pa_cons (pv 3) pa_nil))))) pa_nil)))), ?_⟩
    refine ⟨.ref A.ei, rfl, A.ei, T.C_IntoEnd, di, _, _, rfl, I.hi, T.cl_IntoEnd, T.n_IntoEnd_notes, efs_notes _ _ _ _, ?_⟩
    refine ⟨.inl ⟨rfl, _, sq_at I.hli⟩, _, rfl, .ref A.ei, rfl, A.ei, T.C_IntoEnd, di, _, _, rfl, I.hi, T.cl_IntoEnd, T.n_IntoEnd_spot, efs_spot _ _ _ _, _, rfl, _, rfl, by show (4 : Nat) ≤ sizeLine; omega, fun t nt => ?_⟩
    have ne : ∀ {b o}, H b = some o → b ≠ t := fun {b o} e => ne_of_none e nt
    refine ⟨A.li, _, _, rfl, rfl, by rw [upd_ne (ne I.hli)]; exact I.hli, ?_, ?_⟩
    · have := I.ni.len
      have := ok.2.2
      omega
    refine q _ (fun b => F b ∨ b = t ∨ G0 b) ⟨dp, di, dq, _, _, _, I.notei (n := ⟨w, S.si, h, c⟩) nt h0 c0 nok rfl a0 (fun b z y => n0 b z ((hF b).mpr (.inl y))), fun b => ?_⟩ (fun b o nf e => ?_) (fun b z => ?_)
    · constructor
      · rintro (z | z)
        · rcases (hF b).mp z with y | y
          · exact .inl y
          · exact .inr (.inl y)
        · exact .inr (.inr z)
      · rintro (z | z | z)
        · exact .inl ((hF b).mpr (.inl z))
        · exact .inl ((hF b).mpr (.inr z))
        · exact .inr z
    · rw [upd_ne (fun z => nf ((hF b).mpr (.inl (by rw [z]; unfold Own6; simp)))), upd_ne (ne e)]; exact e
    · rcases z with z | rfl | z
      · exact .inl z
      · exact .inr (.inr nt)
      · exact .inr (.inl z)

theorem ok_ilogb (T : Tx K mg) : FnOk P w K mg base CX0 2 T.f_ilogb T.fd_ilogb P_ilogb (spLogbI (PipeAt T.C_Pipe T.C_IntoEnd T.C_OutEnd)) := by
  have G_ocopy := ok_ocopy (P := P) (w := w) (base := base) T
  have sz : sizeLine = 16777216 := sizeLine_eq
  refine T.D_ilogb.F.ok sc_ilogb (fun vs H Q E h => ?_) (fun cdv A outer s H vs Q E hr h => ?_)
  · obtain ⟨A, F, S, rfl, _⟩ := h
    rfl
  · obtain ⟨A, F, S, rfl, ⟨dp, di, dq, vi, vo, G, I, hF⟩, ok, q⟩ := h
    refine ⟨_, (pss_one (ps_ret (pe_lc (own := [("word", 2), ("place", 3), ("handed", 4), ("came", 5)]) (g := gTup K 4 (gCons (gName 2) (gCons (gName 3) (gCons (gName 4) (gCons (gName 5) (gNil)))))) (tt := tYes) (by rfl) sc_ilogb.nd (pi_list (pe_slice sl_list (pe_fld (pv 0) rfl) (po_some (pv 1)) po_none)) (blkOk_by (own := [("word", 2), ("place", 3), ("handed", 4), ("came", 5)]) (N := N_ilogb) (sc := defScope s_ilogb) (by decide +kernel)) (fun _ _ _ _ _ => (show PG _ _ (gTup K 4 (gCons (gName 2) (gCons (gName 3) (gCons (gName 4) (gCons (gName 5) (gNil)))))) from pg_tup rfl (pgs_cons (pg_name (i := 2) sc_ilogb.nd rfl (Or.inl rfl)) (pgs_cons (pg_name (i := 3) sc_ilogb.nd rfl (Or.inl rfl)) (pgs_cons (pg_name (i := 4) sc_ilogb.nd rfl (Or.inl rfl)) (pgs_cons (pg_name (i := 5) sc_ilogb.nd rfl (Or.inl rfl)) pgs_nil)))))) (fun _ _ _ _ _ => pts_nil) (fun _ _ _ _ _ => (pe_tup (pa_cons (pv 2) (pa_cons (pv 3) (pa_cons (pe_call G_ocopy (hr.mono (by decide)) (by rfl) T.D_ocopy.g T.D_ocopy.F.kp T.bb_ocopy .nil pass0 (pa_cons (pv 4) pa_nil)) (pa_cons (pe_call G_ocopy (hr.mono (by decide)) (by rfl) T.D_ocopy.g T.D_ocopy.F.kp T.bb_ocopy .nil pass0 (pa_cons (pv 5) pa_nil)) pa_nil))))))))), ?_⟩
    refine ⟨.ref A.ei, rfl, A.ei, T.C_IntoEnd, di, _, _, rfl, I.hi, T.cl_IntoEnd, T.n_IntoEnd_notes, efs_notes _ _ _ _, ?_⟩
    refine ⟨_, rfl, _, rfl, A.li, _, rfl, sq_at I.hli, fun z nz => ?_⟩
    rw [cut_0]
    have s1 : Same H (upd H z (.lst vi)) := (Kp.new (ps := []) nz).same
    have ez1 : (upd H z (.lst vi)) z = some (.lst vi) := upd_same
    generalize upd H z (.lst vi) = Hz at s1 ez1 ⊢
    refine ⟨z, rfl, ⟨_, sq_at ez1⟩, fun D nD => ?_⟩
    have zD : z ≠ D := ne_of_none ez1 nD
    refine lc_list (K := K) (a := z) (xs := vi) (fun i H' => ∃ acc, H' D = some (.lst acc) ∧ Nts H' (fun b => Hz b = none ∧ b ≠ D) acc (S.ni.take i) ∧ Same Hz H') ⟨[], upd_same, trivial, (Kp.new (ps := []) nD).same⟩ (fun i H' _ h => sq_at (h.elim fun _ h => h.2.2 _ _ ez1)) (fun i x H' hx hP => ?_) (fun H' hP => ?_)
    · obtain ⟨acc, eD, hN, sm⟩ := hP
      obtain ⟨m, em, t, hv, cv, rfl, gt, ht, h0, c0, nok⟩ := I.ni.at hx
      have ht' := sm _ _ (s1 _ _ ht)
      have h0' := h0.keep (H' := H') (fun b o _ e => sm _ _ (s1 _ _ e)) (fun _ z => z)
      have c0' := c0.keep (H' := H') (fun b o _ e => sm _ _ (s1 _ _ e)) (fun _ z => z)
      refine ⟨t, _, rfl, .inl (.inl ht'), rfl, ?_⟩
      refine ⟨_, _, rfl, _, _, rfl, _, _, rfl, _, _, rfl, rfl, rfl, ?_⟩
      refine ⟨_, rfl, _, rfl, hv, rfl, hv, m.h, G, rfl, h0', fun H2 hv2 h2 s2 => ?_⟩
      refine ⟨cv, rfl, cv, m.c, G, rfl, c0'.keep (fun b o _ e => s2 _ _ e) (fun _ z => z), fun H3 cv3 c3 s3 => ?_⟩
      refine ⟨by show (4 : Nat) ≤ sizeLine; omega, fun t2 nt2 => ?_⟩
      have s23 := s2.trans s3
      have eD3 := s23 _ _ eD
      have tD : D ≠ t2 := ne_of_none eD3 nt2
      have ne2 : ∀ {b o}, H3 b = some o → b ≠ t2 := fun {b o} e => ne_of_none e nt2
      refine ⟨acc, by rw [upd_ne tD]; exact eD3, ?_, acc ++ [.ref t2], upd_same, ?_, ?_⟩
      · have := hN.len
        have := List.length_take_le i S.ni
        have := ok.2.2
        rw [List.length_take] at *
        omega
      · rw [List.take_add_one, em]
        refine Nts.snoc ⟨t2, hv2, cv3, rfl, ⟨sm.free (s23.free nt2), tD.symm⟩, by rw [upd_ne tD.symm]; exact upd_same, ?_, ?_, nok⟩ (hN.keep (fun b o z e => ?_) (fun _ z => z))
        · exact h2.keep (fun b o z e => by rw [upd_ne (fun y => by rw [show b = D from y, eD] at z; cases z), upd_ne (ne2 (s3 _ _ e))]; exact s3 _ _ e) (fun b z => ⟨sm.free z, fun y => by rw [show b = D from y, eD] at z; cases z⟩)
        · exact c3.keep (fun b o z e => by rw [upd_ne (fun y => by rw [show b = D from y, s2 _ _ eD] at z; cases z), upd_ne (ne2 e)]; exact e) (fun b z => ⟨sm.free (s2.free z), fun y => by rw [show b = D from y, s2 _ _ eD] at z; cases z⟩)
        · rw [upd_ne z.2, upd_ne (ne2 (s23 _ _ e))]; exact s23 _ _ e
      · intro b o e
        have bD : b ≠ D := fun y => by rw [y, nD] at e; cases e
        rw [upd_ne bD, upd_ne (ne2 (s23 _ _ (sm _ _ e)))]; exact s23 _ _ (sm _ _ e)
    · obtain ⟨acc, eD, hN, sm⟩ := hP
      rw [I.ni.len, List.take_length] at hN
      exact q _ D acc _ (s1.free nD) (fun z => z.2 rfl) eD hN (fun b z => s1.free z.1) (s1.trans sm)

theorem ok_ilog (T : Tx K mg) : FnOk P w K mg base CX0 3 T.f_ilog T.fd_ilog P_ilog (spLogI (PipeAt T.C_Pipe T.C_IntoEnd T.C_OutEnd)) := by
  have G_ilogb := ok_ilogb (P := P) (w := w) (base := base) T
  have sz : sizeLine = 16777216 := sizeLine_eq
  refine T.D_ilog.F.ok sc_ilog (fun vs H Q E h => ?_) (fun cdv A outer s H vs Q E hr h => ?_)
  · obtain ⟨A, F, S, rfl, _⟩ := h
    rfl
  · obtain ⟨A, F, S, rfl, hPA, ok, q⟩ := h
    refine ⟨_, (pss_one (ps_ret (pe_meth (pv 0) T.cl_IntoEnd T.D_ilogb.m G_ilogb (hr.mono (by decide)) T.bb_ilogb .nil pass0 (pa_cons pe_int pa_nil)))), ?_⟩
    have hPA2 := hPA
    obtain ⟨dp, di, dq, vi, vo, G, I, hF⟩ := hPA2
    exact ⟨.ref A.ei, rfl, A.ei, di, _, rfl, I.hi, efs_no _ _ _ _ "log_behind" (by decide +kernel), A, F, S, rfl, hPA, ok, q⟩

theorem ok_onote (T : Tx K mg) : FnOk P w K mg base CX0 1 T.f_onote T.fd_onote P_onote (spNoteO (PipeAt T.C_Pipe T.C_IntoEnd T.C_OutEnd)) := by
  have sz : sizeLine = 16777216 := sizeLine_eq
  refine T.D_onote.F.ok sc_onote (fun vs H Q E h => ?_) (fun cdv A outer s H vs Q E hr h => ?_)
  · obtain ⟨A, w, hv, cv, F, G0, S, h, c, rfl, _⟩ := h
    rfl
  · obtain ⟨A, w, hv, cv, F, G0, S, h, c, rfl, ⟨dp, di, dq, vi, vo, G, I, hF⟩, ok, h0, c0, nok, n0, a0, q⟩ := h
    refine ⟨_, (pss_one (ps_expr (pe_bm PySem.F.plainAttrs_list PySem.F.slot_list_append PySem.F.type_list_append mt_append (pe_fld (pv 0) rfl) (pa_cons (pe_tup (pa_cons (pv 1) (pa_cons (pe_fld (pv 0) rfl) (pa_cons (pv 2) (pa_cons (pv 3) pa_nil))))) pa_nil)))), ?_⟩
    refine ⟨.ref A.eo, rfl, A.eo, T.C_OutEnd, dq, _, _, rfl, I.ho, T.cl_OutEnd, T.n_OutEnd_notes, efs_notes _ _ _ _, ?_⟩
    refine ⟨.inl ⟨rfl, _, sq_at I.hlo⟩, _, rfl, .ref A.eo, rfl, A.eo, T.C_OutEnd, dq, _, _, rfl, I.ho, T.cl_OutEnd, T.n_OutEnd_spot, efs_spot _ _ _ _, _, rfl, _, rfl, by show (4 : Nat) ≤ sizeLine; omega, fun t nt => ?_⟩
    have ne : ∀ {b o}, H b = some o → b ≠ t := fun {b o} e => ne_of_none e nt
    refine ⟨A.lo, _, _, rfl, rfl, by rw [upd_ne (ne I.hlo)]; exact I.hlo, ?_, ?_⟩
    · have := I.no.len
      have := ok.2.2
      omega
    refine q _ (fun b => F b ∨ b = t ∨ G0 b) ⟨dp, di, dq, _, _, _, I.noteo (n := ⟨w, S.so, h, c⟩) nt h0 c0 nok rfl a0 (fun b z y => n0 b z ((hF b).mpr (.inl y))), fun b => ?_⟩ (fun b o nf e => ?_) (fun b z => ?_)
    · constructor
      · rintro (z | z)
        · rcases (hF b).mp z with y | y
          · exact .inl y
          · exact .inr (.inl y)
        · exact .inr (.inr z)
      · rintro (z | z | z)
        · exact .inl ((hF b).mpr (.inl z))
        · exact .inl ((hF b).mpr (.inr z))
        · exact .inr z
    · rw [upd_ne (fun z => nf ((hF b).mpr (.inl (by rw [z]; unfold Own6; simp)))), upd_ne (ne e)]; exact e
    · rcases z with z | rfl | z
      · exact .inl z
      · exact .inr (.inr nt)
      · exact .inr (.inl z)

theorem ok_ologb (T : Tx K mg) : FnOk P w K mg base CX0 2 T.f_ologb T.fd_ologb P_ologb (spLogbO (PipeAt T.C_Pipe T.C_IntoEnd T.C_OutEnd)) := by
  have G_ocopy := ok_ocopy (P := P) (w := w) (base := base) T
  have sz : sizeLine = 16777216 := sizeLine_eq
  refine T.D_ologb.F.ok sc_ologb (fun vs H Q E h => ?_) (fun cdv A outer s H vs Q E hr h => ?_)
  · obtain ⟨A, F, S, rfl, _⟩ := h
    rfl
  · obtain ⟨A, F, S, rfl, ⟨dp, di, dq, vi, vo, G, I, hF⟩, ok, q⟩ := h
    refine ⟨_, (pss_one (ps_ret (pe_lc (own := [("word", 2), ("place", 3), ("handed", 4), ("came", 5)]) (g := gTup K 4 (gCons (gName 2) (gCons (gName 3) (gCons (gName 4) (gCons (gName 5) (gNil)))))) (tt := tYes) (by rfl) sc_ologb.nd (pi_list (pe_slice sl_list (pe_fld (pv 0) rfl) (po_some (pv 1)) po_none)) (blkOk_by (own := [("word", 2), ("place", 3), ("handed", 4), ("came", 5)]) (N := N_ologb) (sc := defScope s_ologb) (by decide +kernel)) (fun _ _ _ _ _ => (show PG _ _ (gTup K 4 (gCons (gName 2) (gCons (gName 3) (gCons (gName 4) (gCons (gName 5) (gNil)))))) from pg_tup rfl (pgs_cons (pg_name (i := 2) sc_ologb.nd rfl (Or.inl rfl)) (pgs_cons (pg_name (i := 3) sc_ologb.nd rfl (Or.inl rfl)) (pgs_cons (pg_name (i := 4) sc_ologb.nd rfl (Or.inl rfl)) (pgs_cons (pg_name (i := 5) sc_ologb.nd rfl (Or.inl rfl)) pgs_nil)))))) (fun _ _ _ _ _ => pts_nil) (fun _ _ _ _ _ => (pe_tup (pa_cons (pv 2) (pa_cons (pv 3) (pa_cons (pe_call G_ocopy (hr.mono (by decide)) (by rfl) T.D_ocopy.g T.D_ocopy.F.kp T.bb_ocopy .nil pass0 (pa_cons (pv 4) pa_nil)) (pa_cons (pe_call G_ocopy (hr.mono (by decide)) (by rfl) T.D_ocopy.g T.D_ocopy.F.kp T.bb_ocopy .nil pass0 (pa_cons (pv 5) pa_nil)) pa_nil))))))))), ?_⟩
    refine ⟨.ref A.eo, rfl, A.eo, T.C_OutEnd, dq, _, _, rfl, I.ho, T.cl_OutEnd, T.n_OutEnd_notes, efs_notes _ _ _ _, ?_⟩
    refine ⟨_, rfl, _, rfl, A.lo, _, rfl, sq_at I.hlo, fun z nz => ?_⟩
    rw [cut_0]
    have s1 : Same H (upd H z (.lst vo)) := (Kp.new (ps := []) nz).same
    have ez1 : (upd H z (.lst vo)) z = some (.lst vo) := upd_same
    generalize upd H z (.lst vo) = Hz at s1 ez1 ⊢
    refine ⟨z, rfl, ⟨_, sq_at ez1⟩, fun D nD => ?_⟩
    have zD : z ≠ D := ne_of_none ez1 nD
    refine lc_list (K := K) (a := z) (xs := vo) (fun i H' => ∃ acc, H' D = some (.lst acc) ∧ Nts H' (fun b => Hz b = none ∧ b ≠ D) acc (S.no.take i) ∧ Same Hz H') ⟨[], upd_same, trivial, (Kp.new (ps := []) nD).same⟩ (fun i H' _ h => sq_at (h.elim fun _ h => h.2.2 _ _ ez1)) (fun i x H' hx hP => ?_) (fun H' hP => ?_)
    · obtain ⟨acc, eD, hN, sm⟩ := hP
      obtain ⟨m, em, t, hv, cv, rfl, gt, ht, h0, c0, nok⟩ := I.no.at hx
      have ht' := sm _ _ (s1 _ _ ht)
      have h0' := h0.keep (H' := H') (fun b o _ e => sm _ _ (s1 _ _ e)) (fun _ z => z)
      have c0' := c0.keep (H' := H') (fun b o _ e => sm _ _ (s1 _ _ e)) (fun _ z => z)
      refine ⟨t, _, rfl, .inl (.inl ht'), rfl, ?_⟩
      refine ⟨_, _, rfl, _, _, rfl, _, _, rfl, _, _, rfl, rfl, rfl, ?_⟩
      refine ⟨_, rfl, _, rfl, hv, rfl, hv, m.h, G, rfl, h0', fun H2 hv2 h2 s2 => ?_⟩
      refine ⟨cv, rfl, cv, m.c, G, rfl, c0'.keep (fun b o _ e => s2 _ _ e) (fun _ z => z), fun H3 cv3 c3 s3 => ?_⟩
      refine ⟨by show (4 : Nat) ≤ sizeLine; omega, fun t2 nt2 => ?_⟩
      have s23 := s2.trans s3
      have eD3 := s23 _ _ eD
      have tD : D ≠ t2 := ne_of_none eD3 nt2
      have ne2 : ∀ {b o}, H3 b = some o → b ≠ t2 := fun {b o} e => ne_of_none e nt2
      refine ⟨acc, by rw [upd_ne tD]; exact eD3, ?_, acc ++ [.ref t2], upd_same, ?_, ?_⟩
      · have := hN.len
        have := List.length_take_le i S.no
        have := ok.2.2
        rw [List.length_take] at *
        omega
      · rw [List.take_add_one, em]
        refine Nts.snoc ⟨t2, hv2, cv3, rfl, ⟨sm.free (s23.free nt2), tD.symm⟩, by rw [upd_ne tD.symm]; exact upd_same, ?_, ?_, nok⟩ (hN.keep (fun b o z e => ?_) (fun _ z => z))
        · exact h2.keep (fun b o z e => by rw [upd_ne (fun y => by rw [show b = D from y, eD] at z; cases z), upd_ne (ne2 (s3 _ _ e))]; exact s3 _ _ e) (fun b z => ⟨sm.free z, fun y => by rw [show b = D from y, eD] at z; cases z⟩)
        · exact c3.keep (fun b o z e => by rw [upd_ne (fun y => by rw [show b = D from y, s2 _ _ eD] at z; cases z), upd_ne (ne2 e)]; exact e) (fun b z => ⟨sm.free (s2.free z), fun y => by rw [show b = D from y, s2 _ _ eD] at z; cases z⟩)
        · rw [upd_ne z.2, upd_ne (ne2 (s23 _ _ e))]; exact s23 _ _ e
      · intro b o e
        have bD : b ≠ D := fun y => by rw [y, nD] at e; cases e
        rw [upd_ne bD, upd_ne (ne2 (s23 _ _ (sm _ _ e)))]; exact s23 _ _ (sm _ _ e)
    · obtain ⟨acc, eD, hN, sm⟩ := hP
      rw [I.no.len, List.take_length] at hN
      exact q _ D acc _ (s1.free nD) (fun z => z.2 rfl) eD hN (fun b z => s1.free z.1) (s1.trans sm)

theorem ok_olog (T : Tx K mg) : FnOk P w K mg base CX0 3 T.f_olog T.fd_olog P_olog (spLogO (PipeAt T.C_Pipe T.C_IntoEnd T.C_OutEnd)) := by
  have G_ologb := ok_ologb (P := P) (w := w) (base := base) T
  have sz : sizeLine = 16777216 := sizeLine_eq
  refine T.D_olog.F.ok sc_olog (fun vs H Q E h => ?_) (fun cdv A outer s H vs Q E hr h => ?_)
  · obtain ⟨A, F, S, rfl, _⟩ := h
    rfl
  · obtain ⟨A, F, S, rfl, hPA, ok, q⟩ := h
    refine ⟨_, (pss_one (ps_ret (pe_meth (pv 0) T.cl_OutEnd T.D_ologb.m G_ologb (hr.mono (by decide)) T.bb_ologb .nil pass0 (pa_cons pe_int pa_nil)))), ?_⟩
    have hPA2 := hPA
    obtain ⟨dp, di, dq, vi, vo, G, I, hF⟩ := hPA2
    exact ⟨.ref A.eo, rfl, A.eo, dq, _, rfl, I.ho, efs_no _ _ _ _ "log_behind" (by decide +kernel), A, F, S, rfl, hPA, ok, q⟩

theorem ok_play (T : Tx K mg) : FnOk P w K mg base CX0 2 T.f_play T.fd_play P_play (spLay (PipeAt T.C_Pipe T.C_IntoEnd T.C_OutEnd) (fun A => A.p)) := by
  have G_oshut := ok_oshut (P := P) (w := w) (base := base) T
  have sz : sizeLine = 16777216 := sizeLine_eq
  refine T.D_play.F.ok sc_play (fun vs H Q E h => ?_) (fun cdv A outer s H vs Q E hr h => ?_)
  · obtain ⟨A, d, F, S, ds, rfl, _⟩ := h
    rfl
  · obtain ⟨A, d, F, S, ds, rfl, hPA, ok, hbo, nd, hd, ld, q⟩ := h
    refine ⟨_, (pss_cons (ps_if (pt_val (pe_meth0 (pe_fld (pv 0) rfl) T.cl_OutEnd T.D_oshut.m G_oshut (hr.mono (by decide)) T.bb_oshut .nil pass0)) (pss_one ps_never) pss_nil)
      (pss_cons (ps_set (i := 2) sc_play.nd rfl (.inl rfl) (pe_slice sl_list (pv 1) po_none (po_some (pe_op op_sub (pe_fld (pv 0) rfl) (pe_callB call_len_seq (by rfl) T.m_len PySem.boot_len (pa_cons (pe_fld (pv 0) rfl) pa_nil))))))
      (pss_cons (ps_if (pt_not (pt_truth (pv 2) (by intro _; rfl))) (pss_one (ps_ret pe_non)) pss_nil)
      (pss_cons (ps_expr (pe_bm PySem.F.plainAttrs_list PySem.F.slot_list_extend PySem.F.type_list_extend mt_extend (pe_fld (pv 0) rfl) (pa_cons (pv 2) pa_nil)))
      (pss_one (ps_ret (pe_callB call_len_seq (by rfl) T.m_len PySem.boot_len (pa_cons (pv 2) pa_nil)))))))), ?_⟩
    have hPA2 := hPA
    obtain ⟨dp, di, dq, vi, vo, G, I, hF⟩ := hPA2
    refine ⟨.ref A.p, rfl, A.p, T.C_Pipe, dp, _, _, rfl, I.hp, T.cl_Pipe, T.n_Pipe_out_end, pifs_out_end _ _ _ _, A.eo, dq, _, rfl, I.ho, efs_no _ _ _ _ "is_shut" (by decide +kernel), A, F, S, rfl, hPA, ?_⟩
    rw [hbo]
    refine ⟨_, rfl, iteF ?_⟩
    have lw := ok.1
    refine ⟨.ref d, rfl, .ref A.p, rfl, A.p, T.C_Pipe, dp, _, _, rfl, I.hp, T.cl_Pipe, T.n_Pipe_room, pifs_room _ _ _ _, .ref A.p, rfl, A.p, T.C_Pipe, dp, _, _, rfl, I.hp, T.cl_Pipe, T.n_Pipe_within, pifs_within _ _ _ _, A.w, _, rfl, .inl (sq_at I.hw), _, _, rfl, rfl, _, rfl, d, _, rfl, sq_at hd, fun f nf => ?_⟩
    rw [List.length_map, show ((S.R : Int) - (S.ws.length : Int)) = ((S.R - S.ws.length : Nat) : Int) by omega, take_cut]
    have s1 : Same H (upd H f (.lst ((fitF S ds).map V.int))) := (Kp.new (ps := []) nf).same
    have ef : (upd H f (.lst ((fitF S ds).map V.int))) f = some (.lst ((fitF S ds).map V.int)) := upd_same
    rw [show List.take (S.R - S.ws.length) ds = fitF S ds from rfl]
    generalize upd H f (.lst ((fitF S ds).map V.int)) = H1 at s1 ef ⊢
    have hPA1 := hPA.same s1
    refine ⟨.ref f, rfl, _, .inl ⟨_, sq_at ef, rfl⟩, ?_⟩
    by_cases e0 : fitF S ds = []
    · have eL : laidP S ds = S := by unfold laidP; rw [e0, List.append_nil]
      rw [eL, show numV (fitF S ds) = .non from if_pos e0] at q
      exact iteTc (by rw [e0]; rfl) (q _ hPA1 (Step.of s1))
    · have em : ((fitF S ds).map V.int).isEmpty = false := by simp [e0]
      rw [show numV (fitF S ds) = .int (fitF S ds).length from if_neg e0] at q
      refine iteFc (by rw [em]; rfl) ?_
      obtain ⟨dp1, di1, dq1, vi1, vo1, G1, I1, hF1⟩ := hPA1
      have lf : (fitF S ds).length ≤ 64 := by
        unfold fitF
        rw [List.length_take]
        have := ok.2.1
        omega
      have fw : f ≠ A.w := fun z => hPA.new nf ((hF f).mpr (.inl (.inr (.inl z))))
      refine ⟨.ref A.p, rfl, A.p, T.C_Pipe, dp1, _, _, rfl, I1.hp, T.cl_Pipe, T.n_Pipe_within, pifs_within _ _ _ _, .inl ⟨rfl, _, sq_at I1.hw⟩, .ref f, rfl, A.w, f, _, _, rfl, rfl, I1.hw, ef, ?_, ?_⟩
      · have := ok.2.1
        rw [List.length_map, List.length_map]; omega
      rw [← List.map_append]
      refine ⟨.ref f, rfl, f, _, rfl, .inl (sq_at (by rw [upd_ne fw]; exact ef)), ?_⟩
      rw [List.length_map]
      exact q _ ⟨dp1, di1, dq1, vi1, vo1, G1, I1.setw _, hF1⟩ ((Step.of s1).trans (own_one hF1 (.inr (.inl rfl))))

theorem ok_plift (T : Tx K mg) : FnOk P w K mg base CX0 2 T.f_plift T.fd_plift P_plift (spLift (PipeAt T.C_Pipe T.C_IntoEnd T.C_OutEnd) (fun A => A.p)) := by
  have G_ishut := ok_ishut (P := P) (w := w) (base := base) T
  have sz : sizeLine = 16777216 := sizeLine_eq
  refine T.D_plift.F.ok sc_plift (fun vs H Q E h => ?_) (fun cdv A outer s H vs Q E hr h => ?_)
  · obtain ⟨A, n, F, S, rfl, _⟩ := h
    rfl
  · obtain ⟨A, n, F, S, rfl, hPA, q⟩ := h
    refine ⟨_, (pss_cons (ps_set (i := 2) sc_plift.nd rfl (.inl rfl) (pe_slice sl_list (pe_fld (pv 0) rfl) po_none (po_some (pv 1))))
      (pss_cons (Sip.ps_delS (pe_fld (pv 0) rfl) po_none (po_some (pv 1)))
      (pss_cons (ps_if (PW.pt (pw_or (pt_truth (pv 2) (by intro _; rfl)) (pw_or1 (pt_val (pe_meth0 (pe_fld (pv 0) rfl) T.cl_IntoEnd T.D_ishut.m G_ishut (hr.mono (by decide)) T.bb_ishut .nil pass0))))) (pss_one (ps_ret (pv 2))) pss_nil)
      (pss_one (ps_ret pe_non))))), ?_⟩
    have hPA2 := hPA
    obtain ⟨dp, di, dq, vi, vo, G, I, hF⟩ := hPA2
    refine ⟨.ref A.p, rfl, A.p, T.C_Pipe, dp, _, _, rfl, I.hp, T.cl_Pipe, T.n_Pipe_within, pifs_within _ _ _ _, ?_⟩
    refine ⟨_, rfl, _, rfl, A.w, _, rfl, sq_at I.hw, fun f nf => ?_⟩
    rw [take_cut]
    have s1 : Same H (upd H f (.lst ((S.ws.take n).map V.int))) := (Kp.new (ps := []) nf).same
    have ef : (upd H f (.lst ((S.ws.take n).map V.int))) f = some (.lst ((S.ws.take n).map V.int)) := upd_same
    generalize upd H f (.lst ((S.ws.take n).map V.int)) = H1 at s1 ef ⊢
    obtain ⟨dp1, di1, dq1, vi1, vo1, G1, I1, hF1⟩ := hPA.same s1
    have wf : f ≠ A.w := (ne_of_none I.hw nf).symm
    refine ⟨.ref A.p, rfl, A.p, T.C_Pipe, dp1, _, _, rfl, I1.hp, T.cl_Pipe, T.n_Pipe_within, pifs_within _ _ _ _, .int n, rfl, _, rfl, A.w, _, rfl, I1.hw, ?_⟩
    rw [del_to]
    have hPA3 : PipeAt T.C_Pipe T.C_IntoEnd T.C_OutEnd (upd H1 A.w (.lst ((S.ws.drop n).map V.int))) A F (liftP S n) := ⟨dp1, di1, dq1, vi1, vo1, G1, I1.setw _, hF1⟩
    have st : Step F H F (upd H1 A.w (.lst ((S.ws.drop n).map V.int))) := (Step.of s1).trans (own_one hF1 (.inr (.inl rfl)))
    have ef3 : (upd H1 A.w (.lst ((S.ws.drop n).map V.int))) f = some (.lst ((S.ws.take n).map V.int)) := by rw [upd_ne wf]; exact ef
    have q' := q _ f hPA3 nf ef3 st
    generalize upd H1 A.w (.lst ((S.ws.drop n).map V.int)) = H3 at hPA3 ef3 st q' ⊢
    have hPA4 := hPA3
    obtain ⟨dp3, di3, dq3, vi3, vo3, G3, I3, hF3⟩ := hPA4
    refine ⟨.ref f, rfl, _, .inl ⟨_, sq_at ef3, rfl⟩, ?_⟩
    by_cases e0 : S.ws.take n = []
    · refine iteFc (by rw [e0]; rfl) ?_
      refine ⟨.ref A.p, rfl, A.p, T.C_Pipe, dp3, _, _, rfl, I3.hp, T.cl_Pipe, T.n_Pipe_into_end, pifs_into_end _ _ _ _, A.ei, di3, _, rfl, I3.hi, efs_no _ _ _ _ "is_shut" (by decide +kernel), A, F, _, rfl, hPA3, _, rfl, ?_⟩
      cases hb : S.bi with
      | true =>
        rw [show stallB S n = false by unfold stallB; rw [hb]; simp] at q'
        exact iteTc hb ⟨_, rfl, q'⟩
      | false =>
        rw [show stallB S n = true by unfold stallB; rw [hb, decide_eq_true e0]; rfl] at q'
        exact iteFc hb q'
    · have em : ((S.ws.take n).map V.int).isEmpty = false := by simpa using e0
      rw [show stallB S n = false by unfold stallB; rw [decide_eq_false e0]; rfl] at q'
      exact iteTc (by rw [em]; rfl) (iteT ⟨_, rfl, q'⟩)

theorem ok_iaccept (T : Tx K mg) : FnOk P w K mg base CX0 3 T.f_iaccept T.fd_iaccept P_iaccept (spLay (PipeAt T.C_Pipe T.C_IntoEnd T.C_OutEnd) (fun A => A.ei)) := by
  have G_play := ok_play (P := P) (w := w) (base := base) T
  have sz : sizeLine = 16777216 := sizeLine_eq
  refine T.D_iaccept.F.ok sc_iaccept (fun vs H Q E h => ?_) (fun cdv A outer s H vs Q E hr h => ?_)
  · obtain ⟨A, d, F, S, ds, rfl, _⟩ := h
    rfl
  · obtain ⟨A, d, F, S, ds, rfl, hPA, ok, hbo, nd, hd, ld, q⟩ := h
    refine ⟨_, (pss_one (ps_ret (pe_meth (pe_fld (pv 0) rfl) T.cl_Pipe T.D_play.m G_play (hr.mono (by decide)) T.bb_play .nil pass0 (pa_cons (pv 1) pa_nil)))), ?_⟩
    have hPA2 := hPA
    obtain ⟨dp, di, dq, vi, vo, G, I, hF⟩ := hPA2
    exact ⟨.ref A.ei, rfl, A.ei, T.C_IntoEnd, di, _, _, rfl, I.hi, T.cl_IntoEnd, T.n_IntoEnd_pipe, efs_pipe _ _ _ _, A.p, dp, _, rfl, I.hp, pifs_no _ _ _ _ "lay" (by decide +kernel), .ref d, rfl, A, d, F, S, ds, rfl, hPA, ok, hbo, nd, hd, ld, q⟩

theorem ok_ogive (T : Tx K mg) : FnOk P w K mg base CX0 3 T.f_ogive T.fd_ogive P_ogive (spLift (PipeAt T.C_Pipe T.C_IntoEnd T.C_OutEnd) (fun A => A.eo)) := by
  have G_plift := ok_plift (P := P) (w := w) (base := base) T
  have sz : sizeLine = 16777216 := sizeLine_eq
  refine T.D_ogive.F.ok sc_ogive (fun vs H Q E h => ?_) (fun cdv A outer s H vs Q E hr h => ?_)
  · obtain ⟨A, n, F, S, rfl, _⟩ := h
    rfl
  · obtain ⟨A, n, F, S, rfl, hPA, q⟩ := h
    refine ⟨_, (pss_one (ps_ret (pe_meth (pe_fld (pv 0) rfl) T.cl_Pipe T.D_plift.m G_plift (hr.mono (by decide)) T.bb_plift .nil pass0 (pa_cons (pv 1) pa_nil)))), ?_⟩
    have hPA2 := hPA
    obtain ⟨dp, di, dq, vi, vo, G, I, hF⟩ := hPA2
    exact ⟨.ref A.eo, rfl, A.eo, T.C_OutEnd, dq, _, _, rfl, I.ho, T.cl_OutEnd, T.n_OutEnd_pipe, efs_pipe _ _ _ _, A.p, dp, _, rfl, I.hp, pifs_no _ _ _ _ "lift" (by decide +kernel), .int n, rfl, A, n, F, S, rfl, hPA, q⟩

theorem ok_iput (T : Tx K mg) : FnOk P w K mg base CX0 4 T.f_iput T.fd_iput P_iput (spPut (PipeAt T.C_Pipe T.C_IntoEnd T.C_OutEnd)) := by
  have G_iopen := ok_iopen (P := P) (w := w) (base := base) T
  have G_imay := ok_imay (P := P) (w := w) (base := base) T
  have G_iaccept := ok_iaccept (P := P) (w := w) (base := base) T
  have G_inote := ok_inote (P := P) (w := w) (base := base) T
  have sz : sizeLine = 16777216 := sizeLine_eq
  refine T.D_iput.F.ok sc_iput (fun vs H Q E h => ?_) (fun cdv A outer s H vs Q E hr h => ?_)
  · obtain ⟨A, d, F, S, ds, rfl, _⟩ := h
    rfl
  · obtain ⟨A, d, F, S, ds, rfl, hPA, ok, hbi, hbo, hd, ld, q⟩ := h
    refine ⟨_, (pss_cons (ps_expr (pe_meth0 (pv 0) T.cl_IntoEnd T.D_iopen.m G_iopen (hr.mono (by decide)) T.bb_iopen .nil pass0))
      (pss_cons (ps_expr (pe_meth (pv 0) T.cl_IntoEnd T.D_imay.m G_imay (hr.mono (by decide)) T.bb_imay .nil pass0 (pa_cons (pv 1) pa_nil)))
      (pss_cons (ps_set (i := 2) sc_iput.nd rfl (.inl rfl) (pe_callTy call_list_of (by rfl) T.m_list (by decide +kernel) (pa_cons (pv 1) pa_nil)))
      (pss_cons (Sip.ps_try_calm (fun pn xe _ => (pss_one (ps_set (i := 3) sc_iput.nd rfl (.inl rfl) (pe_meth (pv 0) T.cl_IntoEnd T.D_iaccept.m G_iaccept (hr.mono (by decide)) T.bb_iaccept .nil pass0 (pa_cons (pv 2) pa_nil))))))
      (pss_cons (ps_if (pt_cmpR op_isN (pv 3) pe_non (nomark _)) (pss_cons (ps_expr (pe_meth (pv 0) T.cl_IntoEnd T.D_inote.m G_inote (hr.mono (by decide)) T.bb_inote .nil pass0 (pa_cons pe_str (pa_cons (pv 2) (pa_cons pe_str pa_nil)))))
      (pss_one (ps_ret pe_non))) pss_nil)
      (pss_cons (ps_expr (pe_meth (pv 0) T.cl_IntoEnd T.D_inote.m G_inote (hr.mono (by decide)) T.bb_inote .nil pass0 (pa_cons pe_str (pa_cons (pv 2) (pa_cons (pv 3) pa_nil)))))
      (pss_cons (ps_fldaug (pv 0) (pv 3) in_add)
      (pss_one (ps_ret (pv 3)))))))))), ?_⟩
    have hPA2 := hPA
    obtain ⟨dp, di, dq, vi, vo, G, I, hF⟩ := hPA2
    refine ⟨.ref A.ei, rfl, A.ei, di, _, rfl, I.hi, efs_no _ _ _ _ "check_open" (by decide +kernel), A, F, S, rfl, hPA, hbi, ?_⟩
    refine ⟨.ref A.ei, rfl, A.ei, di, _, rfl, I.hi, efs_no _ _ _ _ "may_put" (by decide +kernel), .ref d, rfl, A, _, F, S, rfl, hPA, ?_⟩
    refine ⟨.ref d, rfl, d, _, rfl, .inl (sq_at hd), fun h nh => ?_⟩
    have s1 : Same H (upd H h (.lst (ds.map V.int))) := (Kp.new (ps := []) nh).same
    have eh : (upd H h (.lst (ds.map V.int))) h = some (.lst (ds.map V.int)) := upd_same
    have nF := hPA.new nh
    generalize upd H h (.lst (ds.map V.int)) = H1 at s1 eh ⊢
    have hPA1 := hPA.same s1
    refine ⟨.ref A.ei, rfl, A.ei, di, _, rfl, s1 _ _ I.hi, efs_no _ _ _ _ "accept" (by decide +kernel), .ref h, rfl, A, h, F, S, ds, rfl, hPA1, ok, hbo, nF, eh, ld, fun H2 hPA2 st2 => ?_⟩
    have eh2 := (st2.keep nF eh).1
    have hPA2b := hPA2
    obtain ⟨dp2, di2, dq2, vi2, vo2, G2, I2, hF2⟩ := hPA2b
    have ok2 : PstOk (laidP S ds) := by
      obtain ⟨o1, o2, o3, o4⟩ := ok
      refine ⟨?_, o2, o3, o4⟩
      show (S.ws ++ fitF S ds).length ≤ S.R
      unfold fitF
      rw [List.length_append, List.length_take]; omega
    have stp := (Step.of (F := F) s1).trans st2
    by_cases e0 : fitF S ds = []
    · have eP : putP S ds = { laidP S ds with ni := S.ni ++ [⟨Str.ofString "put", S.si, .l ds, .s (Str.ofString "stall")⟩] } := by
        unfold putP laidP numT; rw [if_pos e0, e0]; rfl
      rw [eP, show numV (fitF S ds) = .non from if_pos e0] at q
      rw [show numV (fitF S ds) = .non from if_pos e0]
      refine ⟨.non, rfl, rfl, _, rfl, iteT ?_⟩
      refine ⟨.ref A.ei, rfl, A.ei, di2, _, rfl, I2.hi, efs_no _ _ _ _ "note" (by decide +kernel), .ref h, rfl, A, _, _, _, F, (fun b => b = h), laidP S ds, .l ds, .s (Str.ofString "stall"), rfl, hPA2, ok2, ⟨h, rfl, rfl, eh2⟩, rfl, ⟨(by decide +kernel : PyData.strOk (Str.ofString "put") = true), trivial, (by decide +kernel : PyData.strOk (Str.ofString "stall") = true)⟩, fun b z => by rw [show b = h from z]; exact nF, fun b z => ⟨.lst (ds.map V.int), by rw [show b = h from z]; exact eh2⟩, fun H3 F3 hPA3 k3 f3 => ?_⟩
      refine q _ F3 hPA3 ⟨fun b o nb e => k3 b o nb (stp.1 b o nb e), fun b z => ?_⟩
      rcases f3 b z with y | y | y
      · exact .inl y
      · exact .inr (by rw [show b = h from y]; exact nh)
      · by_cases fb : F b
        · exact .inl fb
        · cases e : H b with
          | none => exact .inr rfl
          | some o => rw [stp.1 b o fb e] at y; cases y
    · have eP : putP S ds = { laidP S ds with si := S.si + (fitF S ds).length, ni := S.ni ++ [⟨Str.ofString "put", S.si, .l ds, .i (fitF S ds).length⟩] } := by
        unfold putP laidP numT; rw [if_neg e0]
      rw [eP, show numV (fitF S ds) = .int (fitF S ds).length from if_neg e0] at q
      rw [show numV (fitF S ds) = .int (fitF S ds).length from if_neg e0]
      refine ⟨.int (fitF S ds).length, rfl, rfl, _, rfl, iteFc (by rfl) ?_⟩
      refine ⟨.ref A.ei, rfl, A.ei, di2, _, rfl, I2.hi, efs_no _ _ _ _ "note" (by decide +kernel), .ref h, rfl, .int (fitF S ds).length, rfl, A, _, _, _, F, (fun b => b = h), laidP S ds, .l ds, .i (fitF S ds).length, rfl, hPA2, ok2, ⟨h, rfl, rfl, eh2⟩, rfl, ⟨(by decide +kernel : PyData.strOk (Str.ofString "put") = true), trivial, trivial⟩, fun b z => by rw [show b = h from z]; exact nF, fun b z => ⟨.lst (ds.map V.int), by rw [show b = h from z]; exact eh2⟩, fun H3 F3 hPA3 k3 f3 => ?_⟩
      obtain ⟨dp3, di3, dq3, vi3, vo3, G3, I3, hF3⟩ := hPA3
      refine ⟨.ref A.ei, rfl, A.ei, T.C_IntoEnd, di3, _, _, rfl, I3.hi, T.cl_IntoEnd, T.n_IntoEnd_spot, efs_spot _ _ _ _, .int (fitF S ds).length, rfl, _, _, rfl, rfl, di3, _, I3.hi, efs_few _ _ _ _, ?_⟩
      rw [show (V.int (((laidP S ds).si : Int) + ((fitF S ds).length : Int))) = V.int ((S.si + (fitF S ds).length : Nat) : Int) from rfl, efs_put_s]
      refine ⟨_, rfl, q _ F3 ⟨dp3, di3, dq3, vi3, vo3, G3, I3.seti _ _, hF3⟩ ?_⟩
      have own : Own6 A A.ei := .inr (.inr (.inl rfl))
      refine ⟨fun b o nb e => ?_, fun b z => ?_⟩
      · have nb2 : ¬ F3 b := fun z => by
          rcases f3 b z with y | y | y
          · exact nb y
          · rw [show b = h from y, nh] at e; cases e
          · rw [stp.1 b o nb e] at y; cases y
        rw [upd_ne (fun z => nb2 ((hF3 b).mpr (.inl (by rw [z]; exact own))))]
        exact k3 b o nb (stp.1 b o nb e)
      · rcases f3 b z with y | y | y
        · exact .inl y
        · exact .inr (by rw [show b = h from y]; exact nh)
        · by_cases fb : F b
          · exact .inl fb
          · cases e : H b with
            | none => exact .inr rfl
            | some o => rw [stp.1 b o fb e] at y; cases y

theorem ok_otake (T : Tx K mg) : FnOk P w K mg base CX0 4 T.f_otake T.fd_otake P_otake (spTakeO (PipeAt T.C_Pipe T.C_IntoEnd T.C_OutEnd)) := by
  have G_oopen := ok_oopen (P := P) (w := w) (base := base) T
  have G_omay := ok_omay (P := P) (w := w) (base := base) T
  have G_ogive := ok_ogive (P := P) (w := w) (base := base) T
  have G_onote := ok_onote (P := P) (w := w) (base := base) T
  have sz : sizeLine = 16777216 := sizeLine_eq
  refine T.D_otake.F.ok sc_otake (fun vs H Q E h => ?_) (fun cdv A outer s H vs Q E hr h => ?_)
  · obtain ⟨A, n, F, S, rfl, _⟩ := h
    rfl
  · obtain ⟨A, n, F, S, rfl, hPA, ok, hbo, q⟩ := h
    refine ⟨_, (pss_cons (ps_expr (pe_meth0 (pv 0) T.cl_OutEnd T.D_oopen.m G_oopen (hr.mono (by decide)) T.bb_oopen .nil pass0))
      (pss_cons (ps_expr (pe_meth0 (pv 0) T.cl_OutEnd T.D_omay.m G_omay (hr.mono (by decide)) T.bb_omay .nil pass0))
      (pss_cons (Sip.ps_try_calm (fun pn xe _ => (pss_one (ps_set (i := 2) sc_otake.nd rfl (.inl rfl) (pe_meth (pv 0) T.cl_OutEnd T.D_ogive.m G_ogive (hr.mono (by decide)) T.bb_ogive .nil pass0 (pa_cons (pv 1) pa_nil))))))
      (pss_cons (ps_if (pt_cmpR op_isN (pv 2) pe_non (nomark _)) (pss_cons (ps_expr (pe_meth (pv 0) T.cl_OutEnd T.D_onote.m G_onote (hr.mono (by decide)) T.bb_onote .nil pass0 (pa_cons pe_str (pa_cons (pv 1) (pa_cons pe_str pa_nil)))))
      (pss_one (ps_ret pe_non))) pss_nil)
      (pss_cons (ps_expr (pe_meth (pv 0) T.cl_OutEnd T.D_onote.m G_onote (hr.mono (by decide)) T.bb_onote .nil pass0 (pa_cons pe_str (pa_cons (pv 1) (pa_cons (pe_callTy call_list_of (by rfl) T.m_list (by decide +kernel) (pa_cons (pv 2) pa_nil)) pa_nil)))))
      (pss_cons (ps_fldaug (pv 0) (pe_callB call_len_seq (by rfl) T.m_len PySem.boot_len (pa_cons (pv 2) pa_nil)) in_add)
      (pss_one (ps_ret (pv 2))))))))), ?_⟩
    have hPA2 := hPA
    obtain ⟨dp, di, dq, vi, vo, G, I, hF⟩ := hPA2
    refine ⟨.ref A.eo, rfl, A.eo, dq, _, rfl, I.ho, efs_no _ _ _ _ "check_open" (by decide +kernel), A, F, S, rfl, hPA, hbo, ?_⟩
    refine ⟨.ref A.eo, rfl, A.eo, dq, _, rfl, I.ho, efs_no _ _ _ _ "may_take" (by decide +kernel), A, F, S, rfl, hPA, ?_⟩
    refine ⟨.ref A.eo, rfl, A.eo, dq, _, rfl, I.ho, efs_no _ _ _ _ "give" (by decide +kernel), .int n, rfl, A, n, F, S, rfl, hPA, fun H2 q2 hPA2 nq2 eq2 st2 => ?_⟩
    have hPA2b := hPA2
    obtain ⟨dp2, di2, dq2, vi2, vo2, G2, I2, hF2⟩ := hPA2b
    have ok2 : PstOk (liftP S n) := by
      obtain ⟨o1, o2, o3, o4⟩ := ok
      refine ⟨?_, o2, o3, o4⟩
      show (S.ws.drop n).length ≤ S.R
      rw [List.length_drop]; omega
    have nF2 := hPA.new nq2
    cases hs : stallB S n with
    | true =>
      have e0 : S.ws.take n = [] := by
        unfold stallB at hs
        rw [Bool.and_eq_true] at hs
        exact of_decide_eq_true hs.1
      have eP : takeP S n = { liftP S n with no := S.no ++ [⟨Str.ofString "take", S.so, .i n, .s (Str.ofString "stall")⟩] } := by
        unfold takeP liftP; rw [hs, e0]; rfl
      rw [eP, hs] at q
      refine ⟨.non, rfl, rfl, _, rfl, iteT ?_⟩
      refine ⟨.ref A.eo, rfl, A.eo, dq2, _, rfl, I2.ho, efs_no _ _ _ _ "note" (by decide +kernel), .int n, rfl, A, _, _, _, F, (fun _ => False), liftP S n, .i n, .s (Str.ofString "stall"), rfl, hPA2, ok2, rfl, rfl, ⟨(by decide +kernel : PyData.strOk (Str.ofString "take") = true), trivial, (by decide +kernel : PyData.strOk (Str.ofString "stall") = true)⟩, fun b z => z.elim, fun b z => z.elim, fun H3 F3 hPA3 k3 f3 => ?_⟩
      refine q _ F3 q2 hPA3 nq2 (k3 _ _ nF2 eq2) (fun z => ?_) ⟨fun b o nb e => k3 b o nb (st2.1 b o nb e), fun b z => ?_⟩
      · rcases f3 q2 z with y | y | y
        · exact nF2 y
        · exact y
        · rw [eq2] at y; cases y
      · rcases f3 b z with y | y | y
        · exact .inl y
        · exact y.elim
        · by_cases fb : F b
          · exact .inl fb
          · cases e : H b with
            | none => exact .inr rfl
            | some o => rw [st2.1 b o fb e] at y; cases y
    | false =>
      have eP : takeP S n = { liftP S n with so := S.so + (S.ws.take n).length, no := S.no ++ [⟨Str.ofString "take", S.so, .i n, .l (S.ws.take n)⟩] } := by
        unfold takeP liftP; rw [hs]; rfl
      rw [eP, hs] at q
      refine ⟨.ref q2, rfl, rfl, _, rfl, iteFc (by rfl) ?_⟩
      refine ⟨.ref A.eo, rfl, A.eo, dq2, _, rfl, I2.ho, efs_no _ _ _ _ "note" (by decide +kernel), .int n, rfl, .ref q2, rfl, q2, _, rfl, .inl (sq_at eq2), fun z nz => ?_⟩
      have s3 : Same H2 (upd H2 z (.lst ((S.ws.take n).map V.int))) := (Kp.new (ps := []) nz).same
      have ez : (upd H2 z (.lst ((S.ws.take n).map V.int))) z = some (.lst ((S.ws.take n).map V.int)) := upd_same
      generalize upd H2 z (.lst ((S.ws.take n).map V.int)) = Hz at s3 ez ⊢
      have nFz := hPA2.new nz
      have zq : q2 ≠ z := ne_of_none eq2 nz
      have stz := st2.trans (Step.of s3)
      refine ⟨A, _, _, _, F, (fun b => b = z), liftP S n, .i n, .l (S.ws.take n), rfl, hPA2.same s3, ok2, rfl, ⟨z, rfl, rfl, ez⟩, ⟨(by decide +kernel : PyData.strOk (Str.ofString "take") = true), trivial, trivial⟩, fun b y => by rw [show b = z from y]; exact nFz, fun b y => ⟨.lst ((S.ws.take n).map V.int), by rw [show b = z from y]; exact ez⟩, fun H3 F3 hPA3 k3 f3 => ?_⟩
      obtain ⟨dp3, di3, dq3, vi3, vo3, G3, I3, hF3⟩ := hPA3
      have nF3 : ¬ F3 q2 := fun y => by
        rcases f3 q2 y with y | y | y
        · exact nF2 y
        · exact zq y
        · rw [s3 _ _ eq2] at y; cases y
      have own : Own6 A A.eo := .inr (.inr (.inr (.inl rfl)))
      have qe : q2 ≠ A.eo := fun y => nF3 ((hF3 q2).mpr (.inl (by rw [y]; exact own)))
      have eq3 := k3 _ _ nF2 (s3 _ _ eq2)
      refine ⟨.ref A.eo, rfl, A.eo, T.C_OutEnd, dq3, _, _, rfl, I3.ho, T.cl_OutEnd, T.n_OutEnd_spot, efs_spot _ _ _ _, .ref q2, rfl, q2, _, rfl, .inl (sq_at eq3), _, _, rfl, rfl, dq3, _, I3.ho, efs_few _ _ _ _, ?_⟩
      rw [List.length_map, show (V.int (((liftP S n).so : Int) + ((S.ws.take n).length : Int))) = V.int ((S.so + (S.ws.take n).length : Nat) : Int) from rfl, efs_put_s]
      refine ⟨_, rfl, q _ F3 q2 ⟨dp3, di3, dq3, vi3, vo3, G3, I3.seto _ _, hF3⟩ nq2 (by rw [upd_ne qe]; exact eq3) nF3 ⟨fun b o nb e => ?_, fun b y => ?_⟩⟩
      · have nb2 : ¬ F3 b := fun y => by
          rcases f3 b y with y | y | y
          · exact nb y
          · rw [show b = z from y] at e nb; rw [st2.1 z o nb e] at nz; cases nz
          · rw [stz.1 b o nb e] at y; cases y
        rw [upd_ne (fun y => nb2 ((hF3 b).mpr (.inl (by rw [y]; exact own))))]
        exact k3 b o nb (stz.1 b o nb e)
      · have nw : ∀ x, H2 x = none → F x ∨ H x = none := fun x y => by
          by_cases fb : F x
          · exact .inl fb
          · cases e : H x with
            | none => exact .inr rfl
            | some o => rw [st2.1 x o fb e] at y; cases y
        rcases f3 b y with y | y | y
        · exact .inl y
        · rw [show b = z from y]; exact nw z nz
        · exact nw b (s3.free y)

theorem ok_pinit (T : Tx K mg) : FnOk P w K mg base CX0 4 T.f_pinit T.fd_pinit P_pinit (spPiInit T.C_Pipe (PipeAt T.C_Pipe T.C_IntoEnd T.C_OutEnd)) := by
  have G_croom := ok_croom (P := P) (w := w) (base := base) T
  have G_iinit := ok_iinit (P := P) (w := w) (base := base) T
  have G_oinit := ok_oinit (P := P) (w := w) (base := base) T
  have sz : sizeLine = 16777216 := sizeLine_eq
  refine T.D_pinit.F.ok sc_pinit (fun vs H Q E h => ?_) (fun cdv A outer s H vs Q E hr h => ?_)
  · obtain ⟨p, dx, R, rfl, _⟩ := h
    rfl
  · obtain ⟨p, dx, R, rfl, hp, r1, r2, q⟩ := h
    refine ⟨_, (pss_cons (ps_expr (pe_call G_croom (hr.mono (by decide)) (by rfl) T.D_croom.g T.D_croom.F.kp T.bb_croom .nil pass0 (pa_cons (pv 1) pa_nil)))
      (pss_cons (ps_fld (pv 0) (pv 1) rfl)
      (pss_cons (ps_fld (pv 0) (pe_lst pa_nil) rfl)
      (pss_cons (ps_fld (pv 0) (pe_make T.mk_IntoEnd G_iinit (hr.mono (by decide)) (by rfl) T.g_IntoEnd T.bb_iinit .nil pass0 (pa_cons (pv 0) pa_nil)) rfl)
      (pss_one (ps_fld (pv 0) (pe_make T.mk_OutEnd G_oinit (hr.mono (by decide)) (by rfl) T.g_OutEnd T.bb_oinit .nil pass0 (pa_cons (pv 0) pa_nil)) rfl)))))), ?_⟩
    refine ⟨.int R, rfl, R, rfl, by omega, by omega, ?_⟩
    refine ⟨.int R, rfl, .ref p, rfl, p, T.C_Pipe, dx, [], rfl, hp, T.cl_Pipe, T.n_Pipe_room, by show 0 < 1000; decide, ?_⟩
    refine ⟨by show (0 : Nat) ≤ sizeLine; omega, fun w nw => ?_⟩
    have pw : w ≠ p := fun z => by rw [z, upd_same] at nw; cases nw
    have nw0 : H w = none := by rw [upd_ne pw] at nw; exact nw
    refine ⟨.ref p, rfl, p, T.C_Pipe, dx, _, rfl, by rw [upd_ne pw.symm]; exact upd_same, T.cl_Pipe, T.n_Pipe_within, by show 1 < 1000; decide, ?_⟩
    generalize hA : upd (upd (upd H p _) w _) p _ = Ha
    have epa : Ha p = some (.ins T.C_Pipe dx (putF ("within" : Str) (.ref w) (putF ("room" : Str) (.int R) []))) := by rw [← hA]; exact upd_same
    have ewa : Ha w = some (.lst []) := by rw [← hA, upd_ne pw]; exact upd_same
    have ka : Kp [p] H Ha := fun b o nb e => by rw [← hA, upd_ne (by simpa using nb), upd_ne (ne_of_none e nw0), upd_ne (by simpa using nb)]; exact e
    clear hA
    have back : ∀ {b}, Ha b = none → H b = none := fun {b} e => by
      cases h : H b with
      | none => rfl
      | some o =>
        by_cases z : b = p
        · rw [z, epa] at e; cases e
        · rw [ka b o (by simpa using z) h] at e; cases e
    refine ⟨.ref p, rfl, fun ei di nei ndi nde => ?_⟩
    have pe : p ≠ ei := ne_of_none epa nei
    have pd : p ≠ di := ne_of_none epa ndi
    have we : w ≠ ei := ne_of_none ewa nei
    have wd : w ≠ di := ne_of_none ewa ndi
    refine ⟨ei, p, di, rfl, upd_same, fun H1 li nli eli eei k1 => ⟨rfl, ?_⟩⟩
    have le : li ≠ ei := fun z => by rw [z, upd_same] at nli; cases nli
    have ld : li ≠ di := fun z => by rw [z, upd_ne nde, upd_same] at nli; cases nli
    have nlia : Ha li = none := by rw [upd_ne le, upd_ne ld] at nli; exact nli
    have s1 : Same Ha H1 := fun b o e => k1 b o (by simpa using ne_of_none e nei) (by rw [upd_ne (ne_of_none e nei), upd_ne (ne_of_none e ndi)]; exact e)
    refine ⟨.ref p, rfl, p, T.C_Pipe, dx, _, rfl, s1 _ _ epa, T.cl_Pipe, T.n_Pipe_into_end, by show 2 < 1000; decide, ?_⟩
    have lp : li ≠ p := (ne_of_none epa nlia).symm
    have lw : li ≠ w := (ne_of_none ewa nlia).symm
    generalize hB : upd H1 p _ = Hb
    have epb : Hb p = some (.ins T.C_Pipe dx (putF ("into_end" : Str) (.ref ei) (putF ("within" : Str) (.ref w) (putF ("room" : Str) (.int R) [])))) := by rw [← hB]; exact upd_same
    have kb : Kp [p] Ha Hb := fun b o nb e => by rw [← hB, upd_ne (by simpa using nb)]; exact s1 b o e
    have ewb : Hb w = some (.lst []) := kb _ _ (by simpa using pw) ewa
    have elb : Hb li = some (.lst []) := by rw [← hB, upd_ne lp]; exact eli
    have eeb : Hb ei = some (.ins T.C_IntoEnd di (efs 0 false li p)) := by rw [← hB, upd_ne pe.symm]; exact eei
    clear hB
    have backb : ∀ {b}, Hb b = none → Ha b = none := fun {b} e => by
      cases h : Ha b with
      | none => rfl
      | some o =>
        by_cases z : b = p
        · rw [z, epb] at e; cases e
        · rw [kb b o (by simpa using z) h] at e; cases e
    refine ⟨.ref p, rfl, fun eo dq neo ndq ndo => ?_⟩
    have pe2 : p ≠ eo := ne_of_none epb neo
    have we2 : w ≠ eo := ne_of_none ewb neo
    have le2 : li ≠ eo := ne_of_none elb neo
    have ee2 : ei ≠ eo := ne_of_none eeb neo
    refine ⟨eo, p, dq, rfl, upd_same, fun H2 lo nlo elo eeo k2 => ⟨rfl, ?_⟩⟩
    have loe : lo ≠ eo := fun z => by rw [z, upd_same] at nlo; cases nlo
    have lod : lo ≠ dq := fun z => by rw [z, upd_ne ndo, upd_same] at nlo; cases nlo
    have nlob : Hb lo = none := by rw [upd_ne loe, upd_ne lod] at nlo; exact nlo
    have s2 : Same Hb H2 := fun b o e => k2 b o (by simpa using ne_of_none e neo) (by rw [upd_ne (ne_of_none e neo), upd_ne (ne_of_none e ndq)]; exact e)
    refine ⟨.ref p, rfl, p, T.C_Pipe, dx, _, rfl, s2 _ _ epb, T.cl_Pipe, T.n_Pipe_out_end, by show 3 < 1000; decide, ?_⟩
    rw [pifs_new]
    have lop : lo ≠ p := (ne_of_none epb nlob).symm
    refine q _ ⟨p, w, ei, eo, li, lo⟩ _ rfl ⟨dx, di, dq, [], [], fun _ => False, ⟨upd_same, by show (upd H2 p _) w = _; rw [upd_ne pw]; exact s2 _ _ ewb, by show (upd H2 p _) ei = _; rw [upd_ne pe.symm]; exact s2 _ _ eeb, by show (upd H2 p _) eo = _; rw [upd_ne pe2.symm]; exact eeo, by show (upd H2 p _) li = _; rw [upd_ne lp]; exact s2 _ _ elb, by show (upd H2 p _) lo = _; rw [upd_ne lop]; exact elo, trivial, trivial, fun _ z => z.elim, fun _ z => z.elim, pe, pe2, ee2, lw.symm, (ne_of_none ewb nlob), (ne_of_none elb nlob)⟩, fun b => Iff.rfl⟩ ⟨fun b o nb e => ?_, fun b z => ?_⟩
    · have bp : b ≠ p := fun y => nb (.inl y)
      rw [upd_ne bp]
      exact s2 _ _ (kb b o (by simpa using bp) (ka b o (by simpa using bp) e))
    · rcases z with (z | z | z | z | z | z) | z
      · exact .inl (.inl z)
      · exact .inr (by rw [show b = w from z]; exact nw0)
      · exact .inr (by rw [show b = ei from z]; exact back nei)
      · exact .inr (by rw [show b = eo from z]; exact back (backb neo))
      · exact .inr (by rw [show b = li from z]; exact back nlia)
      · exact .inr (by rw [show b = lo from z]; exact back (backb nlob))
      · exact z.elim

theorem ok_lrow (T : Tx K mg) : FnOk P w K mg base CX0 2 T.f_lrow T.fd_lrow P_lrow (spRowL) := by
  have G_take := ok_take (P := P) (w := w) (base := base) T
  have sz : sizeLine = 16777216 := sizeLine_eq
  refine T.D_lrow.F.ok sc_lrow (fun vs H Q E h => ?_) (fun cdv A outer s H vs Q E hr h => ?_)
  · obtain ⟨p, n, N, o, rfl, _⟩ := h
    rfl
  · obtain ⟨p, n, N, o, rfl, hp, hP, n9, N0, N1, q⟩ := h
    refine ⟨_, (pss_cons (ps_set (i := 2) sc_lrow.nd rfl (.inl rfl) (pe_lst pa_nil))
      (pss_cons (ps_for PassesOwn.never rfl (pi_range1 (by rfl) T.m_range (pa_cons (pe_call G_take (hr.mono (by decide)) (by rfl) T.D_take.g T.D_take.F.kp T.bb_take .nil pass0 (pa_cons (pv 0) (pa_cons (pe_op op_add (pv 1) pe_int) pa_nil))) pa_nil)) (pg_name (i := 3) sc_lrow.nd rfl (.inl rfl)) (pss_cons (ps_set (i := 4) sc_lrow.nd rfl (.inl rfl) (pe_call G_take (hr.mono (by decide)) (by rfl) T.D_take.g T.D_take.F.kp T.bb_take .nil pass0 (pa_cons (pv 0) (pa_cons pe_int pa_nil))))
      (pss_one (ps_if (pt_cmpR op_lt (pv 4) pe_int (nomark _)) (pss_one (ps_expr (pe_bm PySem.F.plainAttrs_list PySem.F.slot_list_append PySem.F.type_list_append mt_append (pv 2) (pa_cons (pe_ix ix_list (pe_lst (pa_cons pe_int (pa_cons pe_int (pa_cons pe_int (pa_cons pe_int (pa_cons pe_int pa_nil)))))) (pv 4) (fun _ _ => rfl)) pa_nil)))) (pss_one (ps_expr (pe_bm PySem.F.plainAttrs_list PySem.F.slot_list_append PySem.F.type_list_append mt_append (pv 2) (pa_cons (pe_call G_take (hr.mono (by decide)) (by rfl) T.D_take.g T.D_take.F.kp T.bb_take .nil pass0 (pa_cons (pv 0) (pa_cons pe_int pa_nil))) pa_nil))))))))
      (pss_one (ps_ret (pv 2))))), ?_⟩
    refine ⟨Nat.zero_le _, fun a na => ?_⟩
    have pa : p ≠ a := ne_of_none hp na
    have s1 : Same H (upd H a (.lst [])) := (Kp.new (ps := []) na).same
    refine ⟨.ref p, rfl, .int N, rfl, _, _, rfl, rfl, p, n, _, o, rfl, s1 _ _ hp, hP, by omega, by omega, by omega, fun z o1 r0 r1 hP1 => ?_⟩
    have k2 : Kp [p] H (upd (upd H a (.lst [])) p o1) := (Kp.new na).trans (Kp.at (by simp))
    refine ⟨z, rfl, by omega, by omega, for_range (lo := 0) (n := z.toNat) (fun i σ H' => ∃ (bs : List Int) (o2 : HO) (y y' : Option V), σ = [some (.ref p), some (.int N), some (.ref a), y, y'] ∧ H' a = some (.lst (bs.map V.int)) ∧ bs.length = i ∧ Bytes bs ∧ H' p = some o2 ∧ PoolO (n + 1 + 2 * i) o2 ∧ Kp [p] H H') ?_ (fun i σ H' hi hW => ?_) (fun σ H' hW => ?_)⟩
    · exact ⟨[], o1, none, none, rfl, by rw [upd_ne pa.symm]; exact upd_same, rfl, fun b hb => by simp at hb, upd_same, hP1.up (by omega), k2⟩
    · obtain ⟨bs, o2, y, y', rfl, ea, eb, hb, ep, hP2, kk⟩ := hW
      have fit : (bs.map V.int).length < sizeLine := by rw [List.length_map]; exact small1000 (by omega)
      refine ⟨.ref p, rfl, p, _, 8, o2, rfl, ep, hP2, by omega, by decide, by decide, fun r2 o3 w0 w1 hP3 => ?_⟩
      have ea3 : (upd H' p o3) a = some (.lst (bs.map V.int)) := by rw [upd_ne pa.symm]; exact ea
      have k3 : Kp [p] H (upd H' p o3) := kk.trans (Kp.at (by simp))
      refine ⟨.int r2, rfl, _, _, rfl, rfl, _, rfl, ite2 (fun e => ?_) (fun e => ?_)⟩
      · have e5 : r2 < 5 := of_decide_eq_true e
        refine ⟨.ref a, rfl, .inl ⟨rfl, _, sq_at ea3⟩, by show (5 : Nat) ≤ sizeLine; decide, fun l2 nl2 => ?_⟩
        have pl2 : p ≠ l2 := ne_of_none (upd_same : (upd H' p o3) p = some o3) nl2
        have al2 : a ≠ l2 := ne_of_none ea3 nl2
        obtain ⟨v, mv, ev, _⟩ := atI_int (ms := [0, 10, 10, 13, 255]) (i := r2) w0 e5
        have vb : 0 ≤ v ∧ v ≤ 255 := (show ∀ y ∈ ([0, 10, 10, 13, 255] : List Int), 0 ≤ y ∧ y ≤ 255 by decide) v mv
        refine ⟨_, rfl, l2, _, r2, .int v, rfl, rfl, .inl (.inl (by rw [upd_same]; rfl)), ev, a, bs.map V.int, .int v, rfl, rfl, by rw [upd_ne al2]; exact ea3, fit, ?_⟩
        refine ⟨bs ++ [v], o3, _, _, rfl, by rw [upd_same, List.map_append]; rfl, by rw [List.length_append, eb]; rfl, ?_, by rw [upd_ne pa, upd_ne pl2]; exact upd_same, hP3.up (by omega), (k3.trans (Kp.new nl2)).put na⟩
        intro b hb2
        rcases List.mem_append.mp hb2 with hb3 | hb3
        · exact hb b hb3
        · rw [List.mem_singleton.mp hb3]; exact vb
      · refine ⟨.ref a, rfl, .inl ⟨rfl, _, sq_at ea3⟩, .ref p, rfl, p, _, 256, o3, rfl, upd_same, hP3, by omega, by decide, by decide, fun v o4 t0 t1 hP4 => ?_⟩
        refine ⟨a, bs.map V.int, .int v, rfl, rfl, by rw [upd_ne pa.symm]; exact ea3, fit, ?_⟩
        refine ⟨bs ++ [v], o4, _, _, rfl, by rw [upd_same, List.map_append]; rfl, by rw [List.length_append, eb]; rfl, ?_, by rw [upd_ne pa]; exact upd_same, hP4.up (by omega), (k3.trans (Kp.at (by simp))).put na⟩
        intro b hb2
        rcases List.mem_append.mp hb2 with hb3 | hb3
        · exact hb b hb3
        · rw [List.mem_singleton.mp hb3]; exact ⟨t0, by omega⟩
    · obtain ⟨bs, o2, y, y', rfl, ea, eb, hb, ep, hP2, kk⟩ := hW
      exact ⟨.ref a, rfl, q H' a bs o2 na ea ep (hP2.up (by omega)) kk (by omega) hb⟩

theorem ok_idown (T : Tx K mg) : FnOk P w K mg base CX0 1 T.f_idown T.fd_idown P_idown (spDown (PipeAt T.C_Pipe T.C_IntoEnd T.C_OutEnd)) := by
  have sz : sizeLine = 16777216 := sizeLine_eq
  refine T.D_idown.F.ok sc_idown (fun vs H Q E h => ?_) (fun cdv A outer s H vs Q E hr h => ?_)
  · obtain ⟨A, F, S, rfl, _⟩ := h
    rfl
  · obtain ⟨A, F, S, rfl, ⟨dp, di, dq, vi, vo, G, I, hF⟩, q⟩ := h
    refine ⟨_, (pss_one (ps_fld (pv 0) pe_bl rfl)), ?_⟩
    refine ⟨.ref A.ei, rfl, A.ei, T.C_IntoEnd, di, _, rfl, I.hi, T.cl_IntoEnd, T.n_IntoEnd_barred, efs_few _ _ _ _, ?_⟩
    rw [efs_put_b]
    exact q _ ⟨dp, di, dq, vi, vo, G, I.seti _ _, hF⟩ (own_one hF (.inr (.inr (.inl rfl))))

theorem ok_lput (T : Tx K mg) : FnOk P w K mg base CX0 5 T.f_lput T.fd_lput P_lput (spLPut (PipeAt T.C_Pipe T.C_IntoEnd T.C_OutEnd)) := by
  have G_pheld := ok_pheld (P := P) (w := w) (base := base) T
  have G_pinto := ok_pinto (P := P) (w := w) (base := base) T
  have G_iput := ok_iput (P := P) (w := w) (base := base) T
  have sz : sizeLine = 16777216 := sizeLine_eq
  refine T.D_lput.F.ok sc_lput (fun vs H Q E h => ?_) (fun cdv A outer s H vs Q E hr h => ?_)
  · obtain ⟨ps, j, n, c, p, hn, hs, xs, x, rfl, _⟩ := h
    rfl
  · obtain ⟨ps, j, n, c, p, hn, hs, xs, x, rfl, C0, hj, hx, sx, c9, hbi, lx, q⟩ := h
    refine ⟨_, (pss_cons (ps_set (i := 5) sc_lput.nd rfl (.inl rfl) (pe_meth0 (pv 0) T.cl_Pipe T.D_pheld.m G_pheld (hr.mono (by decide)) T.bb_pheld .nil pass0))
      (pss_cons (ps_set (i := 6) sc_lput.nd rfl (.inl rfl) (pe_slice sl_list (pe_ix ix_list (pv 2) (pv 3) (fun _ _ => rfl)) po_none (po_some (pv 4))))
      (pss_cons (ps_if (pt_cmpR op_eq (pe_callB call_len_seq (by rfl) T.m_len PySem.boot_len (pa_cons (pv 6) pa_nil)) pe_int (nomark _)) (pss_one (ps_ret pe_bl)) pss_nil)
      (pss_cons (ps_set (i := 7) sc_lput.nd rfl (.inl rfl) (pe_meth (pe_meth0 (pv 0) T.cl_Pipe T.D_pinto.m G_pinto (hr.mono (by decide)) T.bb_pinto .nil pass0) T.cl_IntoEnd T.D_iput.m G_iput (hr.mono (by decide)) T.bb_iput .nil pass0 (pa_cons (pe_callTy call_list_of (by rfl) T.m_list (by decide +kernel) (pa_cons (pv 6) pa_nil)) pa_nil)))
      (pss_cons (ps_set (i := 8) sc_lput.nd rfl (.inl rfl) (pe_slice sl_list (pv 6) po_none (po_some (pe_op op_sub (pv 1) (pe_callB call_len_seq (by rfl) T.m_len PySem.boot_len (pa_cons (pv 5) pa_nil))))))
      (pss_cons (ps_asg (pe_slice sl_list (pe_ix ix_list (pv 2) (pv 3) (fun _ _ => rfl)) (po_some (pe_callB call_len_seq (by rfl) T.m_len PySem.boot_len (pa_cons (pv 8) pa_nil))) po_none) (pg_sub (pv 2) (pv 3) set_list))
      (pss_cons (ps_if (pt_cmpR op_eq (pe_callB call_len_seq (by rfl) T.m_len PySem.boot_len (pa_cons (pv 8) pa_nil)) pe_int (nomark _)) (pss_one (ps_ret (pe_and (pe_cmpR op_isN (pv 7) pe_non (nomark _)) (pe_one (pe_cmpR (op_eqI hr.units) (pe_meth0 (pv 0) T.cl_Pipe T.D_pheld.m G_pheld (hr.mono (by decide)) T.bb_pheld .nil pass0) (pv 5) (nomark _)))))) pss_nil)
      (pss_one (ps_ret (pe_and (pe_cmpR op_eq (pv 7) (pe_callB call_len_seq (by rfl) T.m_len PySem.boot_len (pa_cons (pv 8) pa_nil)) (nomark _)) (pe_one (pe_cmpR (op_eqI hr.units) (pe_meth0 (pv 0) T.cl_Pipe T.D_pheld.m G_pheld (hr.mono (by decide)) T.bb_pheld .nil pass0) (pe_op op_cat (pv 5) (pv 8)) (nomark _))))))))))))), ?_⟩
    have hPA := C0.p.p p (List.mem_of_getElem? hj)
    have hPAb := hPA
    obtain ⟨dp, di, dq, vi, vo, G, I, hF⟩ := hPAb
    have ok := sx.ok (by omega)
    have jl := (List.getElem?_eq_some_iff.mp hx).1
    obtain ⟨a, ha⟩ : ∃ a, hs[j]? = some a := ⟨_, List.getElem?_eq_getElem (by have := C0.l; omega)⟩
    refine ⟨.ref p.A.p, rfl, p.A.p, dp, _, rfl, I.hp, pifs_no _ _ _ _ "held" (by decide +kernel), p.A, p.F, _, rfl, hPA, fun H1 hd nhd ehd s1 => ?_⟩
    have C1 := C0.same s1
    refine ⟨_, rfl, _, rfl, hn, _, _, .ref a, rfl, rfl, sq_at C1.h, atI_nat (by rw [List.getElem?_map, ha]; rfl), _, rfl, _, rfl, a, _, rfl, sq_at (C1.e j a x ha hx), fun sm nsm => ?_⟩
    rw [take_cut]
    have c1 := updG (o := HO.lst ((x.take n).map V.int)) rfl nsm
    generalize upd H1 sm (HO.lst ((x.take n).map V.int)) = H2 at c1 ⊢
    obtain ⟨esm, s2⟩ := c1
    have s02 := s1.trans s2
    refine ⟨.ref sm, rfl, sm, _, rfl, .inl (sq_at esm), rfl, _, rfl, ?_⟩
    rw [List.length_map]
    by_cases e0 : x.take n = []
    · refine iteTc (by rw [e0]; rfl) ?_
      have h1 : ps.set j ⟨p.A, p.F, p.S⟩ = ps := by
        apply List.ext_getElem?
        intro i
        rw [List.getElem?_set]
        by_cases ij : j = i
        · subst ij; rw [if_pos rfl, if_pos (by have := (List.getElem?_eq_some_iff.mp hj).1; exact this), hj]
        · rw [if_neg ij]
      have h2 : xs.set j x = xs := by
        apply List.ext_getElem?
        intro i
        rw [List.getElem?_set]
        by_cases ij : j = i
        · subst ij; rw [if_pos rfl, if_pos jl, hx]
        · rw [if_neg ij]
      exact q _ p.F hs p.S x (by rw [h1, h2]; exact C0.same s02) (.inl ⟨e0, rfl, rfl⟩) (by rw [h1]; exact Fr.same s02)
    have lp := List.length_pos_iff.mpr e0
    refine iteFc (decide_eq_false (fun z => by have := V.int.inj z; omega)) ?_
    have ltk : (x.take n).length ≤ 1000 := by rw [List.length_take]; omega
    have hPA2 := hPA.same s02
    refine ⟨.ref p.A.p, rfl, p.A.p, dp, _, rfl, s02 _ _ I.hp, pifs_no _ _ _ _ "into" (by decide +kernel), p.A, p.F, _, rfl, hPA2, p.A.ei, di, _, rfl, s02 _ _ I.hi, efs_no _ _ _ _ "put" (by decide +kernel), .ref sm, rfl, sm, _, rfl, .inl (sq_at esm), fun h nh => ?_⟩
    have c3 := updG (o := HO.lst ((x.take n).map V.int)) rfl nh
    generalize upd H2 h (HO.lst ((x.take n).map V.int)) = H3 at c3 ⊢
    obtain ⟨eh, s3⟩ := c3
    have s03 := s02.trans s3
    refine ⟨p.A, h, p.F, p.S, x.take n, rfl, hPA.same s03, ok, hbi, sx.bo, eh, by omega, fun H4 F4 hPA4 st4 => ?_⟩
    have C4 := (C0.same s03).pipe (S' := putP p.S (x.take n)) hj hPA4 st4
    have F04 := (Fr.same (ps := ps) (hn := hn) s03).trans (Fr.pipe (S' := putP p.S (x.take n)) (C0.same s03) hj st4)
    have keep : ∀ b o, H b = none → H3 b = some o → H4 b = some o ∧ ¬ F4 b := fun b o nb e => st4.keep (hPA.new nb) e
    have nsm0 : H sm = none := s1.free nsm
    obtain ⟨esm4, _⟩ := keep sm _ nsm0 (s3 _ _ esm)
    obtain ⟨ehd4, _⟩ := keep hd _ nhd (s3 _ _ (s2 _ _ ehd))
    generalize hps : ps.set j ⟨p.A, F4, putP p.S (x.take n)⟩ = ps4 at C4 F04
    refine ⟨_, rfl, _, rfl, _, rfl, hd, _, rfl, .inl (sq_at ehd4), _, _, rfl, rfl, _, rfl, sm, _, rfl, sq_at esm4, fun f nf => ?_⟩
    rw [List.length_map, show ((p.S.R : Int) - (p.S.ws.length : Int)) = ((p.S.R - p.S.ws.length : Nat) : Int) by have := sx.w; omega, take_cut, show List.take (p.S.R - p.S.ws.length) (x.take n) = fitF p.S (x.take n) from rfl]
    have c5 := updG (o := HO.lst ((fitF p.S (x.take n)).map V.int)) rfl nf
    generalize upd H4 f (HO.lst ((fitF p.S (x.take n)).map V.int)) = H5 at c5 ⊢
    obtain ⟨ef, s5⟩ := c5
    have C5 := C4.same s5
    refine ⟨_, rfl, _, rfl, hn, _, _, .ref a, rfl, rfl, sq_at C5.h, atI_nat (by rw [List.getElem?_map, ha]; rfl), .ref f, rfl, f, _, rfl, .inl (sq_at ef), _, rfl, a, _, rfl, sq_at (C5.e j a x ha hx), fun g ng => ?_⟩
    rw [List.length_map, drop_cut]
    have c6 := updG (o := HO.lst ((x.drop (fitF p.S (x.take n)).length).map V.int)) rfl ng
    generalize upd H5 g (HO.lst ((x.drop (fitF p.S (x.take n)).length).map V.int)) = H6 at c6 ⊢
    obtain ⟨eg, s6⟩ := c6
    have C6 := C5.same s6
    refine ⟨_, rfl, _, rfl, hn, _, _, j, rfl, rfl, C6.h, ixN_lt (by rw [List.length_map]; have := C0.l; omega), ?_⟩
    rw [map_set_ref]
    have gh : g ≠ hn := (ne_of_none C5.h ng).symm
    have C7 := C6.hand (j := j) eg gh (C5.p.new ng)
    have F07 := ((F04.trans (Fr.same s5)).trans (Fr.same s6)).trans (Fr.hand (o := .lst ((hs.set j g).map V.ref)))
    have fh : f ≠ hn := (ne_of_none C4.h nf).symm
    have hdh : hd ≠ hn := fun z => by rw [z, C0.h] at nhd; cases nhd
    have ef7 : (upd H6 hn (.lst ((hs.set j g).map V.ref))) f = some (.lst ((fitF p.S (x.take n)).map V.int)) := by rw [upd_ne fh]; exact s6 _ _ ef
    have ehd7 : (upd H6 hn (.lst ((hs.set j g).map V.ref))) hd = some (.lst (p.S.ws.map V.int)) := by rw [upd_ne hdh]; exact s6 _ _ (s5 _ _ ehd4)
    generalize upd H6 hn (.lst ((hs.set j g).map V.ref)) = H7 at C7 F07 ef7 ehd7 ⊢
    have hj7 : ps4[j]? = some ⟨p.A, F4, putP p.S (x.take n)⟩ := by
      rw [← hps, List.getElem?_set, if_pos rfl, if_pos (by have := (List.getElem?_eq_some_iff.mp hj).1; exact this)]
    have hPA7 := C7.p.p _ (List.mem_of_getElem? hj7)
    have hPA7b := hPA7
    obtain ⟨dp7, di7, dq7, vi7, vo7, G7, I7, hF7⟩ := hPA7b
    have fin : ∀ H8, Same H7 H8 → Q (.bl true) H8 := fun H8 s8 => q H8 F4 (hs.set j g) (putP p.S (x.take n)) _ (by rw [hps]; exact C7.same s8) (.inr ⟨e0, rfl, rfl⟩) (by rw [hps]; exact F07.trans (Fr.same s8))
    refine ⟨.ref f, rfl, f, _, rfl, .inl (sq_at ef7), rfl, _, rfl, ?_⟩
    rw [List.length_map]
    by_cases f0 : fitF p.S (x.take n) = []
    · refine iteTc (by rw [f0]; rfl) ?_
      rw [show numV (fitF p.S (x.take n)) = .non from if_pos f0]
      refine ⟨_, rfl, rfl, true, rfl, iteT ?_⟩
      refine ⟨.ref p.A.p, rfl, p.A.p, dp7, _, rfl, I7.hp, pifs_no _ _ _ _ "held" (by decide +kernel), p.A, F4, _, rfl, hPA7, fun H8 h8 n8 e8 s8 => ?_⟩
      have ew : (putP p.S (x.take n)).ws = p.S.ws := by show p.S.ws ++ fitF p.S (x.take n) = _; rw [f0, List.append_nil]
      rw [show (⟨p.A, F4, putP p.S (x.take n)⟩ : PX).S.ws = p.S.ws from ew] at e8
      refine ⟨_, rfl, h8, hd, _, _, rfl, rfl, sq_at e8, sq_at (s8 _ _ ehd7), ?_⟩
      rw [decide_eq_true rfl]
      exact fin _ s8
    · have lp2 := List.length_pos_iff.mpr f0
      refine iteFc (decide_eq_false (fun z => by have := V.int.inj z; omega)) ?_
      rw [show numV (fitF p.S (x.take n)) = .int (fitF p.S (x.take n)).length from if_neg f0]
      refine ⟨_, rfl, .ref f, rfl, f, _, rfl, .inl (sq_at ef7), rfl, _, rfl, ?_⟩
      rw [List.length_map]
      refine iteTc (decide_eq_true rfl) ?_
      refine ⟨.ref p.A.p, rfl, p.A.p, dp7, _, rfl, I7.hp, pifs_no _ _ _ _ "held" (by decide +kernel), p.A, F4, _, rfl, hPA7, fun H8 h8 n8 e8 s8 => ?_⟩
      have lf : (fitF p.S (x.take n)).length ≤ 64 := by
        unfold fitF
        have := sx.r
        rw [List.length_take]; omega
      refine ⟨_, rfl, _, rfl, hd, f, _, _, rfl, rfl, s8 _ _ ehd7, s8 _ _ ef7, by rw [List.length_map, List.length_map]; have := sx.w; have := sx.r; omega, fun l nl => ?_⟩
      rw [← List.map_append]
      have s9 := (Kp.new (ps := []) (o := HO.lst ((p.S.ws ++ fitF p.S (x.take n)).map V.int)) nl).same
      refine ⟨h8, l, _, _, rfl, rfl, sq_at (s9 _ _ e8), sq_at upd_same, ?_⟩
      rw [show decide ((putP p.S (x.take n)).ws = p.S.ws ++ fitF p.S (x.take n)) = true from decide_eq_true rfl]
      exact fin _ (s8.trans s9)

theorem ok_ltaken (T : Tx K mg) : FnOk P w K mg base CX0 5 T.f_ltaken T.fd_ltaken P_ltaken (spLTaken (PipeAt T.C_Pipe T.C_IntoEnd T.C_OutEnd)) := by
  have G_pheld := ok_pheld (P := P) (w := w) (base := base) T
  have G_pout := ok_pout (P := P) (w := w) (base := base) T
  have G_otake := ok_otake (P := P) (w := w) (base := base) T
  have sz : sizeLine = 16777216 := sizeLine_eq
  refine T.D_ltaken.F.ok sc_ltaken (fun vs H Q E h => ?_) (fun cdv A outer s H vs Q E hr h => ?_)
  · obtain ⟨ps, j, n, c, p, hn, hs, xs, y, rfl, _⟩ := h
    rfl
  · obtain ⟨ps, j, n, c, p, hn, hs, xs, y, rfl, C0, hj, hx, sx, c9, hbi, lx, n1, q⟩ := h
    refine ⟨_, (pss_cons (ps_set (i := 4) sc_ltaken.nd rfl (.inl rfl) (pe_meth0 (pv 0) T.cl_Pipe T.D_pheld.m G_pheld (hr.mono (by decide)) T.bb_pheld .nil pass0))
      (pss_cons (ps_set (i := 5) sc_ltaken.nd rfl (.inl rfl) (pe_meth (pe_meth0 (pv 0) T.cl_Pipe T.D_pout.m G_pout (hr.mono (by decide)) T.bb_pout .nil pass0) T.cl_OutEnd T.D_otake.m G_otake (hr.mono (by decide)) T.bb_otake .nil pass0 (pa_cons (pv 3) pa_nil)))
      (pss_cons (ps_if (pt_cmpR op_eq (pe_callB call_len_seq (by rfl) T.m_len PySem.boot_len (pa_cons (pv 4) pa_nil)) pe_int (nomark _)) (pss_one (ps_ret (pe_cmpR op_isN (pv 5) pe_non (nomark _)))) pss_nil)
      (pss_cons (ps_asg (pe_op op_cat (pe_ix ix_list (pv 1) (pe_op op_add (pv 2) pe_int) (fun _ _ => rfl)) (pe_slice sl_list (pv 4) po_none (po_some (pv 3)))) (pg_sub (pv 1) (pe_op op_add (pv 2) pe_int) set_list))
      (pss_one (ps_ret (pe_and (pe_cmpR (op_eqI hr.units) (pv 5) (pe_slice sl_list (pv 4) po_none (po_some (pv 3))) (nomark _)) (pe_one (pe_cmpR (op_eqI hr.units) (pe_meth0 (pv 0) T.cl_Pipe T.D_pheld.m G_pheld (hr.mono (by decide)) T.bb_pheld .nil pass0) (pe_slice sl_list (pv 4) (po_some (pv 3)) po_none) (nomark _)))))))))), ?_⟩
    have hPA := C0.p.p p (List.mem_of_getElem? hj)
    have hPAb := hPA
    obtain ⟨dp, di, dq, vi, vo, G, I, hF⟩ := hPAb
    have ok := sx.ok (by omega)
    have jl := (List.getElem?_eq_some_iff.mp hx).1
    obtain ⟨a, ha⟩ : ∃ a, hs[j + 1]? = some a := ⟨_, List.getElem?_eq_getElem (by have := C0.l; omega)⟩
    refine ⟨.ref p.A.p, rfl, p.A.p, dp, _, rfl, I.hp, pifs_no _ _ _ _ "held" (by decide +kernel), p.A, p.F, _, rfl, hPA, fun H1 hd nhd ehd s1 => ?_⟩
    have hPA1 := hPA.same s1
    refine ⟨.ref p.A.p, rfl, p.A.p, dp, _, rfl, s1 _ _ I.hp, pifs_no _ _ _ _ "out" (by decide +kernel), p.A, p.F, _, rfl, hPA1, p.A.eo, dq, _, rfl, s1 _ _ I.ho, efs_no _ _ _ _ "take" (by decide +kernel), _, rfl, p.A, n, p.F, p.S, rfl, hPA1, ok, sx.bo, fun H4 F4 z hPA4 nz ez nFz st4 => ?_⟩
    have C4 := (C0.same s1).pipe (S' := takeP p.S n) hj hPA4 st4
    have F04 := (Fr.same (ps := ps) (hn := hn) s1).trans (Fr.pipe (S' := takeP p.S n) (C0.same s1) hj st4)
    obtain ⟨ehd4, nFhd⟩ := st4.keep (hPA.new nhd) ehd
    have hs0 : stallB p.S n = decide (p.S.ws.take n = []) := by unfold stallB; rw [hbi]; simp
    have h1 : y ++ [] = y := List.append_nil y
    have hset : xs.set (j + 1) y = xs := by
      apply List.ext_getElem?
      intro i
      rw [List.getElem?_set]
      by_cases ij : j + 1 = i
      · subst ij; rw [if_pos rfl, if_pos jl, hx]
      · rw [if_neg ij]
    generalize hps : ps.set j ⟨p.A, F4, takeP p.S n⟩ = ps4 at C4 F04
    refine ⟨.ref hd, rfl, hd, _, rfl, .inl (sq_at ehd4), rfl, _, rfl, ?_⟩
    rw [List.length_map]
    by_cases e0 : p.S.ws = []
    · refine iteTc (by rw [e0]; rfl) ?_
      have et : p.S.ws.take n = [] := by rw [e0]; simp
      rw [show stallB p.S n = true by rw [hs0, decide_eq_true et]]
      refine ⟨_, rfl, rfl, ?_⟩
      exact q _ F4 hs (by rw [hps, et, h1, hset]; exact C4) (by rw [hps]; exact F04)
    have lp := List.length_pos_iff.mpr e0
    refine iteFc (decide_eq_false (fun z => by have := V.int.inj z; omega)) ?_
    have et : p.S.ws.take n ≠ [] := fun z => (List.take_eq_nil_iff.mp z).elim (fun w => by omega) e0
    rw [show stallB p.S n = false by rw [hs0, decide_eq_false et]]
    refine ⟨_, rfl, _, rfl, _, _, rfl, rfl, hn, _, _, .ref a, rfl, rfl, sq_at C4.h, atI_nat (j := j + 1) (by rw [List.getElem?_map, ha]; rfl), _, rfl, _, rfl, _, rfl, hd, _, rfl, sq_at ehd4, fun t nt => ?_⟩
    rw [take_cut]
    have c5 := updG (o := HO.lst ((p.S.ws.take n).map V.int)) rfl nt
    generalize upd H4 t (HO.lst ((p.S.ws.take n).map V.int)) = H5 at c5 ⊢
    obtain ⟨et5, s5⟩ := c5
    have C5 := C4.same s5
    have lt : (p.S.ws.take n).length ≤ 64 := by have := sx.w; have := sx.r; rw [List.length_take]; omega
    refine ⟨a, t, _, _, rfl, rfl, C5.e (j + 1) a y ha hx, et5, by rw [List.length_map, List.length_map]; omega, fun g ng => ?_⟩
    rw [← List.map_append]
    have c6 := updG (o := HO.lst ((y ++ p.S.ws.take n).map V.int)) rfl ng
    generalize upd H5 g (HO.lst ((y ++ p.S.ws.take n).map V.int)) = H6 at c6 ⊢
    obtain ⟨eg, s6⟩ := c6
    have C6 := C5.same s6
    refine ⟨_, rfl, _, rfl, _, _, rfl, rfl, hn, _, _, j + 1, rfl, rfl, C6.h, ixN_lt (j := j + 1) (by rw [List.length_map]; have := C0.l; omega), ?_⟩
    rw [map_set_ref]
    have gh : g ≠ hn := (ne_of_none C5.h ng).symm
    have C7 := C6.hand (j := j + 1) eg gh (C5.p.new ng)
    have F07 := ((F04.trans (Fr.same s5)).trans (Fr.same s6)).trans (Fr.hand (o := .lst ((hs.set (j + 1) g).map V.ref)))
    have hdh : hd ≠ hn := fun w => by rw [w, C0.h] at nhd; cases nhd
    have zh : z ≠ hn := fun w => by rw [w, (C0.same s1).h] at nz; cases nz
    have ehd7 : (upd H6 hn (.lst ((hs.set (j + 1) g).map V.ref))) hd = some (.lst (p.S.ws.map V.int)) := by rw [upd_ne hdh]; exact s6 _ _ (s5 _ _ ehd4)
    have ez7 : (upd H6 hn (.lst ((hs.set (j + 1) g).map V.ref))) z = some (.lst ((p.S.ws.take n).map V.int)) := by rw [upd_ne zh]; exact s6 _ _ (s5 _ _ ez)
    generalize upd H6 hn (.lst ((hs.set (j + 1) g).map V.ref)) = H7 at C7 F07 ehd7 ez7 ⊢
    have hj7 : ps4[j]? = some ⟨p.A, F4, takeP p.S n⟩ := by
      rw [← hps, List.getElem?_set, if_pos rfl, if_pos (by have := (List.getElem?_eq_some_iff.mp hj).1; exact this)]
    have hPA7 := C7.p.p _ (List.mem_of_getElem? hj7)
    have hPA7b := hPA7
    obtain ⟨dp7, di7, dq7, vi7, vo7, G7, I7, hF7⟩ := hPA7b
    refine ⟨_, rfl, _, rfl, _, rfl, _, rfl, hd, _, rfl, sq_at ehd7, fun u nu => ?_⟩
    rw [take_cut]
    have c8 := updG (o := HO.lst ((p.S.ws.take n).map V.int)) rfl nu
    generalize upd H7 u (HO.lst ((p.S.ws.take n).map V.int)) = H8 at c8 ⊢
    obtain ⟨eu, s8⟩ := c8
    refine ⟨z, u, _, _, rfl, rfl, sq_at (s8 _ _ ez7), sq_at eu, _, rfl, iteTc (decide_eq_true rfl) ?_⟩
    refine ⟨.ref p.A.p, rfl, p.A.p, dp7, _, rfl, s8 _ _ I7.hp, pifs_no _ _ _ _ "held" (by decide +kernel), p.A, F4, _, rfl, hPA7.same s8, fun H9 h9 n9 e9 s9 => ?_⟩
    refine ⟨_, rfl, _, rfl, _, rfl, hd, _, rfl, sq_at (s9 _ _ (s8 _ _ ehd7)), fun w nw => ?_⟩
    rw [drop_cut]
    have s10 := (Kp.new (ps := []) (o := HO.lst ((p.S.ws.drop n).map V.int)) nw).same
    refine ⟨h9, w, _, _, rfl, rfl, sq_at (s10 _ _ e9), sq_at upd_same, ?_⟩
    rw [show decide ((takeP p.S n).ws = p.S.ws.drop n) = true from decide_eq_true rfl]
    have s710 := (s8.trans s9).trans s10
    exact q _ F4 (hs.set (j + 1) g) (by rw [hps]; exact C7.same s710) (by rw [hps]; exact F07.trans (Fr.same s710))

theorem ok_inord (T : Tx K mg) : FnOk P w K mg base CX0 5 T.f_inord T.fd_inord P_inord (spInOrd (PipeAt T.C_Pipe T.C_IntoEnd T.C_OutEnd)) := by
  have G_pheld := ok_pheld (P := P) (w := w) (base := base) T
  have sz : sizeLine = 16777216 := sizeLine_eq
  refine T.D_inord.F.ok sc_inord (fun vs H Q E h => ?_) (fun cdv A outer s H vs Q E hr h => ?_)
  · obtain ⟨ps, pl, hn, hs, xs, rfl, _⟩ := h
    rfl
  · obtain ⟨ps, pl, hn, hs, xs, rfl, C0, hpl, lp, lo, q⟩ := h
    refine ⟨_, (pss_cons (ps_set (i := 2) sc_inord.nd rfl (.inl rfl) (pe_callTy call_list_of (by rfl) T.m_list (by decide +kernel) (pa_cons (pe_ix ix_list (pv 1) (pe_callB call_len_seq (by rfl) T.m_len PySem.boot_len (pa_cons (pv 0) pa_nil)) (fun _ _ => rfl)) pa_nil)))
      (pss_cons (ps_for PassesOwn.never rfl (pi_range3 (by rfl) T.m_range (pa_cons (pe_op op_sub (pe_callB call_len_seq (by rfl) T.m_len PySem.boot_len (pa_cons (pv 0) pa_nil)) pe_int) (pa_cons (pe_un un_neg pe_int) (pa_cons (pe_un un_neg pe_int) pa_nil)))) (pg_name (i := 3) sc_inord.nd rfl (.inl rfl)) (pss_one (ps_set (i := 2) sc_inord.nd rfl (.inl rfl) (pe_op op_cat (pe_op op_cat (pv 2) (pe_meth0 (pe_ix ix_list (pv 0) (pv 3) (fun _ _ => rfl)) T.cl_Pipe T.D_pheld.m G_pheld (hr.mono (by decide)) T.bb_pheld .nil pass0)) (pe_ix ix_list (pv 1) (pv 3) (fun _ _ => rfl))))))
      (pss_one (ps_ret (pv 2))))), ?_⟩
    have ll := C0.l
    have le := C0.len
    obtain ⟨am, ham⟩ : ∃ a, hs[ps.length]? = some a := ⟨_, List.getElem?_eq_getElem (by omega)⟩
    obtain ⟨xm, hxm⟩ : ∃ x, xs[ps.length]? = some x := ⟨_, List.getElem?_eq_getElem (by omega)⟩
    have lm : ((ps.map fun p => V.ref p.A.p).length : Int) = (ps.length : Int) := by rw [List.length_map]
    refine ⟨_, rfl, _, rfl, pl, _, rfl, .inl (sq_at hpl), ?_⟩
    rw [List.length_map]
    refine ⟨hn, _, _, .ref am, rfl, rfl, sq_at C0.h, atI_nat (by rw [List.getElem?_map, ham]; rfl), am, _, rfl, .inl (sq_at (C0.e _ am xm ham hxm)), fun f nf => ?_⟩
    have c1 := updG (o := HO.lst (xm.map V.int)) rfl nf
    generalize upd H f (HO.lst (xm.map V.int)) = H1 at c1 ⊢
    obtain ⟨ef, s1⟩ := c1
    refine ⟨_, rfl, pl, _, rfl, .inl (sq_at (s1 _ _ hpl)), ?_⟩
    rw [List.length_map]
    have en : ((ps.length : Int) - 1 - -1).toNat = ps.length := by omega
    refine ⟨_, _, rfl, rfl, _, rfl, _, rfl, (ps.length : Int) - 1, -1, -1, _, rfl, RgC.neg (by omega) (by omega) (by omega) (by omega), ?_⟩
    rw [en]
    refine for_rangeC (lo := (ps.length : Int) - 1) (c := -1) (n := ps.length) (fun i σ H' => ∃ g y, σ = [some (.ref pl), some (.ref hn), some (.ref g), y] ∧ H' g = some (.lst ((ordF ((wsL ps).drop (ps.length - i)) (xs.drop (ps.length - i))).map V.int)) ∧ Same H H' ∧ H g = none) ⟨f, none, rfl, ?_, s1, nf⟩ (fun i σ H' hi hW => ?_) (fun σ H' hW => ?_)
    · rw [Nat.sub_zero, ord_end (by rw [wsL_len]; exact le) (wsL_len ps).symm hxm]; exact ef
    · obtain ⟨g, y, rfl, eg, sm, ng⟩ := hW
      obtain ⟨j, ej⟩ : ∃ j, j + 1 = ps.length - i := ⟨ps.length - i - 1, by omega⟩
      have ij : (ps.length : Int) - 1 + (i : Int) * -1 = (j : Int) := by omega
      rw [ij]
      obtain ⟨p, hp⟩ : ∃ p, ps[j]? = some p := ⟨_, List.getElem?_eq_getElem (by omega)⟩
      obtain ⟨a, ha⟩ : ∃ a, hs[j]? = some a := ⟨_, List.getElem?_eq_getElem (by omega)⟩
      obtain ⟨x, hx⟩ : ∃ x, xs[j]? = some x := ⟨_, List.getElem?_eq_getElem (by omega)⟩
      have eo := ord_drop (wsL_at hp) hx
      have so := ord_suf j (ws := wsL ps) (xs := xs) (by rw [wsL_len]; omega) (by rw [wsL_len]; exact le)
      rw [← ej] at eg
      have C1 := C0.same sm
      have hPA := C1.p.p p (List.mem_of_getElem? hp)
      have hPAb := hPA
      obtain ⟨dp, di, dq, vi, vo, G, I, hF⟩ := hPAb
      have l3 : (ordF ((wsL ps).drop (j + 1)) (xs.drop (j + 1))).length + p.S.ws.length + x.length ≤ 100 := by
        rw [eo, List.length_append, List.length_append] at so; omega
      refine ⟨_, rfl, _, rfl, _, rfl, pl, _, _, .ref p.A.p, rfl, rfl, sq_at (sm _ _ hpl), atI_nat (by rw [List.getElem?_map, hp]; rfl), p.A.p, dp, _, rfl, I.hp, pifs_no _ _ _ _ "held" (by decide +kernel), p.A, p.F, _, rfl, hPA, fun H2 hd nhd ehd s2 => ?_⟩
      refine ⟨g, hd, _, _, rfl, rfl, s2 _ _ eg, ehd, by rw [List.length_map, List.length_map]; omega, fun l nl => ?_⟩
      rw [← List.map_append]
      have c3 := updG (o := HO.lst ((ordF ((wsL ps).drop (j + 1)) (xs.drop (j + 1)) ++ p.S.ws).map V.int)) rfl nl
      generalize upd H2 l (HO.lst ((ordF ((wsL ps).drop (j + 1)) (xs.drop (j + 1)) ++ p.S.ws).map V.int)) = H3 at c3 ⊢
      obtain ⟨el, s3⟩ := c3
      have s03 := (sm.trans s2).trans s3
      refine ⟨_, rfl, _, rfl, hn, _, _, .ref a, rfl, rfl, sq_at (s03 _ _ C0.h), atI_nat (by rw [List.getElem?_map, ha]; rfl), l, a, _, _, rfl, rfl, el, s03 _ _ (C0.e j a x ha hx), by rw [List.length_map, List.length_map, List.length_append]; omega, fun u nu => ?_⟩
      rw [← List.map_append, ← eo]
      refine ⟨u, _, rfl, ?_, s03.trans (Kp.new (ps := []) nu).same, s03.free nu⟩
      rw [upd_same, show ps.length - (i + 1) = j by omega]
    · obtain ⟨g, y, rfl, eg, sm, ng⟩ := hW
      rw [Nat.sub_self] at eg
      exact ⟨_, rfl, q _ g ng eg sm⟩

set_option maxHeartbeats 0 in
theorem ok_logged (T : Tx K mg) : FnOk P w K mg base CX0 5 T.f_logged T.fd_logged P_logged (spLogged (PipeAt T.C_Pipe T.C_IntoEnd T.C_OutEnd)) := by
  have G_pinto := ok_pinto (P := P) (w := w) (base := base) T
  have G_pout := ok_pout (P := P) (w := w) (base := base) T
  have G_pheld := ok_pheld (P := P) (w := w) (base := base) T
  have G_ilog := ok_ilog (P := P) (w := w) (base := base) T
  have G_olog := ok_olog (P := P) (w := w) (base := base) T
  have sz : sizeLine = 16777216 := sizeLine_eq
  refine T.D_logged.F.ok sc_logged (fun vs H Q E h => ?_) (fun cdv A outer s H vs Q E hr h => ?_)
  · obtain ⟨A, F, S, c, rfl, _⟩ := h
    rfl
  · obtain ⟨A, F, S, c, rfl, hPA, sx, c9, q⟩ := h
    refine ⟨_, (pss_cons (ps_set (i := 1) sc_logged.nd rfl (.inl rfl) (pe_lst pa_nil))
      (pss_cons (ps_for PassesOwn.never rfl (pi_list (pe_meth0 (pe_meth0 (pv 0) T.cl_Pipe T.D_pinto.m G_pinto (hr.mono (by decide)) T.bb_pinto .nil pass0) T.cl_IntoEnd T.D_ilog.m G_ilog (hr.mono (by decide)) T.bb_ilog .nil pass0)) (pg_tup rfl (pgs_cons (pg_name (i := 2) sc_logged.nd rfl (.inl rfl)) (pgs_cons (pg_name (i := 3) sc_logged.nd rfl (.inl rfl)) (pgs_cons (pg_name (i := 4) sc_logged.nd rfl (.inl rfl)) (pgs_cons (pg_name (i := 5) sc_logged.nd rfl (.inl rfl)) pgs_nil))))) (pss_cons (ps_if (PW.pt (pw_or (pt_cmpR op_ne (pv 2) pe_str (nomark _)) (pw_or1 (pt_cmpR op_ne (pv 3) (pe_callB call_len_seq (by rfl) T.m_len PySem.boot_len (pa_cons (pv 1) pa_nil)) (nomark _))))) (pss_one (ps_ret pe_bl)) pss_nil)
      (pss_one (ps_if (pt_cmpR (op_neD hr.units) (pv 5) pe_str (nomark _)) (pss_one (ps_set (i := 1) sc_logged.nd rfl (.inl rfl) (pe_op op_cat (pv 1) (pe_slice sl_list (pv 4) po_none (po_some (pv 5)))))) pss_nil))))
      (pss_cons (ps_set (i := 6) sc_logged.nd rfl (.inl rfl) (pe_lst pa_nil))
      (pss_cons (ps_for PassesOwn.never rfl (pi_list (pe_meth0 (pe_meth0 (pv 0) T.cl_Pipe T.D_pout.m G_pout (hr.mono (by decide)) T.bb_pout .nil pass0) T.cl_OutEnd T.D_olog.m G_olog (hr.mono (by decide)) T.bb_olog .nil pass0)) (pg_tup rfl (pgs_cons (pg_name (i := 2) sc_logged.nd rfl (.inl rfl)) (pgs_cons (pg_name (i := 3) sc_logged.nd rfl (.inl rfl)) (pgs_cons (pg_name (i := 4) sc_logged.nd rfl (.inl rfl)) (pgs_cons (pg_name (i := 5) sc_logged.nd rfl (.inl rfl)) pgs_nil))))) (pss_cons (ps_if (PW.pt (pw_or (pt_cmpR op_ne (pv 2) pe_str (nomark _)) (pw_or1 (pt_cmpR op_ne (pv 3) (pe_callB call_len_seq (by rfl) T.m_len PySem.boot_len (pa_cons (pv 6) pa_nil)) (nomark _))))) (pss_one (ps_ret pe_bl)) pss_nil)
      (pss_one (ps_if (pt_cmpR (op_neD hr.units) (pv 5) pe_str (nomark _)) (pss_one (ps_set (i := 6) sc_logged.nd rfl (.inl rfl) (pe_op op_cat (pv 6) (pv 5)))) pss_nil))))
      (pss_one (ps_ret (pe_cmpR (op_eqI hr.units) (pe_op op_cat (pv 6) (pe_meth0 (pv 0) T.cl_Pipe T.D_pheld.m G_pheld (hr.mono (by decide)) T.bb_pheld .nil pass0)) (pv 1) (nomark _)))))))), ?_⟩
    have ok := sx.ok (by omega)
    have lni := sx.ni
    have lno := sx.no
    have hPAb := hPA
    obtain ⟨dp, di, dq, vi, vo, G, I, hF⟩ := hPAb
    refine ⟨by show (0 : Nat) ≤ sizeLine; omega, fun f nf => ?_⟩
    have c1 := updG (o := HO.lst []) rfl nf
    generalize upd H f (HO.lst []) = H1 at c1 ⊢
    obtain ⟨ef, s1⟩ := c1
    have hPA1 := hPA.same s1
    refine ⟨.ref A.p, rfl, A.p, dp, _, rfl, s1 _ _ I.hp, pifs_no _ _ _ _ "into" (by decide +kernel), A, F, _, rfl, hPA1, A.ei, di, _, rfl, s1 _ _ I.hi, efs_no _ _ _ _ "log" (by decide +kernel), A, F, S, rfl, hPA1, ok, fun H2 z vs GI nz nGz ez N2 g2 s2 => ?_⟩
    have s02 := s1.trans s2
    refine ⟨z, rfl, ⟨_, sq_at ez⟩, ?_⟩
    refine for_list (K := K) (a := z) (xs := vs) (fun i σ H' => ∃ u y2 y3 y4 y5, σ = [some (.ref A.p), some (.ref u), y2, y3, y4, y5, none] ∧ H' u = some (.lst ((insF (S.ni.take i)).map V.int)) ∧ Same H2 H') ⟨f, none, none, none, none, rfl, s2 _ _ ef, Same.refl _⟩ (fun i σ H' _ h => by obtain ⟨_, _, _, _, _, _, _, h⟩ := h; exact sq_at (h _ _ ez)) (fun i v σ H' hv hW => ?_) (fun σ H' hW => ?_)
    · obtain ⟨u, y2, y3, y4, y5, rfl, eu, sm⟩ := hW
      obtain ⟨n, hn, t, hv', cv, rfl, gt, ht, th, tc, nok⟩ := N2.at hv
      have il := (List.getElem?_eq_some_iff.mp hn).1
      obtain ⟨ew, ep, ds, eh, ec⟩ := sx.j.i i n hn
      have li := sx.j.i.le i (by omega)
      have ht' := sm _ _ ht
      rw [ew, ep] at ht'
      rw [eh] at th
      obtain ⟨a, rfl, ga, ea⟩ := th
      refine ⟨t, _, rfl, .inl (.inl ht'), rfl, ?_⟩
      refine ⟨_, _, rfl, _, _, rfl, _, _, rfl, _, _, rfl, rfl, ?_⟩
      refine ⟨_, rfl, rfl, _, rfl, iteNS rfl ?_⟩
      refine ⟨_, rfl, _, rfl, u, _, rfl, .inl (sq_at eu), rfl, _, rfl, iteNS (by rw [List.length_map]) ?_⟩
      rcases ec with ec | ⟨k, k64, ec⟩
      · rw [ec] at tc
        cases (show cv = _ from tc)
        refine ⟨_, rfl, .str (Str.ofString "stall"), .str (Str.ofString "stall"), .str _, .str _, (by decide +kernel : SeqAt.shaped (.str (Str.ofString "stall")) = true), (by decide +kernel : SeqAt.shaped (.str (Str.ofString "stall")) = true), _, rfl, iteFc (by decide +kernel) ?_⟩
        refine ⟨u, _, _, _, _, rfl, ?_, sm⟩
        rw [insF_take hn]
        unfold stepI
        rw [eh, ec]; exact eu
      · rw [ec] at tc
        cases (show cv = _ from tc)
        refine ⟨_, rfl, .int k, .str (Str.ofString "stall"), .int _, .str _, (by rfl), (by decide +kernel : SeqAt.shaped (.str (Str.ofString "stall")) = true), _, rfl, iteTc (by rfl) ?_⟩
        refine ⟨_, rfl, _, rfl, _, rfl, _, rfl, a, _, rfl, sq_at (sm _ _ ea), fun l nl => ?_⟩
        rw [take_cut]
        have c3 := updG (o := HO.lst ((ds.take k).map V.int)) rfl nl
        generalize upd H' l (HO.lst ((ds.take k).map V.int)) = H3 at c3 ⊢
        obtain ⟨el, s3⟩ := c3
        refine ⟨u, l, _, _, rfl, rfl, s3 _ _ eu, el, by rw [List.length_map, List.length_map, List.length_take]; omega, fun w nw => ?_⟩
        rw [← List.map_append]
        refine ⟨w, _, _, _, _, rfl, ?_, (sm.trans s3).trans (Kp.new (ps := []) nw).same⟩
        rw [upd_same, insF_take hn]
        unfold stepI
        rw [eh, ec]
        show _ = some (HO.lst ((insF (S.ni.take i) ++ ds.take (k : Int).toNat).map V.int))
        rw [Int.toNat_natCast]
    · obtain ⟨u, y2, y3, y4, y5, rfl, eu, sm⟩ := hW
      rw [N2.len, List.take_length] at eu
      have lii := sx.j.i.le S.ni.length (Nat.le_refl _)
      rw [List.take_length] at lii
      refine ⟨by show (0 : Nat) ≤ sizeLine; omega, fun f2 nf2 => ?_⟩
      have c4 := updG (o := HO.lst []) rfl nf2
      generalize upd H' f2 (HO.lst []) = H4 at c4 ⊢
      obtain ⟨ef2, s4⟩ := c4
      have s04 := (s02.trans sm).trans s4
      have hPA4 := hPA.same s04
      refine ⟨.ref A.p, rfl, A.p, dp, _, rfl, s04 _ _ I.hp, pifs_no _ _ _ _ "out" (by decide +kernel), A, F, _, rfl, hPA4, A.eo, dq, _, rfl, s04 _ _ I.ho, efs_no _ _ _ _ "log" (by decide +kernel), A, F, S, rfl, hPA4, ok, fun H5 z5 vs5 G5 nz5 nG5 ez5 N5 g5 s5 => ?_⟩
      have s45 := s4.trans s5
      refine ⟨z5, rfl, ⟨_, sq_at ez5⟩, ?_⟩
      refine for_list (K := K) (a := z5) (xs := vs5) (fun i σ H' => ∃ u' y2 y3 y4 y5, σ = [some (.ref A.p), some (.ref u), y2, y3, y4, y5, some (.ref u')] ∧ H' u' = some (.lst ((gonF (S.no.take i)).map V.int)) ∧ Same H5 H') ⟨f2, _, _, _, _, rfl, s5 _ _ ef2, Same.refl _⟩ (fun i σ H' _ h => by obtain ⟨_, _, _, _, _, _, _, h⟩ := h; exact sq_at (h _ _ ez5)) (fun i v σ H6 hv hW => ?_) (fun σ H6 hW => ?_)
      · obtain ⟨u', y2, y3, y4, y5, rfl, eu', sm6⟩ := hW
        obtain ⟨n, hn, t, hv', cv, rfl, gt, ht, th, tc, nok⟩ := N5.at hv
        have il := (List.getElem?_eq_some_iff.mp hn).1
        obtain ⟨ew, ep, ⟨mh, eh⟩, ec⟩ := sx.j.o i n hn
        have li := sx.j.o.le i (by omega)
        have ht' := sm6 _ _ ht
        rw [ew, ep] at ht'
        refine ⟨t, _, rfl, .inl (.inl ht'), rfl, ?_⟩
        refine ⟨_, _, rfl, _, _, rfl, _, _, rfl, _, _, rfl, rfl, ?_⟩
        refine ⟨_, rfl, rfl, _, rfl, iteNS rfl ?_⟩
        refine ⟨_, rfl, _, rfl, u', _, rfl, .inl (sq_at eu'), rfl, _, rfl, iteNS (by rw [List.length_map]) ?_⟩
        rcases ec with ec | ⟨xs, k64, ec⟩
        · rw [ec] at tc
          cases (show cv = _ from tc)
          refine ⟨_, rfl, .str (Str.ofString "stall"), .str (Str.ofString "stall"), .str _, .str _, (by decide +kernel : SeqAt.shaped (.str (Str.ofString "stall")) = true), (by decide +kernel : SeqAt.shaped (.str (Str.ofString "stall")) = true), _, rfl, iteFc (by decide +kernel) ?_⟩
          refine ⟨u', _, _, _, _, rfl, ?_, sm6⟩
          rw [gonF_take hn]
          unfold stepO
          rw [ec]; exact eu'
        · rw [ec] at tc
          obtain ⟨a, rfl, ga, ea⟩ := tc
          have ea6 := sm6 _ _ ea
          refine ⟨_, rfl, .list (xs.map .int), .str (Str.ofString "stall"), dp_lst (sq_at ea6), .str _, shape0 xs, (by decide +kernel : SeqAt.shaped (.str (Str.ofString "stall")) = true), _, rfl, iteTc (by rfl) ?_⟩
          refine ⟨_, rfl, _, rfl, u', a, _, _, rfl, rfl, eu', ea6, by rw [List.length_map, List.length_map]; omega, fun w nw => ?_⟩
          rw [← List.map_append]
          refine ⟨w, _, _, _, _, rfl, ?_, sm6.trans (Kp.new (ps := []) nw).same⟩
          rw [upd_same, gonF_take hn]
          unfold stepO
          rw [ec]
      · obtain ⟨u', y2, y3, y4, y5, rfl, eu', sm6⟩ := hW
        rw [N5.len, List.take_length] at eu'
        have loo := sx.j.o.le S.no.length (Nat.le_refl _)
        rw [List.take_length] at loo
        have s06 := (s04.trans s5).trans sm6
        have hPA6 := hPA.same s06
        refine ⟨_, rfl, .ref A.p, rfl, A.p, dp, _, rfl, s06 _ _ I.hp, pifs_no _ _ _ _ "held" (by decide +kernel), A, F, _, rfl, hPA6, fun H7 hd nhd ehd s7 => ?_⟩
        refine ⟨u', hd, _, _, rfl, rfl, s7 _ _ eu', ehd, by rw [List.length_map, List.length_map]; have := sx.w; have := sx.r; omega, fun l nl => ?_⟩
        rw [← List.map_append]
        have s8 := (Kp.new (ps := []) (o := HO.lst ((gonF S.no ++ S.ws).map V.int)) nl).same
        have su := ((s45.trans sm6).trans s7).trans s8
        refine ⟨_, rfl, l, u, _, _, rfl, rfl, sq_at upd_same, sq_at (su _ _ eu), ?_⟩
        rw [decide_eq_true sx.j.eq]
        exact q _ ((s06.trans s7).trans s8)

set_option maxHeartbeats 0 in
theorem ok_passed (T : Tx K mg) : FnOk P w K mg base CX0 6 T.f_passed T.fd_passed P_passed (spAllOn (PipeAt T.C_Pipe T.C_IntoEnd T.C_OutEnd)) := by
  have G_lput := ok_lput (P := P) (w := w) (base := base) T
  have G_ltaken := ok_ltaken (P := P) (w := w) (base := base) T
  have G_pheld := ok_pheld (P := P) (w := w) (base := base) T
  have G_pinto := ok_pinto (P := P) (w := w) (base := base) T
  have G_pout := ok_pout (P := P) (w := w) (base := base) T
  have G_idown := ok_idown (P := P) (w := w) (base := base) T
  have G_otake := ok_otake (P := P) (w := w) (base := base) T
  have sz : sizeLine = 16777216 := sizeLine_eq
  refine T.D_passed.F.ok sc_passed (fun vs H Q E h => ?_) (fun cdv A outer s H vs Q E hr h => ?_)
  · obtain ⟨ps, j, c, p, hn, hs, xs, x, y, rfl, _⟩ := h
    rfl
  · obtain ⟨ps, j, c, p, hn, hs, xs, x, y, rfl, C0, hj, hx, hy, sx, c9, hbi, lo, q⟩ := h
    refine ⟨_, (pss_cons (ps_for PassesOwn.never rfl (pi_range1 (by rfl) T.m_range (pa_cons (pe_op op_add (pe_callB call_len_seq (by rfl) T.m_len PySem.boot_len (pa_cons (pe_ix ix_list (pv 2) (pv 3) (fun _ _ => rfl)) pa_nil)) pe_int) pa_nil)) (pg_name (i := 4) sc_passed.nd rfl (.inl rfl)) (pss_one (ps_if (PW.pt (pw_or (pt_not (pt_val (pe_call G_lput (hr.mono (by decide)) (by rfl) T.D_lput.g T.D_lput.F.kp T.bb_lput .nil pass0 (pa_cons (pv 0) (pa_cons (pv 1) (pa_cons (pv 2) (pa_cons (pv 3) (pa_cons pe_int pa_nil)))))))) (pw_or1 (PW.pt (pw_and (pt_cmpR op_gt (pe_callB call_len_seq (by rfl) T.m_len PySem.boot_len (pa_cons (pe_meth0 (pv 0) T.cl_Pipe T.D_pheld.m G_pheld (hr.mono (by decide)) T.bb_pheld .nil pass0) pa_nil)) pe_int (nomark _)) (pw_and1 (pt_not (pt_val (pe_call G_ltaken (hr.mono (by decide)) (by rfl) T.D_ltaken.g T.D_ltaken.F.kp T.bb_ltaken .nil pass0 (pa_cons (pv 0) (pa_cons (pv 2) (pa_cons (pv 3) (pa_cons pe_int pa_nil))))))))))))) (pss_one (ps_ret pe_bl)) pss_nil)))
      (pss_cons (ps_expr (pe_meth0 (pe_meth0 (pv 0) T.cl_Pipe T.D_pinto.m G_pinto (hr.mono (by decide)) T.bb_pinto .nil pass0) T.cl_IntoEnd T.D_idown.m G_idown (hr.mono (by decide)) T.bb_idown .nil pass0))
      (pss_one (ps_ret (pe_and (pe_cmpR (op_eqI hr.units) (pe_meth (pe_meth0 (pv 0) T.cl_Pipe T.D_pout.m G_pout (hr.mono (by decide)) T.bb_pout .nil pass0) T.cl_OutEnd T.D_otake.m G_otake (hr.mono (by decide)) T.bb_otake .nil pass0 (pa_cons pe_int pa_nil)) (pe_lst pa_nil) (nomark _)) (pe_and (pe_cmpR (op_eqI hr.units) (pe_meth (pe_meth0 (pv 0) T.cl_Pipe T.D_pout.m G_pout (hr.mono (by decide)) T.bb_pout .nil pass0) T.cl_OutEnd T.D_otake.m G_otake (hr.mono (by decide)) T.bb_otake .nil pass0 (pa_cons pe_int pa_nil)) (pe_lst pa_nil) (nomark _)) (pe_and (pe_cmpR (op_eqI hr.units) (pe_ix ix_list (pv 2) (pv 3) (fun _ _ => rfl)) (pe_lst pa_nil) (nomark _)) (pe_one (pe_cmpR (op_eqI hr.units) (pe_meth0 (pv 0) T.cl_Pipe T.D_pheld.m G_pheld (hr.mono (by decide)) T.bb_pheld .nil pass0) (pe_lst pa_nil) (nomark _)))))))))), ?_⟩
    obtain ⟨a, ha⟩ : ∃ a, hs[j]? = some a := ⟨_, List.getElem?_eq_getElem (by have := C0.l; have := (List.getElem?_eq_some_iff.mp hx).1; omega)⟩
    have bnd : ∀ (ps' : List PX) (xs' : List (List Int)), xs'.length = ps'.length + 1 → ordF (wsL ps') xs' = ordF (wsL ps) xs → ∀ (i : Nat) z, xs'[i]? = some z → z.length ≤ 60 := fun ps' xs' l e i z hz => by
      have h := (ord_le (ws := wsL ps') (xs := xs') (by rw [wsL_len]; exact l)).1 z (List.mem_of_getElem? hz)
      rw [e] at h; omega
    have lx := bnd ps xs C0.len rfl j x hx
    refine ⟨_, rfl, _, rfl, hn, _, _, .ref a, rfl, rfl, sq_at C0.h, atI_nat (by rw [List.getElem?_map, ha]; rfl), a, _, rfl, .inl (sq_at (C0.e j a x ha hx)), _, _, rfl, rfl, ?_⟩
    rw [List.length_map]
    refine ⟨(x.length : Int) + 65, rfl, by omega, by omega, ?_⟩
    rw [show ((x.length : Int) + 65).toNat = x.length + 65 by omega]
    refine for_range (lo := 0) (n := x.length + 65) (fun i σ H' => ∃ (ps' : List PX) (hs' : List Addr) (xs' : List (List Int)) (p' : PX) (x' y' : List Int) (y4 : Option V), σ = [some (.ref p.A.p), some (.int p.S.R), some (.ref hn), some (.int j), y4] ∧ CH (PipeAt T.C_Pipe T.C_IntoEnd T.C_OutEnd) H' ps' hn hs' xs' ∧ ps'[j]? = some p' ∧ p'.A = p.A ∧ xs'[j]? = some x' ∧ xs'[j + 1]? = some y' ∧ SX (c + 2 * i) p'.S ∧ p'.S.bi = false ∧ p'.S.R = p.S.R ∧ AP ps' = AP ps ∧ RP ps' = RP ps ∧ (∀ i, i ≠ j → ps'[i]? = ps[i]?) ∧ (∀ i, i ≠ j → i ≠ j + 1 → xs'[i]? = xs[i]?) ∧ ordF (wsL ps') xs' = ordF (wsL ps) xs ∧ x'.length + p'.S.ws.length ≤ x.length + 64 - i ∧ Fr ps hn H ps' H') ⟨ps, hs, xs, p, x, y, none, rfl, C0, hj, rfl, hx, hy, sx, hbi, rfl, rfl, rfl, fun _ _ => rfl, fun _ _ _ => rfl, rfl, by have := sx.w; have := sx.r; omega, Fr.same (Same.refl _)⟩ (fun i σ H' hi hW => ?_) (fun σ H' hW => ?_)
    · obtain ⟨ps', hs', xs', p', x', y', y4, rfl, C, hj', eA, hx', hy', sx', hb', eR, eAP, eRP, op, ox, eo, T, f0⟩ := hW
      refine ⟨_, rfl, _, rfl, _, rfl, _, rfl, ps', j, 60, _, p', hn, hs', xs', x', by rw [eA, eR]; rfl, C, hj', hx', sx', by omega, hb', by have := bnd ps' xs' C.len eo j x' hx'; omega, fun H1 F1 hs1 S1 x1 C1 pr f1 => ⟨_, rfl, iteF ?_⟩⟩
      obtain ⟨sx1, eR1, eb1⟩ := pr.keeps sx'
      have po := put_same_ord pr
      have o1 : ordF (wsL (ps'.set j ⟨p'.A, F1, S1⟩)) (xs'.set j x1) = ordF (wsL ps) xs := by
        rw [wsL_set, ord_put (by rw [wsL_len]; exact C.len) (wsL_at hj') hx' po]; exact eo
      have ll := congrArg List.length po
      rw [List.length_append, List.length_append] at ll
      have hj1 := get_set (w := (⟨p'.A, F1, S1⟩ : PX)) hj'
      have hx1 := get_set (w := x1) hx'
      have hy1 : (xs'.set j x1)[j + 1]? = some y' := by rw [get_ne (by omega)]; exact hy'
      have AP1 := (AP_set (F' := F1) (S' := S1) hj').trans eAP
      have RP1 := (RP_set (F' := F1) (S' := S1) hj' eR1).trans eRP
      have op1 : ∀ i, i ≠ j → (ps'.set j ⟨p'.A, F1, S1⟩)[i]? = ps[i]? := fun i h => by rw [get_ne h]; exact op i h
      have ox1 : ∀ i, i ≠ j → i ≠ j + 1 → (xs'.set j x1)[i]? = xs[i]? := fun i h h2 => by rw [get_ne h]; exact ox i h h2
      have f01 := f0.trans f1
      generalize hps : ps'.set j ⟨p'.A, F1, S1⟩ = ps1 at C1 f1 o1 hj1 AP1 RP1 op1 f01
      generalize hxs : xs'.set j x1 = xs1 at C1 o1 hx1 hy1 ox1
      have hPA := C1.p.p _ (List.mem_of_getElem? hj1)
      have hPAb := hPA
      obtain ⟨dp, di, dq, vi, vo, G, I, hF⟩ := hPAb
      rw [← eA]
      refine ⟨_, rfl, p'.A.p, dp, _, rfl, I.hp, pifs_no _ _ _ _ "held" (by decide +kernel), p'.A, F1, _, rfl, hPA, fun H2 hd nhd ehd s2 => ?_⟩
      refine ⟨hd, _, rfl, .inl (sq_at ehd), _, _, rfl, rfl, _, rfl, ?_⟩
      rw [List.length_map]
      have C2 := C1.same s2
      by_cases e0 : S1.ws = []
      · have t0 := pr.ws sx'.r1 e0
        refine iteFc (decide_eq_false (by show ¬ (0 : Int) < (S1.ws.length : Int); rw [e0]; decide)) (iteF ?_)
        have l0 : S1.ws.length = 0 := by rw [e0]; rfl
        exact ⟨ps1, hs1, xs1, ⟨p'.A, F1, S1⟩, x1, y', _, rfl, C2, hj1, rfl, hx1, hy1, sx1.up (by omega), eb1.trans hb', eR1.trans eR, AP1, RP1, op1, ox1, o1, by show x1.length + S1.ws.length ≤ _; omega, f01.trans (Fr.same s2)⟩
      · have lp := List.length_pos_iff.mpr e0
        refine iteTc (decide_eq_true (by show (0 : Int) < (S1.ws.length : Int); omega)) ?_
        refine ⟨_, rfl, _, rfl, _, rfl, ps1, j, 7, c + 2 * i + 1, ⟨p'.A, F1, S1⟩, hn, hs1, xs1, y', rfl, C2, hj1, hy1, sx1, by omega, eb1.trans hb', by have := bnd ps1 xs1 C1.len o1 (j + 1) y' hy1; omega, by decide, fun H3 F3 hs3 C3 f3 => ⟨_, rfl, iteF ?_⟩⟩
        have hj3 := get_set (w := (⟨p'.A, F3, takeP S1 7⟩ : PX)) hj1
        have hx3 : (xs1.set (j + 1) (y' ++ S1.ws.take 7))[j]? = some x1 := by rw [get_ne (by omega)]; exact hx1
        refine ⟨ps1.set j ⟨p'.A, F3, takeP S1 7⟩, hs3, xs1.set (j + 1) (y' ++ S1.ws.take 7), ⟨p'.A, F3, takeP S1 7⟩, x1, _, _, rfl, C3, hj3, rfl, hx3, get_set hy1, (sx1.take 7).up (by omega), eb1.trans hb', eR1.trans eR, (AP_set (p := ⟨p'.A, F1, S1⟩) hj1).trans AP1, (RP_set (p := ⟨p'.A, F1, S1⟩) (F' := F3) (S' := takeP S1 7) hj1 rfl).trans RP1, fun i h => by rw [get_ne h]; exact op1 i h, fun i h h2 => by rw [get_ne h2]; exact ox1 i h h2, ?_, ?_, (f01.trans (Fr.same s2)).trans f3⟩
        · rw [wsL_set]
          exact (ord_take (by rw [wsL_len]; exact C1.len) (wsL_at hj1) hy1 (List.take_append_drop 7 S1.ws).symm).trans o1
        · show x1.length + (S1.ws.drop 7).length ≤ _
          rw [List.length_drop]; omega
    · obtain ⟨ps', hs', xs', p', x', y', y4, rfl, C, hj', eA, hx', hy', sx', hb', eR, eAP, eRP, op, ox, eo, T, f0⟩ := hW
      have x0 : x' = [] := List.length_eq_zero_iff.mp (by omega)
      have w0 : p'.S.ws = [] := List.length_eq_zero_iff.mp (by omega)
      subst x0
      have hPA := C.p.p _ (List.mem_of_getElem? hj')
      have hPAb := hPA
      obtain ⟨dp, di, dq, vi, vo, G, I, hF⟩ := hPAb
      rw [← eA]
      refine ⟨_, rfl, p'.A.p, dp, _, rfl, I.hp, pifs_no _ _ _ _ "into" (by decide +kernel), p'.A, p'.F, _, rfl, hPA, p'.A.ei, di, _, rfl, I.hi, efs_no _ _ _ _ "shut" (by decide +kernel), p'.A, p'.F, p'.S, rfl, hPA, fun H1 hPA1 st1 => ?_⟩
      have C1 := C.pipe hj' hPA1 st1
      have f1 := f0.trans (Fr.pipe (S' := { p'.S with bi := true }) C hj' st1)
      have sx1 : SX (c + 2 * (x.length + 65)) { p'.S with bi := true } := ⟨sx'.w, sx'.r, sx'.r1, sx'.bo, sx'.ni, sx'.no, ⟨sx'.j.i, sx'.j.o, sx'.j.si, sx'.j.so, sx'.j.eq⟩⟩
      have hPA1b := hPA1
      obtain ⟨dp1, di1, dq1, vi1, vo1, G1, I1, hF1⟩ := hPA1b
      have hj1 := get_set (w := (⟨p'.A, p'.F, { p'.S with bi := true }⟩ : PX)) hj'
      refine ⟨_, rfl, p'.A.p, dp1, _, rfl, I1.hp, pifs_no _ _ _ _ "out" (by decide +kernel), p'.A, p'.F, _, rfl, hPA1, p'.A.eo, dq1, _, rfl, I1.ho, efs_no _ _ _ _ "take" (by decide +kernel), p'.A, 5, p'.F, _, rfl, hPA1, sx1.ok (by omega), sx1.bo, fun H2 F2 z2 hPA2 nz2 ez2 nFz2 st2 => ?_⟩
      have C2 := C1.pipe hj1 hPA2 st2
      have f2 := f1.trans (Fr.pipe (S' := takeP { p'.S with bi := true } 5) C1 hj1 st2)
      have hj2 := get_set (w := (⟨p'.A, F2, takeP { p'.S with bi := true } 5⟩ : PX)) hj1
      have sx2 := sx1.take 5
      rw [show stallB { p'.S with bi := true } 5 = false by unfold stallB; simp]
      refine ⟨by show (0 : Nat) ≤ sizeLine; omega, fun l2 nl2 => ?_⟩
      have s2 := (Kp.new (ps := []) (o := HO.lst []) nl2).same
      have ez2' : H2 z2 = some (.lst (([] : List Int).map V.int)) := by
        rw [ez2]; show some (HO.lst ((p'.S.ws.take 5).map V.int)) = _; rw [w0]; rfl
      refine ⟨z2, l2, [], [], rfl, rfl, sq_at (s2 _ _ ez2'), sq_at upd_same, _, rfl, iteTc (decide_eq_true rfl) ?_⟩
      have hPA2' := hPA2.same s2
      have hPA2b := hPA2'
      obtain ⟨dp2, di2, dq2, vi2, vo2, G2, I2, hF2⟩ := hPA2b
      refine ⟨_, rfl, p'.A.p, dp2, _, rfl, I2.hp, pifs_no _ _ _ _ "out" (by decide +kernel), p'.A, F2, _, rfl, hPA2', p'.A.eo, dq2, _, rfl, I2.ho, efs_no _ _ _ _ "take" (by decide +kernel), p'.A, 1, F2, _, rfl, hPA2', sx2.ok (by omega), sx2.bo, fun H3 F3 z3 hPA3 nz3 ez3 nFz3 st3 => ?_⟩
      have C3 := (C2.same s2).pipe hj2 hPA3 st3
      have f3 := (f2.trans (Fr.same s2)).trans (Fr.pipe (S' := takeP (takeP { p'.S with bi := true } 5) 1) (C2.same s2) hj2 st3)
      have hj3 := get_set (w := (⟨p'.A, F3, takeP (takeP { p'.S with bi := true } 5) 1⟩ : PX)) hj2
      have sx3 := sx2.take 1
      have wd : (takeP { p'.S with bi := true } 5).ws = [] := by show p'.S.ws.drop 5 = []; rw [w0]; rfl
      have wd3 : (takeP (takeP { p'.S with bi := true } 5) 1).ws = [] := by show (takeP { p'.S with bi := true } 5).ws.drop 1 = []; rw [wd]; rfl
      rw [show stallB (takeP { p'.S with bi := true } 5) 1 = false by unfold stallB; show (_ && !true) = false; simp]
      refine ⟨by show (0 : Nat) ≤ sizeLine; omega, fun l3 nl3 => ?_⟩
      have s3 := (Kp.new (ps := []) (o := HO.lst []) nl3).same
      have ez3' : H3 z3 = some (.lst (([] : List Int).map V.int)) := by rw [ez3, wd]; rfl
      refine ⟨z3, l3, [], [], rfl, rfl, sq_at (s3 _ _ ez3'), sq_at upd_same, _, rfl, iteTc (decide_eq_true rfl) ?_⟩
      have C3' := C3.same s3
      obtain ⟨a3, ha3⟩ : ∃ a, hs'[j]? = some a := ⟨_, List.getElem?_eq_getElem (by have := C.l; have := (List.getElem?_eq_some_iff.mp hx').1; omega)⟩
      refine ⟨_, rfl, _, rfl, hn, _, _, .ref a3, rfl, rfl, sq_at C3'.h, atI_nat (by rw [List.getElem?_map, ha3]; rfl), by show (0 : Nat) ≤ sizeLine; omega, fun l4 nl4 => ?_⟩
      have s4 := (Kp.new (ps := []) (o := HO.lst []) nl4).same
      refine ⟨a3, l4, [], [], rfl, rfl, sq_at (s4 _ _ (C3'.e j a3 [] ha3 hx')), sq_at upd_same, _, rfl, iteTc (decide_eq_true rfl) ?_⟩
      have hPA4 := (hPA3.same s3).same s4
      have hPA4b := hPA4
      obtain ⟨dp4, di4, dq4, vi4, vo4, G4, I4, hF4⟩ := hPA4b
      refine ⟨_, rfl, p'.A.p, dp4, _, rfl, I4.hp, pifs_no _ _ _ _ "held" (by decide +kernel), p'.A, F3, _, rfl, hPA4, fun H5 h5 n5 e5 s5 => ?_⟩
      rw [wd3] at e5
      refine ⟨by show (0 : Nat) ≤ sizeLine; omega, fun l5 nl5 => ?_⟩
      have s6 := (Kp.new (ps := []) (o := HO.lst []) nl5).same
      refine ⟨h5, l5, [], [], rfl, rfl, sq_at (s6 _ _ e5), sq_at upd_same, ?_⟩
      rw [decide_eq_true rfl]
      have s36 := ((s3.trans s4).trans s5).trans s6
      refine q _ _ hs' xs' _ (C3.same s36) hj3 hx' wd3 (sx3.up (by omega)) ?_ ?_ ?_ ox ?_ (f3.trans (Fr.same s36))
      · exact ((AP_set (p := ⟨p'.A, F2, takeP { p'.S with bi := true } 5⟩) (F' := F3) (S' := takeP (takeP { p'.S with bi := true } 5) 1) hj2).trans ((AP_set (p := ⟨p'.A, p'.F, { p'.S with bi := true }⟩) (F' := F2) (S' := takeP { p'.S with bi := true } 5) hj1).trans (AP_set (F' := p'.F) (S' := { p'.S with bi := true }) hj'))).trans eAP
      · exact ((RP_set (p := ⟨p'.A, F2, takeP { p'.S with bi := true } 5⟩) (F' := F3) (S' := takeP (takeP { p'.S with bi := true } 5) 1) hj2 rfl).trans ((RP_set (p := ⟨p'.A, p'.F, { p'.S with bi := true }⟩) (F' := F2) (S' := takeP { p'.S with bi := true } 5) hj1 rfl).trans (RP_set (F' := p'.F) (S' := { p'.S with bi := true }) hj' rfl))).trans eRP
      · intro i h
        rw [get_ne h, get_ne h, get_ne h]; exact op i h
      · rw [wsL_set, wsL_set, wsL_set, List.set_set, List.set_set]
        rw [show (⟨p'.A, F3, takeP (takeP { p'.S with bi := true } 5) 1⟩ : PX).S.ws = p'.S.ws by rw [w0]; exact wd3, set_id (wsL_at hj')]
        exact eo

set_option maxHeartbeats 0 in
theorem ok_law (T : Tx K mg) : FnOk P w K mg base CX0 7 T.f_law T.fd_law P_law (spLaw K) := by
  have G_pool := ok_pool (P := P) (w := w) (base := base) T
  have G_take := ok_take (P := P) (w := w) (base := base) T
  have G_pinit := ok_pinit (P := P) (w := w) (base := base) T
  have G_lrow := ok_lrow (P := P) (w := w) (base := base) T
  have G_lput := ok_lput (P := P) (w := w) (base := base) T
  have G_ltaken := ok_ltaken (P := P) (w := w) (base := base) T
  have G_inord := ok_inord (P := P) (w := w) (base := base) T
  have G_logged := ok_logged (P := P) (w := w) (base := base) T
  have G_passed := ok_passed (P := P) (w := w) (base := base) T
  have sz : sizeLine = 16777216 := sizeLine_eq
  refine T.D_law.F.ok sc_law (fun vs H Q E h => ?_) (fun cdv A outer s H vs Q E hr h => ?_)
  · obtain ⟨a, ns, rfl, _⟩ := h
    rfl
  · obtain ⟨a, ns, rfl, hS, h63, q⟩ := h
    refine ⟨_, (pss_cons (ps_set (i := 1) sc_law.nd rfl (.inr rfl) (pe_call G_pool (hr.mono (by decide)) (by rfl) T.D_pool.g T.D_pool.F.kp T.bb_pool .nil pass0 (pa_cons (pv 0) (pa_cons pe_int pa_nil))))
      (pss_cons (ps_setLc (i := 2) (own := [("_law_k", 3)]) (g := gName 3) (tt := tYes) (by rfl) sc_law.nd rfl rfl (sw_true rfl rfl rfl (by decide +kernel)) (pi_range1 (by rfl) T.m_range (pa_cons (pe_op op_add pe_int (pe_call G_take (hr.mono (by decide)) (by rfl) T.D_take.g T.D_take.F.kp T.bb_take .nil pass0 (pa_cons (pv 1) (pa_cons pe_int pa_nil)))) pa_nil)) (blkOk_by (own := [("_law_k", 3)]) (N := N_law) (sc := defScope s_law) (by decide +kernel)) (fun _ _ _ _ _ => pg_name (i := 3) sc_law.nd rfl (Or.inl rfl)) (fun _ _ _ _ _ => pts_nil) (fun _ _ _ _ _ => (pe_op op_add pe_int (pe_call G_take (hr.mono (by decide)) (by rfl) T.D_take.g T.D_take.F.kp T.bb_take .nil pass0 (pa_cons (pv 1) (pa_cons (pe_ix (show IxR _ (rIxL K) from ix_list) (pe_lst (pa_cons pe_int (pa_cons pe_int (pa_cons pe_int pa_nil)))) (pe_call G_take (hr.mono (by decide)) (by rfl) T.D_take.g T.D_take.F.kp T.bb_take .nil pass0 (pa_cons (pv 1) (pa_cons pe_int pa_nil))) (fun _ _ => rfl)) pa_nil))))))
      (pss_cons (ps_setLc (i := 4) (own := [("_law_number", 5)]) (g := gName 5) (tt := tYes) (by rfl) sc_law.nd rfl rfl (sw_true rfl rfl rfl (by decide +kernel)) (pi_list (pv 2)) (blkOk_by (own := [("_law_number", 5)]) (N := N_law) (sc := defScope s_law) (by decide +kernel)) (fun _ _ _ _ _ => pg_name (i := 5) sc_law.nd rfl (Or.inl rfl)) (fun _ _ _ _ _ => pts_nil) (fun _ _ _ _ _ => (pe_makeK0 T.mk_Pipe G_pinit (hr.mono (by decide)) (by rfl) T.g_Pipe T.kb_pinit_0_room pass0 (pk_cons (pv 5) pk_nil))))
      (pss_cons (ps_set (i := 6) sc_law.nd rfl (.inl rfl) (pe_call G_lrow (hr.mono (by decide)) (by rfl) T.D_lrow.g T.D_lrow.F.kp T.bb_lrow .nil pass0 (pa_cons (pv 1) (pa_cons pe_int pa_nil))))
      (pss_cons (ps_set (i := 7) sc_law.nd rfl (.inl rfl) (pe_op op_cat (pe_lst (pa_cons (pe_callTy call_list_of (by rfl) T.m_list (by decide +kernel) (pa_cons (pv 6) pa_nil)) pa_nil)) (pe_lc (own := [("_law_pipe", 8)]) (g := gName 8) (tt := tYes) (by rfl) sc_law.nd (pi_list (pv 4)) (blkOk_by (own := [("_law_pipe", 8)]) (N := N_law) (sc := defScope s_law) (by decide +kernel)) (fun _ _ _ _ _ => pg_name (i := 8) sc_law.nd rfl (Or.inl rfl)) (fun _ _ _ _ _ => pts_nil) (fun _ _ _ _ _ => (pe_lst pa_nil)))))
      (pss_cons (ps_for PassesOwn.never rfl (pi_range2 (by rfl) T.m_range (pa_cons pe_int (pa_cons (pe_callB (call_max2 rfl) (by rfl) T.m_max (by decide +kernel) (pa_cons pe_int (pa_cons (pe_callB (call_min2 rfl) (by rfl) T.m_min (by decide +kernel) (pa_cons pe_int (pa_cons (pe_callB call_len_seq (by rfl) T.m_len PySem.boot_len (pa_cons (pv 0) pa_nil)) pa_nil))) pa_nil))) pa_nil))) (pg_name (i := 3) sc_law.nd rfl (.inl rfl)) (pss_cons (ps_set (i := 1) sc_law.nd rfl (.inr rfl) (pe_call G_pool (hr.mono (by decide)) (by rfl) T.D_pool.g T.D_pool.F.kp T.bb_pool .nil pass0 (pa_cons (pv 0) (pa_cons (pv 3) pa_nil))))
      (pss_cons (ps_set (i := 9) sc_law.nd rfl (.inl rfl) (pe_call G_take (hr.mono (by decide)) (by rfl) T.D_take.g T.D_take.F.kp T.bb_take .nil pass0 (pa_cons (pv 1) (pa_cons (pe_callB call_len_seq (by rfl) T.m_len PySem.boot_len (pa_cons (pv 4) pa_nil)) pa_nil))))
      (pss_cons (ps_set (i := 10) sc_law.nd rfl (.inl rfl) (pe_op op_add pe_int (pe_call G_take (hr.mono (by decide)) (by rfl) T.D_take.g T.D_take.F.kp T.bb_take .nil pass0 (pa_cons (pv 1) (pa_cons (pe_ix ix_list (pe_lst (pa_cons pe_int (pa_cons pe_int (pa_cons pe_int pa_nil)))) (pe_call G_take (hr.mono (by decide)) (by rfl) T.D_take.g T.D_take.F.kp T.bb_take .nil pass0 (pa_cons (pv 1) (pa_cons pe_int pa_nil))) (fun _ _ => rfl)) pa_nil)))))
      (C8.pss_cut (ps_if (pt_cmpR op_eq (pe_call G_take (hr.mono (by decide)) (by rfl) T.D_take.g T.D_take.F.kp T.bb_take .nil pass0 (pa_cons (pv 1) (pa_cons pe_int pa_nil))) pe_int (nomark _)) (pss_one (ps_if (pt_not (pt_val (pe_call G_lput (hr.mono (by decide)) (by rfl) T.D_lput.g T.D_lput.F.kp T.bb_lput .nil pass0 (pa_cons (pe_ix ix_list (pv 4) (pv 9) (fun _ _ => rfl)) (pa_cons (pe_ix ix_list (pv 2) (pv 9) (fun _ _ => rfl)) (pa_cons (pv 7) (pa_cons (pv 9) (pa_cons (pv 10) pa_nil)))))))) (pss_one (ps_ret pe_bl)) pss_nil)) (pss_one (ps_if (pt_not (pt_val (pe_call G_ltaken (hr.mono (by decide)) (by rfl) T.D_ltaken.g T.D_ltaken.F.kp T.bb_ltaken .nil pass0 (pa_cons (pe_ix ix_list (pv 4) (pv 9) (fun _ _ => rfl)) (pa_cons (pv 7) (pa_cons (pv 9) (pa_cons (pv 10) pa_nil))))))) (pss_one (ps_ret pe_bl)) pss_nil)))
      (pss_one (ps_if (pt_cmpR (op_neI hr.units) (pe_call G_inord (hr.mono (by decide)) (by rfl) T.D_inord.g T.D_inord.F.kp T.bb_inord .nil pass0 (pa_cons (pv 4) (pa_cons (pv 7) pa_nil))) (pv 6) (nomark _)) (pss_one (ps_ret pe_bl)) pss_nil)))))))
      (pss_cons (ps_if (pt_not (pt_val (pe_callB (cr_all rfl) (by rfl) T.m_all (by decide +kernel) (pa_cons (pe_lc (own := [("_law_pipe", 8)]) (g := gName 8) (tt := tYes) (by rfl) sc_law.nd (pi_list (pv 4)) (blkOk_by (own := [("_law_pipe", 8)]) (N := N_law) (sc := defScope s_law) (by decide +kernel)) (fun _ _ _ _ _ => pg_name (i := 8) sc_law.nd rfl (Or.inl rfl)) (fun _ _ _ _ _ => pts_nil) (fun _ _ _ _ _ => (pe_call G_logged (hr.mono (by decide)) (by rfl) T.D_logged.g T.D_logged.F.kp T.bb_logged .nil pass0 (pa_cons (pv 8) pa_nil)))) pa_nil)))) (pss_one (ps_ret pe_bl)) pss_nil)
      (pss_cons (ps_for PassesOwn.never rfl (pi_range1 (by rfl) T.m_range (pa_cons (pe_callB call_len_seq (by rfl) T.m_len PySem.boot_len (pa_cons (pv 4) pa_nil)) pa_nil)) (pg_name (i := 9) sc_law.nd rfl (.inl rfl)) (pss_one (ps_if (PW.pt (pw_or (pt_not (pt_val (pe_call G_passed (hr.mono (by decide)) (by rfl) T.D_passed.g T.D_passed.F.kp T.bb_passed .nil pass0 (pa_cons (pe_ix ix_list (pv 4) (pv 9) (fun _ _ => rfl)) (pa_cons (pe_ix ix_list (pv 2) (pv 9) (fun _ _ => rfl)) (pa_cons (pv 7) (pa_cons (pv 9) pa_nil))))))) (pw_or1 (pt_cmpR (op_neI hr.units) (pe_call G_inord (hr.mono (by decide)) (by rfl) T.D_inord.g T.D_inord.F.kp T.bb_inord .nil pass0 (pa_cons (pv 4) (pa_cons (pv 7) pa_nil))) (pv 6) (nomark _))))) (pss_one (ps_ret pe_bl)) pss_nil)))
      (pss_one (ps_ret (pe_cmpR (op_eqI hr.units) (pe_ix ix_list (pv 7) (pe_callB call_len_seq (by rfl) T.m_len PySem.boot_len (pa_cons (pv 4) pa_nil)) (fun _ _ => rfl)) (pv 6) (nomark _)))))))))))), ?_⟩
    refine ⟨.ref a, rfl, a, ns, 0, rfl, hS, h63, by decide, by decide, fun p o1 np hP1 => ?_⟩
    have s1 : Same H (upd H p o1) := (Kp.new (ps := []) np).same
    refine ⟨.ref p, rfl, p, _, 3, o1, rfl, upd_same, hP1, by omega, by decide, by decide, fun w o2 w0 w1 hP2 => ?_⟩
    have s2 : Same H (upd (upd H p o1) p o2) := put_same s1 np
    have ep2 : (upd (upd H p o1) p o2) p = some o2 := upd_same
    generalize upd (upd H p o1) p o2 = H2 at s2 ep2 ⊢
    refine ⟨_, _, rfl, rfl, _, rfl, by omega, by omega, fun D nD => ?_⟩
    have pD : p ≠ D := ne_of_none ep2 nD
    have nD0 : H D = none := s2.free nD
    refine lc_range (lo := 0) (n := (1 + w).toNat) (fun i H' => ∃ (o : HO) (rs : List Nat), H' p = some o ∧ PoolO (2 + 2 * i) o ∧ H' D = some (.lst (rs.map fun r : Nat => V.int (r : Int))) ∧ rs.length = i ∧ (∀ r ∈ rs, 1 ≤ r ∧ r ≤ 64) ∧ Same H H') ⟨o2, [], by rw [upd_ne pD]; exact ep2, hP2.up (by omega), upd_same, rfl, fun r h => (nomatch h), s2.trans (Kp.new (ps := []) nD).same⟩ (fun i H' hi hP => ?_) (fun H3 hP => ?_)
    · obtain ⟨o, rs, ep, hPo, eD, lr, hr, sm⟩ := hP
      refine ⟨rfl, ?_⟩
      refine ⟨_, rfl, by show (3 : Nat) ≤ sizeLine; omega, fun m nm => ?_⟩
      have pm : p ≠ m := ne_of_none ep nm
      have Dm : D ≠ m := ne_of_none eD nm
      refine ⟨_, rfl, p, _, 3, o, rfl, by rw [upd_ne pm]; exact ep, hPo, by omega, by decide, by decide, fun v o3 v0 v1 hP3 => ?_⟩
      obtain ⟨N, N1, N2, eN⟩ := rooms_at v0 v1
      refine ⟨m, _, v, .int N, rfl, rfl, sq_at (by rw [upd_ne pm.symm]; exact upd_same), eN, p, _, N, o3, rfl, upd_same, hP3, by omega, by omega, by omega, fun u o4 u0 u1 hP4 => ?_⟩
      obtain ⟨k, rfl⟩ := Int.eq_ofNat_of_zero_le u0
      refine ⟨_, _, rfl, rfl, _, by rw [upd_ne pD.symm, upd_ne pD.symm, upd_ne Dm]; exact eD, by rw [List.length_map]; omega, o4, rs ++ [1 + k], by rw [upd_ne pD]; exact upd_same, hP4.up (by omega), by rw [upd_same, List.map_append]; rfl, by rw [List.length_append, lr]; rfl, fun r h => ?_, ?_⟩
      · rcases List.mem_append.mp h with h | h
        · exact hr r h
        · rw [List.mem_singleton.mp h]; omega
      · exact put_same (put_same (put_same (sm.trans (Kp.new (ps := []) nm).same) np) np) nD0
    obtain ⟨o3, rs, ep3, hP3, eD, lr, hr, s3⟩ := hP
    refine ⟨_, rfl, D, rfl, ⟨_, sq_at eD⟩, fun D2 nD2 => ?_⟩
    have DD2 : D ≠ D2 := ne_of_none eD nD2
    refine lc_list (K := K) (a := D) (xs := rs.map fun r : Nat => V.int (r : Int)) (fun i H' => ∃ ps : List PX, H' D2 = some (.lst (AP ps)) ∧ ps.length = i ∧ AllQ (PipeAt T.C_Pipe T.C_IntoEnd T.C_OutEnd) H' ps ∧ (∀ (j : Nat) (q : PX), ps[j]? = some q → ∃ r, rs[j]? = some r ∧ q.S = pst0 r) ∧ Same H3 H' ∧ ∀ b, AnyF ps b → H3 b = none ∧ b ≠ D2) ⟨[], upd_same, rfl, ⟨fun _ h => (nomatch h), fun i j p q _ h => by simp at h⟩, fun j q h => by simp at h, (Kp.new (ps := []) nD2).same, fun b h => by obtain ⟨_, h, _⟩ := h; cases h⟩ (fun i H' _ h => by obtain ⟨ps, _, _, _, _, sm, _⟩ := h; exact sq_at (sm _ _ eD)) (fun i x H' hx hW => ?_) (fun H4 hW => ?_)
    · obtain ⟨ps, eD2, lps, AQ, hps, sm, fr⟩ := hW
      rw [List.getElem?_map] at hx
      obtain ⟨r, hri, rfl⟩ := Option.map_eq_some_iff.mp hx
      obtain ⟨r1, r2⟩ := hr r (List.mem_of_getElem? hri)
      have il := (List.getElem?_eq_some_iff.mp hri).1
      refine ⟨rfl, ?_⟩
      refine ⟨_, rfl, rfl, rfl, fun pp dx npp ndx ndp => ?_⟩
      refine ⟨pp, dx, r, rfl, upd_same, r1, r2, fun H5 A F ep hPA st => ⟨rfl, AP ps, ?_⟩⟩
      obtain ⟨sN, nF⟩ := made_new st npp ndx
      have e2 := sN _ _ eD2
      refine ⟨e2, by unfold AP; rw [List.length_map]; omega, ps ++ [⟨A, F, pst0 r⟩], ?_, by rw [List.length_append, lps]; rfl, ?_, ?_, ?_, ?_⟩
      · rw [upd_same]; unfold AP; rw [List.map_append, ← ep]; rfl
      · have A1 := AllQ.snoc (AQ.same fun b o _ e => sN _ _ e) hPA (fun b ⟨q, hq, z⟩ y => by
          obtain ⟨o, e⟩ := (AQ.p q hq).own b z
          exact nF b o e y)
        refine A1.same fun b o z e => ?_
        have bD : b ≠ D2 := fun y => by
          obtain ⟨q, hq, z⟩ := z
          rcases List.mem_append.mp hq with hq | hq
          · exact (fr b ⟨q, hq, z⟩).2 y
          · rw [List.mem_singleton.mp hq] at z
            exact nF D2 _ eD2 (by rw [← y]; exact z)
        rw [upd_ne bD]; exact e
      · intro j q h
        by_cases l : j < ps.length
        · rw [List.getElem?_append_left l] at h; exact hps j q h
        · have jl : j = ps.length := by
            have := (List.getElem?_eq_some_iff.mp h).1
            rw [List.length_append] at this
            have : j < ps.length + 1 := this
            omega
          subst jl
          rw [List.getElem?_append_right (Nat.le_refl _), Nat.sub_self] at h
          cases h
          exact ⟨r, by rw [lps]; exact hri, rfl⟩
      · exact put_same (sm.trans sN) nD2
      · rintro b ⟨q, hq, z⟩
        rcases List.mem_append.mp hq with hq | hq
        · exact fr b ⟨q, hq, z⟩
        · rw [List.mem_singleton.mp hq] at z
          refine ⟨?_, fun y => nF D2 _ eD2 (by rw [← y]; exact z)⟩
          cases e : H3 b with
          | none => rfl
          | some o => exact absurd z (nF b o (sm _ _ e))
    obtain ⟨ps0, eD2, lps, AQ, hps, sm4, fr⟩ := hW
    rw [List.length_map, lr] at lps
    have lp3 : ps0.length ≤ 3 := by omega
    have lp1 : 1 ≤ ps0.length := by omega
    refine ⟨_, rfl, p, _, 60, o3, rfl, sm4 _ _ ep3, hP3, by omega, by decide, by decide, fun H5 r0 bs o5 nr0 er0 ep5 hP5 k5 lb hb => ?_⟩
    have pF : ¬ AnyF ps0 p := fun z => by rw [(fr p z).1] at ep3; cases ep3
    have AQ5 := AQ.same (H' := H5) (fun b o z e => k5 b o (by simpa using (fun y => pF (by rw [← y]; exact z))) e)
    have pD2 : D2 ≠ p := (ne_of_none ep3 nD2).symm
    have eD25 := k5 _ _ (by simpa using pD2) eD2
    have eD5 := k5 _ _ (by simpa using pD.symm) (sm4 _ _ eD)
    have s5 : Same H H5 := step_same (s3.trans sm4) np k5
    refine ⟨_, rfl, r0, _, rfl, .inl (sq_at er0), fun h0 nh0 => ?_⟩
    have c6 := updG (o := HO.lst (bs.map V.int)) rfl nh0
    generalize upd H5 h0 (HO.lst (bs.map V.int)) = H6 at c6 ⊢
    obtain ⟨eh0, z6⟩ := c6
    refine ⟨by show (1 : Nat) ≤ sizeLine; omega, fun l nl => ?_⟩
    have c7 := updG (o := HO.lst [.ref h0]) rfl nl
    generalize upd H6 l (HO.lst [.ref h0]) = H7 at c7 ⊢
    obtain ⟨el, z7⟩ := c7
    have z57 := z6.trans z7
    refine ⟨_, rfl, D2, rfl, ⟨_, sq_at (z57 _ _ eD25)⟩, fun D3 nD3 => ?_⟩
    refine lc_list (K := K) (a := D2) (xs := AP ps0) (fun i H' => ∃ as : List Addr, H' D3 = some (.lst (as.map V.ref)) ∧ as.length = i ∧ (∀ b ∈ as, H' b = some (.lst []) ∧ H7 b = none ∧ b ≠ D3) ∧ Same H7 H') ⟨[], upd_same, rfl, fun _ h => (nomatch h), (Kp.new (ps := []) nD3).same⟩ (fun i H' _ h => by obtain ⟨as, _, _, _, sm⟩ := h; exact sq_at (sm _ _ (z57 _ _ eD25))) (fun i x H' hx hW => ?_) (fun H8 hW => ?_)
    · obtain ⟨as, e3, las, has, sm⟩ := hW
      have il : i < 3 := by
        have := (List.getElem?_eq_some_iff.mp hx).1
        unfold AP at this
        rw [List.length_map] at this
        omega
      refine ⟨rfl, by show (0 : Nat) ≤ sizeLine; omega, fun b nb => ?_⟩
      have bD : D3 ≠ b := ne_of_none e3 nb
      refine ⟨_, by rw [upd_ne bD]; exact e3, by rw [List.length_map]; omega, as ++ [b], by rw [upd_same, List.map_append]; rfl, by rw [List.length_append, las]; rfl, fun c hc => ?_, put_same (sm.trans (Kp.new (ps := []) nb).same) nD3⟩
      rcases List.mem_append.mp hc with hc | hc
      · obtain ⟨e1, e2, e4⟩ := has c hc
        exact ⟨by rw [upd_ne e4, upd_ne (ne_of_none e1 nb)]; exact e1, e2, e4⟩
      · rw [List.mem_singleton.mp hc]
        exact ⟨by rw [upd_ne bD.symm]; exact upd_same, sm.free nb, bD.symm⟩
    obtain ⟨as, e3, las, has, sm8⟩ := hW
    have lAP : (AP ps0).length = ps0.length := by unfold AP; rw [List.length_map]
    rw [lAP] at las
    refine ⟨l, D3, _, _, rfl, rfl, sm8 _ _ el, e3, by rw [List.length_map]; show 1 + _ ≤ _; omega, fun hn nhn => ?_⟩
    rw [show [V.ref h0] ++ as.map V.ref = (h0 :: as).map V.ref from rfl]
    have c9 := updG (o := HO.lst ((h0 :: as).map V.ref)) rfl nhn
    generalize upd H8 hn (HO.lst ((h0 :: as).map V.ref)) = H9 at c9 ⊢
    obtain ⟨ehn, z9⟩ := c9
    have z59 := (z57.trans sm8).trans z9
    have AQ9 := AQ5.same (H' := H9) (fun b o _ e => z59 _ _ e)
    have n5 : ∀ b, H5 b = none → ¬ AnyF ps0 b := fun b n => AQ5.new n
    have C0 : CH (PipeAt T.C_Pipe T.C_IntoEnd T.C_OutEnd) H9 ps0 hn (h0 :: as) (bs :: List.replicate ps0.length []) := by
      refine ⟨AQ9, ehn, by show as.length + 1 = (List.replicate ps0.length []).length + 1; rw [List.length_replicate, las], fun j b x h1 h2 => ?_, fun b hb' => ?_, n5 _ (z57.free (sm8.free nhn)), fun b hb' => ?_, by show (List.replicate ps0.length []).length + 1 = _; rw [List.length_replicate]⟩
      · cases j with
        | zero => cases h1; cases h2; exact z9 _ _ (sm8 _ _ (z7 _ _ eh0))
        | succ j =>
          rw [List.getElem?_cons_succ] at h1 h2
          rw [List.getElem?_replicate] at h2
          split at h2
          · cases h2; exact z9 _ _ (has b (List.mem_of_getElem? h1)).1
          · cases h2
      · rcases List.mem_cons.mp hb' with rfl | hb'
        · exact ne_of_none (sm8 _ _ (z7 _ _ eh0)) nhn
        · exact ne_of_none (has b hb').1 nhn
      · rcases List.mem_cons.mp hb' with rfl | hb'
        · exact n5 _ nh0
        · exact n5 _ (z57.free (has b hb').2.1)
    have ws0 : wsL ps0 = List.replicate ps0.length [] := wsL_nil fun q hq => by
      obtain ⟨j, hj⟩ := List.mem_iff_getElem?.mp hq
      obtain ⟨r, _, e⟩ := hps j q hj
      rw [e]; rfl
    have ord0 : ordF (wsL ps0) (bs :: List.replicate ps0.length []) = bs := by rw [ws0]; exact ord_init _ _
    have sx0 : ∀ q ∈ ps0, SX 0 q.S ∧ q.S.bi = false := fun q hq => by
      obtain ⟨j, hj⟩ := List.mem_iff_getElem?.mp hq
      obtain ⟨r, hrj, e⟩ := hps j q hj
      obtain ⟨r1, r2⟩ := hr r (List.mem_of_getElem? hrj)
      rw [e]; exact ⟨pst0_sx r r1 r2, rfl⟩
    have eRP : (rs.map fun r : Nat => V.int (r : Int)) = RP ps0 := by
      apply List.ext_getElem?
      intro j
      unfold RP
      rw [List.getElem?_map, List.getElem?_map]
      by_cases jl : j < ps0.length
      · obtain ⟨r, hrj, e⟩ := hps j ps0[j] (List.getElem?_eq_getElem jl)
        rw [hrj, List.getElem?_eq_getElem jl]
        show some (V.int (r : Int)) = some (V.int (ps0[j].S.R : Int))
        rw [e]; rfl
      · rw [List.getElem?_eq_none (by omega), List.getElem?_eq_none (by omega)]; rfl
    rw [eRP] at eD5
    have s9 := s5.trans z59
    have F0 : ∀ b o, H b = some o → ¬ AnyF ps0 b := fun b o e z => by rw [s3.free (fr b z).1] at e; cases e
    have hnH : H hn = none := s5.free (z57.free (sm8.free nhn))
    have kept : ∀ (ps : List PX) (H' : Hp), Fr ps0 hn H9 ps H' → Same H H' ∧ H' D2 = some (.lst (AP ps0)) ∧ H' D = some (.lst (RP ps0)) ∧ H' r0 = some (.lst (bs.map V.int)) := fun ps H' f => by
      have ne : ∀ b o, H5 b = some o → b ≠ hn := fun b o e y => by rw [y, z57.free (sm8.free nhn)] at e; cases e
      refine ⟨fun b o e => f.k b o (F0 b o e) (ne b o (s5 _ _ e)) (s9 _ _ e), f.k _ _ (fun z => (fr D2 z).2 rfl) (ne _ _ eD25) (z59 _ _ eD25), f.k _ _ (fun z => by rw [(fr D z).1] at eD; cases eD) (ne _ _ eD5) (z59 _ _ eD5), f.k _ _ (fun z => ?_) (ne _ _ er0) (z59 _ _ er0)⟩
      obtain ⟨q, hq, z⟩ := z
      obtain ⟨o, e⟩ := (AQ.p q hq).own r0 z
      rw [e] at nr0; cases nr0
    clear AQ AQ5 AQ9 n5 has e3 sm8 z57 z6 z7 el eh0 z9 ehn hps k5 ep5 eD25 eD5 hP5 eD2 nD2 sm4 fr nD3 nhn nl nh0 eD nr0 er0 z59 lr
    refine ⟨.ref a, rfl, a, _, rfl, .inl (s9.seq hS), _, _, rfl, _, _, rfl, _, _, rfl, ?_, ?_⟩
    · refine ⟨by decide, by decide, ?_, ?_⟩ <;> split <;> (split <;> omega)
    have en : ∃ n : Nat, n ≤ 63 ∧ ((if (if (((ns.map V.int).length : Nat) : Int) < 64 then (((ns.map V.int).length : Nat) : Int) else 64) > 13 then (if (((ns.map V.int).length : Nat) : Int) < 64 then (((ns.map V.int).length : Nat) : Int) else 64) else 13) - 1).toNat = n := by
      refine ⟨_, ?_, rfl⟩
      split <;> (split <;> omega)
    obtain ⟨n, n63, en⟩ := en
    rw [en]
    refine for_range (lo := 1) (n := n) (fun i σ H' => ∃ (ps : List PX) (hs : List Addr) (xs : List (List Int)) (y1 y3 y5 y8 y9 y10 : Option V), σ = [some (.ref a), y1, some (.ref D), y3, some (.ref D2), y5, some (.ref r0), some (.ref hn), y8, y9, y10] ∧ CH (PipeAt T.C_Pipe T.C_IntoEnd T.C_OutEnd) H' ps hn hs xs ∧ AP ps = AP ps0 ∧ RP ps = RP ps0 ∧ (∀ q ∈ ps, SX i q.S ∧ q.S.bi = false) ∧ ordF (wsL ps) xs = bs ∧ Fr ps0 hn H9 ps H') ⟨ps0, _, _, _, _, _, _, _, _, rfl, C0, rfl, rfl, sx0, ord0, Fr.same (Same.refl _)⟩ (fun i σ H' hi hW => ?_) (fun σ H' hW => ?_)
    · obtain ⟨ps, hs, xs, y1, y3, y5, y8, y9, y10, rfl, C, eA, eR, sx, eo, f0⟩ := hW
      obtain ⟨sm, eD2, eD, er⟩ := kept ps H' f0
      have lps' : ps.length = ps0.length := by have h := congrArg List.length eA; unfold AP at h; rwa [List.length_map, List.length_map] at h
      refine ⟨.ref a, rfl, _, rfl, a, ns, 1 + (i : Int), rfl, sm.seq hS, h63, by omega, by omega, fun p1 o1 np1 hP1 => ?_⟩
      have t1 : Same H' (upd H' p1 o1) := (Kp.new (ps := []) np1).same
      refine ⟨.ref p1, rfl, _, rfl, D2, _, rfl, .inl (sq_at (t1 _ _ eD2)), ?_⟩
      rw [lAP]
      refine ⟨p1, _, _, o1, rfl, upd_same, hP1, by omega, by omega, by omega, fun w o2 w0 w1 hP2 => ?_⟩
      obtain ⟨j, rfl⟩ := Int.eq_ofNat_of_zero_le w0
      have jl : j < ps.length := by omega
      have t2 : Same H' (upd (upd H' p1 o1) p1 o2) := put_same t1 np1
      have ep2 : (upd (upd H' p1 o1) p1 o2) p1 = some o2 := upd_same
      generalize upd (upd H' p1 o1) p1 o2 = H2 at t2 ep2 ⊢
      refine ⟨_, rfl, by show (3 : Nat) ≤ sizeLine; omega, fun m nm => ?_⟩
      have pm : p1 ≠ m := ne_of_none ep2 nm
      refine ⟨_, rfl, p1, _, 3, o2, rfl, by rw [upd_ne pm]; exact ep2, hP2, by omega, by decide, by decide, fun v o3 v0 v1 hP3 => ?_⟩
      obtain ⟨N, N1, N2, eN⟩ := manys_at v0 v1
      refine ⟨m, _, v, .int N, rfl, rfl, sq_at (by rw [upd_ne pm.symm]; exact upd_same), eN, p1, _, N, o3, rfl, upd_same, hP3, by omega, by omega, by omega, fun u o4 u0 u1 hP4 => ?_⟩
      obtain ⟨k0, rfl⟩ := Int.eq_ofNat_of_zero_le u0
      obtain ⟨k, ek⟩ : ∃ k, k = 1 + k0 := ⟨_, rfl⟩
      have ek2 : V.int (1 + (k0 : Int)) = V.int (k : Int) := by rw [ek]; rfl
      generalize hG : upd (upd _ p1 o3) p1 o4 = H3
      have t3 : Same H' H3 := by rw [← hG]; exact put_same (put_same (t2.trans (Kp.new (ps := []) nm).same) np1) np1
      have ep3 : H3 p1 = some o4 := by rw [← hG]; exact upd_same
      clear hG
      refine ⟨_, _, rfl, rfl, ?_⟩
      show gName 10 (V.int (1 + (k0 : Int))) _ _ _
      rw [ek2]
      obtain ⟨q0, hq0⟩ : ∃ q, ps[j]? = some q := ⟨_, List.getElem?_eq_getElem jl⟩
      have le := C.len
      obtain ⟨x, hx⟩ : ∃ x, xs[j]? = some x := ⟨_, List.getElem?_eq_getElem (by omega)⟩
      obtain ⟨y, hy⟩ : ∃ y, xs[j + 1]? = some y := ⟨_, List.getElem?_eq_getElem (by omega)⟩
      have bl := ord_le (ws := wsL ps) (xs := xs) (by rw [wsL_len]; exact le)
      rw [eo] at bl
      have lx := bl.1 x (List.mem_of_getElem? hx)
      have ly := bl.1 y (List.mem_of_getElem? hy)
      obtain ⟨sxq, hbq⟩ := sx q0 (List.mem_of_getElem? hq0)
      have apj : atI (AP ps0) (j : Int) = some (.ref q0.A.p) := by rw [← eA]; exact atI_nat (by unfold AP; rw [List.getElem?_map, hq0]; rfl)
      have rpj : atI (RP ps0) (j : Int) = some (.int q0.S.R) := by rw [← eR]; exact atI_nat (by unfold RP; rw [List.getElem?_map, hq0]; rfl)
      refine ⟨fun σ' H4 => ∃ (ps : List PX) (hs : List Addr) (xs : List (List Int)), σ' = [some (.ref a), some (.ref p1), some (.ref D), some (.int (1 + (i : Int))), some (.ref D2), y5, some (.ref r0), some (.ref hn), y8, some (.int j), some (.int k)] ∧ CH (PipeAt T.C_Pipe T.C_IntoEnd T.C_OutEnd) H4 ps hn hs xs ∧ AP ps = AP ps0 ∧ RP ps = RP ps0 ∧ (∀ q ∈ ps, SX (i + 1) q.S ∧ q.S.bi = false) ∧ ordF (wsL ps) xs = bs ∧ Fr ps0 hn H9 ps H4, ?_, fun σ' H4 hm => ?_⟩
      · refine ⟨_, rfl, p1, _, 2, o4, rfl, ep3, hP4, by omega, by decide, by decide, fun b o5 b0 b1 hP5 => ?_⟩
        have t4 : Same H' (upd H3 p1 o5) := put_same t3 np1
        generalize upd H3 p1 o5 = H4 at t4 ⊢
        have C4 := C.same t4
        have sxs : ∀ (S' : Pst) (F' : Addr → Prop), SX (i + 1) S' → S'.bi = false → ∀ q ∈ ps.set j ⟨q0.A, F', S'⟩, SX (i + 1) q.S ∧ q.S.bi = false := fun S' F' h1 h2 q hq => by
          rcases List.mem_or_eq_of_mem_set hq with h | h
          · exact ⟨(sx q h).1.up (by omega), (sx q h).2⟩
          · rw [h]; exact ⟨h1, h2⟩
        refine ⟨rfl, _, rfl, ite2 (fun _ => ?_) (fun _ => ?_)⟩
        · refine ⟨_, rfl, _, rfl, D2, _, _, .ref q0.A.p, rfl, rfl, sq_at (t4 _ _ eD2), apj, _, rfl, _, rfl, D, _, _, .int q0.S.R, rfl, rfl, sq_at (t4 _ _ eD), rpj, _, rfl, _, rfl, _, rfl, ps, j, k, i, q0, hn, hs, xs, x, rfl, C4, hq0, hx, sxq, by omega, hbq, by omega, fun H5 F5 hs5 S5 x5 C5 pr f5 => ⟨_, rfl, iteF ?_⟩⟩
          obtain ⟨sx5, eR5, eb5⟩ := pr.keeps sxq
          refine ⟨_, hs5, _, rfl, C5, (AP_set hq0).trans eA, (RP_set hq0 eR5).trans eR, sxs S5 F5 sx5 (eb5.trans hbq), ?_, (f0.trans (Fr.same t4)).trans f5⟩
          rw [wsL_set]
          exact (ord_put (by rw [wsL_len]; exact le) (wsL_at hq0) hx (put_same_ord pr)).trans eo
        · refine ⟨_, rfl, _, rfl, D2, _, _, .ref q0.A.p, rfl, rfl, sq_at (t4 _ _ eD2), apj, _, rfl, _, rfl, _, rfl, ps, j, k, i, q0, hn, hs, xs, y, rfl, C4, hq0, hy, sxq, by omega, hbq, by omega, by omega, fun H5 F5 hs5 C5 f5 => ⟨_, rfl, iteF ?_⟩⟩
          refine ⟨_, hs5, _, rfl, C5, (AP_set hq0).trans eA, (RP_set (S' := takeP q0.S k) hq0 rfl).trans eR, sxs _ F5 (sxq.take k) hbq, ?_, (f0.trans (Fr.same t4)).trans f5⟩
          rw [wsL_set]
          exact (ord_take (by rw [wsL_len]; exact le) (wsL_at hq0) hy (List.take_append_drop k q0.S.ws).symm).trans eo
      · obtain ⟨ps, hs, xs, rfl, C, eA, eR, sx, eo, f0⟩ := hm
        obtain ⟨sm, eD2, eD, er⟩ := kept ps H4 f0
        have lps' : ps.length = ps0.length := by have h := congrArg List.length eA; unfold AP at h; rwa [List.length_map, List.length_map] at h
        refine ⟨_, rfl, _, rfl, ps, D2, hn, hs, xs, rfl, C, by rw [← show AP ps = ps.map fun p => V.ref p.A.p from rfl, eA]; exact eD2, by omega, by rw [eo]; omega, fun H5 u nu eu s5 => ?_⟩
        rw [eo] at eu
        refine ⟨_, rfl, u, r0, _, _, rfl, rfl, sq_at eu, sq_at (s5 _ _ er), _, rfl, iteNS rfl ?_⟩
        exact ⟨ps, hs, xs, _, _, _, _, _, _, rfl, C.same s5, eA, eR, sx, eo, f0.trans (Fr.same s5)⟩
    · obtain ⟨ps, hs, xs, y1, y3, y5, y8, y9, y10, rfl, C, eA, eR, sx, eo, f0⟩ := hW
      obtain ⟨sm, eD2, eD, er⟩ := kept ps H' f0
      have lps' : ps.length = ps0.length := by have h := congrArg List.length eA; unfold AP at h; rwa [List.length_map, List.length_map] at h
      refine ⟨_, rfl, D2, rfl, ⟨_, sq_at eD2⟩, fun D4 nD4 => ?_⟩
      refine lc_list (K := K) (a := D2) (xs := AP ps0) (fun i H'' => H'' D4 = some (.lst ((List.replicate i true).map V.bl)) ∧ Same H' H'') ⟨upd_same, (Kp.new (ps := []) nD4).same⟩ (fun i H'' _ h => sq_at (h.2 _ _ eD2)) (fun i x H'' hx hW => ?_) (fun H2 hW => ?_)
      · obtain ⟨e4, sm2⟩ := hW
        rw [← eA] at hx
        unfold AP at hx
        rw [List.getElem?_map] at hx
        obtain ⟨q1, hq1, rfl⟩ := Option.map_eq_some_iff.mp hx
        have il := (List.getElem?_eq_some_iff.mp hq1).1
        refine ⟨rfl, ?_⟩
        refine ⟨_, rfl, q1.A, q1.F, q1.S, n, rfl, (C.p.p q1 (List.mem_of_getElem? hq1)).same sm2, (sx q1 (List.mem_of_getElem? hq1)).1, by omega, fun H3 s3' => ?_⟩
        refine ⟨_, s3' _ _ e4, by rw [List.length_map, List.length_replicate]; omega, ?_, put_same (sm2.trans s3') nD4⟩
        rw [upd_same, List.replicate_succ', List.map_append]; rfl
      obtain ⟨e4, sm2⟩ := hW
      refine ⟨D4, _, rfl, sq_at e4, ?_⟩
      rw [show (List.replicate (AP ps0).length true).all id = true by simp]
      refine ⟨_, rfl, iteF ?_⟩
      refine ⟨_, rfl, D2, _, rfl, .inl (sq_at (sm2 _ _ eD2)), ?_⟩
      rw [lAP]
      refine ⟨_, rfl, by omega, by omega, ?_⟩
      rw [show ((ps0.length : Nat) : Int).toNat = ps0.length from Int.toNat_natCast _]
      refine for_range (lo := 0) (n := ps0.length) (fun i σ H' => ∃ (ps : List PX) (hs : List Addr) (xs : List (List Int)) (y8 y9 : Option V), σ = [some (.ref a), y1, some (.ref D), y3, some (.ref D2), y5, some (.ref r0), some (.ref hn), y8, y9, y10] ∧ CH (PipeAt T.C_Pipe T.C_IntoEnd T.C_OutEnd) H' ps hn hs xs ∧ AP ps = AP ps0 ∧ RP ps = RP ps0 ∧ (∀ q ∈ ps, SX (n + 300 * i) q.S) ∧ (∀ (j : Nat) (q : PX), ps[j]? = some q → i ≤ j → q.S.bi = false) ∧ (∀ (j : Nat) (q : PX), ps[j]? = some q → j < i → q.S.ws = [] ∧ xs[j]? = some []) ∧ ordF (wsL ps) xs = bs ∧ Fr ps0 hn H9 ps H') ⟨ps, hs, xs, _, _, rfl, C.same sm2, eA, eR, fun q hq => (sx q hq).1.up (by omega), fun j q hj _ => (sx q (List.mem_of_getElem? hj)).2, fun j q _ h => absurd h (by omega), eo, f0.trans (Fr.same sm2)⟩ (fun i σ H' hi hW => ?_) (fun σ H' hW => ?_)
      · clear C sx eo f0 sm eD2 eD er eA eR sm2 e4 lps'
        obtain ⟨ps, hs, xs, y8, y9, rfl, C, eA, eR, sx, hbs, hem, eo, f0⟩ := hW
        obtain ⟨sm, eD2, eD, er⟩ := kept ps _ f0
        have lps' : ps.length = ps0.length := by have h := congrArg List.length eA; unfold AP at h; rwa [List.length_map, List.length_map] at h
        obtain ⟨q0, hq0⟩ : ∃ q, ps[i]? = some q := ⟨_, List.getElem?_eq_getElem (by omega)⟩
        have le := C.len
        obtain ⟨x, hx⟩ : ∃ x, xs[i]? = some x := ⟨_, List.getElem?_eq_getElem (by omega)⟩
        obtain ⟨y, hy⟩ : ∃ y, xs[i + 1]? = some y := ⟨_, List.getElem?_eq_getElem (by omega)⟩
        have apj : atI (AP ps0) (0 + (i : Int)) = some (.ref q0.A.p) := by rw [← eA, Int.zero_add]; exact atI_nat (by unfold AP; rw [List.getElem?_map, hq0]; rfl)
        have rpj : atI (RP ps0) (0 + (i : Int)) = some (.int q0.S.R) := by rw [← eR, Int.zero_add]; exact atI_nat (by unfold RP; rw [List.getElem?_map, hq0]; rfl)
        refine ⟨_, rfl, _, rfl, D2, _, _, .ref q0.A.p, rfl, rfl, sq_at eD2, apj, _, rfl, _, rfl, D, _, _, .int q0.S.R, rfl, rfl, sq_at eD, rpj, _, rfl, _, rfl, ps, i, n + 300 * i, q0, hn, hs, xs, x, y, by rw [Int.zero_add]; rfl, C, hq0, hx, hy, sx q0 (List.mem_of_getElem? hq0), by omega, hbs i q0 hq0 (Nat.le_refl _), by rw [eo]; omega, fun H3 ps3 hs3 xs3 p3 C3 hp3 hx3 hw3 sx3 eA3 eR3 op ox eo3 f3 => ⟨_, rfl, iteF ?_⟩⟩
        have f03 := f0.trans f3
        obtain ⟨sm3, eD23, eD3, er3⟩ := kept ps3 _ f03
        have lps3 : ps3.length = ps0.length := by have h := congrArg List.length (eA3.trans eA); unfold AP at h; rwa [List.length_map, List.length_map] at h
        refine ⟨_, rfl, _, rfl, ps3, D2, hn, hs3, xs3, rfl, C3, by rw [← show AP ps3 = ps3.map fun p => V.ref p.A.p from rfl, eA3, eA]; exact eD23, by omega, by rw [eo3, eo]; omega, fun H5 u nu eu s5 => ?_⟩
        rw [eo3, eo] at eu
        refine ⟨_, rfl, u, r0, _, _, rfl, rfl, sq_at eu, sq_at (s5 _ _ er3), _, rfl, iteNS rfl ?_⟩
        refine ⟨ps3, hs3, xs3, _, _, rfl, C3.same s5, eA3.trans eA, eR3.trans eR, fun q hq => ?_, fun j q hj h => ?_, fun j q hj h => ?_, eo3.trans eo, f03.trans (Fr.same s5)⟩
        · obtain ⟨j, hj⟩ := List.mem_iff_getElem?.mp hq
          by_cases ji : j = i
          · subst ji; rw [hp3] at hj; cases hj; exact sx3.up (by omega)
          · rw [op j ji] at hj
            exact (sx q (List.mem_of_getElem? hj)).up (by omega)
        · rw [op j (by omega)] at hj
          exact hbs j q hj (by omega)
        · by_cases ji : j = i
          · subst ji; rw [hp3] at hj; cases hj; exact ⟨hw3, hx3⟩
          · rw [op j ji] at hj
            obtain ⟨e1, e2⟩ := hem j q hj (by omega)
            exact ⟨e1, by rw [ox j ji (by omega)]; exact e2⟩
      · clear C sx eo f0 sm eD2 eD er eA eR sm2 e4 lps'
        obtain ⟨ps, hs, xs, y8, y9, rfl, C, eA, eR, sx, hbs, hem, eo, f0⟩ := hW
        obtain ⟨sm, eD2, eD, er⟩ := kept ps _ f0
        have lps' : ps.length = ps0.length := by have h := congrArg List.length eA; unfold AP at h; rwa [List.length_map, List.length_map] at h
        have le := C.len
        have el := ord_last (ws := wsL ps) (xs := xs) (by rw [wsL_len]; exact le) (fun w hw => by
          unfold wsL at hw
          obtain ⟨q, hq, rfl⟩ := List.mem_map.mp hw
          obtain ⟨j, hj⟩ := List.mem_iff_getElem?.mp hq
          exact (hem j q hj (by have := (List.getElem?_eq_some_iff.mp hj).1; omega)).1) (fun j hj => by
          rw [wsL_len] at hj
          exact (hem j ps[j] (List.getElem?_eq_getElem hj) (by omega)).2)
        rw [wsL_len, eo, lps'] at el
        obtain ⟨b, hb'⟩ : ∃ b, hs[ps0.length]? = some b := ⟨_, List.getElem?_eq_getElem (by have := C.l; omega)⟩
        refine ⟨_, rfl, _, rfl, D2, _, rfl, .inl (sq_at eD2), ?_⟩
        rw [lAP]
        refine ⟨hn, _, _, .ref b, rfl, rfl, sq_at C.h, atI_nat (by rw [List.getElem?_map, hb']; rfl), _, rfl, b, r0, _, _, rfl, rfl, sq_at (C.e _ b _ hb' el), sq_at er, ?_⟩
        rw [decide_eq_true rfl]
        exact q _
end
set_option maxHeartbeats 0 in
theorem all_mk {l : PySem.W.OpenLaw} {w : World} {K : PySem.W.Frag} {h : Heap} {mg : Str → Option Value} {fa C_IntoEnd C_OutEnd C_Pipe C_Raw f_whole f_croom f_ocopy f_rinit f_iinit f_oinit f_pinit K_pinit f_pinto f_pout f_pheld f_play f_plift f_iaccept f_ogive f_iput f_iopen f_imay f_inote f_ishut f_ilog f_ilogb f_otake f_oopen f_omay f_onote f_oshut f_olog f_ologb f_idown f_pool f_take f_lrow f_lput f_ltaken f_inord f_logged f_passed f_law : Addr} (X : K.In h) (G : h.Ns mainGlobals mg) (hfa : mg "law" = some (.ref fa))
    {od_whole an_whole : Option Addr} {sl_whole : Array (Option Value)} {oc_whole dc_whole pm_whole cd_whole ct_whole : Value}
    {kV_whole : Value}
    {od_croom an_croom : Option Addr} {sl_croom : Array (Option Value)} {oc_croom dc_croom pm_croom cd_croom ct_croom : Value}
    {kV_croom : Value}
    {od_ocopy an_ocopy : Option Addr} {sl_ocopy : Array (Option Value)} {oc_ocopy dc_ocopy pm_ocopy cd_ocopy ct_ocopy : Value}
    {kV_ocopy : Value}
    {od_rinit an_rinit : Option Addr} {sl_rinit : Array (Option Value)} {oc_rinit dc_rinit pm_rinit cd_rinit ct_rinit : Value}
    {kV_rinit : Value}
    {od_iinit an_iinit : Option Addr} {sl_iinit : Array (Option Value)} {oc_iinit dc_iinit pm_iinit cd_iinit ct_iinit : Value}
    {kV_iinit : Value}
    {od_oinit an_oinit : Option Addr} {sl_oinit : Array (Option Value)} {oc_oinit dc_oinit pm_oinit cd_oinit ct_oinit : Value}
    {kV_oinit : Value}
    {od_pinit an_pinit : Option Addr} {sl_pinit : Array (Option Value)} {oc_pinit dc_pinit pm_pinit cd_pinit ct_pinit : Value}
    {kk_pinit_0 : Tok}
    {od_pinto an_pinto : Option Addr} {sl_pinto : Array (Option Value)} {oc_pinto dc_pinto pm_pinto cd_pinto ct_pinto : Value}
    {kV_pinto : Value}
    {od_pout an_pout : Option Addr} {sl_pout : Array (Option Value)} {oc_pout dc_pout pm_pout cd_pout ct_pout : Value}
    {kV_pout : Value}
    {od_pheld an_pheld : Option Addr} {sl_pheld : Array (Option Value)} {oc_pheld dc_pheld pm_pheld cd_pheld ct_pheld : Value}
    {kV_pheld : Value}
    {od_play an_play : Option Addr} {sl_play : Array (Option Value)} {oc_play dc_play pm_play cd_play ct_play : Value}
    {kV_play : Value}
    {od_plift an_plift : Option Addr} {sl_plift : Array (Option Value)} {oc_plift dc_plift pm_plift cd_plift ct_plift : Value}
    {kV_plift : Value}
    {od_iaccept an_iaccept : Option Addr} {sl_iaccept : Array (Option Value)} {oc_iaccept dc_iaccept pm_iaccept cd_iaccept ct_iaccept : Value}
    {kV_iaccept : Value}
    {od_ogive an_ogive : Option Addr} {sl_ogive : Array (Option Value)} {oc_ogive dc_ogive pm_ogive cd_ogive ct_ogive : Value}
    {kV_ogive : Value}
    {od_iput an_iput : Option Addr} {sl_iput : Array (Option Value)} {oc_iput dc_iput pm_iput cd_iput ct_iput : Value}
    {kV_iput : Value}
    {od_iopen an_iopen : Option Addr} {sl_iopen : Array (Option Value)} {oc_iopen dc_iopen pm_iopen cd_iopen ct_iopen : Value}
    {kV_iopen : Value}
    {od_imay an_imay : Option Addr} {sl_imay : Array (Option Value)} {oc_imay dc_imay pm_imay cd_imay ct_imay : Value}
    {kV_imay : Value}
    {od_inote an_inote : Option Addr} {sl_inote : Array (Option Value)} {oc_inote dc_inote pm_inote cd_inote ct_inote : Value}
    {kV_inote : Value}
    {od_ishut an_ishut : Option Addr} {sl_ishut : Array (Option Value)} {oc_ishut dc_ishut pm_ishut cd_ishut ct_ishut : Value}
    {kV_ishut : Value}
    {od_ilog an_ilog : Option Addr} {sl_ilog : Array (Option Value)} {oc_ilog dc_ilog pm_ilog cd_ilog ct_ilog : Value}
    {kV_ilog : Value}
    {od_ilogb an_ilogb : Option Addr} {sl_ilogb : Array (Option Value)} {oc_ilogb dc_ilogb pm_ilogb cd_ilogb ct_ilogb : Value}
    {kV_ilogb : Value}
    {od_otake an_otake : Option Addr} {sl_otake : Array (Option Value)} {oc_otake dc_otake pm_otake cd_otake ct_otake : Value}
    {kV_otake : Value}
    {od_oopen an_oopen : Option Addr} {sl_oopen : Array (Option Value)} {oc_oopen dc_oopen pm_oopen cd_oopen ct_oopen : Value}
    {kV_oopen : Value}
    {od_omay an_omay : Option Addr} {sl_omay : Array (Option Value)} {oc_omay dc_omay pm_omay cd_omay ct_omay : Value}
    {kV_omay : Value}
    {od_onote an_onote : Option Addr} {sl_onote : Array (Option Value)} {oc_onote dc_onote pm_onote cd_onote ct_onote : Value}
    {kV_onote : Value}
    {od_oshut an_oshut : Option Addr} {sl_oshut : Array (Option Value)} {oc_oshut dc_oshut pm_oshut cd_oshut ct_oshut : Value}
    {kV_oshut : Value}
    {od_olog an_olog : Option Addr} {sl_olog : Array (Option Value)} {oc_olog dc_olog pm_olog cd_olog ct_olog : Value}
    {kV_olog : Value}
    {od_ologb an_ologb : Option Addr} {sl_ologb : Array (Option Value)} {oc_ologb dc_ologb pm_ologb cd_ologb ct_ologb : Value}
    {kV_ologb : Value}
    {od_idown an_idown : Option Addr} {sl_idown : Array (Option Value)} {oc_idown dc_idown pm_idown cd_idown ct_idown : Value}
    {kV_idown : Value}
    {od_pool an_pool : Option Addr} {sl_pool : Array (Option Value)} {oc_pool dc_pool pm_pool cd_pool ct_pool : Value}
    {kV_pool : Value}
    {od_take an_take : Option Addr} {sl_take : Array (Option Value)} {oc_take dc_take pm_take cd_take ct_take : Value}
    {kV_take : Value}
    {od_lrow an_lrow : Option Addr} {sl_lrow : Array (Option Value)} {oc_lrow dc_lrow pm_lrow cd_lrow ct_lrow : Value}
    {kV_lrow : Value}
    {od_lput an_lput : Option Addr} {sl_lput : Array (Option Value)} {oc_lput dc_lput pm_lput cd_lput ct_lput : Value}
    {kV_lput : Value}
    {od_ltaken an_ltaken : Option Addr} {sl_ltaken : Array (Option Value)} {oc_ltaken dc_ltaken pm_ltaken cd_ltaken ct_ltaken : Value}
    {kV_ltaken : Value}
    {od_inord an_inord : Option Addr} {sl_inord : Array (Option Value)} {oc_inord dc_inord pm_inord cd_inord ct_inord : Value}
    {kV_inord : Value}
    {od_logged an_logged : Option Addr} {sl_logged : Array (Option Value)} {oc_logged dc_logged pm_logged cd_logged ct_logged : Value}
    {kV_logged : Value}
    {od_passed an_passed : Option Addr} {sl_passed : Array (Option Value)} {oc_passed dc_passed pm_passed cd_passed ct_passed : Value}
    {kV_passed : Value}
    {od_law an_law : Option Addr} {sl_law : Array (Option Value)} {oc_law dc_law pm_law cd_law ct_law : Value}
    {kV_law : Value}
    {t_ROOM : Tok}
    {t_GREATEST_ROOM : Tok}
    (qa_IntoEnd : PySem.W.nsIn K mainGlobals "IntoEnd" = some (some (.ref C_IntoEnd)))
    (qa_OutEnd : PySem.W.nsIn K mainGlobals "OutEnd" = some (some (.ref C_OutEnd)))
    (qa_Pipe : PySem.W.nsIn K mainGlobals "Pipe" = some (some (.ref C_Pipe)))
    (qa_Raw : PySem.W.nsIn K mainGlobals "Raw" = some (some (.ref C_Raw)))
    (rd_Raw : PySem.W.readsIn K C_Raw (.type "type") = true)
    (ga_Raw : PySem.W.specialIn K (.ref C_Raw) "__getattribute__" = some (some (.builtin "type.__getattribute__")))
    (a_whole : PySem.W.nsIn K mainGlobals "is_whole" = some (some (.ref f_whole)))
    (l_whole : K.lookup f_whole = some ⟨oc_whole, od_whole, .func (PySem.W.fnOf "is_whole" "is_whole" (defArgs s_whole) (defBody s_whole) (defScope s_whole) .none kV_whole dc_whole pm_whole an_whole cd_whole ct_whole), sl_whole⟩)
    (c_whole : PySem.W.codeIn K cd_whole "is_whole" = true)
    (k_whole : PySem.W.keepIn K (.ref f_whole) = true)
    (a_croom : PySem.W.nsIn K mainGlobals "check_room" = some (some (.ref f_croom)))
    (l_croom : K.lookup f_croom = some ⟨oc_croom, od_croom, .func (PySem.W.fnOf "check_room" "check_room" (defArgs s_croom) (defBody s_croom) (defScope s_croom) .none kV_croom dc_croom pm_croom an_croom cd_croom ct_croom), sl_croom⟩)
    (c_croom : PySem.W.codeIn K cd_croom "check_room" = true)
    (k_croom : PySem.W.keepIn K (.ref f_croom) = true)
    (a_ocopy : PySem.W.nsIn K mainGlobals "own_copy" = some (some (.ref f_ocopy)))
    (l_ocopy : K.lookup f_ocopy = some ⟨oc_ocopy, od_ocopy, .func (PySem.W.fnOf "own_copy" "own_copy" (defArgs s_ocopy) (defBody s_ocopy) (defScope s_ocopy) .none kV_ocopy dc_ocopy pm_ocopy an_ocopy cd_ocopy ct_ocopy), sl_ocopy⟩)
    (c_ocopy : PySem.W.codeIn K cd_ocopy "own_copy" = true)
    (k_ocopy : PySem.W.keepIn K (.ref f_ocopy) = true)
    (a_rinit : PySem.W.findIn K (.ref C_Raw) "__init__" = some (some (.ref f_rinit)))
    (i_rinit : PySem.W.isFn K (.ref f_rinit) = true)
    (cv_rinit : PySem.W.findCls K (.ref C_Raw) (.type "type") "__init__" = some (.val (.ref f_rinit)))
    (l_rinit : K.lookup f_rinit = some ⟨oc_rinit, od_rinit, .func (PySem.W.fnOf "__init__" "Raw.__init__" (defArgs s_rinit) (defBody s_rinit) (defScope s_rinit) .none kV_rinit dc_rinit pm_rinit an_rinit cd_rinit ct_rinit), sl_rinit⟩)
    (c_rinit : PySem.W.codeIn K cd_rinit "Raw.__init__" = true)
    (k_rinit : PySem.W.keepIn K (.ref f_rinit) = true)
    (a_iinit : PySem.W.findIn K (.ref C_IntoEnd) "__init__" = some (some (.ref f_iinit)))
    (i_iinit : PySem.W.isFn K (.ref f_iinit) = true)
    (l_iinit : K.lookup f_iinit = some ⟨oc_iinit, od_iinit, .func (PySem.W.fnOf "__init__" "IntoEnd.__init__" (defArgs s_iinit) (defBody s_iinit) (defScope s_iinit) .none kV_iinit dc_iinit pm_iinit an_iinit cd_iinit ct_iinit), sl_iinit⟩)
    (c_iinit : PySem.W.codeIn K cd_iinit "IntoEnd.__init__" = true)
    (k_iinit : PySem.W.keepIn K (.ref f_iinit) = true)
    (a_oinit : PySem.W.findIn K (.ref C_OutEnd) "__init__" = some (some (.ref f_oinit)))
    (i_oinit : PySem.W.isFn K (.ref f_oinit) = true)
    (l_oinit : K.lookup f_oinit = some ⟨oc_oinit, od_oinit, .func (PySem.W.fnOf "__init__" "OutEnd.__init__" (defArgs s_oinit) (defBody s_oinit) (defScope s_oinit) .none kV_oinit dc_oinit pm_oinit an_oinit cd_oinit ct_oinit), sl_oinit⟩)
    (c_oinit : PySem.W.codeIn K cd_oinit "OutEnd.__init__" = true)
    (k_oinit : PySem.W.keepIn K (.ref f_oinit) = true)
    (a_pinit : PySem.W.findIn K (.ref C_Pipe) "__init__" = some (some (.ref f_pinit)))
    (i_pinit : PySem.W.isFn K (.ref f_pinit) = true)
    (l_pinit : K.lookup f_pinit = some ⟨oc_pinit, od_pinit, .func (PySem.W.fnOf "__init__" "Pipe.__init__" (defArgs s_pinit) (defBody s_pinit) (defScope s_pinit) .none (.ref K_pinit) dc_pinit pm_pinit an_pinit cd_pinit ct_pinit), sl_pinit⟩)
    (c_pinit : PySem.W.codeIn K cd_pinit "Pipe.__init__" = true)
    (k_pinit : PySem.W.keepIn K (.ref f_pinit) = true)
    (w_pinit_0 : PySem.W.nsIn K K_pinit "room" = some (some (.int 8 kk_pinit_0)))
    (a_pinto : PySem.W.findIn K (.ref C_Pipe) "into" = some (some (.ref f_pinto)))
    (i_pinto : PySem.W.isFn K (.ref f_pinto) = true)
    (l_pinto : K.lookup f_pinto = some ⟨oc_pinto, od_pinto, .func (PySem.W.fnOf "into" "Pipe.into" (defArgs s_pinto) (defBody s_pinto) (defScope s_pinto) .none kV_pinto dc_pinto pm_pinto an_pinto cd_pinto ct_pinto), sl_pinto⟩)
    (c_pinto : PySem.W.codeIn K cd_pinto "Pipe.into" = true)
    (k_pinto : PySem.W.keepIn K (.ref f_pinto) = true)
    (a_pout : PySem.W.findIn K (.ref C_Pipe) "out" = some (some (.ref f_pout)))
    (i_pout : PySem.W.isFn K (.ref f_pout) = true)
    (l_pout : K.lookup f_pout = some ⟨oc_pout, od_pout, .func (PySem.W.fnOf "out" "Pipe.out" (defArgs s_pout) (defBody s_pout) (defScope s_pout) .none kV_pout dc_pout pm_pout an_pout cd_pout ct_pout), sl_pout⟩)
    (c_pout : PySem.W.codeIn K cd_pout "Pipe.out" = true)
    (k_pout : PySem.W.keepIn K (.ref f_pout) = true)
    (a_pheld : PySem.W.findIn K (.ref C_Pipe) "held" = some (some (.ref f_pheld)))
    (i_pheld : PySem.W.isFn K (.ref f_pheld) = true)
    (l_pheld : K.lookup f_pheld = some ⟨oc_pheld, od_pheld, .func (PySem.W.fnOf "held" "Pipe.held" (defArgs s_pheld) (defBody s_pheld) (defScope s_pheld) .none kV_pheld dc_pheld pm_pheld an_pheld cd_pheld ct_pheld), sl_pheld⟩)
    (c_pheld : PySem.W.codeIn K cd_pheld "Pipe.held" = true)
    (k_pheld : PySem.W.keepIn K (.ref f_pheld) = true)
    (a_play : PySem.W.findIn K (.ref C_Pipe) "lay" = some (some (.ref f_play)))
    (i_play : PySem.W.isFn K (.ref f_play) = true)
    (l_play : K.lookup f_play = some ⟨oc_play, od_play, .func (PySem.W.fnOf "lay" "Pipe.lay" (defArgs s_play) (defBody s_play) (defScope s_play) .none kV_play dc_play pm_play an_play cd_play ct_play), sl_play⟩)
    (c_play : PySem.W.codeIn K cd_play "Pipe.lay" = true)
    (k_play : PySem.W.keepIn K (.ref f_play) = true)
    (a_plift : PySem.W.findIn K (.ref C_Pipe) "lift" = some (some (.ref f_plift)))
    (i_plift : PySem.W.isFn K (.ref f_plift) = true)
    (l_plift : K.lookup f_plift = some ⟨oc_plift, od_plift, .func (PySem.W.fnOf "lift" "Pipe.lift" (defArgs s_plift) (defBody s_plift) (defScope s_plift) .none kV_plift dc_plift pm_plift an_plift cd_plift ct_plift), sl_plift⟩)
    (c_plift : PySem.W.codeIn K cd_plift "Pipe.lift" = true)
    (k_plift : PySem.W.keepIn K (.ref f_plift) = true)
    (a_iaccept : PySem.W.findIn K (.ref C_IntoEnd) "accept" = some (some (.ref f_iaccept)))
    (i_iaccept : PySem.W.isFn K (.ref f_iaccept) = true)
    (l_iaccept : K.lookup f_iaccept = some ⟨oc_iaccept, od_iaccept, .func (PySem.W.fnOf "accept" "IntoEnd.accept" (defArgs s_iaccept) (defBody s_iaccept) (defScope s_iaccept) .none kV_iaccept dc_iaccept pm_iaccept an_iaccept cd_iaccept ct_iaccept), sl_iaccept⟩)
    (c_iaccept : PySem.W.codeIn K cd_iaccept "IntoEnd.accept" = true)
    (k_iaccept : PySem.W.keepIn K (.ref f_iaccept) = true)
    (a_ogive : PySem.W.findIn K (.ref C_OutEnd) "give" = some (some (.ref f_ogive)))
    (i_ogive : PySem.W.isFn K (.ref f_ogive) = true)
    (l_ogive : K.lookup f_ogive = some ⟨oc_ogive, od_ogive, .func (PySem.W.fnOf "give" "OutEnd.give" (defArgs s_ogive) (defBody s_ogive) (defScope s_ogive) .none kV_ogive dc_ogive pm_ogive an_ogive cd_ogive ct_ogive), sl_ogive⟩)
    (c_ogive : PySem.W.codeIn K cd_ogive "OutEnd.give" = true)
    (k_ogive : PySem.W.keepIn K (.ref f_ogive) = true)
    (a_iput : PySem.W.findIn K (.ref C_IntoEnd) "put" = some (some (.ref f_iput)))
    (i_iput : PySem.W.isFn K (.ref f_iput) = true)
    (l_iput : K.lookup f_iput = some ⟨oc_iput, od_iput, .func (PySem.W.fnOf "put" "Raw.put" (defArgs s_iput) (defBody s_iput) (defScope s_iput) .none kV_iput dc_iput pm_iput an_iput cd_iput ct_iput), sl_iput⟩)
    (c_iput : PySem.W.codeIn K cd_iput "Raw.put" = true)
    (k_iput : PySem.W.keepIn K (.ref f_iput) = true)
    (a_iopen : PySem.W.findIn K (.ref C_IntoEnd) "check_open" = some (some (.ref f_iopen)))
    (i_iopen : PySem.W.isFn K (.ref f_iopen) = true)
    (l_iopen : K.lookup f_iopen = some ⟨oc_iopen, od_iopen, .func (PySem.W.fnOf "check_open" "Raw.check_open" (defArgs s_iopen) (defBody s_iopen) (defScope s_iopen) .none kV_iopen dc_iopen pm_iopen an_iopen cd_iopen ct_iopen), sl_iopen⟩)
    (c_iopen : PySem.W.codeIn K cd_iopen "Raw.check_open" = true)
    (k_iopen : PySem.W.keepIn K (.ref f_iopen) = true)
    (a_imay : PySem.W.findIn K (.ref C_IntoEnd) "may_put" = some (some (.ref f_imay)))
    (i_imay : PySem.W.isFn K (.ref f_imay) = true)
    (l_imay : K.lookup f_imay = some ⟨oc_imay, od_imay, .func (PySem.W.fnOf "may_put" "Raw.may_put" (defArgs s_imay) (defBody s_imay) (defScope s_imay) .none kV_imay dc_imay pm_imay an_imay cd_imay ct_imay), sl_imay⟩)
    (c_imay : PySem.W.codeIn K cd_imay "Raw.may_put" = true)
    (k_imay : PySem.W.keepIn K (.ref f_imay) = true)
    (a_inote : PySem.W.findIn K (.ref C_IntoEnd) "note" = some (some (.ref f_inote)))
    (i_inote : PySem.W.isFn K (.ref f_inote) = true)
    (l_inote : K.lookup f_inote = some ⟨oc_inote, od_inote, .func (PySem.W.fnOf "note" "Raw.note" (defArgs s_inote) (defBody s_inote) (defScope s_inote) .none kV_inote dc_inote pm_inote an_inote cd_inote ct_inote), sl_inote⟩)
    (c_inote : PySem.W.codeIn K cd_inote "Raw.note" = true)
    (k_inote : PySem.W.keepIn K (.ref f_inote) = true)
    (a_ishut : PySem.W.findIn K (.ref C_IntoEnd) "is_shut" = some (some (.ref f_ishut)))
    (i_ishut : PySem.W.isFn K (.ref f_ishut) = true)
    (l_ishut : K.lookup f_ishut = some ⟨oc_ishut, od_ishut, .func (PySem.W.fnOf "is_shut" "Raw.is_shut" (defArgs s_ishut) (defBody s_ishut) (defScope s_ishut) .none kV_ishut dc_ishut pm_ishut an_ishut cd_ishut ct_ishut), sl_ishut⟩)
    (c_ishut : PySem.W.codeIn K cd_ishut "Raw.is_shut" = true)
    (k_ishut : PySem.W.keepIn K (.ref f_ishut) = true)
    (a_ilog : PySem.W.findIn K (.ref C_IntoEnd) "log" = some (some (.ref f_ilog)))
    (i_ilog : PySem.W.isFn K (.ref f_ilog) = true)
    (l_ilog : K.lookup f_ilog = some ⟨oc_ilog, od_ilog, .func (PySem.W.fnOf "log" "Raw.log" (defArgs s_ilog) (defBody s_ilog) (defScope s_ilog) .none kV_ilog dc_ilog pm_ilog an_ilog cd_ilog ct_ilog), sl_ilog⟩)
    (c_ilog : PySem.W.codeIn K cd_ilog "Raw.log" = true)
    (k_ilog : PySem.W.keepIn K (.ref f_ilog) = true)
    (a_ilogb : PySem.W.findIn K (.ref C_IntoEnd) "log_behind" = some (some (.ref f_ilogb)))
    (i_ilogb : PySem.W.isFn K (.ref f_ilogb) = true)
    (l_ilogb : K.lookup f_ilogb = some ⟨oc_ilogb, od_ilogb, .func (PySem.W.fnOf "log_behind" "Raw.log_behind" (defArgs s_ilogb) (defBody s_ilogb) (defScope s_ilogb) .none kV_ilogb dc_ilogb pm_ilogb an_ilogb cd_ilogb ct_ilogb), sl_ilogb⟩)
    (c_ilogb : PySem.W.codeIn K cd_ilogb "Raw.log_behind" = true)
    (k_ilogb : PySem.W.keepIn K (.ref f_ilogb) = true)
    (a_otake : PySem.W.findIn K (.ref C_OutEnd) "take" = some (some (.ref f_otake)))
    (i_otake : PySem.W.isFn K (.ref f_otake) = true)
    (l_otake : K.lookup f_otake = some ⟨oc_otake, od_otake, .func (PySem.W.fnOf "take" "Raw.take" (defArgs s_otake) (defBody s_otake) (defScope s_otake) .none kV_otake dc_otake pm_otake an_otake cd_otake ct_otake), sl_otake⟩)
    (c_otake : PySem.W.codeIn K cd_otake "Raw.take" = true)
    (k_otake : PySem.W.keepIn K (.ref f_otake) = true)
    (a_oopen : PySem.W.findIn K (.ref C_OutEnd) "check_open" = some (some (.ref f_oopen)))
    (i_oopen : PySem.W.isFn K (.ref f_oopen) = true)
    (l_oopen : K.lookup f_oopen = some ⟨oc_oopen, od_oopen, .func (PySem.W.fnOf "check_open" "Raw.check_open" (defArgs s_oopen) (defBody s_oopen) (defScope s_oopen) .none kV_oopen dc_oopen pm_oopen an_oopen cd_oopen ct_oopen), sl_oopen⟩)
    (c_oopen : PySem.W.codeIn K cd_oopen "Raw.check_open" = true)
    (k_oopen : PySem.W.keepIn K (.ref f_oopen) = true)
    (a_omay : PySem.W.findIn K (.ref C_OutEnd) "may_take" = some (some (.ref f_omay)))
    (i_omay : PySem.W.isFn K (.ref f_omay) = true)
    (l_omay : K.lookup f_omay = some ⟨oc_omay, od_omay, .func (PySem.W.fnOf "may_take" "Raw.may_take" (defArgs s_omay) (defBody s_omay) (defScope s_omay) .none kV_omay dc_omay pm_omay an_omay cd_omay ct_omay), sl_omay⟩)
    (c_omay : PySem.W.codeIn K cd_omay "Raw.may_take" = true)
    (k_omay : PySem.W.keepIn K (.ref f_omay) = true)
    (a_onote : PySem.W.findIn K (.ref C_OutEnd) "note" = some (some (.ref f_onote)))
    (i_onote : PySem.W.isFn K (.ref f_onote) = true)
    (l_onote : K.lookup f_onote = some ⟨oc_onote, od_onote, .func (PySem.W.fnOf "note" "Raw.note" (defArgs s_onote) (defBody s_onote) (defScope s_onote) .none kV_onote dc_onote pm_onote an_onote cd_onote ct_onote), sl_onote⟩)
    (c_onote : PySem.W.codeIn K cd_onote "Raw.note" = true)
    (k_onote : PySem.W.keepIn K (.ref f_onote) = true)
    (a_oshut : PySem.W.findIn K (.ref C_OutEnd) "is_shut" = some (some (.ref f_oshut)))
    (i_oshut : PySem.W.isFn K (.ref f_oshut) = true)
    (l_oshut : K.lookup f_oshut = some ⟨oc_oshut, od_oshut, .func (PySem.W.fnOf "is_shut" "Raw.is_shut" (defArgs s_oshut) (defBody s_oshut) (defScope s_oshut) .none kV_oshut dc_oshut pm_oshut an_oshut cd_oshut ct_oshut), sl_oshut⟩)
    (c_oshut : PySem.W.codeIn K cd_oshut "Raw.is_shut" = true)
    (k_oshut : PySem.W.keepIn K (.ref f_oshut) = true)
    (a_olog : PySem.W.findIn K (.ref C_OutEnd) "log" = some (some (.ref f_olog)))
    (i_olog : PySem.W.isFn K (.ref f_olog) = true)
    (l_olog : K.lookup f_olog = some ⟨oc_olog, od_olog, .func (PySem.W.fnOf "log" "Raw.log" (defArgs s_olog) (defBody s_olog) (defScope s_olog) .none kV_olog dc_olog pm_olog an_olog cd_olog ct_olog), sl_olog⟩)
    (c_olog : PySem.W.codeIn K cd_olog "Raw.log" = true)
    (k_olog : PySem.W.keepIn K (.ref f_olog) = true)
    (a_ologb : PySem.W.findIn K (.ref C_OutEnd) "log_behind" = some (some (.ref f_ologb)))
    (i_ologb : PySem.W.isFn K (.ref f_ologb) = true)
    (l_ologb : K.lookup f_ologb = some ⟨oc_ologb, od_ologb, .func (PySem.W.fnOf "log_behind" "Raw.log_behind" (defArgs s_ologb) (defBody s_ologb) (defScope s_ologb) .none kV_ologb dc_ologb pm_ologb an_ologb cd_ologb ct_ologb), sl_ologb⟩)
    (c_ologb : PySem.W.codeIn K cd_ologb "Raw.log_behind" = true)
    (k_ologb : PySem.W.keepIn K (.ref f_ologb) = true)
    (a_idown : PySem.W.findIn K (.ref C_IntoEnd) "shut" = some (some (.ref f_idown)))
    (i_idown : PySem.W.isFn K (.ref f_idown) = true)
    (l_idown : K.lookup f_idown = some ⟨oc_idown, od_idown, .func (PySem.W.fnOf "shut" "Raw.shut" (defArgs s_idown) (defBody s_idown) (defScope s_idown) .none kV_idown dc_idown pm_idown an_idown cd_idown ct_idown), sl_idown⟩)
    (c_idown : PySem.W.codeIn K cd_idown "Raw.shut" = true)
    (k_idown : PySem.W.keepIn K (.ref f_idown) = true)
    (a_pool : PySem.W.nsIn K mainGlobals "_law_pool" = some (some (.ref f_pool)))
    (l_pool : K.lookup f_pool = some ⟨oc_pool, od_pool, .func (PySem.W.fnOf "_law_pool" "_law_pool" (defArgs s_pool) (defBody s_pool) (defScope s_pool) .none kV_pool dc_pool pm_pool an_pool cd_pool ct_pool), sl_pool⟩)
    (c_pool : PySem.W.codeIn K cd_pool "_law_pool" = true)
    (k_pool : PySem.W.keepIn K (.ref f_pool) = true)
    (a_take : PySem.W.nsIn K mainGlobals "_law_take" = some (some (.ref f_take)))
    (l_take : K.lookup f_take = some ⟨oc_take, od_take, .func (PySem.W.fnOf "_law_take" "_law_take" (defArgs s_take) (defBody s_take) (defScope s_take) .none kV_take dc_take pm_take an_take cd_take ct_take), sl_take⟩)
    (c_take : PySem.W.codeIn K cd_take "_law_take" = true)
    (k_take : PySem.W.keepIn K (.ref f_take) = true)
    (a_lrow : PySem.W.nsIn K mainGlobals "_law_row" = some (some (.ref f_lrow)))
    (l_lrow : K.lookup f_lrow = some ⟨oc_lrow, od_lrow, .func (PySem.W.fnOf "_law_row" "_law_row" (defArgs s_lrow) (defBody s_lrow) (defScope s_lrow) .none kV_lrow dc_lrow pm_lrow an_lrow cd_lrow ct_lrow), sl_lrow⟩)
    (c_lrow : PySem.W.codeIn K cd_lrow "_law_row" = true)
    (k_lrow : PySem.W.keepIn K (.ref f_lrow) = true)
    (a_lput : PySem.W.nsIn K mainGlobals "_law_put" = some (some (.ref f_lput)))
    (l_lput : K.lookup f_lput = some ⟨oc_lput, od_lput, .func (PySem.W.fnOf "_law_put" "_law_put" (defArgs s_lput) (defBody s_lput) (defScope s_lput) .none kV_lput dc_lput pm_lput an_lput cd_lput ct_lput), sl_lput⟩)
    (c_lput : PySem.W.codeIn K cd_lput "_law_put" = true)
    (k_lput : PySem.W.keepIn K (.ref f_lput) = true)
    (a_ltaken : PySem.W.nsIn K mainGlobals "_law_taken" = some (some (.ref f_ltaken)))
    (l_ltaken : K.lookup f_ltaken = some ⟨oc_ltaken, od_ltaken, .func (PySem.W.fnOf "_law_taken" "_law_taken" (defArgs s_ltaken) (defBody s_ltaken) (defScope s_ltaken) .none kV_ltaken dc_ltaken pm_ltaken an_ltaken cd_ltaken ct_ltaken), sl_ltaken⟩)
    (c_ltaken : PySem.W.codeIn K cd_ltaken "_law_taken" = true)
    (k_ltaken : PySem.W.keepIn K (.ref f_ltaken) = true)
    (a_inord : PySem.W.nsIn K mainGlobals "_law_in_order" = some (some (.ref f_inord)))
    (l_inord : K.lookup f_inord = some ⟨oc_inord, od_inord, .func (PySem.W.fnOf "_law_in_order" "_law_in_order" (defArgs s_inord) (defBody s_inord) (defScope s_inord) .none kV_inord dc_inord pm_inord an_inord cd_inord ct_inord), sl_inord⟩)
    (c_inord : PySem.W.codeIn K cd_inord "_law_in_order" = true)
    (k_inord : PySem.W.keepIn K (.ref f_inord) = true)
    (a_logged : PySem.W.nsIn K mainGlobals "_law_logged" = some (some (.ref f_logged)))
    (l_logged : K.lookup f_logged = some ⟨oc_logged, od_logged, .func (PySem.W.fnOf "_law_logged" "_law_logged" (defArgs s_logged) (defBody s_logged) (defScope s_logged) .none kV_logged dc_logged pm_logged an_logged cd_logged ct_logged), sl_logged⟩)
    (c_logged : PySem.W.codeIn K cd_logged "_law_logged" = true)
    (k_logged : PySem.W.keepIn K (.ref f_logged) = true)
    (a_passed : PySem.W.nsIn K mainGlobals "_law_passed" = some (some (.ref f_passed)))
    (l_passed : K.lookup f_passed = some ⟨oc_passed, od_passed, .func (PySem.W.fnOf "_law_passed" "_law_passed" (defArgs s_passed) (defBody s_passed) (defScope s_passed) .none kV_passed dc_passed pm_passed an_passed cd_passed ct_passed), sl_passed⟩)
    (c_passed : PySem.W.codeIn K cd_passed "_law_passed" = true)
    (k_passed : PySem.W.keepIn K (.ref f_passed) = true)
    (a_law : PySem.W.nsIn K mainGlobals "law" = some (some (.ref f_law)))
    (l_law : K.lookup f_law = some ⟨oc_law, od_law, .func (PySem.W.fnOf "law" "law" (defArgs s_law) (defBody s_law) (defScope s_law) .none kV_law dc_law pm_law an_law cd_law ct_law), sl_law⟩)
    (c_law : PySem.W.codeIn K cd_law "law" = true)
    (k_law : PySem.W.keepIn K (.ref f_law) = true)
    (pg_IntoEnd : PySem.W.plainGet K C_IntoEnd Str.empty = true)
    (hd_IntoEnd : PySem.W.hasDictIn K C_IntoEnd = true)
    (po_IntoEnd : PySem.W.plainOver K C_IntoEnd = true)
    (sa_IntoEnd : PySem.W.findIn K (.ref C_IntoEnd) "__setattr__" = some (some (.builtin "object.__setattr__")))
    (mk_IntoEnd : PySem.W.makesIn K C_IntoEnd = true)
    (kc_IntoEnd : PySem.W.keepIn K (.ref C_IntoEnd) = true)
    (n_IntoEnd_can_seek : PySem.W.findIn K (.ref C_IntoEnd) "can_seek" = some none)
    (n_IntoEnd_spot : PySem.W.findIn K (.ref C_IntoEnd) "spot" = some none)
    (n_IntoEnd_barred : PySem.W.findIn K (.ref C_IntoEnd) "barred" = some none)
    (n_IntoEnd_notes : PySem.W.findIn K (.ref C_IntoEnd) "notes" = some none)
    (n_IntoEnd_pipe : PySem.W.findIn K (.ref C_IntoEnd) "pipe" = some none)
    (pg_OutEnd : PySem.W.plainGet K C_OutEnd Str.empty = true)
    (hd_OutEnd : PySem.W.hasDictIn K C_OutEnd = true)
    (po_OutEnd : PySem.W.plainOver K C_OutEnd = true)
    (sa_OutEnd : PySem.W.findIn K (.ref C_OutEnd) "__setattr__" = some (some (.builtin "object.__setattr__")))
    (mk_OutEnd : PySem.W.makesIn K C_OutEnd = true)
    (kc_OutEnd : PySem.W.keepIn K (.ref C_OutEnd) = true)
    (n_OutEnd_can_seek : PySem.W.findIn K (.ref C_OutEnd) "can_seek" = some none)
    (n_OutEnd_spot : PySem.W.findIn K (.ref C_OutEnd) "spot" = some none)
    (n_OutEnd_barred : PySem.W.findIn K (.ref C_OutEnd) "barred" = some none)
    (n_OutEnd_notes : PySem.W.findIn K (.ref C_OutEnd) "notes" = some none)
    (n_OutEnd_pipe : PySem.W.findIn K (.ref C_OutEnd) "pipe" = some none)
    (pg_Pipe : PySem.W.plainGet K C_Pipe Str.empty = true)
    (hd_Pipe : PySem.W.hasDictIn K C_Pipe = true)
    (po_Pipe : PySem.W.plainOver K C_Pipe = true)
    (sa_Pipe : PySem.W.findIn K (.ref C_Pipe) "__setattr__" = some (some (.builtin "object.__setattr__")))
    (mk_Pipe : PySem.W.makesIn K C_Pipe = true)
    (kc_Pipe : PySem.W.keepIn K (.ref C_Pipe) = true)
    (n_Pipe_room : PySem.W.findIn K (.ref C_Pipe) "room" = some none)
    (n_Pipe_within : PySem.W.findIn K (.ref C_Pipe) "within" = some none)
    (n_Pipe_into_end : PySem.W.findIn K (.ref C_Pipe) "into_end" = some none)
    (n_Pipe_out_end : PySem.W.findIn K (.ref C_Pipe) "out_end" = some none)
    (v_ROOM : PySem.W.nsIn K mainGlobals "ROOM" = some (some (.int 8 t_ROOM)))
    (v_GREATEST_ROOM : PySem.W.nsIn K mainGlobals "GREATEST_ROOM" = some (some (.int 64 t_GREATEST_ROOM)))
    (z_list : PySem.W.nsIn K mainGlobals "list" = some none)
    (z_len : PySem.W.nsIn K mainGlobals "len" = some none)
    (z_range : PySem.W.nsIn K mainGlobals "range" = some none)
    (z_max : PySem.W.nsIn K mainGlobals "max" = some none)
    (z_min : PySem.W.nsIn K mainGlobals "min" = some none)
    (z_isinstance : PySem.W.nsIn K mainGlobals "isinstance" = some none)
    (z_int : PySem.W.nsIn K mainGlobals "int" = some none)
    (z_bool : PySem.W.nsIn K mainGlobals "bool" = some none)
    (z_all : PySem.W.nsIn K mainGlobals "all" = some none) :
    ∃ fd : FuncData, (∀ (s : Shared) (v : Value), BindsTo s fd ⟨[v], []⟩ [("_law_script", v)]) ∧ ∀ base : Heap, K.In base → base.Ns mainGlobals mg → FnOk l.prog w K mg base CX0 7 fa fd ["_law_script"] (spLaw K) := by
  have e := hfa.symm.trans (PySem.W.mg_of X G a_law)
  cases e
  have F_whole := funA_mk (st := s_whole) l_whole c_whole k_whole
  have F_croom := funA_mk (st := s_croom) l_croom c_croom k_croom
  have F_ocopy := funA_mk (st := s_ocopy) l_ocopy c_ocopy k_ocopy
  have F_rinit := funA_mk (st := s_rinit) l_rinit c_rinit k_rinit
  have F_iinit := funA_mk (st := s_iinit) l_iinit c_iinit k_iinit
  have F_oinit := funA_mk (st := s_oinit) l_oinit c_oinit k_oinit
  have F_pinit := funA_mk (st := s_pinit) l_pinit c_pinit k_pinit
  have F_pinto := funA_mk (st := s_pinto) l_pinto c_pinto k_pinto
  have F_pout := funA_mk (st := s_pout) l_pout c_pout k_pout
  have F_pheld := funA_mk (st := s_pheld) l_pheld c_pheld k_pheld
  have F_play := funA_mk (st := s_play) l_play c_play k_play
  have F_plift := funA_mk (st := s_plift) l_plift c_plift k_plift
  have F_iaccept := funA_mk (st := s_iaccept) l_iaccept c_iaccept k_iaccept
  have F_ogive := funA_mk (st := s_ogive) l_ogive c_ogive k_ogive
  have F_iput := funA_mk (st := s_iput) l_iput c_iput k_iput
  have F_iopen := funA_mk (st := s_iopen) l_iopen c_iopen k_iopen
  have F_imay := funA_mk (st := s_imay) l_imay c_imay k_imay
  have F_inote := funA_mk (st := s_inote) l_inote c_inote k_inote
  have F_ishut := funA_mk (st := s_ishut) l_ishut c_ishut k_ishut
  have F_ilog := funA_mk (st := s_ilog) l_ilog c_ilog k_ilog
  have F_ilogb := funA_mk (st := s_ilogb) l_ilogb c_ilogb k_ilogb
  have F_otake := funA_mk (st := s_otake) l_otake c_otake k_otake
  have F_oopen := funA_mk (st := s_oopen) l_oopen c_oopen k_oopen
  have F_omay := funA_mk (st := s_omay) l_omay c_omay k_omay
  have F_onote := funA_mk (st := s_onote) l_onote c_onote k_onote
  have F_oshut := funA_mk (st := s_oshut) l_oshut c_oshut k_oshut
  have F_olog := funA_mk (st := s_olog) l_olog c_olog k_olog
  have F_ologb := funA_mk (st := s_ologb) l_ologb c_ologb k_ologb
  have F_idown := funA_mk (st := s_idown) l_idown c_idown k_idown
  have F_pool := funA_mk (st := s_pool) l_pool c_pool k_pool
  have F_take := funA_mk (st := s_take) l_take c_take k_take
  have F_lrow := funA_mk (st := s_lrow) l_lrow c_lrow k_lrow
  have F_lput := funA_mk (st := s_lput) l_lput c_lput k_lput
  have F_ltaken := funA_mk (st := s_ltaken) l_ltaken c_ltaken k_ltaken
  have F_inord := funA_mk (st := s_inord) l_inord c_inord k_inord
  have F_logged := funA_mk (st := s_logged) l_logged c_logged k_logged
  have F_passed := funA_mk (st := s_passed) l_passed c_passed k_passed
  have F_law := funA_mk (st := s_law) l_law c_law k_law
  have KW_pinit : KwdV K (.ref K_pinit) ([("room", .int 8)] : List (Str × V)) := by
    refine .inr ⟨K_pinit, rfl, fun q hq => ?_⟩
    simp only [List.mem_cons, List.mem_nil_iff, or_false] at hq
    rcases hq with rfl
    · exact ⟨_, w_pinit_0, ⟨kk_pinit_0, rfl⟩⟩
  have FD_pinit : FunD K "__init__" "Pipe.__init__" (defArgs s_pinit) (defBody s_pinit) (defScope s_pinit) ([] : List V) ([("room", .int 8)] : List (Str × V)) f_pinit (PySem.W.fnOf "__init__" "Pipe.__init__" (defArgs s_pinit) (defBody s_pinit) (defScope s_pinit) .none (.ref K_pinit) dc_pinit pm_pinit an_pinit cd_pinit ct_pinit) := ⟨⟨_, _, _, _, _, _, _, _, _, _, rfl, l_pinit, c_pinit, .inl ⟨rfl, rfl⟩, KW_pinit⟩, k_pinit⟩
  have bb_croom : Binds K (PySem.W.fnOf "check_room" "check_room" (defArgs s_croom) (defBody s_croom) (defScope s_croom) .none kV_croom dc_croom pm_croom an_croom cd_croom ct_croom) P_croom [] := .all fun us hl => match us, hl with | [_], _ => rfl
  have bb_iaccept : Binds K (PySem.W.fnOf "accept" "IntoEnd.accept" (defArgs s_iaccept) (defBody s_iaccept) (defScope s_iaccept) .none kV_iaccept dc_iaccept pm_iaccept an_iaccept cd_iaccept ct_iaccept) P_iaccept [] := .all fun us hl => match us, hl with | [_, _], _ => rfl
  have bb_idown : Binds K (PySem.W.fnOf "shut" "Raw.shut" (defArgs s_idown) (defBody s_idown) (defScope s_idown) .none kV_idown dc_idown pm_idown an_idown cd_idown ct_idown) P_idown [] := .all fun us hl => match us, hl with | [_], _ => rfl
  have bb_iinit : Binds K (PySem.W.fnOf "__init__" "IntoEnd.__init__" (defArgs s_iinit) (defBody s_iinit) (defScope s_iinit) .none kV_iinit dc_iinit pm_iinit an_iinit cd_iinit ct_iinit) P_iinit [] := .all fun us hl => match us, hl with | [_, _], _ => rfl
  have bb_ilog : Binds K (PySem.W.fnOf "log" "Raw.log" (defArgs s_ilog) (defBody s_ilog) (defScope s_ilog) .none kV_ilog dc_ilog pm_ilog an_ilog cd_ilog ct_ilog) P_ilog [] := .all fun us hl => match us, hl with | [_], _ => rfl
  have bb_ilogb : Binds K (PySem.W.fnOf "log_behind" "Raw.log_behind" (defArgs s_ilogb) (defBody s_ilogb) (defScope s_ilogb) .none kV_ilogb dc_ilogb pm_ilogb an_ilogb cd_ilogb ct_ilogb) P_ilogb [] := .all fun us hl => match us, hl with | [_, _], _ => rfl
  have bb_imay : Binds K (PySem.W.fnOf "may_put" "Raw.may_put" (defArgs s_imay) (defBody s_imay) (defScope s_imay) .none kV_imay dc_imay pm_imay an_imay cd_imay ct_imay) P_imay [] := .all fun us hl => match us, hl with | [_, _], _ => rfl
  have bb_inord : Binds K (PySem.W.fnOf "_law_in_order" "_law_in_order" (defArgs s_inord) (defBody s_inord) (defScope s_inord) .none kV_inord dc_inord pm_inord an_inord cd_inord ct_inord) P_inord [] := .all fun us hl => match us, hl with | [_, _], _ => rfl
  have bb_inote : Binds K (PySem.W.fnOf "note" "Raw.note" (defArgs s_inote) (defBody s_inote) (defScope s_inote) .none kV_inote dc_inote pm_inote an_inote cd_inote ct_inote) P_inote [] := .all fun us hl => match us, hl with | [_, _, _, _], _ => rfl
  have bb_iopen : Binds K (PySem.W.fnOf "check_open" "Raw.check_open" (defArgs s_iopen) (defBody s_iopen) (defScope s_iopen) .none kV_iopen dc_iopen pm_iopen an_iopen cd_iopen ct_iopen) P_iopen [] := .all fun us hl => match us, hl with | [_], _ => rfl
  have bb_iput : Binds K (PySem.W.fnOf "put" "Raw.put" (defArgs s_iput) (defBody s_iput) (defScope s_iput) .none kV_iput dc_iput pm_iput an_iput cd_iput ct_iput) P_iput [] := .all fun us hl => match us, hl with | [_, _], _ => rfl
  have bb_ishut : Binds K (PySem.W.fnOf "is_shut" "Raw.is_shut" (defArgs s_ishut) (defBody s_ishut) (defScope s_ishut) .none kV_ishut dc_ishut pm_ishut an_ishut cd_ishut ct_ishut) P_ishut [] := .all fun us hl => match us, hl with | [_], _ => rfl
  have bb_logged : Binds K (PySem.W.fnOf "_law_logged" "_law_logged" (defArgs s_logged) (defBody s_logged) (defScope s_logged) .none kV_logged dc_logged pm_logged an_logged cd_logged ct_logged) P_logged [] := .all fun us hl => match us, hl with | [_], _ => rfl
  have bb_lput : Binds K (PySem.W.fnOf "_law_put" "_law_put" (defArgs s_lput) (defBody s_lput) (defScope s_lput) .none kV_lput dc_lput pm_lput an_lput cd_lput ct_lput) P_lput [] := .all fun us hl => match us, hl with | [_, _, _, _, _], _ => rfl
  have bb_lrow : Binds K (PySem.W.fnOf "_law_row" "_law_row" (defArgs s_lrow) (defBody s_lrow) (defScope s_lrow) .none kV_lrow dc_lrow pm_lrow an_lrow cd_lrow ct_lrow) P_lrow [] := .all fun us hl => match us, hl with | [_, _], _ => rfl
  have bb_ltaken : Binds K (PySem.W.fnOf "_law_taken" "_law_taken" (defArgs s_ltaken) (defBody s_ltaken) (defScope s_ltaken) .none kV_ltaken dc_ltaken pm_ltaken an_ltaken cd_ltaken ct_ltaken) P_ltaken [] := .all fun us hl => match us, hl with | [_, _, _, _], _ => rfl
  have bb_ocopy : Binds K (PySem.W.fnOf "own_copy" "own_copy" (defArgs s_ocopy) (defBody s_ocopy) (defScope s_ocopy) .none kV_ocopy dc_ocopy pm_ocopy an_ocopy cd_ocopy ct_ocopy) P_ocopy [] := .all fun us hl => match us, hl with | [_], _ => rfl
  have bb_ogive : Binds K (PySem.W.fnOf "give" "OutEnd.give" (defArgs s_ogive) (defBody s_ogive) (defScope s_ogive) .none kV_ogive dc_ogive pm_ogive an_ogive cd_ogive ct_ogive) P_ogive [] := .all fun us hl => match us, hl with | [_, _], _ => rfl
  have bb_oinit : Binds K (PySem.W.fnOf "__init__" "OutEnd.__init__" (defArgs s_oinit) (defBody s_oinit) (defScope s_oinit) .none kV_oinit dc_oinit pm_oinit an_oinit cd_oinit ct_oinit) P_oinit [] := .all fun us hl => match us, hl with | [_, _], _ => rfl
  have bb_olog : Binds K (PySem.W.fnOf "log" "Raw.log" (defArgs s_olog) (defBody s_olog) (defScope s_olog) .none kV_olog dc_olog pm_olog an_olog cd_olog ct_olog) P_olog [] := .all fun us hl => match us, hl with | [_], _ => rfl
  have bb_ologb : Binds K (PySem.W.fnOf "log_behind" "Raw.log_behind" (defArgs s_ologb) (defBody s_ologb) (defScope s_ologb) .none kV_ologb dc_ologb pm_ologb an_ologb cd_ologb ct_ologb) P_ologb [] := .all fun us hl => match us, hl with | [_, _], _ => rfl
  have bb_omay : Binds K (PySem.W.fnOf "may_take" "Raw.may_take" (defArgs s_omay) (defBody s_omay) (defScope s_omay) .none kV_omay dc_omay pm_omay an_omay cd_omay ct_omay) P_omay [] := .all fun us hl => match us, hl with | [_], _ => rfl
  have bb_onote : Binds K (PySem.W.fnOf "note" "Raw.note" (defArgs s_onote) (defBody s_onote) (defScope s_onote) .none kV_onote dc_onote pm_onote an_onote cd_onote ct_onote) P_onote [] := .all fun us hl => match us, hl with | [_, _, _, _], _ => rfl
  have bb_oopen : Binds K (PySem.W.fnOf "check_open" "Raw.check_open" (defArgs s_oopen) (defBody s_oopen) (defScope s_oopen) .none kV_oopen dc_oopen pm_oopen an_oopen cd_oopen ct_oopen) P_oopen [] := .all fun us hl => match us, hl with | [_], _ => rfl
  have bb_oshut : Binds K (PySem.W.fnOf "is_shut" "Raw.is_shut" (defArgs s_oshut) (defBody s_oshut) (defScope s_oshut) .none kV_oshut dc_oshut pm_oshut an_oshut cd_oshut ct_oshut) P_oshut [] := .all fun us hl => match us, hl with | [_], _ => rfl
  have bb_otake : Binds K (PySem.W.fnOf "take" "Raw.take" (defArgs s_otake) (defBody s_otake) (defScope s_otake) .none kV_otake dc_otake pm_otake an_otake cd_otake ct_otake) P_otake [] := .all fun us hl => match us, hl with | [_, _], _ => rfl
  have bb_passed : Binds K (PySem.W.fnOf "_law_passed" "_law_passed" (defArgs s_passed) (defBody s_passed) (defScope s_passed) .none kV_passed dc_passed pm_passed an_passed cd_passed ct_passed) P_passed [] := .all fun us hl => match us, hl with | [_, _, _, _], _ => rfl
  have bb_pheld : Binds K (PySem.W.fnOf "held" "Pipe.held" (defArgs s_pheld) (defBody s_pheld) (defScope s_pheld) .none kV_pheld dc_pheld pm_pheld an_pheld cd_pheld ct_pheld) P_pheld [] := .all fun us hl => match us, hl with | [_], _ => rfl
  have bb_pinto : Binds K (PySem.W.fnOf "into" "Pipe.into" (defArgs s_pinto) (defBody s_pinto) (defScope s_pinto) .none kV_pinto dc_pinto pm_pinto an_pinto cd_pinto ct_pinto) P_pinto [] := .all fun us hl => match us, hl with | [_], _ => rfl
  have bb_play : Binds K (PySem.W.fnOf "lay" "Pipe.lay" (defArgs s_play) (defBody s_play) (defScope s_play) .none kV_play dc_play pm_play an_play cd_play ct_play) P_play [] := .all fun us hl => match us, hl with | [_, _], _ => rfl
  have bb_plift : Binds K (PySem.W.fnOf "lift" "Pipe.lift" (defArgs s_plift) (defBody s_plift) (defScope s_plift) .none kV_plift dc_plift pm_plift an_plift cd_plift ct_plift) P_plift [] := .all fun us hl => match us, hl with | [_, _], _ => rfl
  have bb_pool : Binds K (PySem.W.fnOf "_law_pool" "_law_pool" (defArgs s_pool) (defBody s_pool) (defScope s_pool) .none kV_pool dc_pool pm_pool an_pool cd_pool ct_pool) P_pool [] := .all fun us hl => match us, hl with | [_, _], _ => rfl
  have bb_pout : Binds K (PySem.W.fnOf "out" "Pipe.out" (defArgs s_pout) (defBody s_pout) (defScope s_pout) .none kV_pout dc_pout pm_pout an_pout cd_pout ct_pout) P_pout [] := .all fun us hl => match us, hl with | [_], _ => rfl
  have bb_rinit : Binds K (PySem.W.fnOf "__init__" "Raw.__init__" (defArgs s_rinit) (defBody s_rinit) (defScope s_rinit) .none kV_rinit dc_rinit pm_rinit an_rinit cd_rinit ct_rinit) P_rinit [] := .all fun us hl => match us, hl with | [_, _], _ => rfl
  have bb_take : Binds K (PySem.W.fnOf "_law_take" "_law_take" (defArgs s_take) (defBody s_take) (defScope s_take) .none kV_take dc_take pm_take an_take cd_take ct_take) P_take [] := .all fun us hl => match us, hl with | [_, _], _ => rfl
  have bb_whole : Binds K (PySem.W.fnOf "is_whole" "is_whole" (defArgs s_whole) (defBody s_whole) (defScope s_whole) .none kV_whole dc_whole pm_whole an_whole cd_whole ct_whole) P_whole [] := .all fun us hl => match us, hl with | [_], _ => rfl
  have kb_pinit_0_room : KBn K (PySem.W.fnOf "__init__" "Pipe.__init__" (defArgs s_pinit) (defBody s_pinit) (defScope s_pinit) .none (.ref K_pinit) dc_pinit pm_pinit an_pinit cd_pinit ct_pinit) P_pinit 1 ["room"] (fun us ws => us ++ ws) (fun vs zs => vs ++ zs) := ⟨fun s us ws X l1 l2 => .of_eq (match us, ws, l1, l2 with | [_], [_], _, _ => rfl), fun r1 r2 => Vals.append r1 r2⟩
  let T : Tx K mg := ⟨C_IntoEnd, C_OutEnd, C_Pipe, C_Raw, f_whole, _, ⟨F_whole, PySem.W.mg_of X G a_whole⟩, f_croom, _, ⟨F_croom, PySem.W.mg_of X G a_croom⟩, f_ocopy, _, ⟨F_ocopy, PySem.W.mg_of X G a_ocopy⟩, f_rinit, _, ⟨F_rinit, ⟨a_rinit, i_rinit, k_rinit⟩⟩, f_iinit, _, ⟨F_iinit, ⟨a_iinit, i_iinit, k_iinit⟩⟩, f_oinit, _, ⟨F_oinit, ⟨a_oinit, i_oinit, k_oinit⟩⟩, f_pinit, _, ⟨F_pinit, ⟨a_pinit, i_pinit, k_pinit⟩⟩, f_pinto, _, ⟨F_pinto, ⟨a_pinto, i_pinto, k_pinto⟩⟩, f_pout, _, ⟨F_pout, ⟨a_pout, i_pout, k_pout⟩⟩, f_pheld, _, ⟨F_pheld, ⟨a_pheld, i_pheld, k_pheld⟩⟩, f_play, _, ⟨F_play, ⟨a_play, i_play, k_play⟩⟩, f_plift, _, ⟨F_plift, ⟨a_plift, i_plift, k_plift⟩⟩, f_iaccept, _, ⟨F_iaccept, ⟨a_iaccept, i_iaccept, k_iaccept⟩⟩, f_ogive, _, ⟨F_ogive, ⟨a_ogive, i_ogive, k_ogive⟩⟩, f_iput, _, ⟨F_iput, ⟨a_iput, i_iput, k_iput⟩⟩, f_iopen, _, ⟨F_iopen, ⟨a_iopen, i_iopen, k_iopen⟩⟩, f_imay, _, ⟨F_imay, ⟨a_imay, i_imay, k_imay⟩⟩, f_inote, _, ⟨F_inote, ⟨a_inote, i_inote, k_inote⟩⟩, f_ishut, _, ⟨F_ishut, ⟨a_ishut, i_ishut, k_ishut⟩⟩, f_ilog, _, ⟨F_ilog, ⟨a_ilog, i_ilog, k_ilog⟩⟩, f_ilogb, _, ⟨F_ilogb, ⟨a_ilogb, i_ilogb, k_ilogb⟩⟩, f_otake, _, ⟨F_otake, ⟨a_otake, i_otake, k_otake⟩⟩, f_oopen, _, ⟨F_oopen, ⟨a_oopen, i_oopen, k_oopen⟩⟩, f_omay, _, ⟨F_omay, ⟨a_omay, i_omay, k_omay⟩⟩, f_onote, _, ⟨F_onote, ⟨a_onote, i_onote, k_onote⟩⟩, f_oshut, _, ⟨F_oshut, ⟨a_oshut, i_oshut, k_oshut⟩⟩, f_olog, _, ⟨F_olog, ⟨a_olog, i_olog, k_olog⟩⟩, f_ologb, _, ⟨F_ologb, ⟨a_ologb, i_ologb, k_ologb⟩⟩, f_idown, _, ⟨F_idown, ⟨a_idown, i_idown, k_idown⟩⟩, f_pool, _, ⟨F_pool, PySem.W.mg_of X G a_pool⟩, f_take, _, ⟨F_take, PySem.W.mg_of X G a_take⟩, f_lrow, _, ⟨F_lrow, PySem.W.mg_of X G a_lrow⟩, f_lput, _, ⟨F_lput, PySem.W.mg_of X G a_lput⟩, f_ltaken, _, ⟨F_ltaken, PySem.W.mg_of X G a_ltaken⟩, f_inord, _, ⟨F_inord, PySem.W.mg_of X G a_inord⟩, f_logged, _, ⟨F_logged, PySem.W.mg_of X G a_logged⟩, f_passed, _, ⟨F_passed, PySem.W.mg_of X G a_passed⟩, fa, _, ⟨F_law, PySem.W.mg_of X G a_law⟩, ⟨pg_IntoEnd, hd_IntoEnd, po_IntoEnd, sa_IntoEnd⟩, PySem.W.mg_of X G qa_IntoEnd, ⟨mk_IntoEnd, a_iinit, i_iinit, kc_IntoEnd⟩, n_IntoEnd_can_seek, n_IntoEnd_spot, n_IntoEnd_barred, n_IntoEnd_notes, n_IntoEnd_pipe, ⟨pg_OutEnd, hd_OutEnd, po_OutEnd, sa_OutEnd⟩, PySem.W.mg_of X G qa_OutEnd, ⟨mk_OutEnd, a_oinit, i_oinit, kc_OutEnd⟩, n_OutEnd_can_seek, n_OutEnd_spot, n_OutEnd_barred, n_OutEnd_notes, n_OutEnd_pipe, ⟨pg_Pipe, hd_Pipe, po_Pipe, sa_Pipe⟩, PySem.W.mg_of X G qa_Pipe, ⟨mk_Pipe, a_pinit, i_pinit, kc_Pipe⟩, n_Pipe_room, n_Pipe_within, n_Pipe_into_end, n_Pipe_out_end, PySem.W.mg_of X G qa_Raw, ⟨rd_Raw, ga_Raw⟩, cv_rinit, bb_croom, bb_iaccept, bb_idown, bb_iinit, bb_ilog, bb_ilogb, bb_imay, bb_inord, bb_inote, bb_iopen, bb_iput, bb_ishut, bb_logged, bb_lput, bb_lrow, bb_ltaken, bb_ocopy, bb_ogive, bb_oinit, bb_olog, bb_ologb, bb_omay, bb_onote, bb_oopen, bb_oshut, bb_otake, bb_passed, bb_pheld, bb_pinto, bb_play, bb_plift, bb_pool, bb_pout, bb_rinit, bb_take, bb_whole, kb_pinit_0_room, t_ROOM, PySem.W.mg_of X G v_ROOM, t_GREATEST_ROOM, PySem.W.mg_of X G v_GREATEST_ROOM, PySem.W.mg_none_of X G z_list, PySem.W.mg_none_of X G z_len, PySem.W.mg_none_of X G z_range, PySem.W.mg_none_of X G z_max, PySem.W.mg_none_of X G z_min, PySem.W.mg_none_of X G z_isinstance, PySem.W.mg_none_of X G z_int, PySem.W.mg_none_of X G z_bool, PySem.W.mg_none_of X G z_all⟩
  exact ⟨_, fun s v => .of_eq rfl, fun base _ _ => ok_law T⟩
end Sip
open PySem PySem.W PyProof.Rows
set_option maxHeartbeats 0 in
theorem PySem.Challenge.cw_sipstack_k17_whole_chain_of_pipes_holds : PySem.Challenge.rw_sipstack_k17_whole_chain_of_pipes.Holds := by
  w_on; o_law; k_head; (case hw => w_witness2)
  k_fill
  refine L2.walk_of (l := PySem.Challenge.rw_sipstack_k17_whole_chain_of_pipes) (n := 63) (k := 7) (x := "_law_script") (CX := fun _ => L2.CX0) (sp := fun w => Sip.spLaw _) rfl (by decide) rfl ⟨rfl, by decide, by decide⟩ (fun w h Y => PySem.W.kIn_of Y) ?F (fun _ _ a ns hl _ hS => ⟨a, ns, rfl, hS, hl, fun _ => rfl⟩) (fun _ _ _ _ _ h => h)
  case F =>
    intro w mg fa h KX G hmg
    refine' Sip.all_mk KX G hmg ?qa_IntoEnd ?qa_OutEnd ?qa_Pipe ?qa_Raw ?rd_Raw ?ga_Raw ?a_whole ?l_whole ?c_whole ?k_whole ?a_croom ?l_croom ?c_croom ?k_croom ?a_ocopy ?l_ocopy ?c_ocopy ?k_ocopy ?a_rinit ?i_rinit ?cv_rinit ?l_rinit ?c_rinit ?k_rinit ?a_iinit ?i_iinit ?l_iinit ?c_iinit ?k_iinit ?a_oinit ?i_oinit ?l_oinit ?c_oinit ?k_oinit ?a_pinit ?i_pinit ?l_pinit ?c_pinit ?k_pinit ?w_pinit_0 ?a_pinto ?i_pinto ?l_pinto ?c_pinto ?k_pinto ?a_pout ?i_pout ?l_pout ?c_pout ?k_pout ?a_pheld ?i_pheld ?l_pheld ?c_pheld ?k_pheld ?a_play ?i_play ?l_play ?c_play ?k_play ?a_plift ?i_plift ?l_plift ?c_plift ?k_plift ?a_iaccept ?i_iaccept ?l_iaccept ?c_iaccept ?k_iaccept ?a_ogive ?i_ogive ?l_ogive ?c_ogive ?k_ogive ?a_iput ?i_iput ?l_iput ?c_iput ?k_iput ?a_iopen ?i_iopen ?l_iopen ?c_iopen ?k_iopen ?a_imay ?i_imay ?l_imay ?c_imay ?k_imay ?a_inote ?i_inote ?l_inote ?c_inote ?k_inote ?a_ishut ?i_ishut ?l_ishut ?c_ishut ?k_ishut ?a_ilog ?i_ilog ?l_ilog ?c_ilog ?k_ilog ?a_ilogb ?i_ilogb ?l_ilogb ?c_ilogb ?k_ilogb ?a_otake ?i_otake ?l_otake ?c_otake ?k_otake ?a_oopen ?i_oopen ?l_oopen ?c_oopen ?k_oopen ?a_omay ?i_omay ?l_omay ?c_omay ?k_omay ?a_onote ?i_onote ?l_onote ?c_onote ?k_onote ?a_oshut ?i_oshut ?l_oshut ?c_oshut ?k_oshut ?a_olog ?i_olog ?l_olog ?c_olog ?k_olog ?a_ologb ?i_ologb ?l_ologb ?c_ologb ?k_ologb ?a_idown ?i_idown ?l_idown ?c_idown ?k_idown ?a_pool ?l_pool ?c_pool ?k_pool ?a_take ?l_take ?c_take ?k_take ?a_lrow ?l_lrow ?c_lrow ?k_lrow ?a_lput ?l_lput ?c_lput ?k_lput ?a_ltaken ?l_ltaken ?c_ltaken ?k_ltaken ?a_inord ?l_inord ?c_inord ?k_inord ?a_logged ?l_logged ?c_logged ?k_logged ?a_passed ?l_passed ?c_passed ?k_passed ?a_law ?l_law ?c_law ?k_law ?pg_IntoEnd ?hd_IntoEnd ?po_IntoEnd ?sa_IntoEnd ?mk_IntoEnd ?kc_IntoEnd ?n_IntoEnd_can_seek ?n_IntoEnd_spot ?n_IntoEnd_barred ?n_IntoEnd_notes ?n_IntoEnd_pipe ?pg_OutEnd ?hd_OutEnd ?po_OutEnd ?sa_OutEnd ?mk_OutEnd ?kc_OutEnd ?n_OutEnd_can_seek ?n_OutEnd_spot ?n_OutEnd_barred ?n_OutEnd_notes ?n_OutEnd_pipe ?pg_Pipe ?hd_Pipe ?po_Pipe ?sa_Pipe ?mk_Pipe ?kc_Pipe ?n_Pipe_room ?n_Pipe_within ?n_Pipe_into_end ?n_Pipe_out_end ?v_ROOM ?v_GREATEST_ROOM ?z_list ?z_len ?z_range ?z_max ?z_min ?z_isinstance ?z_int ?z_bool ?z_all
    (case qa_IntoEnd => k_is)
    (case qa_OutEnd => k_is)
    (case qa_Pipe => k_is)
    (case qa_Raw => k_is)
    (case rd_Raw => k_is)
    (case ga_Raw => k_is)
    (case a_whole => k_is)
    (case l_whole => k_is)
    (case c_whole => k_is)
    (case k_whole => k_is)
    (case a_croom => k_is)
    (case l_croom => k_is)
    (case c_croom => k_is)
    (case k_croom => k_is)
    (case a_ocopy => k_is)
    (case l_ocopy => k_is)
    (case c_ocopy => k_is)
    (case k_ocopy => k_is)
    (case a_rinit => k_is)
    (case i_rinit => k_is)
    (case cv_rinit => k_is)
    (case l_rinit => k_is)
    (case c_rinit => k_is)
    (case k_rinit => k_is)
    (case a_iinit => k_is)
    (case i_iinit => k_is)
    (case l_iinit => k_is)
    (case c_iinit => k_is)
    (case k_iinit => k_is)
    (case a_oinit => k_is)
    (case i_oinit => k_is)
    (case l_oinit => k_is)
    (case c_oinit => k_is)
    (case k_oinit => k_is)
    (case a_pinit => k_is)
    (case i_pinit => k_is)
    (case l_pinit => k_is)
    (case c_pinit => k_is)
    (case k_pinit => k_is)
    (case w_pinit_0 => k_is)
    (case a_pinto => k_is)
    (case i_pinto => k_is)
    (case l_pinto => k_is)
    (case c_pinto => k_is)
    (case k_pinto => k_is)
    (case a_pout => k_is)
    (case i_pout => k_is)
    (case l_pout => k_is)
    (case c_pout => k_is)
    (case k_pout => k_is)
    (case a_pheld => k_is)
    (case i_pheld => k_is)
    (case l_pheld => k_is)
    (case c_pheld => k_is)
    (case k_pheld => k_is)
    (case a_play => k_is)
    (case i_play => k_is)
    (case l_play => k_is)
    (case c_play => k_is)
    (case k_play => k_is)
    (case a_plift => k_is)
    (case i_plift => k_is)
    (case l_plift => k_is)
    (case c_plift => k_is)
    (case k_plift => k_is)
    (case a_iaccept => k_is)
    (case i_iaccept => k_is)
    (case l_iaccept => k_is)
    (case c_iaccept => k_is)
    (case k_iaccept => k_is)
    (case a_ogive => k_is)
    (case i_ogive => k_is)
    (case l_ogive => k_is)
    (case c_ogive => k_is)
    (case k_ogive => k_is)
    (case a_iput => k_is)
    (case i_iput => k_is)
    (case l_iput => k_is)
    (case c_iput => k_is)
    (case k_iput => k_is)
    (case a_iopen => k_is)
    (case i_iopen => k_is)
    (case l_iopen => k_is)
    (case c_iopen => k_is)
    (case k_iopen => k_is)
    (case a_imay => k_is)
    (case i_imay => k_is)
    (case l_imay => k_is)
    (case c_imay => k_is)
    (case k_imay => k_is)
    (case a_inote => k_is)
    (case i_inote => k_is)
    (case l_inote => k_is)
    (case c_inote => k_is)
    (case k_inote => k_is)
    (case a_ishut => k_is)
    (case i_ishut => k_is)
    (case l_ishut => k_is)
    (case c_ishut => k_is)
    (case k_ishut => k_is)
    (case a_ilog => k_is)
    (case i_ilog => k_is)
    (case l_ilog => k_is)
    (case c_ilog => k_is)
    (case k_ilog => k_is)
    (case a_ilogb => k_is)
    (case i_ilogb => k_is)
    (case l_ilogb => k_is)
    (case c_ilogb => k_is)
    (case k_ilogb => k_is)
    (case a_otake => k_is)
    (case i_otake => k_is)
    (case l_otake => k_is)
    (case c_otake => k_is)
    (case k_otake => k_is)
    (case a_oopen => k_is)
    (case i_oopen => k_is)
    (case l_oopen => k_is)
    (case c_oopen => k_is)
    (case k_oopen => k_is)
    (case a_omay => k_is)
    (case i_omay => k_is)
    (case l_omay => k_is)
    (case c_omay => k_is)
    (case k_omay => k_is)
    (case a_onote => k_is)
    (case i_onote => k_is)
    (case l_onote => k_is)
    (case c_onote => k_is)
    (case k_onote => k_is)
    (case a_oshut => k_is)
    (case i_oshut => k_is)
    (case l_oshut => k_is)
    (case c_oshut => k_is)
    (case k_oshut => k_is)
    (case a_olog => k_is)
    (case i_olog => k_is)
    (case l_olog => k_is)
    (case c_olog => k_is)
    (case k_olog => k_is)
    (case a_ologb => k_is)
    (case i_ologb => k_is)
    (case l_ologb => k_is)
    (case c_ologb => k_is)
    (case k_ologb => k_is)
    (case a_idown => k_is)
    (case i_idown => k_is)
    (case l_idown => k_is)
    (case c_idown => k_is)
    (case k_idown => k_is)
    (case a_pool => k_is)
    (case l_pool => k_is)
    (case c_pool => k_is)
    (case k_pool => k_is)
    (case a_take => k_is)
    (case l_take => k_is)
    (case c_take => k_is)
    (case k_take => k_is)
    (case a_lrow => k_is)
    (case l_lrow => k_is)
    (case c_lrow => k_is)
    (case k_lrow => k_is)
    (case a_lput => k_is)
    (case l_lput => k_is)
    (case c_lput => k_is)
    (case k_lput => k_is)
    (case a_ltaken => k_is)
    (case l_ltaken => k_is)
    (case c_ltaken => k_is)
    (case k_ltaken => k_is)
    (case a_inord => k_is)
    (case l_inord => k_is)
    (case c_inord => k_is)
    (case k_inord => k_is)
    (case a_logged => k_is)
    (case l_logged => k_is)
    (case c_logged => k_is)
    (case k_logged => k_is)
    (case a_passed => k_is)
    (case l_passed => k_is)
    (case c_passed => k_is)
    (case k_passed => k_is)
    (case a_law => k_is)
    (case l_law => k_is)
    (case c_law => k_is)
    (case k_law => k_is)
    (case pg_IntoEnd => k_is)
    (case hd_IntoEnd => k_is)
    (case po_IntoEnd => k_is)
    (case sa_IntoEnd => k_is)
    (case mk_IntoEnd => k_is)
    (case kc_IntoEnd => k_is)
    (case n_IntoEnd_can_seek => k_is)
    (case n_IntoEnd_spot => k_is)
    (case n_IntoEnd_barred => k_is)
    (case n_IntoEnd_notes => k_is)
    (case n_IntoEnd_pipe => k_is)
    (case pg_OutEnd => k_is)
    (case hd_OutEnd => k_is)
    (case po_OutEnd => k_is)
    (case sa_OutEnd => k_is)
    (case mk_OutEnd => k_is)
    (case kc_OutEnd => k_is)
    (case n_OutEnd_can_seek => k_is)
    (case n_OutEnd_spot => k_is)
    (case n_OutEnd_barred => k_is)
    (case n_OutEnd_notes => k_is)
    (case n_OutEnd_pipe => k_is)
    (case pg_Pipe => k_is)
    (case hd_Pipe => k_is)
    (case po_Pipe => k_is)
    (case sa_Pipe => k_is)
    (case mk_Pipe => k_is)
    (case kc_Pipe => k_is)
    (case n_Pipe_room => k_is)
    (case n_Pipe_within => k_is)
    (case n_Pipe_into_end => k_is)
    (case n_Pipe_out_end => k_is)
    (case v_ROOM => k_is)
    (case v_GREATEST_ROOM => k_is)
    (case z_list => k_is)
    (case z_len => k_is)
    (case z_range => k_is)
    (case z_max => k_is)
    (case z_min => k_is)
    (case z_isinstance => k_is)
    (case z_int => k_is)
    (case z_bool => k_is)
    (case z_all => k_is)
