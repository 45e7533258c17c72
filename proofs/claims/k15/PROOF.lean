import PyProof.Rows.All
import Wide.All
import OpenK.AllK
import Wide.FinOn
import HandS.ForMost
import HandS.Wide
import HandS.WideBits
import HandS.WideMore
import HandS.Flow
import HandS.IsInst
import HandS.Style
import HandS.TupAny
import HandS.TupMul
import HandS.Deep
import HandS.RaiseMore
import HandS.Walk
import HandS.Codes
import HandS.Rev
import KE.KIntText
import PySem.Challenge.RW_runsums_k15_one_figure
set_option Elab.async false
set_option linter.all false
set_option maxRecDepth 100000
set_option maxHeartbeats 4000000
/-! own layer over the hand layer: heaps that grow, rules for values of any kind, readings step by step -/
namespace RV
open PySem PySem.Spec L2
open PyProof.Rows hiding St

/-! ### heaps -/
/-- all that was tracked is as it was -/
structure Sm (H H' : Hp) : Prop where
  to : ∀ a o, H a = some o → H' a = some o
/-- all but what stands at b is as it was -/
structure Chg (b : Addr) (H H' : Hp) : Prop where
  to : ∀ a o, a ≠ b → H a = some o → H' a = some o
theorem Sm.refl (H : Hp) : Sm H H := ⟨fun _ _ h => h⟩
theorem Sm.trans {H H1 H2 : Hp} (a : Sm H H1) (b : Sm H1 H2) : Sm H H2 := ⟨fun c o h => b.to c o (a.to c o h)⟩
theorem Sm.same {H H1 : Hp} (a : Sm H H1) : Same H H1 := a.to
theorem Same.sm {H H1 : Hp} (a : Same H H1) : Sm H H1 := ⟨a⟩
theorem Chg.refl (b : Addr) (H : Hp) : Chg b H H := ⟨fun _ _ _ h => h⟩
theorem Chg.trans {b : Addr} {H H1 H2 : Hp} (a : Chg b H H1) (c : Chg b H1 H2) : Chg b H H2 := ⟨fun d o n h => c.to d o n (a.to d o n h)⟩
theorem Sm.chg {b : Addr} {H H1 : Hp} (a : Sm H H1) : Chg b H H1 := ⟨fun d o _ h => a.to d o h⟩
theorem Chg.sm {b : Addr} {H H1 H2 : Hp} (c : Sm H H1) (n : H b = none) (a : Chg b H1 H2) : Sm H H2 := ⟨fun d o h => a.to d o (ne_of_none h n) (c.to d o h)⟩
theorem Sm.free {H H' : Hp} (e : Sm H H') {l : Addr} (h : H' l = none) : H l = none := by
  cases q : H l with
  | none => rfl
  | some o =>
    rw [e.to l o q] at h
    cases h
theorem sm_upd {H : Hp} {p : Addr} {o : HO} (h : H p = none) : Sm H (upd H p o) := ⟨fun b x e => by
  rw [upd_ne (ne_of_none e h)]
  exact e⟩
theorem chg_upd {H : Hp} {p : Addr} {o : HO} : Chg p H (upd H p o) := ⟨fun b x n e => by
  rw [upd_ne n]
  exact e⟩
/-- the heap without what stands at b -/
def hide (b : Addr) (H : Hp) : Hp := fun a => if a = b then none else H a
theorem hide_ne {b a : Addr} {H : Hp} (n : a ≠ b) : hide b H a = H a := by unfold hide; rw [if_neg n]
theorem hide_self {b : Addr} {H : Hp} : hide b H b = none := by unfold hide; rw [if_pos rfl]
theorem hide_some {b a : Addr} {H : Hp} {o : HO} (h : hide b H a = some o) : a ≠ b ∧ H a = some o := by
  by_cases e : a = b
  · subst e
    rw [hide_self] at h
    cases h
  · rw [hide_ne e] at h
    exact ⟨e, h⟩
theorem hide_sm {b : Addr} {H : Hp} : Sm (hide b H) H := ⟨fun _ _ h => (hide_some h).2⟩
theorem Chg.hide {b : Addr} {H H' : Hp} (c : Chg b H H') : Sm (RV.hide b H) (RV.hide b H') := ⟨fun a o h => by
  obtain ⟨n, e⟩ := hide_some h
  rw [hide_ne n]
  exact c.to a o n e⟩
theorem hide_new {b p : Addr} {H H' : Hp} {o u : HO} (hb : H b = some u) (np : H p = none) (hp : H' p = some o) : RV.hide b H' p = some o := by
  rw [hide_ne (ne_of_none hb np).symm]
  exact hp
theorem Sm.seq {K : PySem.W.Frag} {H H' : Hp} {a : Addr} {xs : List V} (e : Sm H H') (h : SqL K H a xs) : SqL K H' a xs := Same.seq e.to h
theorem Sm.seqT {K : PySem.W.Frag} {H H' : Hp} {a : Addr} {xs : List V} (e : Sm H H') (h : SqT K H a xs) : SqT K H' a xs := by
  rcases h with (h | ⟨o, h⟩) | h
  · exact .inl (.inl (e.to _ _ h))
  · exact .inl (.inr ⟨o, e.to _ _ h⟩)
  · exact .inr h
mutual
theorem Sm.dp {K : PySem.W.Frag} {H H' : Hp} (e : Sm H H') : ∀ {v : V} {d : PyData}, Dp K H v d → Dp K H' v d
  | _, _, .non => .non
  | _, _, .bl b => .bl b
  | _, _, .int i => .int i
  | _, _, .str x => .str x
  | _, _, .lst h t => .lst (e.seq h) (e.dps t)
  | _, _, .tup h t => .tup (e.seqT h) (e.dps t)
theorem Sm.dps {K : PySem.W.Frag} {H H' : Hp} (e : Sm H H') : ∀ {vs : List V} {ds : List PyData}, DpAll K H vs ds → DpAll K H' vs ds
  | _, _, .nil => .nil
  | _, _, .cons h t => .cons (e.dp h) (e.dps t)
end
theorem DpAll.length {K : PySem.W.Frag} {H : Hp} : ∀ {vs : List V} {ds : List PyData}, DpAll K H vs ds → vs.length = ds.length
  | _, _, .nil => rfl
  | _, _, .cons _ t => congrArg Nat.succ (DpAll.length t)
theorem DpAll.get {K : PySem.W.Frag} {H : Hp} : ∀ {vs : List V} {ds : List PyData} {i : Nat} {d : PyData}, DpAll K H vs ds → ds[i]? = some d → ∃ v, vs[i]? = some v ∧ Dp K H v d
  | _, _, _, _, .nil, e => by simp at e
  | _, _, 0, _, .cons r _, e => by
    simp at e
    subst e
    exact ⟨_, rfl, r⟩
  | _, _, i + 1, d, .cons _ t, e => by
    obtain ⟨v, h1, h2⟩ := DpAll.get (i := i) (d := d) t (by simpa using e)
    exact ⟨v, by simpa using h1, h2⟩
theorem DpAll.app {K : PySem.W.Frag} {H : Hp} : ∀ {vs us : List V} {ds es : List PyData}, DpAll K H vs ds → DpAll K H us es → DpAll K H (vs ++ us) (ds ++ es)
  | _, _, _, _, .nil, s => s
  | _, _, _, _, .cons r t, s => .cons r (DpAll.app t s)
theorem DpAll.snoc {K : PySem.W.Frag} {H : Hp} {vs : List V} {v : V} {ds : List PyData} {d : PyData} (h : DpAll K H vs ds) (r : Dp K H v d) : DpAll K H (vs ++ [v]) (ds ++ [d]) := DpAll.app h (.cons r .nil)
/-- a list of two ints, the drawer -/
def BoxAt (H : Hp) (b : Addr) : Prop := ∃ c s : Int, H b = some (.lst [.int c, .int s])
theorem BoxAt.sm {H H' : Hp} {b : Addr} (e : Sm H H') (h : BoxAt H b) : BoxAt H' b := by
  obtain ⟨c, s, h⟩ := h
  exact ⟨c, s, e.to _ _ h⟩

/-! ### rules for values of any kind -/
section
variable {X : Cx}
def rStrRep : R2 := fun x y H Q => ∃ (z : Str) (n : Nat), x = .str z ∧ y = .int (n : Int) ∧ z.length * n ≤ 16777216 ∧ n ≤ 16777216 ∧ Q (.str ⟨((List.replicate n z.cps.toList).flatten).toArray⟩) H
theorem flat_rep (c : Array Nat) : ∀ (n : Nat) (acc : Array Nat), (List.replicate n c).foldl (· ++ ·) acc = acc ++ ((List.replicate n c.toList).flatten).toArray
  | 0, acc => by simp
  | n + 1, acc => by
    rw [List.replicate_succ, List.foldl_cons, flat_rep c n, List.replicate_succ, List.flatten_cons]
    apply Array.toList_inj.mp
    simp
theorem line24 : (16777216 : Nat) ≤ sizeLine := by rw [sizeLine_eq]; decide
theorem op_strRep : OpR X (binaryOp .Mult) rStrRep := by
  intro pins s σ H x y v u Q I rx ry h
  obtain ⟨z, n, rfl, rfl, hz, hn, q⟩ := h
  obtain ⟨t, rfl⟩ := rx
  obtain ⟨t', rfl⟩ := ry
  have b63 : (2 : Int) ^ 63 = 9223372036854775808 := by decide
  refine PySem.P.mul_str ?_ (fun _ _ => ?_) (fun _ _ => ?_) ?_
  · rw [b63, decide_eq_false (by omega), decide_eq_false (by omega)]
    rfl
  · have h1 : (z.length : Int) * (n : Int) ≤ 2 ^ 63 - 1 := by
      rw [b63]
      have h := Int.ofNat_le.mpr hz
      rw [Int.natCast_mul] at h
      exact Int.le_trans h (by decide)
    intro h2
    by_cases h0 : n = 0
    · omega
    · have h3 : (0 : Int) < (n : Int) := by omega
      have h4 := Int.le_ediv_of_mul_le h3 h1
      omega
  · show Builtin.Str.tooLong (z.length * ((n : Int)).toNat) = false
    rw [Int.toNat_natCast]
    have := line24
    unfold Builtin.Str.tooLong
    exact decide_eq_false (by omega)
  · by_cases h1 : (n : Int) < 1
    · rw [if_pos h1]
      have e0 : n = 0 := by omega
      subst e0
      have q' : Q (.str Str.empty) H := q
      refine ⟨?_, ⟨.str Str.empty, H, I.tok _, ⟨_, rfl⟩, q'⟩⟩
      show Str.empty.length ≤ sizeLine
      exact Nat.zero_le _
    · rw [if_neg h1]
      by_cases h2 : ((n : Int) == 1 || z.length == 0) = true
      · rw [if_pos h2]
        have e : (⟨((List.replicate n z.cps.toList).flatten).toArray⟩ : Str) = z := by
          rw [Bool.or_eq_true] at h2
          rcases h2 with h2 | h2
          · have e1 : (n : Int) = 1 := by simpa using h2
            have e1 : n = 1 := by omega
            subst e1
            simp
          · have e1 : z.length = 0 := by simpa using h2
            have e2 : z.cps = #[] := Array.eq_empty_of_size_eq_zero e1
            cases z with
            | mk c =>
              simp only at e2
              subst e2
              simp
        rw [e] at q
        exact ⟨.str z, H, I, ⟨t, rfl⟩, q⟩
      · rw [if_neg h2]
        have e : (List.replicate ((n : Int)).toNat z.cps).foldl (· ++ ·) #[] = ((List.replicate n z.cps.toList).flatten).toArray := by
          rw [Int.toNat_natCast, flat_rep]
          simp
        refine ⟨?_, ?_⟩
        · rw [e]
          show (((List.replicate n z.cps.toList).flatten).toArray).size ≤ sizeLine
          rw [List.size_toArray, List.length_flatten, List.map_replicate, List.sum_replicate_nat, Array.length_toList]
          have hz' : z.cps.size * n ≤ 16777216 := hz
          have := line24
          rw [Nat.mul_comm] at hz'
          omega
        · rw [e]
          exact ⟨.str _, H, I.tok _, ⟨_, rfl⟩, q⟩
end

section
variable {X : Cx}
/-! sums, products, equality, in, len, slices, loops: the value's own kind chooses the rule -/
def rAddA (K : PySem.W.Frag) : R2 := fun x y H Q => rI0 (fun i j => .int (i + j)) x y H Q ∨ (∃ i j, x = .str i ∧ y = .str j ∧ i.length + j.length ≤ sizeLine ∧ Q (.str (i ++ j)) H) ∨ rCat x y H Q ∨ rCatA K x y H Q
theorem op_addA : OpR X (binaryOp .Add) (rAddA X.K) := op_add.or (op_add_str.or (op_cat.or op_catA))
def rMulA (K : PySem.W.Frag) : R2 := fun x y H Q => rI CMul (fun i j => .int (i * j)) x y H Q ∨ rI CMulW (fun i j => .int (i * j)) x y H Q ∨ rStrRep x y H Q ∨ rRep x y H Q ∨ rRepT K x y H Q
theorem op_mulA : OpR X (binaryOp .Mult) (rMulA X.K) := op_mul.or (op_mulW.or (op_strRep.or (op_rep.or op_repT)))
def rEqA (K : PySem.W.Frag) : R2 := fun x y H Q => rEq x y H Q ∨ rEqD K x y H Q
def rNeA (K : PySem.W.Frag) : R2 := fun x y H Q => rNe x y H Q ∨ rNeD K x y H Q
theorem op_eqA (hu : X.A.units + 64 < cLine) : OpR X (compareOp .Eq) (rEqA X.K) := op_eq.or (op_eqD hu)
theorem op_neA (hu : X.A.units + 64 < cLine) : OpR X (compareOp .NotEq) (rNeA X.K) := op_ne.or (op_neD hu)
def rInStr (neg : Bool) : R2 := fun x y H Q => ∃ (c : Nat) (z : Str), x = .str ⟨#[c]⟩ ∧ y = .str z ∧ Q (.bl (if neg then !decide (c ∈ z.cps.toList) else decide (c ∈ z.cps.toList))) H
def rInA (K : PySem.W.Frag) : R2 := fun x y H Q => rInStr false x y H Q ∨ rIn K false x y H Q
def rNotInA (K : PySem.W.Frag) : R2 := fun x y H Q => rInStr true x y H Q ∨ rIn K true x y H Q
theorem op_inA : OpR X (compareOp .In) (rInA X.K) := OpR.or op_in_sign op_in_seq
theorem op_notInA : OpR X (compareOp .NotIn) (rNotInA X.K) := OpR.or op_notIn_sign op_notIn_seq
def rSlAny (K : PySem.W.Frag) : V → Option Int → Option Int → Hp → VK → Prop := fun x lo hi H Q => rSlS x lo hi H Q ∨ rSlL K x lo hi H Q ∨ rSlA K x lo hi H Q
theorem sl_any : SlR X (rSlAny X.K) := sl_str.or (sl_list.or sl_tupA)
def rLenA (K : PySem.W.Frag) : List V → Hp → VK → Prop := fun xs H Q => (∃ x n, xs = [x] ∧ LenV K x H n ∧ Q (.int n) H) ∨ (∃ a kvs, xs = [V.ref a] ∧ H a = some (.dK kvs) ∧ Q (.int kvs.length) H)
theorem call_lenA : CallR X (.builtin "len") (rLenA X.K) := call_len.or call_lenD
def rMaxA (K : PySem.W.Frag) : List V → Hp → VK → Prop := fun xs H Q => (∃ i j, xs = [.int i, .int j] ∧ Q (.int (if j > i then j else i)) H) ∨ rMax K xs H Q
theorem call_maxA (hc : X.calm = true) : CallR X (.builtin "max") (rMaxA X.K) := (call_max2 hc).or (cr_max hc)
def rMinA (K : PySem.W.Frag) : List V → Hp → VK → Prop := fun xs H Q => (∃ i j, xs = [.int i, .int j] ∧ Q (.int (if j < i then j else i)) H) ∨ rMin K xs H Q
theorem call_minA (hc : X.calm = true) : CallR X (.builtin "min") (rMinA X.K) := (call_min2 hc).or (cr_min hc)
theorem call_strA : CallR X (.type "str") (fun xs H Q => (∃ i, xs = [.int i] ∧ i.natAbs.log2 < 1920 ∧ Q (.str (toString i)) H) ∨ (∃ a, xs = [.str a] ∧ Q (.str a) H)) := call_str_int.or SkE.call_str_str
theorem call_intA : CallR X (.type "int") (fun xs H Q => ((∃ i, xs = [.int i] ∧ Q (.int i) H) ∨ ∃ k, xs = [.bl k] ∧ Q (.int (if k then 1 else 0)) H) ∨ (∃ a n, xs = [.str a] ∧ PySem.intText? a = some n ∧ a.length ≤ 640 ∧ Q (.int n) H)) := call_int1.or call_int_str
theorem call_listA : CallR X (.type "list") (fun xs H Q => ∃ p ys, xs = [.ref p] ∧ (SqL X.K H p ys ∨ SqT X.K H p ys) ∧ ∀ l, H l = none → Q (.ref l) (upd H l (.lst ys))) := call_list_of
theorem call_tupleA : CallR X (.type "tuple") (fun xs H Q => ∃ p ys, xs = [.ref p] ∧ ((SqL X.K H p ys ∧ ∀ l, H l = none → Q (.ref l) (upd H l (.tup ys))) ∨ (SqT X.K H p ys ∧ Q (.ref p) H))) := call_tuple_of
theorem PI.or {tg l : Expr} {w1 w2 : TI} (h1 : PI X tg l w1) (h2 : PI X tg l w2) : PI X tg l (fun σ H R => w1 σ H R ∨ w2 σ H R) := ⟨fun pins s σ H R I h => h.elim (fun q => h1.run pins s σ H R I q) (fun q => h2.run pins s σ H R I q)⟩
def iAny (K : PySem.W.Frag) (tl : TE) : TI := fun σ H R => iList K tl σ H R ∨ iTup K tl σ H R ∨ iStr tl σ H R
theorem pi_any {tg l : Expr} {tl : TE} (hl : PE X l tl) : PI X tg l (iAny X.K tl) := PI.or (pi_list hl) (PI.or (pi_tup hl) (pi_str hl))
end

/-! ### readings, one construct a time -/
section
variable {σ : St} {H : Hp} {Q : VK} {D : Ends} {K : PySem.W.Frag}
theorem r_var {i : Nat} {v : V} (h : σ[i]? = some (some v)) (k : Q v H) : tVar i σ H Q := ⟨v, h, k⟩
theorem r_C {v : V} (k : Q v H) : tC v σ H Q := k
theorem r_op {r : R2} {ta tb : TE} (h : ta σ H fun x H1 => tb σ H1 fun y H2 => r x y H2 Q) : tOp r ta tb σ H Q := h
theorem r_un {r : V → Hp → VK → Prop} {ta : TE} (h : ta σ H fun x H1 => r x H1 Q) : tUn r ta σ H Q := h
theorem r_I {C : Int → Int → Prop} {g : Int → Int → V} {i j : Int} (c : C i j) (k : Q (g i j) H) : rI C g (.int i) (.int j) H Q := ⟨i, j, rfl, rfl, c, k⟩
theorem r_I0 {g : Int → Int → V} {i j : Int} (k : Q (g i j) H) : rI0 g (.int i) (.int j) H Q := ⟨i, j, rfl, rfl, k⟩
theorem r_U {g : Int → V} {i : Int} (k : Q (g i) H) : rU g (.int i) H Q := ⟨i, rfl, k⟩
theorem r_addI {i j : Int} (k : Q (.int (i + j)) H) : rAddA K (.int i) (.int j) H Q := .inl ⟨i, j, rfl, rfl, k⟩
theorem r_addS {i j : Str} (h : i.length + j.length ≤ sizeLine) (k : Q (.str (i ++ j)) H) : rAddA K (.str i) (.str j) H Q := .inr (.inl ⟨i, j, rfl, rfl, h, k⟩)
theorem r_addL {a b : Addr} {xs ys : List V} (ha : H a = some (.lst xs)) (hb : H b = some (.lst ys)) (hz : xs.length + ys.length ≤ sizeLine)
    (k : ∀ p H', Sm H H' → H p = none → H' p = some (.lst (xs ++ ys)) → Q (.ref p) H') : rAddA K (.ref a) (.ref b) H Q :=
  .inr (.inr (.inl ⟨a, b, xs, ys, rfl, rfl, ha, hb, hz, fun p np => k p _ (sm_upd np) np upd_same⟩))
theorem r_addT {a b : Addr} {xs ys : List V} (ha : SqT K H a xs) (hb : SqT K H b ys) (hz : xs.length + ys.length ≤ sizeLine)
    (k : ∀ p H', Sm H H' → SqT K H' p (xs ++ ys) → Q (.ref p) H') : rAddA K (.ref a) (.ref b) H Q :=
  .inr (.inr (.inr ⟨a, b, xs, ys, rfl, rfl, ha, hb, hz, fun e => k b H (Sm.refl H) (by rw [e, List.nil_append]; exact hb), fun _ e => k a H (Sm.refl H) (by rw [e, List.append_nil]; exact ha), fun _ _ p np => k p _ (sm_upd np) (SqT.of upd_same)⟩))
theorem r_mulS {i j : Int} (c : CMul i j) (k : Q (.int (i * j)) H) : rMulA K (.int i) (.int j) H Q := .inl ⟨i, j, rfl, rfl, c, k⟩
theorem r_mulW {i j : Int} (c : CMulW i j) (k : Q (.int (i * j)) H) : rMulA K (.int i) (.int j) H Q := .inr (.inl ⟨i, j, rfl, rfl, c, k⟩)
theorem r_mulStr {z : Str} {n : Nat} {i : Int} (e : i = (n : Int)) (hz : z.length * n ≤ 16777216) (hn : n ≤ 16777216) (k : Q (.str ⟨((List.replicate n z.cps.toList).flatten).toArray⟩) H) : rMulA K (.str z) (.int i) H Q := .inr (.inr (.inl ⟨z, n, rfl, by rw [e], hz, hn, k⟩))
theorem r_mulL {a : Addr} {i : Int} {xs : List V} (ha : H a = some (.lst xs)) (h0 : -(2 ^ 63) ≤ i) (h1 : i < 2 ^ 63) (hz : xs.length * i.toNat ≤ sizeLine)
    (k : ∀ p H', Sm H H' → H p = none → H' p = some (.lst (List.replicate i.toNat xs).flatten) → Q (.ref p) H') : rMulA K (.ref a) (.int i) H Q :=
  .inr (.inr (.inr (.inl ⟨a, i, xs, rfl, rfl, ha, h0, h1, hz, fun p np => k p _ (sm_upd np) np upd_same⟩)))
theorem dec_VI {i j : Int} : decide (V.int i = V.int j) = decide (i = j) := by
  by_cases e : i = j
  · subst e
    simp
  · rw [decide_eq_false e, decide_eq_false fun z => e (V.int.inj z)]
theorem dec_VS {i j : Str} : decide (V.str i = V.str j) = decide (i = j) := by
  by_cases e : i = j
  · subst e
    simp
  · rw [decide_eq_false e, decide_eq_false fun z => e (V.str.inj z)]
theorem dec_VB {i j : Bool} : decide (V.bl i = V.bl j) = decide (i = j) := by
  by_cases e : i = j
  · subst e
    simp
  · rw [decide_eq_false e, decide_eq_false fun z => e (V.bl.inj z)]
theorem r_eqI {i j : Int} (k : Q (.bl (decide (i = j))) H) : rEqA K (.int i) (.int j) H Q := .inl ⟨rfl, by rw [dec_VI]; exact k⟩
theorem r_eqS {i j : Str} (k : Q (.bl (decide (i = j))) H) : rEqA K (.str i) (.str j) H Q := .inl ⟨rfl, by rw [dec_VS]; exact k⟩
theorem r_eqB {i j : Bool} (k : Q (.bl (decide (i = j))) H) : rEqA K (.bl i) (.bl j) H Q := .inl ⟨rfl, by rw [dec_VB]; exact k⟩
theorem r_neI {i j : Int} (k : Q (.bl (!decide (i = j))) H) : rNeA K (.int i) (.int j) H Q := .inl ⟨rfl, by rw [dec_VI]; exact k⟩
theorem r_neS {i j : Str} (k : Q (.bl (!decide (i = j))) H) : rNeA K (.str i) (.str j) H Q := .inl ⟨rfl, by rw [dec_VS]; exact k⟩
theorem r_neB {i j : Bool} (k : Q (.bl (!decide (i = j))) H) : rNeA K (.bl i) (.bl j) H Q := .inl ⟨rfl, by rw [dec_VB]; exact k⟩
theorem r_eqD {x y : V} {d e : PyData} (hx : Dp K H x d) (hy : Dp K H y e) (sx : SeqAt.shaped d = true) (sy : SeqAt.shaped e = true) (k : Q (.bl (PyData.eqv d e)) H) : rEqA K x y H Q := .inr ⟨d, e, hx, hy, sx, sy, k⟩
theorem r_neD {x y : V} {d e : PyData} (hx : Dp K H x d) (hy : Dp K H y e) (sx : SeqAt.shaped d = true) (sy : SeqAt.shaped e = true) (k : Q (.bl (!PyData.eqv d e)) H) : rNeA K x y H Q := .inr ⟨d, e, hx, hy, sx, sy, k⟩
theorem r_inS {c : Nat} {z : Str} (k : Q (.bl (decide (c ∈ z.cps.toList))) H) : rInA K (.str ⟨#[c]⟩) (.str z) H Q := .inl ⟨c, z, rfl, rfl, k⟩
theorem r_notInS {c : Nat} {z : Str} (k : Q (.bl (!decide (c ∈ z.cps.toList))) H) : rNotInA K (.str ⟨#[c]⟩) (.str z) H Q := .inl ⟨c, z, rfl, rfl, k⟩
theorem r_test {t : TE} {Q : Bool → Hp → Prop} (h : t σ H fun x H' => ∃ k, x = .bl k ∧ Q k H') : tTest t σ H Q := h
theorem r_tB {t : TE} {Q : Bool → Hp → Prop} (h : t σ H fun x H' => ∃ k, x = .bl k ∧ Q k H') : tB t σ H Q := h
theorem r_bl {b : Bool} {Q : Bool → Prop} (h : Q b) : ∃ k, V.bl b = .bl k ∧ Q k := ⟨b, rfl, h⟩
theorem r_tru_bl {b : Bool} {Q : Bool → Prop} (h : Q b) : ∃ k, TruV K (.bl b) H k ∧ Q k := ⟨b, rfl, h⟩
theorem r_tru_int {i : Int} {Q : Bool → Prop} (h : Q (i != 0)) : ∃ k, TruV K (.int i) H k ∧ Q k := ⟨_, rfl, h⟩
theorem r_and {t u : TT} {Q : Bool → Hp → Prop} (h : t σ H fun c H1 => if c = true then u σ H1 Q else Q false H1) : tAnd t u σ H Q := h
theorem r_or {t u : TT} {Q : Bool → Hp → Prop} (h : t σ H fun c H1 => if c = true then Q true H1 else u σ H1 Q) : tOr t u σ H Q := h
theorem r_not {t : TT} {Q : Bool → Hp → Prop} (h : t σ H fun c H1 => Q (!c) H1) : tNot t σ H Q := h
theorem r_notT {ta : TE} (h : ta σ H fun x H1 => ∃ k, TruV K x H1 k ∧ Q (.bl (!k)) H1) : tNotT K ta σ H Q := h
theorem r_orT {ta tb : TE} (h : ta σ H fun x H1 => ∃ k, TruV K x H1 k ∧ if k = true then Q x H1 else tb σ H1 Q) : tOrT K ta tb σ H Q := h
theorem r_andT {ta tb : TE} (h : ta σ H fun x H1 => ∃ k, TruV K x H1 k ∧ if k = true then tb σ H1 Q else Q x H1) : tAndT K ta tb σ H Q := h
theorem r_ifE {t : TT} {ta tb : TE} (h : t σ H fun c H1 => if c = true then ta σ H1 Q else tb σ H1 Q) : tIf t ta tb σ H Q := h
theorem r_nil {Q : List V → Hp → Prop} (k : Q [] H) : tNil σ H Q := k
theorem r_cons {ta : TE} {tr : TA} {Q : List V → Hp → Prop} (h : ta σ H fun x H1 => tr σ H1 fun xs H2 => Q (x :: xs) H2) : tCons ta tr σ H Q := h
theorem r_tup {t : TA} (h : t σ H fun xs H1 => xs.length ≤ sizeLine ∧ ∀ p, H1 p = none → Q (.ref p) (upd H1 p (.tup xs))) : tTup t σ H Q := h
theorem r_lst {t : TA} (h : t σ H fun xs H1 => xs.length ≤ sizeLine ∧ ∀ p, H1 p = none → Q (.ref p) (upd H1 p (.lst xs))) : tLst t σ H Q := h
theorem sz_le {n : Nat} (h : n ≤ 1000 := by decide) : n ≤ sizeLine := Nat.le_of_lt (small1000 h)
theorem r_call {sp : Sp} {E : XK} {t : TA} (h : t σ H fun vs H1 => sp vs H1 Q E) : tCall sp [] E t σ H Q := by
  unfold tCall
  have e : (fun (vs : List V) (H1 : Hp) => sp (vs ++ []) H1 Q E) = fun vs H1 => sp vs H1 Q E := by
    funext vs H1
    rw [List.append_nil]
  rw [e]
  exact h
theorem r_callK {sp : Sp} {E : XK} {t tk : TA} {gV : List V → List V → List V} (h : t σ H fun vs H1 => tk σ H1 fun zs H2 => sp (gV vs zs) H2 Q E) : tCallK sp gV E t tk σ H Q := h
theorem r_CB {r : List V → Hp → VK → Prop} {t : TA} (h : t σ H fun vs H1 => r vs H1 Q) : tCB r t σ H Q := h
/-! calls of built-ins -/
theorem r_lenS {z : Str} (h : z.length ≤ sizeLine) (k : Q (.int z.length) H) : rLenA K [.str z] H Q := .inl ⟨_, _, rfl, ⟨h, rfl⟩, k⟩
theorem r_lenL {a : Addr} {xs : List V} (h : SqL K H a xs) (k : Q (.int xs.length) H) : rLenA K [.ref a] H Q := .inl ⟨_, _, rfl, .inl ⟨xs, h, rfl⟩, k⟩
theorem r_lenT {a : Addr} {xs : List V} (h : SqT K H a xs) (k : Q (.int xs.length) H) : rLenA K [.ref a] H Q := .inl ⟨_, _, rfl, .inr ⟨xs, h, rfl⟩, k⟩
theorem r_max {i j : Int} (k : Q (.int (if j > i then j else i)) H) : rMaxA K [.int i, .int j] H Q := .inl ⟨i, j, rfl, k⟩
theorem r_min {i j : Int} (k : Q (.int (if j < i then j else i)) H) : rMinA K [.int i, .int j] H Q := .inl ⟨i, j, rfl, k⟩
theorem r_isi {x c : V} {t u : Value} {b : Bool} (hc : ClsV c u) (ht : TyX K H x t) (e : PySem.W.kitOne K t u = some b) (k : Q (.bl b) H) : rIsi K [x, c] H Q := ⟨x, c, t, u, b, rfl, hc, ht, e, k⟩
theorem r_isi_int {i : Int} {n : String} {b : Bool} (e : kitB "int" n = some b) (k : Q (.bl b) H) : rIsi K [.int i, .ty n] H Q := r_isi (.ty n) (.base (.int i)) (kit_ty e) k
theorem r_isi_bl {i : Bool} {n : String} {b : Bool} (e : kitB "bool" n = some b) (k : Q (.bl b) H) : rIsi K [.bl i, .ty n] H Q := r_isi (.ty n) (.base (.bl i)) (kit_ty e) k
theorem r_isi_str {i : Str} {n : String} {b : Bool} (e : kitB "str" n = some b) (k : Q (.bl b) H) : rIsi K [.str i, .ty n] H Q := r_isi (.ty n) (.base (.str i)) (kit_ty e) k
/-! items and slices -/
theorem r_ixL {a : Addr} {xs : List V} {i : Int} {v : V} (h : SqL K H a xs) (e : atI xs i = some v) (k : Q v H) : rIx K (.ref a) (.int i) H Q := .inl ⟨a, xs, i, v, rfl, rfl, h, e, k⟩
theorem r_ixT {a : Addr} {xs : List V} {i : Int} {v : V} (h : SqT K H a xs) (e : atI xs i = some v) (k : Q v H) : rIx K (.ref a) (.int i) H Q := .inr (.inl ⟨a, xs, i, v, rfl, rfl, h, e, k⟩)
theorem r_ixS {z : Str} {i : Int} {c : Nat} (h : z.length ≤ sizeLine) (e : atI z.cps.toList i = some c) (k : Q (.str ⟨#[c]⟩) H) : rIx K (.str z) (.int i) H Q := .inr (.inr ⟨z, i, c, rfl, rfl, h, e, k⟩)
theorem r_setL {a : Addr} {xs : List V} {i : Int} {j : Nat} {v : V} {Q : Hp → Prop} (h : H a = some (.lst xs)) (e : ixN xs.length i = some j) (k : Q (upd H a (.lst (xs.set j v)))) : rSetL (.ref a) (.int i) v H Q := ⟨a, xs, i, j, rfl, rfl, h, e, k⟩
theorem r_sl {r : V → Option Int → Option Int → Hp → VK → Prop} {te : TE} {tl th : TO} (h : te σ H fun x H1 => tl σ H1 fun l H2 => th σ H2 fun u H3 => r x l u H3 Q) : tSl r te tl th σ H Q := h
theorem r_noPart {Q : Option Int → Hp → Prop} (h : Q none H) : tNoPart σ H Q := h
theorem r_part {t : TE} {Q : Option Int → Hp → Prop} (h : t σ H fun x H1 => ∃ i, x = .int i ∧ Q (some i) H1) : tPart t σ H Q := h
theorem r_exI {i : Int} {Q : Int → Prop} (h : Q i) : ∃ j, V.int i = .int j ∧ Q j := ⟨i, rfl, h⟩
theorem r_slS {z : Str} {lo hi : Option Int} (h : z.length ≤ sizeLine) (k : Q (.str (cutS z lo hi)) H) : rSlAny K (.str z) lo hi H Q := .inl ⟨z, rfl, h, k⟩
theorem r_slL {a : Addr} {xs : List V} {lo hi : Option Int} (h : SqL K H a xs) (k : ∀ p, H p = none → Q (.ref p) (upd H p (.lst (cutV xs lo hi)))) : rSlAny K (.ref a) lo hi H Q := .inr (.inl ⟨a, xs, rfl, h, k⟩)
theorem cutV_whole {xs : List V} {lo hi : Option Int} (h : HT.sIx xs.length 0 lo = 0 ∧ HT.sIx xs.length xs.length hi = xs.length) : cutV xs lo hi = xs := by
  unfold cutV
  rw [h.1, h.2]
  simp
theorem r_slT {a : Addr} {xs : List V} {lo hi : Option Int} (h : SqT K H a xs) (k : ∀ p H', Sm H H' → SqT K H' p (cutV xs lo hi) → Q (.ref p) H') : rSlAny K (.ref a) lo hi H Q :=
  .inr (.inr ⟨a, xs, rfl, h, fun e => k a H (Sm.refl H) (by rw [cutV_whole e]; exact h), fun _ p np => k p _ (sm_upd np) (SqT.of upd_same)⟩)
/-! statements -/
theorem r_seq {t u : TS} (h : t { D with nx := u D } σ H) : tSeq t u D σ H := h
theorem r_nx {n b c : St → Hp → Prop} {r : VK} (h : n σ H) : Ends.nx ⟨n, r, b, c⟩ σ H := h
theorem r_rt {n b c : St → Hp → Prop} {r : VK} {v : V} (h : r v H) : Ends.rt ⟨n, r, b, c⟩ v H := h
theorem r_next (h : D.nx σ H) : tNext D σ H := h
theorem r_asg {te : TE} {g : TG} (h : te σ H fun x H1 => g x σ H1 D.nx) : tAsg te g D σ H := h
theorem r_gN {i : Nat} {v : V} {Q : St → Hp → Prop} (h : Q (σ.set i (some v)) H) : gName i v σ H Q := h
theorem r_gT {n : Nat} {t : TGs} {a : Addr} {xs : List V} {Q : St → Hp → Prop} (hT : SqT K H a xs) (hn : xs.length = n) (h : t xs σ H Q) : gTup K n t (.ref a) σ H Q := ⟨a, xs, rfl, hT, hn, h⟩
theorem r_gC {t : TG} {u : TGs} {v : V} {r : List V} {Q : St → Hp → Prop} (h : t v σ H fun σ' H' => u r σ' H' Q) : gCons t u (v :: r) σ H Q := ⟨v, r, rfl, h⟩
theorem r_g0 {Q : St → Hp → Prop} (h : Q σ H) : gNil [] σ H Q := ⟨rfl, h⟩
theorem r_gS {to ti : TE} {t : TSet} {v : V} {Q : St → Hp → Prop} (h : to σ H fun o H1 => ti σ H1 fun i H2 => t o i v H2 fun H3 => Q σ H3) : gSub to ti t v σ H Q := h
theorem r_par {i j : Nat} {ta : TA} (h : ta σ H fun vs H1 => ∃ v w, vs = [v, w] ∧ D.nx ((σ.set i (some v)).set j (some w)) H1) : tPar i j ta D σ H := h
theorem r_vw {v w : V} {Q : V → V → Prop} (h : Q v w) : ∃ v' w', [v, w] = [v', w'] ∧ Q v' w' := ⟨v, w, rfl, h⟩
theorem r_aug {i : Nat} {te : TE} {ti : TIp} {x : V} (e : σ[i]? = some (some x)) (h : te σ H fun y H1 => ti x y H1 fun z H2 => D.nx (σ.set i (some z)) H2) : tAug i te ti D σ H := ⟨x, e, h⟩
theorem r_ip {f : Int → Int → Int} {i j : Int} (k : Q (.int (f i j)) H) : ipI f (.int i) (.int j) H Q := ⟨i, j, rfl, rfl, k⟩
theorem r_ret {te : TE} (h : te σ H D.rt) : tRet te D σ H := h
theorem r_retN (h : D.rt .non H) : tRetN D σ H := h
theorem r_drop {te : TE} (h : te σ H fun _ H1 => D.nx σ H1) : tDrop te D σ H := h
theorem r_if {c : TT} {t u : TS} (h : c σ H fun b H1 => if b = true then t D σ H1 else u D σ H1) : tIfS c t u D σ H := h
theorem ite_d {p A B : Prop} [Decidable p] (h1 : p → A) (h2 : ¬ p → B) : if decide p = true then A else B := by
  by_cases h : p
  · rw [if_pos (decide_eq_true h)]
    exact h1 h
  · rw [if_neg (by rw [decide_eq_false h]; exact Bool.false_ne_true)]
    exact h2 h
theorem ite_n {p A B : Prop} [Decidable p] (h1 : ¬ p → A) (h2 : p → B) : if (!decide p) = true then A else B := by
  by_cases h : p
  · rw [if_neg (by rw [decide_eq_true h]; exact Bool.false_ne_true)]
    exact h2 h
  · rw [if_pos (by rw [decide_eq_false h]; rfl)]
    exact h1 h
theorem ite_y {b : Bool} {A B : Prop} (e : b = true) (h : A) : if b = true then A else B := by
  rw [if_pos e]
  exact h
theorem ite_o {b : Bool} {A B : Prop} (e : b = false) (h : B) : if b = true then A else B := by
  rw [if_neg (by rw [e]; exact Bool.false_ne_true)]
  exact h
/-! lists' methods -/
theorem r_bm {T : String} {r : V → List V → Hp → VK → Prop} {to : TE} {t : TA} (h : to σ H fun x H1 => tyV K T x H1 ∧ t σ H1 fun xs H2 => r x xs H2 Q) : tBM K T r to t σ H Q := h
theorem r_bmL {a : Addr} {xs : List V} {P : Prop} (h : SqL K H a xs) (k : P) : tyV K "list" (.ref a) H ∧ P := ⟨Or.inl ⟨rfl, _, h⟩, k⟩
theorem r_app {a : Addr} {xs : List V} {y : V} (h : H a = some (.lst xs)) (z : xs.length < sizeLine) (k : Q .non (upd H a (.lst (xs ++ [y])))) : rAppend (.ref a) [y] H Q := ⟨a, xs, y, rfl, rfl, h, z, k⟩
/-! indexes -/
theorem atI_of {α : Type} {xs : List α} {i : Int} (h0 : 0 ≤ i) (h1 : i < (xs.length : Int)) : ∃ v, atI xs i = some v ∧ xs[i.toNat]? = some v := by
  obtain ⟨n, rfl⟩ := Int.eq_ofNat_of_zero_le h0
  have h2 : n < xs.length := by omega
  refine ⟨xs[n], ?_, ?_⟩
  · exact atI_nat (List.getElem?_eq_getElem h2)
  · show xs[n]? = some xs[n]
    exact List.getElem?_eq_getElem h2
theorem atI_mem {α : Type} {xs : List α} {i : Int} (h0 : 0 ≤ i) (h1 : i < (xs.length : Int)) : ∃ v, atI xs i = some v ∧ v ∈ xs := by
  obtain ⟨v, e, q⟩ := atI_of h0 h1
  exact ⟨v, e, List.mem_of_getElem? q⟩
/-! // and % -/
theorem cdiv_of {i j : Int} {n : Nat} (h : 0 < j) (hb : j < 2 ^ n) (h0 : 0 < n) (h9 : n ≤ 9000) : CDivW i j := wide_div h (by
  have e : ((2 ^ n : Nat) : Int) = (2 : Int) ^ n := by rw [Int.natCast_pow]; rfl
  omega) h0 h9
theorem cdiv_s {i j : Int} (h : 0 < j) (hb : j < 18446744073709551616) : CDivW i j := cdiv_of (n := 64) h (by simpa using hb) (by decide) (by decide)
theorem cmul_r {i j : Int} (h : -18446744073709551616 < j ∧ j < 18446744073709551616) : CMul i j := .inr (by simpa using h)
theorem cmul_l {i j : Int} (h : -18446744073709551616 < i ∧ i < 18446744073709551616) : CMul i j := .inl (by simpa using h)
end

/-! arguments by names -/
def kgen (n m : Nat) (idx : List Nat) {α : Type} (us ws : List α) : List α := if us.length = n ∧ ws.length = m then idx.filterMap fun i => (us ++ ws)[i]? else []
theorem vals_pick {vs : List V} {us : List Value} (r : Vals vs us) : ∀ idx : List Nat, Vals (idx.filterMap fun i => vs[i]?) (idx.filterMap fun i => us[i]?)
  | [] => .nil
  | i :: idx => by
    rw [List.filterMap_cons, List.filterMap_cons]
    cases e : vs[i]? with
    | none =>
      rw [r.none_of e]
      exact vals_pick r idx
    | some v =>
      obtain ⟨u, h1, h2⟩ := r.get e
      rw [h1]
      exact .cons h2 (vals_pick r idx)
theorem kb_gen {K : PySem.W.Frag} {fd : FuncData} {ps ks : List Str} {n m : Nat} {idx : List Nat} (hp : ps.length ≠ 0)
    (h : ∀ us ws : List Value, us.length = n → ws.length = m → bindArgs fd ⟨us, ks.zip ws⟩ = pure (ps.zip (kgen n m idx us ws))) : KBinds K fd ps ks (kgen n m idx) (kgen n m idx) := by
  refine ⟨fun s us ws _ hl => ?_, fun {vs us zs ws} r rz => ?_⟩
  · by_cases c : us.length = n ∧ ws.length = m
    · exact .of_eq (h us ws c.1 c.2)
    · unfold kgen at hl
      rw [if_neg c] at hl
      exact absurd hl.symm hp
  · unfold kgen
    rw [r.length, rz.length]
    by_cases c : us.length = n ∧ ws.length = m
    · rw [if_pos c, if_pos c]
      exact vals_pick (r.append rz) idx
    · rw [if_neg c, if_neg c]
      exact .nil
section
variable {X : Cx} {CX : CXT} {k : Nat} {f : Addr} {fd : FuncData} {ps ks : List Str} {sp : Sp} {E : XK} {x : Str} {p pos : Pos} {kws : List Keyword} {tk : TA} {g : List Value → List Value → List Value} {gV : List V → List V → List V}
theorem pe_callK0 (F : FnOk X.prog X.w X.K X.mg X.base CX k f fd ps sp) (hr : Room k X.A) (hg : Gl X x) (hm : X.mg x = some (.ref f)) (hk : PySem.W.keepIn X.K (.ref f) = true) (hb : KBinds X.K fd ps ks g gV) (hx : Passes CX X E)
    (hkw : PK X kws tk) (hall : (backToKw pos (keywordEach kws X.env)).all (·.1.isSome) = true := by rfl) (hks : (backToKw pos (keywordEach kws X.env)).filterMap (·.1) = ks := by rfl)
    (hdb : (x == ("__debug__" : Str)) = false := by decide)
    (hpl : ((backTo pos (starEach [] X.env)).any (·.1) || (backToKw pos (keywordEach kws X.env)).any (·.1.isNone)) = false := by rfl) :
    PE X (.Call (.Name x p) [] kws pos) (tCallK sp gV E tNil tk) := by
  refine ⟨fun pins s σ H Q I h => ?_⟩
  refine wpAny_Call_Name_kw (ld_glob I hg hm ?_ hdb)
  refine PySem.W.callWith_KW0 (h₀ := X.base) I.ok.mod.kin hk hall ?_ hpl
  refine thn (hkw.run pos pins s σ H _ I h) fun ws s2 ⟨zs, H2, I2, rz, q2⟩ => ⟨I2.kIn, ?_⟩
  rw [hks]
  exact run_fnk (us := []) (vs := []) F hr hb hx I2 .nil rz q2
end
/-! built-in classes as calls, named -/
section
variable {σ : St} {H : Hp} {Q : VK} {D : Ends} {K : PySem.W.Frag} {X : Cx}
def rIntA : List V → Hp → VK → Prop := fun xs H Q => ((∃ i, xs = [.int i] ∧ Q (.int i) H) ∨ ∃ k, xs = [.bl k] ∧ Q (.int (if k then 1 else 0)) H) ∨ (∃ a n, xs = [.str a] ∧ PySem.intText? a = some n ∧ a.length ≤ 640 ∧ Q (.int n) H)
theorem cl_int : CallR X (.type "int") rIntA := call_intA
theorem r_intI {i : Int} (k : Q (.int i) H) : rIntA [.int i] H Q := .inl (.inl ⟨i, rfl, k⟩)
theorem r_intB {i : Bool} (k : Q (.int (if i then 1 else 0)) H) : rIntA [.bl i] H Q := .inl (.inr ⟨i, rfl, k⟩)
theorem r_intS {a : Str} {n : Int} (e : PySem.intText? a = some n) (l : a.length ≤ 640) (k : Q (.int n) H) : rIntA [.str a] H Q := .inr ⟨a, n, rfl, e, l, k⟩
def rStrA : List V → Hp → VK → Prop := fun xs H Q => (∃ i, xs = [.int i] ∧ i.natAbs.log2 < 1920 ∧ Q (.str (toString i)) H) ∨ (∃ a, xs = [.str a] ∧ Q (.str a) H)
theorem cl_str : CallR X (.type "str") rStrA := call_strA
theorem r_strI {i : Int} (l : i.natAbs.log2 < 1920) (k : Q (.str (toString i)) H) : rStrA [.int i] H Q := .inl ⟨i, rfl, l, k⟩
theorem r_strS {i : Str} (k : Q (.str i) H) : rStrA [.str i] H Q := .inr ⟨i, rfl, k⟩
def rListA (K : PySem.W.Frag) : List V → Hp → VK → Prop := fun xs H Q => ∃ p ys, xs = [.ref p] ∧ (SqL K H p ys ∨ SqT K H p ys) ∧ ∀ l, H l = none → Q (.ref l) (upd H l (.lst ys))
theorem cl_list : CallR X (.type "list") (rListA X.K) := call_listA
theorem r_listL {a : Addr} {ys : List V} (h : SqL K H a ys) (k : ∀ l, H l = none → Q (.ref l) (upd H l (.lst ys))) : rListA K [.ref a] H Q := ⟨a, ys, rfl, .inl h, k⟩
theorem r_listT {a : Addr} {ys : List V} (h : SqT K H a ys) (k : ∀ l, H l = none → Q (.ref l) (upd H l (.lst ys))) : rListA K [.ref a] H Q := ⟨a, ys, rfl, .inr h, k⟩
def rTupleA (K : PySem.W.Frag) : List V → Hp → VK → Prop := fun xs H Q => ∃ p ys, xs = [.ref p] ∧ ((SqL K H p ys ∧ ∀ l, H l = none → Q (.ref l) (upd H l (.tup ys))) ∨ (SqT K H p ys ∧ Q (.ref p) H))
theorem cl_tuple : CallR X (.type "tuple") (rTupleA X.K) := call_tupleA
theorem r_tupleL {a : Addr} {ys : List V} (h : SqL K H a ys) (k : ∀ l, H l = none → Q (.ref l) (upd H l (.tup ys))) : rTupleA K [.ref a] H Q := ⟨a, ys, rfl, .inl ⟨h, k⟩⟩
theorem r_tupleT {a : Addr} {ys : List V} (h : SqT K H a ys) (k : Q (.ref a) H) : rTupleA K [.ref a] H Q := ⟨a, ys, rfl, .inr ⟨h, k⟩⟩
/-! joins, all, any -/
def rJoin (K : PySem.W.Frag) : V → List V → Hp → VK → Prop := fun x xs H Q => ∃ a p, ∃ ys : List Str, x = .str a ∧ xs = [.ref p] ∧ (SqL K H p (ys.map V.str) ∨ SqT K H p (ys.map V.str)) ∧ (ys.map (·.length)).sum + ys.length * a.length ≤ 16777216 ∧ Q (.str (Txt.join a ys)) H
theorem mj_join : MtR X "str.join" (rJoin X.K) := mt_join
theorem r_join {a : Str} {p : Addr} {ys : List Str} (h : SqL K H p (ys.map V.str)) (z : (ys.map (·.length)).sum + ys.length * a.length ≤ 16777216) (k : Q (.str (Txt.join a ys)) H) : rJoin K (.str a) [.ref p] H Q := ⟨a, p, ys, rfl, rfl, .inl h, z, k⟩
theorem r_bmS {a : Str} {P : Prop} (k : P) : tyV K "str" (.str a) H ∧ P := ⟨rfl, k⟩
theorem r_all {a : Addr} {bs : List Bool} (h : SqL K H a (bs.map V.bl)) (k : Q (.bl (bs.all id)) H) : rAll K [.ref a] H Q := ⟨a, bs, rfl, h, k⟩
/-! loops -/
theorem r_for {wi : TI} {g : TG} {tb : TS} (h : wi σ H fun J H1 => ∃ W : Nat → Nat → St → Hp → Prop, (∃ m, W 0 m σ H1) ∧ ∀ i m σ H, W i m σ H →
  (J.stop i H ∧ D.nx σ H) ∨ (J.go i H ∧ ∃ N : St → Hp → Prop, (∀ σ' H', N σ' H' → ∃ m', m' < m ∧ W (i + 1) m' σ' H') ∧ ∀ x H', J.yld i H x H' → g x σ H' fun σ2 H2 => tb { D with nx := N, ct := N, bk := D.nx } σ2 H2)) : tFor wi g tb D σ H := h
theorem r_lc {wi : TI} {g : TG} {tt : TT} {te : TE} {vs : List Nat} (h : wi σ H fun J H1 => ∀ D, H1 D = none → ∃ W : Nat → Nat → Hp → Prop, (∃ m, W 0 m (upd H1 D (.lst []))) ∧ ∀ i m H, W i m H →
  (J.stop i H ∧ Q (.ref D) H) ∨ (J.go i H ∧ ∃ Nx : Hp → Prop, (∀ H', Nx H' → ∃ m', m' < m ∧ W (i + 1) m' H') ∧ ∀ x H', J.yld i H x H' → g x (wipe σ vs) H' fun σ2 H2 => wipe σ2 vs = wipe σ vs ∧ tt σ2 H2 fun b H3 =>
    if b = true then te σ2 H3 fun y H4 => ∃ acc, H4 D = some (.lst acc) ∧ acc.length < sizeLine ∧ Nx (upd H4 D (.lst (acc ++ [y]))) else Nx H3)) : tLc wi g tt te vs σ H Q := h
theorem r_R1 {ta : TA} {R : It → Hp → Prop} (h : ta σ H fun vs H1 => ∃ j : Int, vs = [.int j] ∧ -(2 ^ 62) ≤ j ∧ j < 2 ^ 62 ∧ R (Itr 0 j.toNat) H1) : iRng1 ta σ H R := h
theorem r_rng {n : Int} {P : Int → Prop} (h0 : -4611686018427387904 ≤ n) (h1 : n < 4611686018427387904) (h : P n) : ∃ j : Int, [V.int n] = [.int j] ∧ -(2 ^ 62) ≤ j ∧ j < 2 ^ 62 ∧ P j := ⟨n, rfl, by simpa using h0, by simpa using h1, h⟩
theorem r_iL {tl : TE} {R : It → Hp → Prop} (h : tl σ H fun x H1 => ∃ a, x = .ref a ∧ (∃ xs, SqL K H1 a xs) ∧ R (Itl K a) H1) : iAny K tl σ H R := .inl h
theorem r_iT {tl : TE} {R : It → Hp → Prop} (h : tl σ H fun x H1 => ∃ a, x = .ref a ∧ (∃ xs, SqT K H1 a xs) ∧ R (Itt K a) H1) : iAny K tl σ H R := .inr (.inl h)
theorem r_iS {tl : TE} {R : It → Hp → Prop} (h : tl σ H fun v H1 => ∃ x, v = .str x ∧ R (Its x) H1) : iAny K tl σ H R := .inr (.inr h)
theorem r_aL {a : Addr} {xs : List V} {P : Addr → Prop} (h : SqL K H a xs) (k : P a) : ∃ b, V.ref a = .ref b ∧ (∃ xs, SqL K H b xs) ∧ P b := ⟨a, rfl, ⟨xs, h⟩, k⟩
theorem r_aT {a : Addr} {xs : List V} {P : Addr → Prop} (h : SqT K H a xs) (k : P a) : ∃ b, V.ref a = .ref b ∧ (∃ xs, SqT K H b xs) ∧ P b := ⟨a, rfl, ⟨xs, h⟩, k⟩
theorem r_aS {z : Str} {P : Str → Prop} (k : P z) : ∃ x, V.str z = .str x ∧ P x := ⟨z, rfl, k⟩
theorem r_yes {Q : Bool → Hp → Prop} (h : Q true H) : tYes σ H Q := h
theorem r_wipe {σ' : St} {vs : List Nat} {P : Prop} (e : wipe σ' vs = wipe σ vs) (h : P) : wipe σ' vs = wipe σ vs ∧ P := ⟨e, h⟩
theorem r_acc {D : Addr} {acc : List V} {P : List V → Prop} (h : H D = some (.lst acc)) (z : acc.length < sizeLine) (k : P acc) : ∃ acc, H D = some (.lst acc) ∧ acc.length < sizeLine ∧ P acc := ⟨acc, h, z, k⟩
end

/-! what a loop or a comprehension appends to stands apart -/
theorem chg_acc {b D : Addr} {H1 H4 : Hp} {o : HO} (c : Chg b H1 H4) (n : H1 D = none) : Chg b H1 (upd H4 D o) := ⟨fun a x na e => by
  rw [upd_ne (ne_of_none e n)]
  exact c.to a x na e⟩
theorem sm_acc {D : Addr} {H1 H4 : Hp} {o : HO} (c : Sm H1 H4) (n : H1 D = none) : Sm H1 (upd H4 D o) := ⟨fun a x e => by
  rw [upd_ne (ne_of_none e n)]
  exact c.to a x e⟩
theorem sm_chg {b : Addr} {H H1 H2 : Hp} (a : Sm H H1) (c : Chg b H1 H2) : Chg b H H2 := a.chg.trans c
theorem chg_sm {b : Addr} {H H1 H2 : Hp} (a : Chg b H H1) (c : Sm H1 H2) : Chg b H H2 := a.trans c.chg
/-! texts -/
theorem str_len (z : Str) : z.length = z.cps.toList.length := (Array.length_toList).symm
theorem str_get {z : Str} {i c : Nat} (h : z.cps[i]? = some c) : z.cps.toList[i]? = some c := by
  rw [Array.getElem?_toList]
  exact h
theorem strs_sum : ∀ (ys : List Str) (n : Nat), (∀ y ∈ ys, y.length ≤ n) → (ys.map (·.length)).sum ≤ n * ys.length
  | [], n, _ => by simp
  | y :: ys, n, h => by
    have h1 := h y (by simp)
    have h2 := strs_sum ys n fun z hz => h z (by simp [hz])
    rw [List.map_cons, List.sum_cons, List.length_cons, Nat.mul_succ]
    omega
theorem ne_fr {H : Hp} {a b : Addr} {o : HO} (n : H b = none) (h : H a = some o) : a ≠ b := ne_of_none h n
theorem fr_of {H H' : Hp} {l : Addr} (n : H' l = none) (e : Sm H H') : H l = none := e.free n
theorem ix2 {b : Bool} {x y : Int} : atI [V.int x, V.int y] (if b = true then 1 else 0) = some (V.int (if b = true then y else x)) := by
  cases b <;> rfl
section
variable {H : Hp} {Q : VK} {K : PySem.W.Frag} {a : Addr} {x0 x1 x2 x3 v : V} {xs : List V}
theorem r_ixL0 (h : SqL K H a (x0 :: xs)) (k : Q x0 H) : rIx K (.ref a) (.int 0) H Q := r_ixL h (atI_nat (j := 0) rfl) k
theorem r_ixL1 (h : SqL K H a (x0 :: x1 :: xs)) (k : Q x1 H) : rIx K (.ref a) (.int 1) H Q := r_ixL h (atI_nat (j := 1) rfl) k
theorem r_ixL2 (h : SqL K H a (x0 :: x1 :: x2 :: xs)) (k : Q x2 H) : rIx K (.ref a) (.int 2) H Q := r_ixL h (atI_nat (j := 2) rfl) k
theorem r_ixT0 (h : SqT K H a (x0 :: xs)) (k : Q x0 H) : rIx K (.ref a) (.int 0) H Q := r_ixT h (atI_nat (j := 0) rfl) k
theorem r_ixT1 (h : SqT K H a (x0 :: x1 :: xs)) (k : Q x1 H) : rIx K (.ref a) (.int 1) H Q := r_ixT h (atI_nat (j := 1) rfl) k
theorem r_ixT2 (h : SqT K H a (x0 :: x1 :: x2 :: xs)) (k : Q x2 H) : rIx K (.ref a) (.int 2) H Q := r_ixT h (atI_nat (j := 2) rfl) k
theorem r_setB0 {Q : Hp → Prop} (h : H a = some (.lst [x0, x1])) (k : Q (upd H a (.lst [v, x1]))) : rSetL (.ref a) (.int 0) v H Q := r_setL h rfl k
theorem r_setB1 {Q : Hp → Prop} (h : H a = some (.lst [x0, x1])) (k : Q (upd H a (.lst [x0, v]))) : rSetL (.ref a) (.int 1) v H Q := r_setL h (j := 1) rfl k
end
/-! texts by their signs -/
theorem joinL_nil : ∀ ps : List (List Nat), TL.joinL [] ps = ps.flatten
  | [] => rfl
  | [p] => by
    show p = [p].flatten
    simp
  | p :: q :: r => by
    show p ++ ([] ++ TL.joinL [] (q :: r)) = (p :: q :: r).flatten
    rw [joinL_nil (q :: r)]
    simp
theorem join_parts (ps : List (List Nat)) : Txt.join (SX.S []) (ps.map SX.S) = SX.S ps.flatten := by rw [SX.join_S, joinL_nil]
theorem flat_ones (cs : List Nat) : (cs.map fun c => [c]).flatten = cs := by
  induction cs with
  | nil => rfl
  | cons c cs ih => rw [List.map_cons, List.flatten_cons, ih]; rfl
section
variable {H : Hp} {Q : VK} {K : PySem.W.Frag}
/-- a sign of a text at a place within -/
theorem r_ixSn {z : Str} {i : Int} {n : Nat} (hz : z.length = n) (hn : n ≤ 1000000) (h0 : 0 ≤ i) (h1 : i < (n : Int)) (k : ∀ c, z.cps.toList[i.toNat]? = some c → Q (.str ⟨#[c]⟩) H) : rIx K (.str z) (.int i) H Q := by
  obtain ⟨c, e, g⟩ := atI_of (xs := z.cps.toList) h0 (by rw [← str_len, hz]; exact h1)
  have hl : (1000000 : Nat) ≤ sizeLine := by rw [sizeLine_eq]; decide
  exact r_ixS (by rw [hz]; omega) e (k c g)
/-- a text joined of single signs -/
theorem r_join1 {p : Addr} {cs : List Nat} (h : H p = some (.lst (cs.map fun c => V.str ⟨#[c]⟩))) (z : cs.length ≤ 16777216) (k : Q (.str (SX.S cs)) H) : rJoin K (.str (SX.S [])) [.ref p] H Q := by
  have e : (cs.map fun c => V.str ⟨#[c]⟩) = ((cs.map fun c => [c]).map SX.S).map V.str := by
    rw [List.map_map, List.map_map]
    rfl
  rw [e] at h
  refine r_join (ys := (cs.map fun c => [c]).map SX.S) (SqL.of h) ?_ ?_
  · rw [SX.lens, List.map_map]
    have : ((fun c : List Nat => c.length) ∘ fun c => [c]) = fun _ : Nat => 1 := rfl
    rw [this]
    have e0 : (SX.S []).length = 0 := rfl
    rw [e0, Nat.mul_zero, Nat.add_zero]
    have : ∀ l : List Nat, (l.map fun _ => 1).sum = l.length := fun l => by
      induction l with
      | nil => rfl
      | cons c l ih => rw [List.map_cons, List.sum_cons, ih, List.length_cons]; omega
    rw [this]
    exact z
  · rw [join_parts, flat_ones]
    exact k
end
/-! the same rules, the written part by its own name -/
section
variable {X : Cx} {K : PySem.W.Frag}
theorem ix_k (e : X.K = K) : IxR X (rIx K) := e ▸ ix_seq
theorem add_k (e : X.K = K) : OpR X (binaryOp .Add) (rAddA K) := e ▸ op_addA
theorem mul_k (e : X.K = K) : OpR X (binaryOp .Mult) (rMulA K) := e ▸ op_mulA
theorem eq_k (e : X.K = K) (hu : X.A.units + 64 < cLine) : OpR X (compareOp .Eq) (rEqA K) := e ▸ op_eqA hu
theorem ne_k (e : X.K = K) (hu : X.A.units + 64 < cLine) : OpR X (compareOp .NotEq) (rNeA K) := e ▸ op_neA hu
theorem in_k (e : X.K = K) : OpR X (compareOp .In) (rInA K) := e ▸ op_inA
theorem notIn_k (e : X.K = K) : OpR X (compareOp .NotIn) (rNotInA K) := e ▸ op_notInA
theorem sl_k (e : X.K = K) : SlR X (rSlAny K) := e ▸ sl_any
theorem len_k (e : X.K = K) : CallR X (.builtin "len") (rLenA K) := e ▸ call_lenA
theorem max_k (e : X.K = K) (hc : X.calm = true) : CallR X (.builtin "max") (rMaxA K) := e ▸ call_maxA hc
theorem min_k (e : X.K = K) (hc : X.calm = true) : CallR X (.builtin "min") (rMinA K) := e ▸ call_minA hc
theorem sum_k (e : X.K = K) (hc : X.calm = true) : CallR X (.builtin "sum") (rSum K) := e ▸ cr_sum hc
theorem all_k (e : X.K = K) (hc : X.calm = true) : CallR X (.builtin "all") (rAll K) := e ▸ cr_all hc
theorem any_k (e : X.K = K) (hc : X.calm = true) : CallR X (.builtin "any") (rAny K) := e ▸ cr_any hc
theorem isi_k (e : X.K = K) : CallR X (.builtin "isinstance") (rIsi K) := e ▸ call_isi
theorem list_k (e : X.K = K) : CallR X (.type "list") (rListA K) := e ▸ cl_list
theorem tuple_k (e : X.K = K) : CallR X (.type "tuple") (rTupleA K) := e ▸ cl_tuple
theorem join_k (e : X.K = K) : MtR X "str.join" (rJoin K) := e ▸ mj_join
theorem any_pi {tg l : Expr} {tl : TE} (e : X.K = K) (hl : PE X l tl) : PI X tg l (iAny K tl) := e ▸ pi_any hl
variable {a b : Expr} {ta tb : TE} {rest : List Expr} {pos : Pos}
theorem orT_k (e : X.K = K) (ha : PE X a ta) (hb : PE X (.BoolOp .Or (b :: rest) pos) tb) : PE X (.BoolOp .Or (a :: b :: rest) pos) (tOrT K ta tb) := e ▸ pe_orT ha hb
theorem andT_k (e : X.K = K) (ha : PE X a ta) (hb : PE X (.BoolOp .And (b :: rest) pos) tb) : PE X (.BoolOp .And (a :: b :: rest) pos) (tAndT K ta tb) := e ▸ pe_andT ha hb
theorem notT_k (e : X.K = K) (ha : PE X a ta) : PE X (.UnaryOp .Not a pos) (tNotT K ta) := e ▸ pe_notT ha
end
theorem ne_fr' {H : Hp} {b D : Addr} (h : BoxAt H b) (n : H D = none) : D ≠ b := by
  obtain ⟨c, s, h⟩ := h
  exact (ne_of_none h n).symm
theorem chg_tr {b : Addr} {H H1 H2 : Hp} (c : Chg b H1 H2) (a : Chg b H H1) : Chg b H H2 := a.trans c
theorem sm_tr {H H1 H2 : Hp} (c : Sm H1 H2) (a : Sm H H1) : Sm H H2 := a.trans c
theorem sm_hid {b : Addr} {H H1 H2 : Hp} (c : Chg b H1 H2) (n : H b = none) (a : Sm H H1) : Sm H H2 := c.sm a n
theorem len_le {n : Nat} (h : n ≤ 1000000) : n ≤ sizeLine := by
  have hl : (1000000 : Nat) ≤ sizeLine := by rw [sizeLine_eq]; decide
  omega
section
variable {σ : St} {H : Hp} {Q : VK} {K : PySem.W.Frag}
theorem r_chain {r r' : R2} {ta tb tc : TE} (h : ta σ H fun x H1 => tb σ H1 fun y H2 => r x y H2 fun z H3 => ∃ k, z = .bl k ∧ (if k = true then tc σ H3 fun w' H4 => r' y w' H4 Q else Q (.bl false) H3)) : tChain r r' ta tb tc σ H Q := h
theorem r_maxF {i j : Int} (k : ∀ m, i ≤ m → j ≤ m → (m = i ∨ m = j) → Q (.int m) H) : rMaxA K [.int i, .int j] H Q := by
  refine r_max (k _ ?_ ?_ ?_) <;> split <;> omega
theorem r_minF {i j : Int} (k : ∀ m, m ≤ i → m ≤ j → (m = i ∨ m = j) → Q (.int m) H) : rMinA K [.int i, .int j] H Q := by
  refine r_min (k _ ?_ ?_ ?_) <;> split <;> omega
theorem r_isB {a b : Bool} (k : Q (.bl (decide (a = b))) H) : rIsB (.bl a) (.bl b) H Q := ⟨a, b, rfl, rfl, k⟩
theorem r_inSt {t : Str} {c : Nat} {z : Str} (e : t = ⟨#[c]⟩) (k : Q (.bl (decide (c ∈ z.cps.toList))) H) : rInA K (.str t) (.str z) H Q := by
  subst e
  exact r_inS k
end
section
variable {σ : St} {H : Hp} {Q : VK} {K : PySem.W.Frag}
/-- an item of a list of ints at a place within -/
theorem r_ixLi {a : Addr} {xs : List V} {i : Int} {ns : List Int} (h : SqL K H a xs) (e : xs = ns.map V.int) (h0 : 0 ≤ i) (h1 : i < (ns.length : Int)) (k : ∀ n, n ∈ ns → Q (.int n) H) : rIx K (.ref a) (.int i) H Q := by
  subst e
  obtain ⟨v, ev, hv⟩ := atI_mem (xs := ns.map V.int) h0 (by rw [List.length_map]; exact h1)
  obtain ⟨n, hn, rfl⟩ := List.mem_map.mp hv
  exact r_ixL h ev (k n hn)
theorem cshl1 {j : Int} (h0 : 0 ≤ j) (h1 : j ≤ 100000) : CShl 1 j := by
  refine ⟨h0, ?_⟩
  have e1 : (Builtin.Int.intBits 1 : Int) = 1 := by decide
  have e2 : (2 : Int) ^ 27 = 134217728 := by decide
  rw [e1, e2]
  omega
theorem pow2_le {a b : Nat} (h : a ≤ b) : (2 : Int) ^ a ≤ 2 ^ b := by
  have := Nat.pow_le_pow_right (show 0 < 2 by decide) h
  have e : ∀ n : Nat, ((2 ^ n : Nat) : Int) = (2 : Int) ^ n := fun n => by rw [Int.natCast_pow]; rfl
  rw [← e, ← e]
  exact Int.ofNat_le.mpr this
theorem ediv_down {l b : Int} (hl : 0 < l) (hb : 2 ≤ b) : 0 ≤ l / b ∧ l / b < l := by
  refine ⟨Int.ediv_nonneg (by omega) (by omega), ?_⟩
  have h1 : l / b * b ≤ l := Int.ediv_mul_le l (by omega)
  have h2 : 0 ≤ l / b := Int.ediv_nonneg (by omega) (by omega)
  rcases Int.lt_or_le (l / b) l with h | h
  · exact h
  · have h3 : l * 2 ≤ l / b * b := Int.mul_le_mul h hb (by omega) h2
    omega
end
theorem Chg.seq {K : PySem.W.Frag} {b : Addr} {H H' : Hp} {a : Addr} {xs : List V} (e : Chg b H H') (n : a ≠ b) (h : SqL K H a xs) : SqL K H' a xs := by
  rcases h with (h | ⟨o, h⟩) | h
  · exact .inl (.inl (e.to _ _ n h))
  · exact .inl (.inr ⟨o, e.to _ _ n h⟩)
  · exact .inr h
theorem Chg.seqT {K : PySem.W.Frag} {b : Addr} {H H' : Hp} {a : Addr} {xs : List V} (e : Chg b H H') (n : a ≠ b) (h : SqT K H a xs) : SqT K H' a xs := by
  rcases h with (h | ⟨o, h⟩) | h
  · exact .inl (.inl (e.to _ _ n h))
  · exact .inl (.inr ⟨o, e.to _ _ n h⟩)
  · exact .inr h
theorem BoxAt.chg {b D : Addr} {H H' : Hp} (e : Chg D H H') (n : b ≠ D) (h : BoxAt H b) : BoxAt H' b := by
  obtain ⟨x, y, h⟩ := h
  exact ⟨x, y, e.to _ _ n h⟩
theorem box_ne {H : Hp} {b D : Addr} (n : H D = none) (h : BoxAt H b) : b ≠ D := (ne_fr' h n).symm
theorem chg_fr {b t : Addr} {H H' : Hp} (n : H' t = none) (hb : BoxAt H' b) (c : Chg b H H') : H t = none := by
  cases q : H t with
  | none => rfl
  | some o =>
    have := c.to t o (ne_fr' hb n) q
    rw [n] at this
    cases this
theorem cutV_mem {xs : List V} {lo hi : Option Int} {v : V} (h : v ∈ cutV xs lo hi) : v ∈ xs := List.mem_of_mem_drop (List.mem_of_mem_take h)
theorem cutV_le (xs : List V) (lo hi : Option Int) : (cutV xs lo hi).length ≤ xs.length := by
  unfold cutV
  rw [List.length_take, List.length_drop]
  omega
section
variable {σ : St} {H : Hp} {Q : VK} {K : PySem.W.Frag} {X : Cx}
theorem rev_pi {tg e : Expr} {te : TE} {p pos : Pos} (ek : X.K = K) (hg : Gl X "reversed") (hm : X.mg "reversed" = none) (he : PE X e te) (hs : starEach [e] X.env = (false, eval e X.env) :: starEach [] X.env := by rfl) : PI X tg (.Call (.Name "reversed" p) [e] [] pos) (RT.iRevA K te) := ek ▸ RT.pi_revA hg hm he hs
theorem r_rev {te : TE} {R : It → Hp → Prop} (h : te σ H fun v H1 => ∃ (a : Addr) (xs : List V), v = .ref a ∧ ((SqL K H1 a xs ∧ R (Itv K a xs.length) H1) ∨ (SqT K H1 a xs ∧ R (RT.ItvT K a xs.length) H1))) : RT.iRevA K te σ H R := h
theorem r_revL {a : Addr} {xs : List V} {P : Addr → List V → Prop} {P' : Addr → List V → Prop} (h : SqL K H a xs) (k : P a xs) : ∃ (b : Addr) (ys : List V), V.ref a = .ref b ∧ ((SqL K H b ys ∧ P b ys) ∨ (SqT K H b ys ∧ P' b ys)) := ⟨a, xs, rfl, .inl ⟨h, k⟩⟩
theorem r_revT {a : Addr} {xs : List V} {P : Addr → List V → Prop} {P' : Addr → List V → Prop} (h : SqT K H a xs) (k : P' a xs) : ∃ (b : Addr) (ys : List V), V.ref a = .ref b ∧ ((SqL K H b ys ∧ P b ys) ∨ (SqT K H b ys ∧ P' b ys)) := ⟨a, xs, rfl, .inr ⟨h, k⟩⟩
/-- an item of a list of ints, by its place -/
theorem r_ixLg {a : Addr} {xs : List V} {i : Int} {ns : List Int} (h : SqL K H a xs) (e : xs = ns.map V.int) (h0 : 0 ≤ i) (h1 : i < (ns.length : Int)) (k : ∀ n, ns[i.toNat]? = some n → Q (.int n) H) : rIx K (.ref a) (.int i) H Q := by
  subst e
  obtain ⟨v, ev, hv⟩ := atI_of (xs := ns.map V.int) h0 (by rw [List.length_map]; exact h1)
  rw [List.getElem?_map] at hv
  cases hn : ns[i.toNat]? with
  | none =>
    rw [hn] at hv
    cases hv
  | some n =>
    rw [hn] at hv
    have e : V.int n = v := Option.some.inj hv
    subst e
    exact r_ixL h ev (k n hn)
end
theorem rep_ints (n : Nat) (x : Int) : (List.replicate n [V.int x]).flatten = (List.replicate n x).map V.int := by
  induction n with
  | zero => rfl
  | succ n ih => rw [List.replicate_succ, List.flatten_cons, ih, List.replicate_succ, List.map_cons]; rfl
/-- lists of ints are equal as data just where they are -/
theorem dps_ints {K : PySem.W.Frag} {H : Hp} : ∀ ns : List Int, DpAll K H (ns.map V.int) (ns.map PyData.int)
  | [] => .nil
  | n :: ns => .cons (.int n) (dps_ints ns)
theorem dp_ints {K : PySem.W.Frag} {H : Hp} {a : Addr} {ns : List Int} (h : SqL K H a (ns.map V.int)) : Dp K H (.ref a) (.list (ns.map PyData.int)) := .lst h (dps_ints ns)
theorem pow_lim {b : Int} {n : Nat} (h0 : 0 ≤ b) (h1 : b ≤ 1099511627776) : (b ^ n).natAbs < 2 ^ (40 * n + 1) := by
  rw [Int.natAbs_pow]
  have h2 : b.natAbs ≤ 2 ^ 40 := by
    have e : (2 : Nat) ^ 40 = 1099511627776 := by decide
    omega
  have h3 := Nat.pow_le_pow_left h2 n
  rw [← Nat.pow_mul] at h3
  have h4 : 2 ^ (40 * n) < 2 ^ (40 * n + 1) := Nat.pow_lt_pow_right (by decide) (by omega)
  omega
theorem lay_ints (ns : List Int) : PyData.canLayAll0 (ns.map PyData.int) = true := by
  induction ns with
  | nil => rfl
  | cons n ns ih => simpa [PyData.canLayAll0, PyData.canLay0] using ih
theorem deep_ints (ns : List Int) : PyData.depthAll (ns.map PyData.int) ≤ 1 := by
  induction ns with
  | nil => decide
  | cons n ns ih => simpa [PyData.depthAll, PyData.depth] using ih
theorem shaped_ints (ns : List Int) : SeqAt.shaped (.list (ns.map PyData.int)) = true := by
  have h := lay_ints ns
  have h2 := deep_ints ns
  simp [SeqAt.shaped, PyData.canLay0, PyData.depth, h]
  omega
theorem eqv_ints (ns : List Int) : PyData.eqv (.list (ns.map PyData.int)) (.list (ns.map PyData.int)) = true := SeqAt.eqv_refl _ (by simpa [PyData.canLay0] using lay_ints ns)
section
variable {H : Hp} {Q : VK} {K : PySem.W.Frag}
/-- two lists of the same ints -/
theorem r_neLL {a b : Addr} {ns : List Int} (ha : SqL K H a (ns.map V.int)) (hb : SqL K H b (ns.map V.int)) (k : Q (.bl false) H) : rNeA K (.ref a) (.ref b) H Q := r_neD (dp_ints ha) (dp_ints hb) (shaped_ints ns) (shaped_ints ns) (by rw [eqv_ints]; exact k)
theorem r_eqLL {a b : Addr} {ns : List Int} (ha : SqL K H a (ns.map V.int)) (hb : SqL K H b (ns.map V.int)) (k : Q (.bl true) H) : rEqA K (.ref a) (.ref b) H Q := r_eqD (dp_ints ha) (dp_ints hb) (shaped_ints ns) (shaped_ints ns) (by rw [eqv_ints]; exact k)
end
section
variable {H : Hp} {Q : VK} {K : PySem.W.Frag}
/-- [x] * n -/
theorem r_repI {a : Addr} {x i : Int} (ha : H a = some (.lst [V.int x])) (h0 : 0 ≤ i) (h1 : i ≤ 1000) (k : ∀ p H', Sm H H' → H p = none → H' p = some (.lst ((List.replicate i.toNat x).map V.int)) → Q (.ref p) H') : rMulA K (.ref a) (.int i) H Q :=
  r_mulL ha (by omega) (by omega) (len_le (by
    show 1 * i.toNat ≤ 1000000
    omega)) fun p H' s n e => k p H' s n (by rw [← rep_ints]; exact e)
/-- two lists of ints, one behind the other -/
theorem r_addLI {a b : Addr} {xs ys : List Int} (ha : H a = some (.lst (xs.map V.int))) (hb : H b = some (.lst (ys.map V.int))) (hz : xs.length + ys.length ≤ 1000000)
    (k : ∀ p H', Sm H H' → H p = none → H' p = some (.lst ((xs ++ ys).map V.int)) → Q (.ref p) H') : rAddA K (.ref a) (.ref b) H Q :=
  r_addL ha hb (len_le (by rw [List.length_map, List.length_map]; exact hz)) fun p H' s n e => k p H' s n (by rw [List.map_append]; exact e)
end
theorem r_ixLm {K : PySem.W.Frag} {H : Hp} {Q : VK} {a : Addr} {xs : List V} {i : Int} (h : SqL K H a xs) (h0 : 0 ≤ i) (h1 : i < (xs.length : Int)) (k : ∀ v, v ∈ xs → Q v H) : rIx K (.ref a) (.int i) H Q := by
  obtain ⟨v, ev, hv⟩ := atI_mem h0 h1
  exact r_ixL h ev (k v hv)
theorem chg_acc2 {b D : Addr} {H1 H4 : Hp} {o : HO} (n : H1 D = none) (c : Chg b H1 H4) : Chg b H1 (upd H4 D o) := chg_acc c n
theorem sm_acc2 {D : Addr} {H1 H4 : Hp} {o : HO} (n : H1 D = none) (c : Sm H1 H4) : Sm H1 (upd H4 D o) := sm_acc c n
end RV

namespace RV
open PySem PySem.Spec L2 PySem.NumText PySem.W
open PyProof.Rows hiding St
/-- the limit on an int's signs is what it was at the start -/
theorem looks_msd {K : PySem.W.Frag} {M : Model} {h : Heap} (X : K.In h) (e : PySem.W.nsIn K cStatics "sys.int_max_str_digits" = some none) : PySem.W.Looks M h Builtin.intMaxStrDigits 4300 :=
  (PySem.W.looks_nsIn X e).andThen .now
theorem from_text {M : Model} {A : Around} {E : Value → Shared → Prop} {s : Shared} {Q : Value → Shared → Prop} {v : Value} {text : List Nat} {n : Int}
    (lk : PySem.W.Looks M s.heap Builtin.intMaxStrDigits 4300) (far : ¬ (text.takeWhile (· != 0)).length ≤ 640)
    (got : (int_private% "readNumeral") 4300 10 (text.takeWhile (· != 0)) = (int_private% "Numeral.value") n)
    (whole : ((text.takeWhile (· != 0)).length == text.length) = true) (k : Q (.int n s.toks) { s with toks := s.toks + 1 }) :
    wpAny M A ((int_private% "intFromText") v text 10) Q E s := by
  obtain ⟨hp, g, d, tk, os⟩ := s
  have lk' : PySem.W.Looks M hp Builtin.intMaxStrDigits 4300 := lk
  clear lk
  repeat (any_goals (first
    | (with_reducible refine wpAny_ite_false (decide_eq_false far) ?_)
    | (with_reducible refine wpAny_ite_true (decide_eq_true whole) ?_)
    | ((with_reducible show wpAny _ _ Builtin.intMaxStrDigits _ _ _); refine PySem.W.Looks.here lk' ?_)
    | assumption
    | wp_step))
  all_goals (try rw [got])
  all_goals (try dsimp only)
  repeat (any_goals (first
    | (with_reducible refine wpAny_ite_true (decide_eq_true whole) ?_)
    | assumption
    | wp_step))
structure Kept (p : Prop) : Prop where
  get : p
theorem whole_text {x : PySem.Str} {u : Tok} {n : Int} (hl : x.length ≤ 16777216) (far : ¬ (numSeenOf x).length ≤ 640) (hn : PySem.intText? x = some n) :
    Meets (Builtin.«int.__new__» ⟨[.type "int", .str x u], []⟩) (fun A R s => (∀ M, PySem.W.Looks M s.heap Builtin.intMaxStrDigits 4300) ∧ R (.ok (.ret (.int n s.toks))) { s with toks := s.toks + 1 }) :=
  .of_wp fun prog w A R s hs => by
    obtain ⟨hp, g, d, tk, os⟩ := s
    obtain ⟨lk, fin⟩ := hs
    have a1 := F.conv_sub_int
    have a2 := F.madeHere_int
    have a3 := PySem.W.KIN.str_int
    have a4 := PySem.W.KIN.str_idx
    have a5 := PySem.W.KIN.str_trunc
    have a6 : typeOf (.str x u) = pure (.type "str") := rfl
    have got : (int_private% "readNumeral") 4300 10 (numSeenOf x) = (int_private% "Numeral.value") n ∧ ((numSeenOf x).length == (numTextOf x).length) = true := by
      have hs : (16777216 : Nat) = sizeLine := by rw [sizeLine_eq]
      rcases read4300 x (by rw [← hs]; exact hl) with ⟨m, h1, h2, h3⟩ | ⟨h1, _⟩
      · rw [hn] at h1
        cases h1
        exact ⟨h3, h2⟩
      · rw [hn] at h1
        cases h1
    have kk := Kept.mk (And.intro far got)
    have lk' := Kept.mk lk
    clear far got hl hn lk
    repeat (any_goals (first
      | assumption
      | ((with_reducible show wpAny _ _ ((int_private% "intFromText") _ _ _) _ _ _); refine from_text (lk'.get _) kk.get.1 kk.get.2.1 kk.get.2.2 ?_)
      | wp_step))
    all_goals first | exact ⟨_, rfl, fin⟩ | skip
section
variable {X : Cx} {K : PySem.W.Frag}
def rIntL : List V → Hp → VK → Prop := fun xs H Q => ∃ a n, xs = [.str a] ∧ PySem.intText? a = some n ∧ ¬ (numSeenOf a).length ≤ 640 ∧ a.length ≤ 16777216 ∧ Q (.int n) H
theorem long_int (e : X.K = K) (zs : PySem.W.nsIn K cStatics "sys.int_max_str_digits" = some none) : CallR X (.type "int") rIntL := by
  intro pins s σ H xs us Q I r h
  obtain ⟨a, n, rfl, hn, far, hl, q⟩ := h
  obtain ⟨u, rfl, t, rfl⟩ := vals1 r
  subst e
  exact call_int_1 (whole_text hl far hn) ⟨fun M => looks_msd I.kIn zs, rfl, ⟨.int n, H, I.tok _, ⟨_, rfl⟩, q⟩⟩
/-- int(..) of an int, a truth, a text of any length -/
def rIntX : List V → Hp → VK → Prop := fun xs H Q => rIntA xs H Q ∨ rIntL xs H Q
theorem int_x (e : X.K = K) (zs : PySem.W.nsIn K cStatics "sys.int_max_str_digits" = some none) : CallR X (.type "int") rIntX := cl_int.or (long_int e zs)
variable {H : Hp} {Q : VK}
theorem x_intI {i : Int} (k : Q (.int i) H) : rIntX [.int i] H Q := .inl (r_intI k)
theorem x_intB {i : Bool} (k : Q (.int (if i then 1 else 0)) H) : rIntX [.bl i] H Q := .inl (r_intB k)
/-- a text of figures alone -/
theorem x_intS {cs : List Nat} {n : Nat} (h : AllDigits cs) (h1 : cs ≠ []) (h2 : cs.length ≤ 4300) (hv : digitsVal cs = n) (k : Q (.int (n : Int)) H) : rIntX [.str (SX.S cs)] H Q := by
  have hl : (SX.S cs).length = cs.length := SX.S_len cs
  have hn : PySem.intText? (SX.S cs) = some (n : Int) := by
    rw [← hv]
    exact intText_digits (x := SX.S cs) h h1 (by rw [hl]; exact h2)
  by_cases far : (SX.S cs).length ≤ 640
  · exact .inl (r_intS hn far k)
  · refine .inr ⟨_, _, rfl, hn, ?_, by omega, k⟩
    rw [(numText_signs (x := SX.S cs) fun c hc => Or.inr (h c hc)).2]
    show ¬ (SX.S cs).cps.toList.length ≤ 640
    rw [← str_len]
    exact far
end
end RV

namespace K15

open PySem PySem.Spec L2 RV
open PyProof.Rows hiding St
def topS (i : Nat) : Stmt := PySem.Challenge.pw_runsums_k15_one_figure.main.body.getD i (.Pass ⟨0, 0, 0, 0⟩)
abbrev s_take : Stmt := topS 3
theorem sc_take : FnScope ["box", "wide", "digit", "one"] ["box", "wide"] (defScope s_take) := ⟨rfl, rfl, rfl, by decide +kernel, rfl, by decide +kernel, by decide +kernel⟩
abbrev s_number : Stmt := topS 4
theorem sc_number : FnScope ["box", "form"] ["box"] (defScope s_number) := ⟨rfl, rfl, rfl, by decide +kernel, rfl, by decide +kernel, by decide +kernel⟩
abbrev s_base : Stmt := topS 6
theorem sc_base : FnScope ["box", "form"] ["box"] (defScope s_base) := ⟨rfl, rfl, rfl, by decide +kernel, rfl, by decide +kernel, by decide +kernel⟩
abbrev s_drawn : Stmt := topS 7
theorem sc_drawn : FnScope ["box", "number", "base", "many", "left", "some"] ["box"] (defScope s_drawn) := ⟨rfl, rfl, rfl, by decide +kernel, rfl, by decide +kernel, by decide +kernel⟩
abbrev s_p_figure : Stmt := topS 1
theorem sc_p_figure : FnScope ["number", "base", "k", "rest", "_"] ["number", "base", "k"] (defScope s_p_figure) := ⟨rfl, rfl, rfl, by decide +kernel, rfl, by decide +kernel, by decide +kernel⟩
abbrev s_box : Stmt := topS 5
theorem sc_box : FnScope ["script", "k", "cell", "seed"] ["script", "k"] (defScope s_box) := ⟨rfl, rfl, rfl, by decide +kernel, rfl, by decide +kernel, by decide +kernel⟩
abbrev s_due : Stmt := topS 8
theorem sc_due : FnScope ["number", "base", "k", "turn"] ["number", "base", "k"] (defScope s_due) := ⟨rfl, rfl, rfl, by decide +kernel, rfl, by decide +kernel, by decide +kernel⟩
abbrev s_law : Stmt := topS 9
theorem sc_law : FnScope ["script", "k", "some", "number", "base", "found"] ["script"] (defScope s_law) := ⟨rfl, rfl, rfl, by decide +kernel, rfl, by decide +kernel, by decide +kernel⟩
structure Txt (K : PySem.W.Frag) (mg : Str → Option Value) where
  f_take : Addr
  d_take : FuncData
  F_take : Fun K "_law_take" "_law_take" s_take f_take d_take
  g_take : mg "_law_take" = some (.ref f_take)
  b_take : Binds K d_take ["box", "wide"] []
  f_number : Addr
  d_number : FuncData
  F_number : Fun K "_law_number" "_law_number" s_number f_number d_number
  g_number : mg "_law_number" = some (.ref f_number)
  b_number : Binds K d_number ["box"] []
  f_base : Addr
  d_base : FuncData
  F_base : Fun K "_law_base" "_law_base" s_base f_base d_base
  g_base : mg "_law_base" = some (.ref f_base)
  b_base : Binds K d_base ["box"] []
  f_drawn : Addr
  d_drawn : FuncData
  F_drawn : Fun K "_law_drawn" "_law_drawn" s_drawn f_drawn d_drawn
  g_drawn : mg "_law_drawn" = some (.ref f_drawn)
  b_drawn : Binds K d_drawn ["box"] []
  f_p_figure : Addr
  d_p_figure : FuncData
  F_p_figure : Fun K "figure" "figure" s_p_figure f_p_figure d_p_figure
  g_p_figure : mg "figure" = some (.ref f_p_figure)
  b_p_figure : Binds K d_p_figure ["number", "base", "k"] []
  f_box : Addr
  d_box : FuncData
  F_box : Fun K "_law_box" "_law_box" s_box f_box d_box
  g_box : mg "_law_box" = some (.ref f_box)
  b_box : Binds K d_box ["script", "k"] []
  f_due : Addr
  d_due : FuncData
  F_due : Fun K "_law_due" "_law_due" s_due f_due d_due
  g_due : mg "_law_due" = some (.ref f_due)
  b_due : Binds K d_due ["number", "base", "k"] []
  f_law : Addr
  d_law : FuncData
  F_law : Fun K "law" "law" s_law f_law d_law
  g_law : mg "law" = some (.ref f_law)
  b_law : Binds K d_law ["script"] []
  z_bool : mg "bool" = none
  z_int : mg "int" = none
  z_isinstance : mg "isinstance" = none
  z_len : mg "len" = none
  z_max : mg "max" = none
  z_min : mg "min" = none
  z_range : mg "range" = none
  s_msd : PySem.W.nsIn K cStatics "sys.int_max_str_digits" = some none
section
variable {P : Program} {w : World} {K : PySem.W.Frag} {mg : Str → Option Value} {base : Heap}
/-! the reading, step by step: own words, by strings -/
local macro_rules | `(tactic| tm_at "ne") => `(tactic| with_reducible first
  | assumption
  | exact Ne.symm (by assumption)
  | exact ne_fr (by assumption) (by tm_at "mv")
  | exact box_ne (by assumption) (by tm_at "mv")
  | exact (ne_fr (by assumption) (by tm_at "mv")).symm
  | exact (box_ne (by assumption) (by tm_at "mv")).symm)
local macro_rules | `(tactic| tm_at "mv") => `(tactic| with_reducible first
  | assumption
  | (show upd _ _ _ _ = some _; first
    | exact upd_same
    | exact (sm_upd (by assumption)).to _ _ (by tm_at "mv")
    | exact chg_upd.to _ _ (by tm_at "ne") (by tm_at "mv"))
  | (show _ = some _; first
    | exact Sm.to (by assumption) _ _ (by tm_at "mv")
    | exact Chg.to (by assumption) _ _ (by tm_at "ne") (by tm_at "mv"))
  | (show SqL _ (upd _ _ _) _ _; first
    | exact SqL.of (by assumption)
    | exact SqL.of upd_same
    | exact (sm_upd (by assumption)).seq (by tm_at "mv")
    | exact chg_upd.seq (by tm_at "ne") (by tm_at "mv"))
  | (show SqL _ _ _ _; first
    | exact SqL.of (by assumption)
    | exact Sm.seq (by assumption) (by tm_at "mv")
    | exact Chg.seq (by assumption) (by tm_at "ne") (by tm_at "mv"))
  | (show SqT _ (upd _ _ _) _ _; first
    | exact SqT.of (by assumption)
    | exact SqT.of upd_same
    | exact (sm_upd (by assumption)).seqT (by tm_at "mv")
    | exact chg_upd.seqT (by tm_at "ne") (by tm_at "mv"))
  | (show SqT _ _ _ _; first
    | exact SqT.of (by assumption)
    | exact Sm.seqT (by assumption) (by tm_at "mv")
    | exact Chg.seqT (by assumption) (by tm_at "ne") (by tm_at "mv"))
  | (show Dp _ (upd _ _ _) _ _; exact (sm_upd (by assumption)).dp (by tm_at "mv"))
  | (show Dp _ _ _ _; exact Sm.dp (by assumption) (by tm_at "mv"))
  | (show BoxAt (upd _ _ _) _; first
    | exact BoxAt.sm (sm_upd (by assumption)) (by tm_at "mv")
    | exact BoxAt.chg chg_upd (by tm_at "ne") (by tm_at "mv"))
  | (show BoxAt _ _; first
    | exact BoxAt.sm (by assumption) (by tm_at "mv")
    | exact BoxAt.chg (by assumption) (by tm_at "ne") (by tm_at "mv")))
local macro_rules | `(tactic| tm_at "sd") => `(tactic| first
  | assumption
  | exact cmul_l (by decide)
  | exact cmul_r (by decide)
  | exact cshl1 (by omega) (by omega)
  | exact cdiv_s (by omega) (by omega)
  | exact cmul_r (by omega)
  | exact cmul_l (by omega)
  | (show (0 : Int) < _; first | decide | omega)
  | omega
  | exact ⟨by decide, by decide, by decide⟩
  | exact sz_le (by simp only [List.length_cons, List.length_nil]; omega))
local macro_rules | `(tactic| tm_at "if") => `(tactic| with_reducible first
  | refine ite_y rfl ?_
  | refine ite_o rfl ?_
  | refine ite_y (decide_eq_true (by first | assumption | omega)) ?_
  | refine ite_o (decide_eq_false (by first | assumption | omega)) ?_)
local macro_rules | `(tactic| tm_at "1") => `(tactic| with_reducible first
  | refine r_seq ?_
  | refine r_nx ?_
  | refine r_rt ?_
  | refine r_next ?_
  | refine r_op ?_
  | refine r_var rfl ?_
  | refine r_C ?_
  | refine r_asg ?_
  | refine r_gN ?_
  | refine r_cons ?_
  | refine r_nil ?_
  | refine r_call ?_
  | refine r_CB ?_
  | refine r_ret ?_
  | refine r_if ?_
  | refine r_test ?_
  | refine r_bl ?_
  | refine r_addI ?_
  | refine r_I0 ?_
  | refine r_eqI ?_
  | refine r_neI ?_
  | refine r_eqS ?_
  | refine r_neS ?_
  | refine r_eqB ?_
  | refine r_neB ?_
  | refine r_un ?_
  | refine r_U ?_
  | refine r_drop ?_
  | refine r_lst ?_
  | refine r_tup ?_
  | refine r_par ?_
  | refine r_vw ?_
  | refine r_aug rfl ?_
  | refine r_ip ?_
  | refine r_and ?_
  | refine r_or ?_
  | refine r_not ?_
  | refine r_notT ?_
  | refine r_orT ?_
  | refine r_andT ?_
  | refine r_tru_bl ?_
  | refine r_tru_int ?_
  | refine r_ifE ?_
  | refine r_gS ?_
  | refine r_gC ?_
  | refine r_g0 ?_
  | refine r_retN ?_
  | refine r_sl ?_
  | refine r_noPart ?_
  | refine r_part ?_
  | refine r_exI ?_
  | refine r_callK ?_
  | refine r_bm ?_
  | refine r_chain ?_
  | refine r_isB ?_
  | refine r_isi_int rfl ?_
  | refine r_isi_bl rfl ?_
  | refine r_isi_str rfl ?_
  | refine r_inS ?_
  | refine r_notInS ?_
  | refine r_bmS ?_
  | refine r_lc ?_
  | refine r_for ?_
  | refine r_R1 ?_
  | refine r_yes ?_
  | refine r_aS ?_
  | refine r_intB ?_
  | refine r_intI ?_
  | refine r_strS ?_)
local macro_rules | `(tactic| tm_at "h") => `(tactic| first
  | ((with_reducible show rI _ _ (V.int _) (V.int _) _ _); refine r_I (by tm_at "sd") ?_)
  | ((with_reducible show rMulA _ (V.int _) (V.int _) _ _); refine r_mulS (by tm_at "sd") ?_)
  | ((with_reducible show rIx _ (V.ref _) (V.int _) _ _); first
    | ((with_reducible show rIx _ (V.ref _) (V.int 0) _ _); first | refine r_ixL0 (by tm_at "mv") ?_ | refine r_ixT0 (by tm_at "mv") ?_)
    | ((with_reducible show rIx _ (V.ref _) (V.int 1) _ _); first | refine r_ixL1 (by tm_at "mv") ?_ | refine r_ixT1 (by tm_at "mv") ?_)
    | ((with_reducible show rIx _ (V.ref _) (V.int 2) _ _); first | refine r_ixL2 (by tm_at "mv") ?_ | refine r_ixT2 (by tm_at "mv") ?_))
  | ((with_reducible show rLenA _ [V.ref _] _ _); first
    | refine r_lenL (by tm_at "mv") ?_
    | refine r_lenT (by tm_at "mv") ?_)
  | ((with_reducible show rSetL (V.ref _) (V.int _) _ _ _); first | refine r_setB0 (by tm_at "mv") ?_ | refine r_setB1 (by tm_at "mv") ?_)
  | ((with_reducible show gTup _ _ _ (V.ref _) _ _ _); refine r_gT (by tm_at "mv") (by exact rfl) ?_)
  | ((with_reducible show tyV _ "list" (V.ref _) _ ∧ _); refine r_bmL (by tm_at "mv") ?_)
  | ((with_reducible show tAug _ _ _ _ _ _); refine r_aug (by exact rfl) ?_)
  | ((with_reducible show rMaxA _ [V.int _, V.int _] _ _); refine r_maxF ?_; intro _ _ _ _)
  | ((with_reducible show rMinA _ [V.int _, V.int _] _ _); refine r_minF ?_; intro _ _ _ _)
  | ((with_reducible show wipe _ _ = wipe _ _ ∧ _); refine r_wipe (by exact rfl) ?_)
  | ((with_reducible show ∃ j, [V.int _] = [V.int j] ∧ _); refine r_rng (by omega) (by omega) ?_)
  | ((with_reducible show tVar _ _ _ _); refine r_var (by exact rfl) ?_))
local macro_rules | `(tactic| tm_at "sm") => `(tactic| with_reducible first
  | exact Sm.refl _
  | assumption
  | (show Sm _ (upd _ _ _); first
    | exact sm_tr (sm_upd (by assumption)) (by tm_at "sm")
    | exact sm_acc2 (by assumption) (by tm_at "sm"))
  | exact sm_tr (by assumption) (by tm_at "sm")
  | exact sm_hid (by assumption) (by assumption) (by tm_at "sm"))
local macro_rules | `(tactic| tm_at "fr") => `(tactic| with_reducible first
  | assumption
  | exact fr_of (by assumption) (by tm_at "sm"))
local macro_rules | `(tactic| tm_at "al") => `(tactic| (refine ⟨by tm_at "sd", fun p np => ?_⟩))
local macro_rules | `(tactic| tm_at "rv") => `(tactic| repeat (first | tm_at "1" | tm_at "h" | tm_at "if" | ((with_reducible show _ ≤ sizeLine ∧ ∀ _, _); refine ⟨by tm_at "sd", fun p np => ?_⟩)))
local macro_rules | `(tactic| tm_at "ch") => `(tactic| with_reducible first
  | exact Chg.refl _ _
  | assumption
  | (show Chg _ _ (upd _ _ _); first
    | exact chg_tr (sm_upd (by assumption)).chg (by tm_at "ch")
    | exact chg_acc2 (by assumption) (by tm_at "ch")
    | exact chg_tr chg_upd (by tm_at "ch"))
  | exact chg_tr (by assumption) (by tm_at "ch")
  | exact chg_tr (Sm.chg (by assumption)) (by tm_at "ch"))

local macro_rules | `(tactic| tm_at "1") => `(tactic| with_reducible first
  | refine x_intB ?_
  | refine x_intI ?_)

/-! the drawer -/
def sp_take : Sp := fun vs H Q _ => ∃ (b : Addr) (wide : Int), vs = [.ref b, .int wide] ∧ BoxAt H b ∧ 0 < wide ∧ CDivW 0 wide ∧ ∀ d H', Chg b H H' → BoxAt H' b → 0 ≤ d → d < wide → Q (.int d) H'
theorem use_take {H : Hp} {Q : VK} {E : XK} {b : Addr} {wide : Int} (h : BoxAt H b) (h0 : 0 < wide) (h1 : CDivW 0 wide) (k : ∀ d H', Chg b H H' → BoxAt H' b → 0 ≤ d → d < wide → Q (.int d) H') : sp_take [.ref b, .int wide] H Q E := ⟨b, wide, rfl, h, h0, h1, k⟩
theorem ok_take (T : Txt K mg) : FnOk P w K mg base CX0 1 T.f_take T.d_take ["box", "wide"] sp_take := by
  refine T.F_take.ok sc_take (fun vs H Q E h => ?_) (fun cdv A outer s H vs Q E hr h => ?_)
  · obtain ⟨b, wide, rfl, _⟩ := h
    rfl
  · obtain ⟨b, wide, rfl, ⟨c, z, hb⟩, hw, hd, k⟩ := h
    refine ⟨_, (pss_cons (ps_if (pt_cmpR op_gt (pe_ix (ix_k (K := K) rfl) (pv 0) pe_int (fun _ _ => rfl)) pe_int (nomark _))
      (pss_cons (ps_set (i := 2) sc_take.nd rfl (Or.inl rfl) (pe_op op_mod (pe_ix (ix_k (K := K) rfl) (pv 0) pe_int (fun _ _ => rfl)) (pv 1)))
      (pss_cons (ps_asg (pe_op op_fdivW (pe_ix (ix_k (K := K) rfl) (pv 0) pe_int (fun _ _ => rfl)) (pv 1)) (pg_sub (pv 0) pe_int set_list))
      (pss_one (ps_ret (pv 2))))) pss_nil)
      (pss_cons (ps_set (i := 3) sc_take.nd rfl (Or.inl rfl) (pe_op op_mod (pe_op (mul_k (K := K) rfl) (pe_ix (ix_k (K := K) rfl) (pv 0) pe_int (fun _ _ => rfl)) pe_int) pe_int))
      (pss_cons (ps_asg (pe_op (add_k (K := K) rfl) (pe_op op_mod (pe_op (add_k (K := K) rfl) (pe_op (mul_k (K := K) rfl) (pv 3) pe_int) pe_int) pe_int) pe_int) (pg_sub (pv 0) pe_int set_list))
      (pss_one (ps_ret (pe_op op_mod (pe_op op_fdivW (pe_op (add_k (K := K) rfl) (pe_op (mul_k (K := K) rfl) (pv 3) pe_int) (pe_ix (ix_k (K := K) rfl) (pv 0) pe_int (fun _ _ => rfl))) pe_int) (pv 1))))))), ?_⟩
    tm_at "rv"
    refine ite_d (fun e => ?_) (fun e => ?_)
    · tm_at "rv"
      exact k _ _ chg_upd ⟨_, _, upd_same⟩ (Int.emod_nonneg _ (by omega)) (Int.emod_lt_of_pos _ hw)
    · tm_at "rv"
      exact k _ _ chg_upd ⟨_, _, upd_same⟩ (Int.emod_nonneg _ (by omega)) (Int.emod_lt_of_pos _ hw)

/-! the drawer made -/
def sp_box (K : PySem.W.Frag) : Sp := fun vs H Q _ => ∃ (a : Addr) (k : Int) (ns : List Int), vs = [.ref a, .int k] ∧ SqL K H a (ns.map V.int) ∧ 0 ≤ k ∧ ∀ b H', Sm H H' → H b = none → BoxAt H' b → Q (.ref b) H'
theorem use_box {H : Hp} {Q : VK} {E : XK} {a : Addr} {i : Int} {ns : List Int} (h : SqL K H a (ns.map V.int)) (h0 : 0 ≤ i) (k : ∀ b H', Sm H H' → H b = none → BoxAt H' b → Q (.ref b) H') : sp_box K [.ref a, .int i] H Q E := ⟨a, i, ns, rfl, h, h0, k⟩
theorem ok_box (T : Txt K mg) : FnOk P w K mg base CX0 1 T.f_box T.d_box ["script", "k"] (sp_box K) := by
  refine T.F_box.ok sc_box (fun vs H Q E h => ?_) (fun cdv A outer s H vs Q E hr h => ?_)
  · obtain ⟨a, k, ns, rfl, _⟩ := h
    rfl
  · obtain ⟨a, k, ns, rfl, hS, h0, q⟩ := h
    have item : ∀ i : Int, 0 ≤ i → i < ((ns.map V.int).length : Int) → ∃ n, atI (ns.map V.int) i = some (V.int n) := fun i a b => by
      obtain ⟨v, e, m⟩ := atI_mem a b
      obtain ⟨n, _, rfl⟩ := List.mem_map.mp m
      exact ⟨n, e⟩
    refine ⟨_, (pss_cons (ps_set (i := 2) sc_box.nd rfl (Or.inl rfl) (pe_op (add_k (K := K) rfl) (pe_op (mul_k (K := K) rfl) pe_int (pv 1)) pe_int))
      (pss_cons (ps_if (pt_cmpR op_lt (pv 1) (pe_callB (len_k (K := K) rfl) (by rfl) T.z_len (by decide +kernel) (pa_cons (pv 0) pa_nil)) (nomark _))
      (pss_one (ps_set (i := 2) sc_box.nd rfl (Or.inl rfl) (pe_ix (ix_k (K := K) rfl) (pv 0) (pv 1) (fun _ _ => rfl)))) (pss_one (ps_if (pt_cmpR op_gt (pe_callB (len_k (K := K) rfl) (by rfl) T.z_len (by decide +kernel) (pa_cons (pv 0) pa_nil)) pe_int (nomark _))
      (pss_one (ps_set (i := 2) sc_box.nd rfl (Or.inl rfl) (pe_op (add_k (K := K) rfl) (pv 2) (pe_op (mul_k (K := K) rfl) (pe_op op_mod (pe_ix (ix_k (K := K) rfl) (pv 0) (pe_op op_mod (pv 1) (pe_callB (len_k (K := K) rfl) (by rfl) T.z_len (by decide +kernel) (pa_cons (pv 0) pa_nil))) (fun _ _ => rfl)) pe_int) pe_int)))) pss_nil)))
      (pss_cons (ps_set (i := 3) sc_box.nd rfl (Or.inl rfl) (pe_op (add_k (K := K) rfl) (pe_op op_mod (pe_op (add_k (K := K) rfl) (pe_op (mul_k (K := K) rfl) (pe_op op_mod (pv 2) pe_int) pe_int) (pe_op (mul_k (K := K) rfl) pe_int (pv 1))) pe_int) pe_int))
      (pss_one (ps_ret (pe_lst (pa_cons (pe_ix (ix_k (K := K) rfl) (pe_lst (pa_cons pe_int (pa_cons (pv 2) pa_nil))) (pe_callTy (int_x (K := K) rfl T.s_msd) (by rfl) T.z_int (by decide +kernel) (pa_cons (pe_cmpR op_ge (pv 2) (pe_op op_pow pe_int pe_int) (nomark _)) pa_nil)) (fun _ _ => rfl)) (pa_cons (pv 3) pa_nil)))))))), ?_⟩
    tm_at "rv"
    have hlen : ((ns.map V.int).length : Int) = (ns.length : Int) := by rw [List.length_map]
    refine ite_d (fun e1 => ?_) (fun e1 => ?_)
    · tm_at "rv"
      obtain ⟨n, en⟩ := item k h0 e1
      refine r_ixL (by tm_at "mv") en ?_
      tm_at "rv"
      refine r_ixL (by tm_at "mv") ix2 ?_
      tm_at "rv"
      exact q _ _ (by tm_at "sm") (by tm_at "fr") ⟨_, _, upd_same⟩
    · tm_at "rv"
      refine ite_d (fun e2 => ?_) (fun e2 => ?_)
      · tm_at "rv"
        obtain ⟨n, en⟩ := item (k % ((ns.map V.int).length : Int)) (Int.emod_nonneg _ (by omega)) (Int.emod_lt_of_pos _ e2)
        refine r_ixL (by tm_at "mv") en ?_
        tm_at "rv"
        refine r_ixL (by tm_at "mv") ix2 ?_
        tm_at "rv"
        exact q _ _ (by tm_at "sm") (by tm_at "fr") ⟨_, _, upd_same⟩
      · tm_at "rv"
        refine r_ixL (by tm_at "mv") ix2 ?_
        tm_at "rv"
        exact q _ _ (by tm_at "sm") (by tm_at "fr") ⟨_, _, upd_same⟩

/-! numbers of up to eight hundred figures -/
theorem big_is : ∃ B : Int, (10 : Int) ^ 800 ≤ B ∧ B + 1000 < 2 ^ 3000 := ⟨10 ^ 800, Int.le_refl _, by decide +kernel⟩
noncomputable def big : Int := Classical.choose big_is
theorem big_div {j : Int} (h : 0 < j) (hb : j ≤ big + 1000) : CDivW 0 j := by
  have e : big + 1000 < 2 ^ 3000 := (Classical.choose_spec big_is).2
  exact cdiv_of (n := 3000) h (Int.lt_of_le_of_lt hb e) (by decide) (by decide)
theorem big_all : (10 : Int) ^ 800 ≤ big := (Classical.choose_spec big_is).1
theorem big_ge {x : Int} (h : x ≤ (10 : Int) ^ 800) : x ≤ big := Int.le_trans h big_all
theorem big_pos : (1000000000000000000000000000000 : Int) ≤ big := big_ge (by decide +kernel)
def sp_number : Sp := fun vs H Q _ => ∃ (b : Addr), vs = [.ref b] ∧ BoxAt H b ∧ ∀ n H', Chg b H H' → BoxAt H' b → 0 ≤ n → n < big → Q (.int n) H'
theorem use_number {H : Hp} {Q : VK} {E : XK} {b : Addr} (h : BoxAt H b) (k : ∀ n H', Chg b H H' → BoxAt H' b → 0 ≤ n → n < big → Q (.int n) H') : sp_number [.ref b] H Q E := ⟨b, rfl, h, k⟩
theorem nines {n : Nat} (m : Nat) (h : NumText.digitsVal ((List.replicate n (Str.ofString "9").cps.toList).flatten) = m) (hn : 0 < n) (h2 : n ≤ 4300) {H : Hp} {Q : VK} (k : Q (.int (m : Int)) H) : rIntX [.str ⟨((List.replicate n (Str.ofString "9").cps.toList).flatten).toArray⟩] H Q := by
  have e : (List.replicate n (Str.ofString "9").cps.toList).flatten = List.replicate n 57 := by
    show (List.replicate n [57]).flatten = _
    clear h hn h2
    induction n with
    | zero => rfl
    | succ n ih => rw [List.replicate_succ, List.flatten_cons, ih]; rfl
  rw [e] at h ⊢
  refine x_intS (cs := List.replicate n 57) ?_ ?_ ?_ h k
  · intro c hc
    rw [List.eq_of_mem_replicate hc]
    decide
  · intro z
    have := congrArg List.length z
    rw [List.length_replicate] at this
    simp at this
    omega
  · rw [List.length_replicate]
    exact h2
theorem mul9 {K : PySem.W.Frag} {H : Hp} {Q : VK} {m : Int} (hm : m = 400 ∨ m = 800) (k : ∀ n : Nat, n = 400 ∨ n = 800 → Q (.str ⟨((List.replicate n (Str.ofString "9").cps.toList).flatten).toArray⟩) H) : rMulA K (.str (Str.ofString "9")) (.int m) H Q := by
  have h1 : (Str.ofString "9").length = 1 := by decide +kernel
  rcases hm with rfl | rfl
  · exact r_mulStr (n := 400) rfl (by rw [h1]; decide) (by decide) (k 400 (.inl rfl))
  · exact r_mulStr (n := 800) rfl (by rw [h1]; decide) (by decide) (k 800 (.inr rfl))
theorem int9 {H : Hp} {Q : VK} {n : Nat} (hn : n = 400 ∨ n = 800) (k : ∀ N : Int, 1000000000000000000000000000000 ≤ N → N < big → Q (.int N) H) : rIntX [.str ⟨((List.replicate n (Str.ofString "9").cps.toList).flatten).toArray⟩] H Q := by
  rcases hn with rfl | rfl
  · exact nines (10 ^ 400 - 1) (by decide +kernel) (by decide) (by decide) (k _ (by decide +kernel) (Int.lt_of_lt_of_le (by decide +kernel : ((10 ^ 400 - 1 : Nat) : Int) < 10 ^ 800) big_all))
  · exact nines (10 ^ 800 - 1) (by decide +kernel) (by decide) (by decide) (k _ (by decide +kernel) (Int.lt_of_lt_of_le (by decide +kernel : ((10 ^ 800 - 1 : Nat) : Int) < 10 ^ 800) big_all))
theorem ok_number (T : Txt K mg) : FnOk P w K mg base CX0 2 T.f_number T.d_number ["box"] sp_number := by
  refine T.F_number.ok sc_number (fun vs H Q E h => ?_) (fun cdv A outer s H vs Q E hr h => ?_)
  · obtain ⟨b, rfl, _⟩ := h
    rfl
  · obtain ⟨b, rfl, hB, k⟩ := h
    refine ⟨_, (pss_cons (ps_set (i := 1) sc_number.nd rfl (Or.inl rfl) (pe_call (ok_take T) hr (by rfl) T.g_take T.F_take.kp T.b_take .nil pass0 (pa_cons (pv 0) (pa_cons pe_int pa_nil))))
      (pss_cons (ps_if (pt_cmpR op_lt (pv 1) pe_int (nomark _))
      (pss_one (ps_ret (pe_call (ok_take T) hr (by rfl) T.g_take T.F_take.kp T.b_take .nil pass0 (pa_cons (pv 0) (pa_cons (pe_ix (ix_k (K := K) rfl) (pe_lst (pa_cons pe_int (pa_cons pe_int (pa_cons pe_int (pa_cons pe_int (pa_cons pe_int (pa_cons (pe_op op_pow pe_int pe_int) pa_nil))))))) (pv 1) (fun _ _ => rfl)) pa_nil))))) pss_nil)
      (pss_one (ps_ret (pe_ix (ix_k (K := K) rfl) (pe_lst (pa_cons (pe_call (ok_take T) hr (by rfl) T.g_take T.F_take.kp T.b_take .nil pass0 (pa_cons (pv 0) (pa_cons (pe_op op_pow pe_int pe_int) pa_nil))) (pa_cons (pe_op op_sub (pe_callTy (int_x (K := K) rfl T.s_msd) (by rfl) T.z_int (by decide +kernel) (pa_cons (pe_op (mul_k (K := K) rfl) pe_str (pe_ix (ix_k (K := K) rfl) (pe_lst (pa_cons pe_int (pa_cons pe_int pa_nil))) (pe_call (ok_take T) hr (by rfl) T.g_take T.F_take.kp T.b_take .nil pass0 (pa_cons (pv 0) (pa_cons pe_int pa_nil))) (fun _ _ => rfl))) pa_nil)) (pe_call (ok_take T) hr (by rfl) T.g_take T.F_take.kp T.b_take .nil pass0 (pa_cons (pv 0) (pa_cons (pe_op op_pow pe_int pe_int) pa_nil)))) pa_nil))) (pe_op op_sub (pv 1) pe_int) (fun _ _ => rfl)))))), ?_⟩
    have g2 := big_pos
    tm_at "rv"
    refine use_take (by tm_at "mv") (by decide) (cdiv_s (by decide) (by decide)) fun form H1 c1 b1 l1 u1 => ?_
    tm_at "rv"
    refine ite_d (fun e1 => ?_) (fun e1 => ?_)
    · tm_at "rv"
      refine r_ixLi (ns := [2, 3, 10, 100, 1000, 10 ^ Int.toNat 6]) (by tm_at "mv") (by rfl) l1 e1 fun n hn => ?_
      have hb : 0 < n ∧ n ≤ 1000000 := by
        have z : ∀ n ∈ ([2, 3, 10, 100, 1000, 10 ^ Int.toNat 6] : List Int), 0 < n ∧ n ≤ 1000000 := by decide
        exact z n hn
      tm_at "rv"
      refine use_take (by tm_at "mv") hb.1 (cdiv_s hb.1 (by omega)) fun d H2 c2 b2 l2 u2 => ?_
      tm_at "rv"
      exact k _ _ (by tm_at "ch") b2 l2 (by omega)
    · tm_at "rv"
      refine use_take (by tm_at "mv") (by decide) (cdiv_of (n := 140) (by decide) (by decide) (by decide) (by decide)) fun d H2 c2 b2 l2 u2 => ?_
      tm_at "rv"
      refine use_take (by tm_at "mv") (by decide) (cdiv_s (by decide) (by decide)) fun d3 H3 c3 b3 l3 u3 => ?_
      tm_at "rv"
      refine r_ixLi (ns := [400, 800]) (by tm_at "mv") (by rfl) l3 u3 fun m hm => ?_
      refine mul9 (by simpa using hm) fun n hn => ?_
      tm_at "rv"
      refine int9 hn fun N n1 n2 => ?_
      tm_at "rv"
      refine use_take (by tm_at "mv") (by decide) (cdiv_of (n := 100) (by decide) (by decide) (by decide) (by decide)) fun d4 H4 c4 b4 l4 u4 => ?_
      have u4 : d4 < 1000000000000000000000000000000 := Int.lt_of_lt_of_le u4 (by decide)
      have u2 : d < big := Int.lt_of_lt_of_le u2 (big_ge (by decide +kernel))
      tm_at "rv"
      refine r_ixLi (ns := [d, N - d4]) (by tm_at "mv") (by rfl) (by omega) (by simp only [List.length_cons, List.length_nil]; omega) fun x hx => ?_
      have hx : 0 ≤ x ∧ x < big := by
        rcases List.mem_cons.mp hx with rfl | hx
        · exact ⟨l2, u2⟩
        · rw [List.mem_singleton.mp hx]
          omega
      tm_at "rv"
      exact k _ _ (by tm_at "ch") (by tm_at "mv") hx.1 hx.2

/-! bases from 2 to 2 ** 40 -/
def sp_base : Sp := fun vs H Q _ => ∃ (b : Addr), vs = [.ref b] ∧ BoxAt H b ∧ ∀ n H', Chg b H H' → BoxAt H' b → 2 ≤ n → n ≤ 1099511627776 → Q (.int n) H'
theorem use_base {H : Hp} {Q : VK} {E : XK} {b : Addr} (h : BoxAt H b) (k : ∀ n H', Chg b H H' → BoxAt H' b → 2 ≤ n → n ≤ 1099511627776 → Q (.int n) H') : sp_base [.ref b] H Q E := ⟨b, rfl, h, k⟩
theorem ok_base (T : Txt K mg) : FnOk P w K mg base CX0 2 T.f_base T.d_base ["box"] sp_base := by
  refine T.F_base.ok sc_base (fun vs H Q E h => ?_) (fun cdv A outer s H vs Q E hr h => ?_)
  · obtain ⟨b, rfl, _⟩ := h
    rfl
  · obtain ⟨b, rfl, hB, k⟩ := h
    refine ⟨_, (pss_cons (ps_set (i := 1) sc_base.nd rfl (Or.inl rfl) (pe_call (ok_take T) hr (by rfl) T.g_take T.F_take.kp T.b_take .nil pass0 (pa_cons (pv 0) (pa_cons pe_int pa_nil))))
      (pss_one (ps_ret (pe_ix (ix_k (K := K) rfl) (pe_lst (pa_cons (pe_op (add_k (K := K) rfl) pe_int (pe_call (ok_take T) hr (by rfl) T.g_take T.F_take.kp T.b_take .nil pass0 (pa_cons (pv 0) (pa_cons pe_int pa_nil)))) (pa_cons (pe_op op_shlW pe_int (pe_op (add_k (K := K) rfl) pe_int (pe_call (ok_take T) hr (by rfl) T.g_take T.F_take.kp T.b_take .nil pass0 (pa_cons (pv 0) (pa_cons pe_int pa_nil))))) (pa_cons (pe_op (add_k (K := K) rfl) pe_int (pe_call (ok_take T) hr (by rfl) T.g_take T.F_take.kp T.b_take .nil pass0 (pa_cons (pv 0) (pa_cons (pe_op op_sub (pe_op op_pow pe_int pe_int) pe_int) pa_nil)))) (pa_cons pe_int pa_nil))))) (pv 1) (fun _ _ => rfl))))), ?_⟩
    tm_at "rv"
    refine use_take (by tm_at "mv") (by decide) (cdiv_s (by decide) (by decide)) fun form H1 c1 b1 l1 u1 => ?_
    tm_at "rv"
    refine use_take (by tm_at "mv") (by decide) (cdiv_s (by decide) (by decide)) fun d2 H2 c2 b2 l2 u2 => ?_
    tm_at "rv"
    refine use_take (by tm_at "mv") (by decide) (cdiv_s (by decide) (by decide)) fun d3 H3 c3 b3 l3 u3 => ?_
    tm_at "rv"
    refine use_take (by tm_at "mv") (by decide) (cdiv_s (by decide) (by decide)) fun d4 H4 c4 b4 l4 u4 => ?_
    have u4 : d4 < 1099511627775 := Int.lt_of_lt_of_le u4 (by decide)
    tm_at "rv"
    refine r_ixLi (ns := [2 + d2, 1 * 2 ^ (1 + d3).toNat, 2 + d4, 10]) (by tm_at "mv") (by rfl) l1 u1 fun x hx => ?_
    have hx : 2 ≤ x ∧ x ≤ 1099511627776 := by
      have p1 := pow2_le (show 1 ≤ (1 + d3).toNat by omega)
      have p2 := pow2_le (show (1 + d3).toNat ≤ 40 by omega)
      have q1 : (2 : Int) ^ 1 = 2 := by decide
      have q2 : (2 : Int) ^ 40 = 1099511627776 := by decide
      rw [q1] at p1
      rw [q2] at p2
      rcases List.mem_cons.mp hx with rfl | hx
      · omega
      rcases List.mem_cons.mp hx with rfl | hx
      · generalize (2 : Int) ^ (1 + d3).toNat = z at p1 p2
        omega
      rcases List.mem_cons.mp hx with rfl | hx
      · omega
      · rw [List.mem_singleton.mp hx]
        decide
    tm_at "rv"
    exact k _ _ (by tm_at "ch") (by tm_at "mv") hx.1 hx.2

/-- so often divided -/
def fdn (n b : Int) : Nat → Int
  | 0 => n
  | k + 1 => fdn n b k / b
def sp_fig : Sp := fun vs H Q _ => ∃ (n b k : Int), vs = [.int n, .int b, .int k] ∧ 2 ≤ b ∧ b ≤ 1099511627776 ∧ 0 ≤ k ∧ k ≤ 300 ∧ Q (.int (fdn n b k.toNat % b)) H
theorem use_fig {H : Hp} {Q : VK} {E : XK} {n b i : Int} (h1 : 2 ≤ b) (h2 : b ≤ 1099511627776) (h3 : 0 ≤ i) (h4 : i ≤ 300) (k : Q (.int (fdn n b i.toNat % b)) H) : sp_fig [.int n, .int b, .int i] H Q E := ⟨n, b, i, rfl, h1, h2, h3, h4, k⟩
theorem fdn_zero {n b : Int} {j : Nat} (h : fdn n b j = 0) : ∀ d : Nat, fdn n b (j + d) = 0
  | 0 => h
  | d + 1 => by
    show fdn n b (j + d) / b = 0
    rw [fdn_zero h d, Int.zero_ediv]
theorem ok_p_figure (T : Txt K mg) : FnOk P w K mg base CX0 1 T.f_p_figure T.d_p_figure ["number", "base", "k"] sp_fig := by
  refine T.F_p_figure.ok sc_p_figure (fun vs H Q E h => ?_) (fun cdv A outer s H vs Q E hr h => ?_)
  · obtain ⟨n, b, k, rfl, _⟩ := h
    rfl
  · obtain ⟨n, b, i, rfl, h1, h2, h3, h4, k⟩ := h
    refine ⟨_, (pss_cons (ps_set (i := 3) sc_p_figure.nd rfl (Or.inl rfl) (pv 0))
      (pss_cons (ps_for PassesOwn.never rfl (pi_range1 (by rfl) T.z_range (pa_cons (pv 2) pa_nil)) (pg_name (i := 4) sc_p_figure.nd rfl (Or.inl rfl))
      (pss_cons (ps_if (pt_cmpR (eq_k (K := K) rfl hr.units) (pv 3) pe_int (nomark _))
      (pss_one (ps_ret pe_int)) pss_nil)
      (pss_one (ps_set (i := 3) sc_p_figure.nd rfl (Or.inl rfl) (pe_op op_fdivW (pv 3) (pv 1))))))
      (pss_one (ps_ret (pe_op op_mod (pv 3) (pv 1)))))), ?_⟩
    tm_at "rv"
    refine for_range (lo := 0) (n := i.toNat) (fun j σ H' => (∃ x4, σ = [some (.int n), some (.int b), some (.int i), some (.int (fdn n b j)), x4]) ∧ H' = H) ⟨⟨_, rfl⟩, rfl⟩ ?_ ?_
    · rintro j σ Hj hj ⟨⟨x4, rfl⟩, rfl⟩
      tm_at "rv"
      refine ite_d (fun e1 => ?_) (fun e1 => ?_)
      · have e2 := fdn_zero e1 (i.toNat - j)
        rw [show j + (i.toNat - j) = i.toNat by omega] at e2
        rw [e2, Int.zero_emod] at k
        tm_at "rv"
        exact k
      · tm_at "rv"
        exact ⟨⟨_, rfl⟩, rfl⟩
    · rintro σ Hj ⟨⟨x4, rfl⟩, rfl⟩
      tm_at "rv"
      exact k
theorem ok_due (T : Txt K mg) : FnOk P w K mg base CX0 1 T.f_due T.d_due ["number", "base", "k"] sp_fig := by
  refine T.F_due.ok sc_due (fun vs H Q E h => ?_) (fun cdv A outer s H vs Q E hr h => ?_)
  · obtain ⟨n, b, k, rfl, _⟩ := h
    rfl
  · obtain ⟨n, b, i, rfl, h1, h2, h3, h4, k⟩ := h
    refine ⟨_, (pss_cons (ps_for PassesOwn.never rfl (pi_range1 (by rfl) T.z_range (pa_cons (pv 2) pa_nil)) (pg_name (i := 3) sc_due.nd rfl (Or.inl rfl))
      (pss_one (ps_set (i := 0) sc_due.nd rfl (Or.inl rfl) (pe_op op_fdivW (pv 0) (pv 1)))))
      (pss_one (ps_ret (pe_op op_mod (pv 0) (pv 1))))), ?_⟩
    tm_at "rv"
    refine for_range (lo := 0) (n := i.toNat) (fun j σ H' => (∃ x3, σ = [some (.int (fdn n b j)), some (.int b), some (.int i), x3]) ∧ H' = H) ⟨⟨_, rfl⟩, rfl⟩ ?_ ?_
    · rintro j σ Hj hj ⟨⟨x3, rfl⟩, rfl⟩
      tm_at "rv"
      exact ⟨⟨_, rfl⟩, rfl⟩
    · rintro σ Hj ⟨⟨x3, rfl⟩, rfl⟩
      tm_at "rv"
      exact k
/-- what is asked of figure: a number, a base, a place -/
def sp_drawn : Sp := fun vs H Q _ => ∃ (b : Addr), vs = [.ref b] ∧ BoxAt H b ∧ ∀ t H' n s i, Chg b H H' → BoxAt H' b → H t = none → H' t = some (.tup [.int n, .int s, .int i]) → 2 ≤ s → s ≤ 1099511627776 → 0 ≤ i → i ≤ 300 → Q (.ref t) H'
theorem use_drawn {H : Hp} {Q : VK} {E : XK} {b : Addr} (h : BoxAt H b) (k : ∀ t H' n s i, Chg b H H' → BoxAt H' b → H t = none → H' t = some (.tup [.int n, .int s, .int i]) → 2 ≤ s → s ≤ 1099511627776 → 0 ≤ i → i ≤ 300 → Q (.ref t) H') : sp_drawn [.ref b] H Q E := ⟨b, rfl, h, k⟩
theorem ok_drawn (T : Txt K mg) : FnOk P w K mg base CX0 3 T.f_drawn T.d_drawn ["box"] sp_drawn := by
  refine T.F_drawn.ok sc_drawn (fun vs H Q E h => ?_) (fun cdv A outer s H vs Q E hr h => ?_)
  · obtain ⟨b, rfl, _⟩ := h
    rfl
  · obtain ⟨b, rfl, hB, k⟩ := h
    have g2 := big_pos
    refine ⟨_, (pss_cons (ps_par (i := 1) (j := 2) rfl sc_drawn.nd rfl rfl (by decide) rfl rfl (pa_cons (pe_call (ok_number T) hr (by rfl) T.g_number T.F_number.kp T.b_number .nil pass0 (pa_cons (pv 0) pa_nil)) (pa_cons (pe_call (ok_base T) hr (by rfl) T.g_base T.F_base.kp T.b_base .nil pass0 (pa_cons (pv 0) pa_nil)) pa_nil)) (by rfl))
      (pss_cons (ps_par (i := 3) (j := 4) rfl sc_drawn.nd rfl rfl (by decide) rfl rfl (pa_cons pe_int (pa_cons (pv 1) pa_nil)) (by rfl))
      (pss_cons (ps_while PassesOwn.never (pt_cmpR op_gt (pv 4) pe_int (nomark _))
      (pss_one (ps_par (i := 4) (j := 3) rfl sc_drawn.nd rfl rfl (by decide) rfl rfl (pa_cons (pe_op op_fdivW (pv 4) (pv 2)) (pa_cons (pe_op (add_k (K := K) rfl) (pv 3) pe_int) pa_nil)) (by rfl))))
      (pss_cons (ps_set (i := 5) sc_drawn.nd rfl (Or.inl rfl) (pe_lst (pa_cons (pv 3) (pa_cons (pe_callB (max_k (K := K) rfl rfl) (by rfl) T.z_max (by decide +kernel) (pa_cons pe_int (pa_cons (pe_op op_sub (pv 3) pe_int) pa_nil))) (pa_cons (pe_call (ok_take T) (hr.mono (by decide)) (by rfl) T.g_take T.F_take.kp T.b_take .nil pass0 (pa_cons (pv 0) (pa_cons (pe_op (add_k (K := K) rfl) (pv 3) pe_int) pa_nil))) (pa_cons (pe_call (ok_take T) (hr.mono (by decide)) (by rfl) T.g_take T.F_take.kp T.b_take .nil pass0 (pa_cons (pv 0) (pa_cons pe_int pa_nil))) pa_nil))))))
      (pss_one (ps_ret (pe_tup (pa_cons (pv 1) (pa_cons (pv 2) (pa_cons (pe_callB (min_k (K := K) rfl rfl) (by rfl) T.z_min (by decide +kernel) (pa_cons pe_int (pa_cons (pe_ix (ix_k (K := K) rfl) (pv 5) (pe_call (ok_take T) (hr.mono (by decide)) (by rfl) T.g_take T.F_take.kp T.b_take .nil pass0 (pa_cons (pv 0) (pa_cons pe_int pa_nil))) (fun _ _ => rfl)) pa_nil))) pa_nil)))))))))), ?_⟩
    tm_at "rv"
    refine use_number (by tm_at "mv") fun n H1 c1 b1 l1 u1 => ?_
    tm_at "rv"
    refine use_base (by tm_at "mv") fun s H2 c2 b2 l2 u2 => ?_
    tm_at "rv"
    refine while_by (fun σ H' => (∃ m l : Int, σ = [some (.ref b), some (.int n), some (.int s), some (.int m), some (.int l), none] ∧ 0 ≤ l ∧ 0 ≤ m ∧ l + m ≤ n) ∧ H' = H2) (fun σ _ => match (σ : List (Option V))[4]? with | some (some (V.int l)) => l.toNat | _ => 0) ⟨⟨0, n, rfl, l1, by omega, by omega⟩, rfl⟩ ?_ ?_
    · rintro σ Hj ⟨⟨m, l, rfl, hl, hm, hs⟩, rfl⟩
      tm_at "rv"
      refine ite_d (fun e1 => ?_) (fun e1 => ?_)
      · tm_at "rv"
        have z := ediv_down e1 l2
        refine ⟨⟨⟨_, _, rfl, z.1, by omega, by omega⟩, rfl⟩, ?_⟩
        show (l / s).toNat < l.toNat
        omega
      · tm_at "rv"
        refine use_take (by tm_at "mv") (by omega) (big_div (by omega) (by omega)) fun d5 H5 c5 b5 l5 u5 => ?_
        tm_at "rv"
        refine use_take (by tm_at "mv") (by decide) (cdiv_s (by decide) (by decide)) fun d6 H6 c6 b6 l6 u6 => ?_
        tm_at "rv"
        refine use_take (by tm_at "mv") (by decide) (cdiv_s (by decide) (by decide)) fun d7 H7 c7 b7 l7 u7 => ?_
        tm_at "rv"
        rename_i m' z1 z2 z3 _ _
        refine r_ixLi (ns := [m, m', d5, d6]) (by tm_at "mv") (by rfl) l7 u7 fun x hx => ?_
        have hx : 0 ≤ x := by
          have hz : ∀ y ∈ [m, m', d5, d6], 0 ≤ y := by
            intro y hy
            simp only [List.mem_cons, List.not_mem_nil, or_false] at hy
            rcases hy with rfl | rfl | rfl | rfl <;> omega
          exact hz x hx
        tm_at "rv"
        exact k _ _ n s _ (by tm_at "ch") (by tm_at "mv") (chg_fr (by assumption) (by tm_at "mv") (by tm_at "ch")) upd_same l2 u2 (by omega) (by omega)
    · rintro σ H Q Q' hq ⟨v, e, i, j, a1, a2, k, z, q⟩
      exact ⟨v, e, i, j, a1, a2, k, z, hq _ _ q⟩
def sp_law (K : PySem.W.Frag) : Sp := fun vs H Q _ => ∃ (a : Addr) (ns : List Int), vs = [.ref a] ∧ SqL K H a (ns.map V.int) ∧ ns.length ≤ 63 ∧ ∀ H', Q (.bl true) H'
theorem sp_law_of {K : PySem.W.Frag} {H : Hp} {a : Addr} {ns : List Int} (h1 : ns.length ≤ 63) (h : SqL K H a (ns.map V.int)) : sp_law K [.ref a] H (fun v _ => v = .bl true) fun _ _ _ => False := ⟨a, ns, rfl, h, h1, fun _ => rfl⟩
/-- one thing that is asked -/
def Asked (H : Hp) (t : Addr) : Prop := ∃ n s i : Int, H t = some (.tup [.int n, .int s, .int i]) ∧ 2 ≤ s ∧ s ≤ 1099511627776 ∧ 0 ≤ i ∧ i ≤ 300
theorem Asked.to {H H' : Hp} {t : Addr} (h : Asked H t) (m : ∀ o, H t = some o → H' t = some o) : Asked H' t := by
  obtain ⟨n, s, i, e, r⟩ := h
  exact ⟨n, s, i, m _ e, r⟩
theorem Asked.ne {H : Hp} {t D : Addr} {xs : List V} (h : Asked H t) (d : H D = some (.lst xs)) : t ≠ D := by
  obtain ⟨n, s, i, e, r⟩ := h
  exact ne_of e d (by intro z; cases z)
theorem ok_law (T : Txt K mg) : FnOk P w K mg base CX0 4 T.f_law T.d_law ["script"] (sp_law K) := by
  refine T.F_law.ok sc_law (fun vs H Q E h => ?_) (fun cdv A outer s H vs Q E hr h => ?_)
  · obtain ⟨a, ns, rfl, _⟩ := h
    rfl
  · obtain ⟨a, ns, rfl, hS, hn, k⟩ := h
    refine ⟨_, (pss_cons (ps_setLc (i := 2) (own := [("k", 1)]) rfl sc_law.nd rfl rfl (sw_true rfl rfl rfl (by decide +kernel)) (pi_range1 (by rfl) T.z_range (pa_cons (pe_callB (max_k (K := K) rfl rfl) (by rfl) T.z_max (by decide +kernel) (pa_cons pe_int (pa_cons (pe_callB (min_k (K := K) rfl rfl) (by rfl) T.z_min (by decide +kernel) (pa_cons pe_int (pa_cons (pe_callB (len_k (K := K) rfl) (by rfl) T.z_len (by decide +kernel) (pa_cons (pv 0) pa_nil)) pa_nil))) pa_nil))) pa_nil)) (blkOk_by (N := ["script", "k", "some", "number", "base", "found"]) (sc := defScope s_law) (own := [("k", 1)]) (by decide +kernel)) (fun _ _ _ _ _ => (pg_name (i := 1) sc_law.nd rfl (Or.inl rfl))) (fun _ _ _ _ _ => pts_nil) (fun _ _ _ _ _ => (pe_call (ok_drawn T) hr (by rfl) T.g_drawn T.F_drawn.kp T.b_drawn .nil pass0 (pa_cons (pe_call (ok_box T) (hr.mono (by decide)) (by rfl) T.g_box T.F_box.kp T.b_box .nil pass0 (pa_cons (pv 0) (pa_cons (pv 1) pa_nil))) pa_nil))))
      (pss_cons (ps_for PassesOwn.never rfl (any_pi (K := K) rfl (pe_op (add_k (K := K) rfl) (pv 2) (pe_slice (sl_k (K := K) rfl) (pv 2) po_none (po_some pe_int)))) (pg_tup rfl (pgs_cons (pg_name (i := 3) sc_law.nd rfl (Or.inl rfl)) (pgs_cons (pg_name (i := 4) sc_law.nd rfl (Or.inl rfl)) (pgs_cons (pg_name (i := 1) sc_law.nd rfl (Or.inl rfl)) pgs_nil))))
      (pss_cons (ps_set (i := 5) sc_law.nd rfl (Or.inl rfl) (pe_call (ok_p_figure T) (hr.mono (by decide)) (by rfl) T.g_p_figure T.F_p_figure.kp T.b_p_figure .nil pass0 (pa_cons (pv 3) (pa_cons (pv 4) (pa_cons (pv 1) pa_nil)))))
      (pss_one (ps_if (PW.pt (pw_or (pt_truth (pe_callB (isi_k (K := K) rfl) (by rfl) T.z_isinstance (by decide +kernel) (pa_cons (pv 5) (pa_cons (pe_bltn (v := .ty "bool") (by rfl) T.z_bool (by decide +kernel) rfl) pa_nil))) (by intro _; rfl)) (pw_or (pt_not (pt_truth (pe_callB (isi_k (K := K) rfl) (by rfl) T.z_isinstance (by decide +kernel) (pa_cons (pv 5) (pa_cons (pe_bltn (v := .ty "int") (by rfl) T.z_int (by decide +kernel) rfl) pa_nil))) (by intro _; rfl))) (pw_or1 (pt_cmpR (ne_k (K := K) rfl hr.units) (pv 5) (pe_call (ok_due T) (hr.mono (by decide)) (by rfl) T.g_due T.F_due.kp T.b_due .nil pass0 (pa_cons (pv 3) (pa_cons (pv 4) (pa_cons (pv 1) pa_nil)))) (nomark _))))))
      (pss_one (ps_ret pe_bl)) pss_nil))))
      (pss_one (ps_ret pe_bl)))), ?_⟩
    have hlen : (ns.map V.int).length = ns.length := List.length_map _
    tm_at "rv"
    rename_i m1 _ _ _ m2 _ _ _
    intro D nD
    refine lc_range (lo := 0) (n := m2.toNat) (fun i H' => ∃ ts : List Addr, H' D = some (.lst (ts.map V.ref)) ∧ ts.length = i ∧ Sm H H' ∧ ∀ t ∈ ts, Asked H' t) ⟨[], upd_same, rfl, sm_upd nD, by simp⟩ ?_ ?_
    · rintro i Hi hi ⟨ts, hD, ht, si, ha⟩
      tm_at "rv"
      refine use_box (si.seq hS) (by omega) fun b H2 s2 n2 b2 => ?_
      tm_at "rv"
      refine use_drawn b2 fun t H3 n s x c3 b3 nt et r1 r2 r3 r4 => ?_
      tm_at "rv"
      have s3 : Sm Hi H3 := c3.sm s2 n2
      have hD3 := s3.to _ _ hD
      refine r_acc hD3 (small1000 (by rw [List.length_map]; omega)) ⟨ts ++ [t], ?_, ?_, sm_acc (si.trans s3) nD, ?_⟩
      · rw [upd_same, List.map_append]
        rfl
      · rw [List.length_append, ht]
        rfl
      · intro y hy
        have hy3 : Asked H3 y := by
          rcases List.mem_append.mp hy with hy | hy
          · exact (ha y hy).to fun o e => s3.to _ _ e
          · rw [List.mem_singleton.mp hy]
            exact ⟨n, s, x, et, r1, r2, r3, r4⟩
        have hne := hy3.ne hD3
        exact hy3.to fun o e => by rw [upd_ne hne]; exact e
    · rintro Hi ⟨ts, hD, ht, si, ha⟩
      tm_at "rv"
      refine r_iL ?_
      tm_at "rv"
      refine r_slL (SqL.of hD) fun p np => ?_
      have hc := cutV_le (ts.map V.ref) none (some 1)
      have ht2 : (ts.map V.ref).length = ts.length := List.length_map _
      refine r_addL (by tm_at "mv") (by tm_at "mv") (len_le (by omega)) fun q H5 s5 nq eq => ?_
      refine r_aL (SqL.of eq) ?_
      refine for_list (K := K) (a := q) (xs := ts.map V.ref ++ cutV (ts.map V.ref) none (some 1)) (fun l σ H' => (∃ x1 x2 x3 x4 x5, σ = [some (.ref a), x1, x2, x3, x4, x5]) ∧ Sm H5 H') ⟨⟨_, _, _, _, _, rfl⟩, Sm.refl _⟩ (fun l σ H' _ h => h.2.seq (SqL.of eq)) ?_ ?_
      · rintro l x σ H6 hx ⟨⟨x1, x2, x3, x4, x5, rfl⟩, s6⟩
        obtain ⟨t, hm, rfl⟩ : ∃ t ∈ ts, V.ref t = x := by
          have hm := List.mem_of_getElem? hx
          rcases List.mem_append.mp hm with hm | hm
          · exact List.mem_map.mp hm
          · exact List.mem_map.mp (cutV_mem hm)
        obtain ⟨n, s, i, et, r1, r2, r3, r4⟩ := ha t hm
        have et : H6 t = some (.tup [.int n, .int s, .int i]) := s6.to _ _ (s5.to _ _ ((sm_upd np).to _ _ et))
        tm_at "rv"
        refine use_fig r1 r2 r3 r4 ?_
        tm_at "rv"
        refine use_fig r1 r2 r3 r4 ?_
        tm_at "rv"
        refine ite_n (fun e => absurd rfl e) (fun _ => ?_)
        tm_at "rv"
        exact ⟨⟨_, _, _, _, _, rfl⟩, s6⟩
      · rintro σ H6 ⟨⟨x1, x2, x3, x4, x5, rfl⟩, s6⟩
        tm_at "rv"
        exact k _
end
theorem all_mk {l : PySem.W.OpenLaw} {w : World} {K : PySem.W.Frag} {h : Heap} {mg : Str → Option Value} {fa : Addr} (X : K.In h) (G : h.Ns mainGlobals mg) (hfa : mg "law" = some (.ref fa))
    {f0 : Addr}
    {od0 an0 : Option Addr}
    {sl0 : Array (Option Value)}
    {oc0 kV0 dc0 pm0 cd0 ct0 : Value}
    {f1 : Addr}
    {od1 an1 : Option Addr}
    {sl1 : Array (Option Value)}
    {oc1 kV1 dc1 pm1 cd1 ct1 : Value}
    {f2 : Addr}
    {od2 an2 : Option Addr}
    {sl2 : Array (Option Value)}
    {oc2 kV2 dc2 pm2 cd2 ct2 : Value}
    {f3 : Addr}
    {od3 an3 : Option Addr}
    {sl3 : Array (Option Value)}
    {oc3 kV3 dc3 pm3 cd3 ct3 : Value}
    {f4 : Addr}
    {od4 an4 : Option Addr}
    {sl4 : Array (Option Value)}
    {oc4 kV4 dc4 pm4 cd4 ct4 : Value}
    {f5 : Addr}
    {od5 an5 : Option Addr}
    {sl5 : Array (Option Value)}
    {oc5 kV5 dc5 pm5 cd5 ct5 : Value}
    {f6 : Addr}
    {od6 an6 : Option Addr}
    {sl6 : Array (Option Value)}
    {oc6 kV6 dc6 pm6 cd6 ct6 : Value}
    {f7 : Addr}
    {od7 an7 : Option Addr}
    {sl7 : Array (Option Value)}
    {oc7 kV7 dc7 pm7 cd7 ct7 : Value}
    (a0 : PySem.W.nsIn K mainGlobals "_law_take" = some (some (.ref f0)))
    (l0 : K.lookup f0 = some ⟨oc0, od0, .func (PySem.W.fnOf "_law_take" "_law_take" (defArgs s_take) (defBody s_take) (defScope s_take) .none kV0 dc0 pm0 an0 cd0 ct0), sl0⟩)
    (c0 : PySem.W.codeIn K cd0 "_law_take" = true)
    (k0 : PySem.W.keepIn K (.ref f0) = true)
    (a1 : PySem.W.nsIn K mainGlobals "_law_number" = some (some (.ref f1)))
    (l1 : K.lookup f1 = some ⟨oc1, od1, .func (PySem.W.fnOf "_law_number" "_law_number" (defArgs s_number) (defBody s_number) (defScope s_number) .none kV1 dc1 pm1 an1 cd1 ct1), sl1⟩)
    (c1 : PySem.W.codeIn K cd1 "_law_number" = true)
    (k1 : PySem.W.keepIn K (.ref f1) = true)
    (a2 : PySem.W.nsIn K mainGlobals "_law_base" = some (some (.ref f2)))
    (l2 : K.lookup f2 = some ⟨oc2, od2, .func (PySem.W.fnOf "_law_base" "_law_base" (defArgs s_base) (defBody s_base) (defScope s_base) .none kV2 dc2 pm2 an2 cd2 ct2), sl2⟩)
    (c2 : PySem.W.codeIn K cd2 "_law_base" = true)
    (k2 : PySem.W.keepIn K (.ref f2) = true)
    (a3 : PySem.W.nsIn K mainGlobals "_law_drawn" = some (some (.ref f3)))
    (l3 : K.lookup f3 = some ⟨oc3, od3, .func (PySem.W.fnOf "_law_drawn" "_law_drawn" (defArgs s_drawn) (defBody s_drawn) (defScope s_drawn) .none kV3 dc3 pm3 an3 cd3 ct3), sl3⟩)
    (c3 : PySem.W.codeIn K cd3 "_law_drawn" = true)
    (k3 : PySem.W.keepIn K (.ref f3) = true)
    (a4 : PySem.W.nsIn K mainGlobals "figure" = some (some (.ref f4)))
    (l4 : K.lookup f4 = some ⟨oc4, od4, .func (PySem.W.fnOf "figure" "figure" (defArgs s_p_figure) (defBody s_p_figure) (defScope s_p_figure) .none kV4 dc4 pm4 an4 cd4 ct4), sl4⟩)
    (c4 : PySem.W.codeIn K cd4 "figure" = true)
    (k4 : PySem.W.keepIn K (.ref f4) = true)
    (a5 : PySem.W.nsIn K mainGlobals "_law_box" = some (some (.ref f5)))
    (l5 : K.lookup f5 = some ⟨oc5, od5, .func (PySem.W.fnOf "_law_box" "_law_box" (defArgs s_box) (defBody s_box) (defScope s_box) .none kV5 dc5 pm5 an5 cd5 ct5), sl5⟩)
    (c5 : PySem.W.codeIn K cd5 "_law_box" = true)
    (k5 : PySem.W.keepIn K (.ref f5) = true)
    (a6 : PySem.W.nsIn K mainGlobals "_law_due" = some (some (.ref f6)))
    (l6 : K.lookup f6 = some ⟨oc6, od6, .func (PySem.W.fnOf "_law_due" "_law_due" (defArgs s_due) (defBody s_due) (defScope s_due) .none kV6 dc6 pm6 an6 cd6 ct6), sl6⟩)
    (c6 : PySem.W.codeIn K cd6 "_law_due" = true)
    (k6 : PySem.W.keepIn K (.ref f6) = true)
    (a7 : PySem.W.nsIn K mainGlobals "law" = some (some (.ref f7)))
    (l7 : K.lookup f7 = some ⟨oc7, od7, .func (PySem.W.fnOf "law" "law" (defArgs s_law) (defBody s_law) (defScope s_law) .none kV7 dc7 pm7 an7 cd7 ct7), sl7⟩)
    (c7 : PySem.W.codeIn K cd7 "law" = true)
    (k7 : PySem.W.keepIn K (.ref f7) = true)
    (z0 : PySem.W.nsIn K mainGlobals "bool" = some none)
    (z1 : PySem.W.nsIn K mainGlobals "int" = some none)
    (z2 : PySem.W.nsIn K mainGlobals "isinstance" = some none)
    (z3 : PySem.W.nsIn K mainGlobals "len" = some none)
    (z4 : PySem.W.nsIn K mainGlobals "max" = some none)
    (z5 : PySem.W.nsIn K mainGlobals "min" = some none)
    (z6 : PySem.W.nsIn K mainGlobals "range" = some none)
    (zm : PySem.W.nsIn K cStatics "sys.int_max_str_digits" = some none)
    : ∃ fd : FuncData, (∀ (s : Shared) (v : Value), BindsTo s fd ⟨[v], []⟩ [("script", v)]) ∧ ∀ base : Heap, K.In base → base.Ns mainGlobals mg → FnOk l.prog w K mg base CX0 4 fa fd ["script"] (sp_law K) := by
  have e := hfa.symm.trans (PySem.W.mg_of X G a7)
  cases e
  have F0 := fun_mk (st := s_take) l0 c0 k0
  have b0 := F0.binds (ps := ["box", "wide"]) fun _ _ _ _ _ _ us hl => match us, hl with | [_, _], _ => rfl
  have F1 := fun_mk (st := s_number) l1 c1 k1
  have b1 := F1.binds (ps := ["box"]) fun _ _ _ _ _ _ us hl => match us, hl with | [_], _ => rfl
  have F2 := fun_mk (st := s_base) l2 c2 k2
  have b2 := F2.binds (ps := ["box"]) fun _ _ _ _ _ _ us hl => match us, hl with | [_], _ => rfl
  have F3 := fun_mk (st := s_drawn) l3 c3 k3
  have b3 := F3.binds (ps := ["box"]) fun _ _ _ _ _ _ us hl => match us, hl with | [_], _ => rfl
  have F4 := fun_mk (st := s_p_figure) l4 c4 k4
  have b4 := F4.binds (ps := ["number", "base", "k"]) fun _ _ _ _ _ _ us hl => match us, hl with | [_, _, _], _ => rfl
  have F5 := fun_mk (st := s_box) l5 c5 k5
  have b5 := F5.binds (ps := ["script", "k"]) fun _ _ _ _ _ _ us hl => match us, hl with | [_, _], _ => rfl
  have F6 := fun_mk (st := s_due) l6 c6 k6
  have b6 := F6.binds (ps := ["number", "base", "k"]) fun _ _ _ _ _ _ us hl => match us, hl with | [_, _, _], _ => rfl
  have F7 := fun_mk (st := s_law) l7 c7 k7
  have b7 := F7.binds (ps := ["script"]) fun _ _ _ _ _ _ us hl => match us, hl with | [_], _ => rfl
  exact ⟨PySem.W.fnOf "law" "law" (defArgs s_law) (defBody s_law) (defScope s_law) .none kV7 dc7 pm7 an7 cd7 ct7, fun s v => .of_eq rfl, fun base _ _ => ok_law (⟨_, _, F0, PySem.W.mg_of X G a0, b0, _, _, F1, PySem.W.mg_of X G a1, b1, _, _, F2, PySem.W.mg_of X G a2, b2, _, _, F3, PySem.W.mg_of X G a3, b3, _, _, F4, PySem.W.mg_of X G a4, b4, _, _, F5, PySem.W.mg_of X G a5, b5, _, _, F6, PySem.W.mg_of X G a6, b6, _, _, F7, PySem.W.mg_of X G a7, b7, PySem.W.mg_none_of X G z0, PySem.W.mg_none_of X G z1, PySem.W.mg_none_of X G z2, PySem.W.mg_none_of X G z3, PySem.W.mg_none_of X G z4, PySem.W.mg_none_of X G z5, PySem.W.mg_none_of X G z6, zm⟩ : Txt K mg)⟩
end K15
open PySem PySem.W PyProof.Rows
set_option maxRecDepth 100000 in
set_option maxHeartbeats 0 in
theorem PySem.Challenge.cw_runsums_k15_one_figure_holds : PySem.Challenge.rw_runsums_k15_one_figure.Holds := by
  w_on; o_law; k_head; (case hw => w_witness2)
  k_fill
  refine L2.walk_of (l := PySem.Challenge.rw_runsums_k15_one_figure) (n := 63) (k := 4) (x := "script") (CX := fun _ => L2.CX0) (sp := fun w => K15.sp_law _) rfl (by decide) rfl ⟨rfl, by decide, by decide⟩ (fun w h Y => PySem.W.kIn_of Y) ?F (fun _ _ a ns hl _ hS => K15.sp_law_of hl hS) (fun _ _ _ _ _ h => h)
  case F =>
    intro w mg fa h KX G hmg
    refine' K15.all_mk KX G hmg ?a0 ?l0 ?c0 ?k0 ?a1 ?l1 ?c1 ?k1 ?a2 ?l2 ?c2 ?k2 ?a3 ?l3 ?c3 ?k3 ?a4 ?l4 ?c4 ?k4 ?a5 ?l5 ?c5 ?k5 ?a6 ?l6 ?c6 ?k6 ?a7 ?l7 ?c7 ?k7 ?z0 ?z1 ?z2 ?z3 ?z4 ?z5 ?z6 ?zm
    (case a0 => k_is)
    (case l0 => k_is)
    (case c0 => k_is)
    (case k0 => k_is)
    (case a1 => k_is)
    (case l1 => k_is)
    (case c1 => k_is)
    (case k1 => k_is)
    (case a2 => k_is)
    (case l2 => k_is)
    (case c2 => k_is)
    (case k2 => k_is)
    (case a3 => k_is)
    (case l3 => k_is)
    (case c3 => k_is)
    (case k3 => k_is)
    (case a4 => k_is)
    (case l4 => k_is)
    (case c4 => k_is)
    (case k4 => k_is)
    (case a5 => k_is)
    (case l5 => k_is)
    (case c5 => k_is)
    (case k5 => k_is)
    (case a6 => k_is)
    (case l6 => k_is)
    (case c6 => k_is)
    (case k6 => k_is)
    (case a7 => k_is)
    (case l7 => k_is)
    (case c7 => k_is)
    (case k7 => k_is)
    (case z0 => k_is)
    (case z1 => k_is)
    (case z2 => k_is)
    (case z3 => k_is)
    (case z4 => k_is)
    (case z5 => k_is)
    (case z6 => k_is)
    (case zm => k_is)

