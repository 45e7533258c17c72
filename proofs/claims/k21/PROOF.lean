import PyProof.Rows.All
import Wide.All
import OpenK.AllK
import Wide.FinOn
import HandS.ForMost
import HandS.Wide
import HandS.WideBits
import HandS.WideMore
import HandS.Flow
import HandS.IsInst
import HandS.Style
import HandS.TupAny
import HandS.TupMul
import HandS.Deep
import HandS.RaiseMore
import HandS.Walk
import HandS.Codes
import HandS.Rev
import KE.KIntText
import PyProof.ReprRoads
import HandS.IntHex
import PyProof.Rows.StrIntSpec
import PyProof.FString3
import HandS.FStr
import PyProof.Rows.BitMore
import PyProof.Rows.StrCountLaw
import KE.BitLaws
import KE.IntBitsLaws
import HandS.Dict
import HandS.Small
import HandS.SlotsOwn
import KE.KCallOwn
import OpenK.KOps
import HandS.Zip
import HandS.WrittenGet
import HandS.Defaults
import HandS.Gcd
import KE.KMathGC
import PySem.Challenge.RW_runsums_k21_whole_masks_figure_by_figure
set_option Elab.async false
set_option linter.all false
set_option maxRecDepth 100000
set_option maxHeartbeats 4000000
/-! own layer over the hand layer: heaps that grow, rules for values of any kind, readings step by step -/
namespace RV
open PySem PySem.Spec L2
open PyProof.Rows hiding St

/-! ### heaps -/
/-- all that was tracked is as it was -/
structure Sm (H H' : Hp) : Prop where
  to : ∀ a o, H a = some o → H' a = some o
/-- all but what stands at b is as it was -/
structure Chg (b : Addr) (H H' : Hp) : Prop where
  to : ∀ a o, a ≠ b → H a = some o → H' a = some o
theorem Sm.refl (H : Hp) : Sm H H := ⟨fun _ _ h => h⟩
theorem Sm.trans {H H1 H2 : Hp} (a : Sm H H1) (b : Sm H1 H2) : Sm H H2 := ⟨fun c o h => b.to c o (a.to c o h)⟩
theorem Sm.same {H H1 : Hp} (a : Sm H H1) : Same H H1 := a.to
theorem Same.sm {H H1 : Hp} (a : Same H H1) : Sm H H1 := ⟨a⟩
theorem Chg.refl (b : Addr) (H : Hp) : Chg b H H := ⟨fun _ _ _ h => h⟩
theorem Chg.trans {b : Addr} {H H1 H2 : Hp} (a : Chg b H H1) (c : Chg b H1 H2) : Chg b H H2 := ⟨fun d o n h => c.to d o n (a.to d o n h)⟩
theorem Sm.chg {b : Addr} {H H1 : Hp} (a : Sm H H1) : Chg b H H1 := ⟨fun d o _ h => a.to d o h⟩
theorem Chg.sm {b : Addr} {H H1 H2 : Hp} (c : Sm H H1) (n : H b = none) (a : Chg b H1 H2) : Sm H H2 := ⟨fun d o h => a.to d o (ne_of_none h n) (c.to d o h)⟩
theorem Sm.free {H H' : Hp} (e : Sm H H') {l : Addr} (h : H' l = none) : H l = none := by
  cases q : H l with
  | none => rfl
  | some o =>
    rw [e.to l o q] at h
    cases h
theorem sm_upd {H : Hp} {p : Addr} {o : HO} (h : H p = none) : Sm H (upd H p o) := ⟨fun b x e => by
  rw [upd_ne (ne_of_none e h)]
  exact e⟩
theorem chg_upd {H : Hp} {p : Addr} {o : HO} : Chg p H (upd H p o) := ⟨fun b x n e => by
  rw [upd_ne n]
  exact e⟩
/-- the heap without what stands at b -/
def hide (b : Addr) (H : Hp) : Hp := fun a => if a = b then none else H a
theorem hide_ne {b a : Addr} {H : Hp} (n : a ≠ b) : hide b H a = H a := by unfold hide; rw [if_neg n]
theorem hide_self {b : Addr} {H : Hp} : hide b H b = none := by unfold hide; rw [if_pos rfl]
theorem hide_some {b a : Addr} {H : Hp} {o : HO} (h : hide b H a = some o) : a ≠ b ∧ H a = some o := by
  by_cases e : a = b
  · subst e
    rw [hide_self] at h
    cases h
  · rw [hide_ne e] at h
    exact ⟨e, h⟩
theorem hide_sm {b : Addr} {H : Hp} : Sm (hide b H) H := ⟨fun _ _ h => (hide_some h).2⟩
theorem Chg.hide {b : Addr} {H H' : Hp} (c : Chg b H H') : Sm (RV.hide b H) (RV.hide b H') := ⟨fun a o h => by
  obtain ⟨n, e⟩ := hide_some h
  rw [hide_ne n]
  exact c.to a o n e⟩
theorem hide_new {b p : Addr} {H H' : Hp} {o u : HO} (hb : H b = some u) (np : H p = none) (hp : H' p = some o) : RV.hide b H' p = some o := by
  rw [hide_ne (ne_of_none hb np).symm]
  exact hp
theorem Sm.seq {K : PySem.W.Frag} {H H' : Hp} {a : Addr} {xs : List V} (e : Sm H H') (h : SqL K H a xs) : SqL K H' a xs := Same.seq e.to h
theorem Sm.seqT {K : PySem.W.Frag} {H H' : Hp} {a : Addr} {xs : List V} (e : Sm H H') (h : SqT K H a xs) : SqT K H' a xs := by
  rcases h with (h | ⟨o, h⟩) | h
  · exact .inl (.inl (e.to _ _ h))
  · exact .inl (.inr ⟨o, e.to _ _ h⟩)
  · exact .inr h
mutual
theorem Sm.dp {K : PySem.W.Frag} {H H' : Hp} (e : Sm H H') : ∀ {v : V} {d : PyData}, Dp K H v d → Dp K H' v d
  | _, _, .non => .non
  | _, _, .bl b => .bl b
  | _, _, .int i => .int i
  | _, _, .str x => .str x
  | _, _, .lst h t => .lst (e.seq h) (e.dps t)
  | _, _, .tup h t => .tup (e.seqT h) (e.dps t)
theorem Sm.dps {K : PySem.W.Frag} {H H' : Hp} (e : Sm H H') : ∀ {vs : List V} {ds : List PyData}, DpAll K H vs ds → DpAll K H' vs ds
  | _, _, .nil => .nil
  | _, _, .cons h t => .cons (e.dp h) (e.dps t)
end
theorem DpAll.length {K : PySem.W.Frag} {H : Hp} : ∀ {vs : List V} {ds : List PyData}, DpAll K H vs ds → vs.length = ds.length
  | _, _, .nil => rfl
  | _, _, .cons _ t => congrArg Nat.succ (DpAll.length t)
theorem DpAll.get {K : PySem.W.Frag} {H : Hp} : ∀ {vs : List V} {ds : List PyData} {i : Nat} {d : PyData}, DpAll K H vs ds → ds[i]? = some d → ∃ v, vs[i]? = some v ∧ Dp K H v d
  | _, _, _, _, .nil, e => by simp at e
  | _, _, 0, _, .cons r _, e => by
    simp at e
    subst e
    exact ⟨_, rfl, r⟩
  | _, _, i + 1, d, .cons _ t, e => by
    obtain ⟨v, h1, h2⟩ := DpAll.get (i := i) (d := d) t (by simpa using e)
    exact ⟨v, by simpa using h1, h2⟩
theorem DpAll.app {K : PySem.W.Frag} {H : Hp} : ∀ {vs us : List V} {ds es : List PyData}, DpAll K H vs ds → DpAll K H us es → DpAll K H (vs ++ us) (ds ++ es)
  | _, _, _, _, .nil, s => s
  | _, _, _, _, .cons r t, s => .cons r (DpAll.app t s)
theorem DpAll.snoc {K : PySem.W.Frag} {H : Hp} {vs : List V} {v : V} {ds : List PyData} {d : PyData} (h : DpAll K H vs ds) (r : Dp K H v d) : DpAll K H (vs ++ [v]) (ds ++ [d]) := DpAll.app h (.cons r .nil)
/-- a list of two ints, the drawer -/
def BoxAt (H : Hp) (b : Addr) : Prop := ∃ c s : Int, H b = some (.lst [.int c, .int s])
theorem BoxAt.sm {H H' : Hp} {b : Addr} (e : Sm H H') (h : BoxAt H b) : BoxAt H' b := by
  obtain ⟨c, s, h⟩ := h
  exact ⟨c, s, e.to _ _ h⟩

/-! ### rules for values of any kind -/
section
variable {X : Cx}
def rStrRep : R2 := fun x y H Q => ∃ (z : Str) (n : Nat), x = .str z ∧ y = .int (n : Int) ∧ z.length * n ≤ 16777216 ∧ n ≤ 16777216 ∧ Q (.str ⟨((List.replicate n z.cps.toList).flatten).toArray⟩) H
theorem flat_rep (c : Array Nat) : ∀ (n : Nat) (acc : Array Nat), (List.replicate n c).foldl (· ++ ·) acc = acc ++ ((List.replicate n c.toList).flatten).toArray
  | 0, acc => by simp
  | n + 1, acc => by
    rw [List.replicate_succ, List.foldl_cons, flat_rep c n, List.replicate_succ, List.flatten_cons]
    apply Array.toList_inj.mp
    simp
theorem line24 : (16777216 : Nat) ≤ sizeLine := by rw [sizeLine_eq]; decide
theorem op_strRep : OpR X (binaryOp .Mult) rStrRep := by
  intro pins s σ H x y v u Q I rx ry h
  obtain ⟨z, n, rfl, rfl, hz, hn, q⟩ := h
  obtain ⟨t, rfl⟩ := rx
  obtain ⟨t', rfl⟩ := ry
  have b63 : (2 : Int) ^ 63 = 9223372036854775808 := by decide
  refine PySem.P.mul_str ?_ (fun _ _ => ?_) (fun _ _ => ?_) ?_
  · rw [b63, decide_eq_false (by omega), decide_eq_false (by omega)]
    rfl
  · have h1 : (z.length : Int) * (n : Int) ≤ 2 ^ 63 - 1 := by
      rw [b63]
      have h := Int.ofNat_le.mpr hz
      rw [Int.natCast_mul] at h
      exact Int.le_trans h (by decide)
    intro h2
    by_cases h0 : n = 0
    · omega
    · have h3 : (0 : Int) < (n : Int) := by omega
      have h4 := Int.le_ediv_of_mul_le h3 h1
      omega
  · show Builtin.Str.tooLong (z.length * ((n : Int)).toNat) = false
    rw [Int.toNat_natCast]
    have := line24
    unfold Builtin.Str.tooLong
    exact decide_eq_false (by omega)
  · by_cases h1 : (n : Int) < 1
    · rw [if_pos h1]
      have e0 : n = 0 := by omega
      subst e0
      have q' : Q (.str Str.empty) H := q
      refine ⟨?_, ⟨.str Str.empty, H, I.tok _, ⟨_, rfl⟩, q'⟩⟩
      show Str.empty.length ≤ sizeLine
      exact Nat.zero_le _
    · rw [if_neg h1]
      by_cases h2 : ((n : Int) == 1 || z.length == 0) = true
      · rw [if_pos h2]
        have e : (⟨((List.replicate n z.cps.toList).flatten).toArray⟩ : Str) = z := by
          rw [Bool.or_eq_true] at h2
          rcases h2 with h2 | h2
          · have e1 : (n : Int) = 1 := by simpa using h2
            have e1 : n = 1 := by omega
            subst e1
            simp
          · have e1 : z.length = 0 := by simpa using h2
            have e2 : z.cps = #[] := Array.eq_empty_of_size_eq_zero e1
            cases z with
            | mk c =>
              simp only at e2
              subst e2
              simp
        rw [e] at q
        exact ⟨.str z, H, I, ⟨t, rfl⟩, q⟩
      · rw [if_neg h2]
        have e : (List.replicate ((n : Int)).toNat z.cps).foldl (· ++ ·) #[] = ((List.replicate n z.cps.toList).flatten).toArray := by
          rw [Int.toNat_natCast, flat_rep]
          simp
        refine ⟨?_, ?_⟩
        · rw [e]
          show (((List.replicate n z.cps.toList).flatten).toArray).size ≤ sizeLine
          rw [List.size_toArray, List.length_flatten, List.map_replicate, List.sum_replicate_nat, Array.length_toList]
          have hz' : z.cps.size * n ≤ 16777216 := hz
          have := line24
          rw [Nat.mul_comm] at hz'
          omega
        · rw [e]
          exact ⟨.str _, H, I.tok _, ⟨_, rfl⟩, q⟩
end

section
variable {X : Cx}
/-! sums, products, equality, in, len, slices, loops: the value's own kind chooses the rule -/
def rAddA (K : PySem.W.Frag) : R2 := fun x y H Q => rI0 (fun i j => .int (i + j)) x y H Q ∨ (∃ i j, x = .str i ∧ y = .str j ∧ i.length + j.length ≤ sizeLine ∧ Q (.str (i ++ j)) H) ∨ rCat x y H Q ∨ rCatA K x y H Q
theorem op_addA : OpR X (binaryOp .Add) (rAddA X.K) := op_add.or (op_add_str.or (op_cat.or op_catA))
def rMulA (K : PySem.W.Frag) : R2 := fun x y H Q => rI CMul (fun i j => .int (i * j)) x y H Q ∨ rI CMulW (fun i j => .int (i * j)) x y H Q ∨ rStrRep x y H Q ∨ rRep x y H Q ∨ rRepT K x y H Q
theorem op_mulA : OpR X (binaryOp .Mult) (rMulA X.K) := op_mul.or (op_mulW.or (op_strRep.or (op_rep.or op_repT)))
def rEqA (K : PySem.W.Frag) : R2 := fun x y H Q => rEq x y H Q ∨ rEqD K x y H Q
def rNeA (K : PySem.W.Frag) : R2 := fun x y H Q => rNe x y H Q ∨ rNeD K x y H Q
theorem op_eqA (hu : X.A.units + 64 < cLine) : OpR X (compareOp .Eq) (rEqA X.K) := op_eq.or (op_eqD hu)
theorem op_neA (hu : X.A.units + 64 < cLine) : OpR X (compareOp .NotEq) (rNeA X.K) := op_ne.or (op_neD hu)
def rInStr (neg : Bool) : R2 := fun x y H Q => ∃ (c : Nat) (z : Str), x = .str ⟨#[c]⟩ ∧ y = .str z ∧ Q (.bl (if neg then !decide (c ∈ z.cps.toList) else decide (c ∈ z.cps.toList))) H
def rInA (K : PySem.W.Frag) : R2 := fun x y H Q => rInStr false x y H Q ∨ rIn K false x y H Q
def rNotInA (K : PySem.W.Frag) : R2 := fun x y H Q => rInStr true x y H Q ∨ rIn K true x y H Q
theorem op_inA : OpR X (compareOp .In) (rInA X.K) := OpR.or op_in_sign op_in_seq
theorem op_notInA : OpR X (compareOp .NotIn) (rNotInA X.K) := OpR.or op_notIn_sign op_notIn_seq
def rSlAny (K : PySem.W.Frag) : V → Option Int → Option Int → Hp → VK → Prop := fun x lo hi H Q => rSlS x lo hi H Q ∨ rSlL K x lo hi H Q ∨ rSlA K x lo hi H Q
theorem sl_any : SlR X (rSlAny X.K) := sl_str.or (sl_list.or sl_tupA)
def rLenA (K : PySem.W.Frag) : List V → Hp → VK → Prop := fun xs H Q => (∃ x n, xs = [x] ∧ LenV K x H n ∧ Q (.int n) H) ∨ (∃ a kvs, xs = [V.ref a] ∧ H a = some (.dK kvs) ∧ Q (.int kvs.length) H)
theorem call_lenA : CallR X (.builtin "len") (rLenA X.K) := call_len.or call_lenD
def rMaxA (K : PySem.W.Frag) : List V → Hp → VK → Prop := fun xs H Q => (∃ i j, xs = [.int i, .int j] ∧ Q (.int (if j > i then j else i)) H) ∨ rMax K xs H Q
theorem call_maxA (hc : X.calm = true) : CallR X (.builtin "max") (rMaxA X.K) := (call_max2 hc).or (cr_max hc)
def rMinA (K : PySem.W.Frag) : List V → Hp → VK → Prop := fun xs H Q => (∃ i j, xs = [.int i, .int j] ∧ Q (.int (if j < i then j else i)) H) ∨ rMin K xs H Q
theorem call_minA (hc : X.calm = true) : CallR X (.builtin "min") (rMinA X.K) := (call_min2 hc).or (cr_min hc)
theorem call_strA : CallR X (.type "str") (fun xs H Q => (∃ i, xs = [.int i] ∧ i.natAbs.log2 < 1920 ∧ Q (.str (toString i)) H) ∨ (∃ a, xs = [.str a] ∧ Q (.str a) H)) := call_str_int.or SkE.call_str_str
theorem call_intA : CallR X (.type "int") (fun xs H Q => ((∃ i, xs = [.int i] ∧ Q (.int i) H) ∨ ∃ k, xs = [.bl k] ∧ Q (.int (if k then 1 else 0)) H) ∨ (∃ a n, xs = [.str a] ∧ PySem.intText? a = some n ∧ a.length ≤ 640 ∧ Q (.int n) H)) := call_int1.or call_int_str
theorem call_listA : CallR X (.type "list") (fun xs H Q => ∃ p ys, xs = [.ref p] ∧ (SqL X.K H p ys ∨ SqT X.K H p ys) ∧ ∀ l, H l = none → Q (.ref l) (upd H l (.lst ys))) := call_list_of
theorem call_tupleA : CallR X (.type "tuple") (fun xs H Q => ∃ p ys, xs = [.ref p] ∧ ((SqL X.K H p ys ∧ ∀ l, H l = none → Q (.ref l) (upd H l (.tup ys))) ∨ (SqT X.K H p ys ∧ Q (.ref p) H))) := call_tuple_of
theorem PI.or {tg l : Expr} {w1 w2 : TI} (h1 : PI X tg l w1) (h2 : PI X tg l w2) : PI X tg l (fun σ H R => w1 σ H R ∨ w2 σ H R) := ⟨fun pins s σ H R I h => h.elim (fun q => h1.run pins s σ H R I q) (fun q => h2.run pins s σ H R I q)⟩
def iAny (K : PySem.W.Frag) (tl : TE) : TI := fun σ H R => iList K tl σ H R ∨ iTup K tl σ H R ∨ iStr tl σ H R
theorem pi_any {tg l : Expr} {tl : TE} (hl : PE X l tl) : PI X tg l (iAny X.K tl) := PI.or (pi_list hl) (PI.or (pi_tup hl) (pi_str hl))
end

/-! ### readings, one construct a time -/
section
variable {σ : St} {H : Hp} {Q : VK} {D : Ends} {K : PySem.W.Frag}
theorem r_var {i : Nat} {v : V} (h : σ[i]? = some (some v)) (k : Q v H) : tVar i σ H Q := ⟨v, h, k⟩
theorem r_C {v : V} (k : Q v H) : tC v σ H Q := k
theorem r_op {r : R2} {ta tb : TE} (h : ta σ H fun x H1 => tb σ H1 fun y H2 => r x y H2 Q) : tOp r ta tb σ H Q := h
theorem r_un {r : V → Hp → VK → Prop} {ta : TE} (h : ta σ H fun x H1 => r x H1 Q) : tUn r ta σ H Q := h
theorem r_I {C : Int → Int → Prop} {g : Int → Int → V} {i j : Int} (c : C i j) (k : Q (g i j) H) : rI C g (.int i) (.int j) H Q := ⟨i, j, rfl, rfl, c, k⟩
theorem r_I0 {g : Int → Int → V} {i j : Int} (k : Q (g i j) H) : rI0 g (.int i) (.int j) H Q := ⟨i, j, rfl, rfl, k⟩
theorem r_U {g : Int → V} {i : Int} (k : Q (g i) H) : rU g (.int i) H Q := ⟨i, rfl, k⟩
theorem r_addI {i j : Int} (k : Q (.int (i + j)) H) : rAddA K (.int i) (.int j) H Q := .inl ⟨i, j, rfl, rfl, k⟩
theorem r_addS {i j : Str} (h : i.length + j.length ≤ sizeLine) (k : Q (.str (i ++ j)) H) : rAddA K (.str i) (.str j) H Q := .inr (.inl ⟨i, j, rfl, rfl, h, k⟩)
theorem r_addL {a b : Addr} {xs ys : List V} (ha : H a = some (.lst xs)) (hb : H b = some (.lst ys)) (hz : xs.length + ys.length ≤ sizeLine)
    (k : ∀ p H', Sm H H' → H p = none → H' p = some (.lst (xs ++ ys)) → Q (.ref p) H') : rAddA K (.ref a) (.ref b) H Q :=
  .inr (.inr (.inl ⟨a, b, xs, ys, rfl, rfl, ha, hb, hz, fun p np => k p _ (sm_upd np) np upd_same⟩))
theorem r_addT {a b : Addr} {xs ys : List V} (ha : SqT K H a xs) (hb : SqT K H b ys) (hz : xs.length + ys.length ≤ sizeLine)
    (k : ∀ p H', Sm H H' → SqT K H' p (xs ++ ys) → Q (.ref p) H') : rAddA K (.ref a) (.ref b) H Q :=
  .inr (.inr (.inr ⟨a, b, xs, ys, rfl, rfl, ha, hb, hz, fun e => k b H (Sm.refl H) (by rw [e, List.nil_append]; exact hb), fun _ e => k a H (Sm.refl H) (by rw [e, List.append_nil]; exact ha), fun _ _ p np => k p _ (sm_upd np) (SqT.of upd_same)⟩))
theorem r_mulS {i j : Int} (c : CMul i j) (k : Q (.int (i * j)) H) : rMulA K (.int i) (.int j) H Q := .inl ⟨i, j, rfl, rfl, c, k⟩
theorem r_mulW {i j : Int} (c : CMulW i j) (k : Q (.int (i * j)) H) : rMulA K (.int i) (.int j) H Q := .inr (.inl ⟨i, j, rfl, rfl, c, k⟩)
theorem r_mulStr {z : Str} {n : Nat} {i : Int} (e : i = (n : Int)) (hz : z.length * n ≤ 16777216) (hn : n ≤ 16777216) (k : Q (.str ⟨((List.replicate n z.cps.toList).flatten).toArray⟩) H) : rMulA K (.str z) (.int i) H Q := .inr (.inr (.inl ⟨z, n, rfl, by rw [e], hz, hn, k⟩))
theorem r_mulL {a : Addr} {i : Int} {xs : List V} (ha : H a = some (.lst xs)) (h0 : -(2 ^ 63) ≤ i) (h1 : i < 2 ^ 63) (hz : xs.length * i.toNat ≤ sizeLine)
    (k : ∀ p H', Sm H H' → H p = none → H' p = some (.lst (List.replicate i.toNat xs).flatten) → Q (.ref p) H') : rMulA K (.ref a) (.int i) H Q :=
  .inr (.inr (.inr (.inl ⟨a, i, xs, rfl, rfl, ha, h0, h1, hz, fun p np => k p _ (sm_upd np) np upd_same⟩)))
theorem dec_VI {i j : Int} : decide (V.int i = V.int j) = decide (i = j) := by
  by_cases e : i = j
  · subst e
    simp
  · rw [decide_eq_false e, decide_eq_false fun z => e (V.int.inj z)]
theorem dec_VS {i j : Str} : decide (V.str i = V.str j) = decide (i = j) := by
  by_cases e : i = j
  · subst e
    simp
  · rw [decide_eq_false e, decide_eq_false fun z => e (V.str.inj z)]
theorem dec_VB {i j : Bool} : decide (V.bl i = V.bl j) = decide (i = j) := by
  by_cases e : i = j
  · subst e
    simp
  · rw [decide_eq_false e, decide_eq_false fun z => e (V.bl.inj z)]
theorem r_eqI {i j : Int} (k : Q (.bl (decide (i = j))) H) : rEqA K (.int i) (.int j) H Q := .inl ⟨rfl, by rw [dec_VI]; exact k⟩
theorem r_eqS {i j : Str} (k : Q (.bl (decide (i = j))) H) : rEqA K (.str i) (.str j) H Q := .inl ⟨rfl, by rw [dec_VS]; exact k⟩
theorem r_eqB {i j : Bool} (k : Q (.bl (decide (i = j))) H) : rEqA K (.bl i) (.bl j) H Q := .inl ⟨rfl, by rw [dec_VB]; exact k⟩
theorem r_neI {i j : Int} (k : Q (.bl (!decide (i = j))) H) : rNeA K (.int i) (.int j) H Q := .inl ⟨rfl, by rw [dec_VI]; exact k⟩
theorem r_neS {i j : Str} (k : Q (.bl (!decide (i = j))) H) : rNeA K (.str i) (.str j) H Q := .inl ⟨rfl, by rw [dec_VS]; exact k⟩
theorem r_neB {i j : Bool} (k : Q (.bl (!decide (i = j))) H) : rNeA K (.bl i) (.bl j) H Q := .inl ⟨rfl, by rw [dec_VB]; exact k⟩
theorem r_eqD {x y : V} {d e : PyData} (hx : Dp K H x d) (hy : Dp K H y e) (sx : SeqAt.shaped d = true) (sy : SeqAt.shaped e = true) (k : Q (.bl (PyData.eqv d e)) H) : rEqA K x y H Q := .inr ⟨d, e, hx, hy, sx, sy, k⟩
theorem r_neD {x y : V} {d e : PyData} (hx : Dp K H x d) (hy : Dp K H y e) (sx : SeqAt.shaped d = true) (sy : SeqAt.shaped e = true) (k : Q (.bl (!PyData.eqv d e)) H) : rNeA K x y H Q := .inr ⟨d, e, hx, hy, sx, sy, k⟩
theorem r_inS {c : Nat} {z : Str} (k : Q (.bl (decide (c ∈ z.cps.toList))) H) : rInA K (.str ⟨#[c]⟩) (.str z) H Q := .inl ⟨c, z, rfl, rfl, k⟩
theorem r_notInS {c : Nat} {z : Str} (k : Q (.bl (!decide (c ∈ z.cps.toList))) H) : rNotInA K (.str ⟨#[c]⟩) (.str z) H Q := .inl ⟨c, z, rfl, rfl, k⟩
theorem r_test {t : TE} {Q : Bool → Hp → Prop} (h : t σ H fun x H' => ∃ k, x = .bl k ∧ Q k H') : tTest t σ H Q := h
theorem r_tB {t : TE} {Q : Bool → Hp → Prop} (h : t σ H fun x H' => ∃ k, x = .bl k ∧ Q k H') : tB t σ H Q := h
theorem r_bl {b : Bool} {Q : Bool → Prop} (h : Q b) : ∃ k, V.bl b = .bl k ∧ Q k := ⟨b, rfl, h⟩
theorem r_tru_bl {b : Bool} {Q : Bool → Prop} (h : Q b) : ∃ k, TruV K (.bl b) H k ∧ Q k := ⟨b, rfl, h⟩
theorem r_tru_int {i : Int} {Q : Bool → Prop} (h : Q (i != 0)) : ∃ k, TruV K (.int i) H k ∧ Q k := ⟨_, rfl, h⟩
theorem r_and {t u : TT} {Q : Bool → Hp → Prop} (h : t σ H fun c H1 => if c = true then u σ H1 Q else Q false H1) : tAnd t u σ H Q := h
theorem r_or {t u : TT} {Q : Bool → Hp → Prop} (h : t σ H fun c H1 => if c = true then Q true H1 else u σ H1 Q) : tOr t u σ H Q := h
theorem r_not {t : TT} {Q : Bool → Hp → Prop} (h : t σ H fun c H1 => Q (!c) H1) : tNot t σ H Q := h
theorem r_notT {ta : TE} (h : ta σ H fun x H1 => ∃ k, TruV K x H1 k ∧ Q (.bl (!k)) H1) : tNotT K ta σ H Q := h
theorem r_orT {ta tb : TE} (h : ta σ H fun x H1 => ∃ k, TruV K x H1 k ∧ if k = true then Q x H1 else tb σ H1 Q) : tOrT K ta tb σ H Q := h
theorem r_andT {ta tb : TE} (h : ta σ H fun x H1 => ∃ k, TruV K x H1 k ∧ if k = true then tb σ H1 Q else Q x H1) : tAndT K ta tb σ H Q := h
theorem r_ifE {t : TT} {ta tb : TE} (h : t σ H fun c H1 => if c = true then ta σ H1 Q else tb σ H1 Q) : tIf t ta tb σ H Q := h
theorem r_nil {Q : List V → Hp → Prop} (k : Q [] H) : tNil σ H Q := k
theorem r_cons {ta : TE} {tr : TA} {Q : List V → Hp → Prop} (h : ta σ H fun x H1 => tr σ H1 fun xs H2 => Q (x :: xs) H2) : tCons ta tr σ H Q := h
theorem r_tup {t : TA} (h : t σ H fun xs H1 => xs.length ≤ sizeLine ∧ ∀ p, H1 p = none → Q (.ref p) (upd H1 p (.tup xs))) : tTup t σ H Q := h
theorem r_lst {t : TA} (h : t σ H fun xs H1 => xs.length ≤ sizeLine ∧ ∀ p, H1 p = none → Q (.ref p) (upd H1 p (.lst xs))) : tLst t σ H Q := h
theorem sz_le {n : Nat} (h : n ≤ 1000 := by decide) : n ≤ sizeLine := Nat.le_of_lt (small1000 h)
theorem r_call {sp : Sp} {E : XK} {t : TA} (h : t σ H fun vs H1 => sp vs H1 Q E) : tCall sp [] E t σ H Q := by
  unfold tCall
  have e : (fun (vs : List V) (H1 : Hp) => sp (vs ++ []) H1 Q E) = fun vs H1 => sp vs H1 Q E := by
    funext vs H1
    rw [List.append_nil]
  rw [e]
  exact h
theorem r_callK {sp : Sp} {E : XK} {t tk : TA} {gV : List V → List V → List V} (h : t σ H fun vs H1 => tk σ H1 fun zs H2 => sp (gV vs zs) H2 Q E) : tCallK sp gV E t tk σ H Q := h
theorem r_CB {r : List V → Hp → VK → Prop} {t : TA} (h : t σ H fun vs H1 => r vs H1 Q) : tCB r t σ H Q := h
/-! calls of built-ins -/
theorem r_lenS {z : Str} (h : z.length ≤ sizeLine) (k : Q (.int z.length) H) : rLenA K [.str z] H Q := .inl ⟨_, _, rfl, ⟨h, rfl⟩, k⟩
theorem r_lenL {a : Addr} {xs : List V} (h : SqL K H a xs) (k : Q (.int xs.length) H) : rLenA K [.ref a] H Q := .inl ⟨_, _, rfl, .inl ⟨xs, h, rfl⟩, k⟩
theorem r_lenT {a : Addr} {xs : List V} (h : SqT K H a xs) (k : Q (.int xs.length) H) : rLenA K [.ref a] H Q := .inl ⟨_, _, rfl, .inr ⟨xs, h, rfl⟩, k⟩
theorem r_max {i j : Int} (k : Q (.int (if j > i then j else i)) H) : rMaxA K [.int i, .int j] H Q := .inl ⟨i, j, rfl, k⟩
theorem r_min {i j : Int} (k : Q (.int (if j < i then j else i)) H) : rMinA K [.int i, .int j] H Q := .inl ⟨i, j, rfl, k⟩
theorem r_isi {x c : V} {t u : Value} {b : Bool} (hc : ClsV c u) (ht : TyX K H x t) (e : PySem.W.kitOne K t u = some b) (k : Q (.bl b) H) : rIsi K [x, c] H Q := ⟨x, c, t, u, b, rfl, hc, ht, e, k⟩
theorem r_isi_int {i : Int} {n : String} {b : Bool} (e : kitB "int" n = some b) (k : Q (.bl b) H) : rIsi K [.int i, .ty n] H Q := r_isi (.ty n) (.base (.int i)) (kit_ty e) k
theorem r_isi_bl {i : Bool} {n : String} {b : Bool} (e : kitB "bool" n = some b) (k : Q (.bl b) H) : rIsi K [.bl i, .ty n] H Q := r_isi (.ty n) (.base (.bl i)) (kit_ty e) k
theorem r_isi_str {i : Str} {n : String} {b : Bool} (e : kitB "str" n = some b) (k : Q (.bl b) H) : rIsi K [.str i, .ty n] H Q := r_isi (.ty n) (.base (.str i)) (kit_ty e) k
/-! items and slices -/
theorem r_ixL {a : Addr} {xs : List V} {i : Int} {v : V} (h : SqL K H a xs) (e : atI xs i = some v) (k : Q v H) : rIx K (.ref a) (.int i) H Q := .inl ⟨a, xs, i, v, rfl, rfl, h, e, k⟩
theorem r_ixT {a : Addr} {xs : List V} {i : Int} {v : V} (h : SqT K H a xs) (e : atI xs i = some v) (k : Q v H) : rIx K (.ref a) (.int i) H Q := .inr (.inl ⟨a, xs, i, v, rfl, rfl, h, e, k⟩)
theorem r_ixS {z : Str} {i : Int} {c : Nat} (h : z.length ≤ sizeLine) (e : atI z.cps.toList i = some c) (k : Q (.str ⟨#[c]⟩) H) : rIx K (.str z) (.int i) H Q := .inr (.inr ⟨z, i, c, rfl, rfl, h, e, k⟩)
theorem r_setL {a : Addr} {xs : List V} {i : Int} {j : Nat} {v : V} {Q : Hp → Prop} (h : H a = some (.lst xs)) (e : ixN xs.length i = some j) (k : Q (upd H a (.lst (xs.set j v)))) : rSetL (.ref a) (.int i) v H Q := ⟨a, xs, i, j, rfl, rfl, h, e, k⟩
theorem r_sl {r : V → Option Int → Option Int → Hp → VK → Prop} {te : TE} {tl th : TO} (h : te σ H fun x H1 => tl σ H1 fun l H2 => th σ H2 fun u H3 => r x l u H3 Q) : tSl r te tl th σ H Q := h
theorem r_noPart {Q : Option Int → Hp → Prop} (h : Q none H) : tNoPart σ H Q := h
theorem r_part {t : TE} {Q : Option Int → Hp → Prop} (h : t σ H fun x H1 => ∃ i, x = .int i ∧ Q (some i) H1) : tPart t σ H Q := h
theorem r_exI {i : Int} {Q : Int → Prop} (h : Q i) : ∃ j, V.int i = .int j ∧ Q j := ⟨i, rfl, h⟩
theorem r_slS {z : Str} {lo hi : Option Int} (h : z.length ≤ sizeLine) (k : Q (.str (cutS z lo hi)) H) : rSlAny K (.str z) lo hi H Q := .inl ⟨z, rfl, h, k⟩
theorem r_slL {a : Addr} {xs : List V} {lo hi : Option Int} (h : SqL K H a xs) (k : ∀ p, H p = none → Q (.ref p) (upd H p (.lst (cutV xs lo hi)))) : rSlAny K (.ref a) lo hi H Q := .inr (.inl ⟨a, xs, rfl, h, k⟩)
theorem cutV_whole {xs : List V} {lo hi : Option Int} (h : HT.sIx xs.length 0 lo = 0 ∧ HT.sIx xs.length xs.length hi = xs.length) : cutV xs lo hi = xs := by
  unfold cutV
  rw [h.1, h.2]
  simp
theorem r_slT {a : Addr} {xs : List V} {lo hi : Option Int} (h : SqT K H a xs) (k : ∀ p H', Sm H H' → SqT K H' p (cutV xs lo hi) → Q (.ref p) H') : rSlAny K (.ref a) lo hi H Q :=
  .inr (.inr ⟨a, xs, rfl, h, fun e => k a H (Sm.refl H) (by rw [cutV_whole e]; exact h), fun _ p np => k p _ (sm_upd np) (SqT.of upd_same)⟩)
/-! statements -/
theorem r_seq {t u : TS} (h : t { D with nx := u D } σ H) : tSeq t u D σ H := h
theorem r_nx {n b c : St → Hp → Prop} {r : VK} (h : n σ H) : Ends.nx ⟨n, r, b, c⟩ σ H := h
theorem r_rt {n b c : St → Hp → Prop} {r : VK} {v : V} (h : r v H) : Ends.rt ⟨n, r, b, c⟩ v H := h
theorem r_next (h : D.nx σ H) : tNext D σ H := h
theorem r_asg {te : TE} {g : TG} (h : te σ H fun x H1 => g x σ H1 D.nx) : tAsg te g D σ H := h
theorem r_gN {i : Nat} {v : V} {Q : St → Hp → Prop} (h : Q (σ.set i (some v)) H) : gName i v σ H Q := h
theorem r_gT {n : Nat} {t : TGs} {a : Addr} {xs : List V} {Q : St → Hp → Prop} (hT : SqT K H a xs) (hn : xs.length = n) (h : t xs σ H Q) : gTup K n t (.ref a) σ H Q := ⟨a, xs, rfl, hT, hn, h⟩
theorem r_gC {t : TG} {u : TGs} {v : V} {r : List V} {Q : St → Hp → Prop} (h : t v σ H fun σ' H' => u r σ' H' Q) : gCons t u (v :: r) σ H Q := ⟨v, r, rfl, h⟩
theorem r_g0 {Q : St → Hp → Prop} (h : Q σ H) : gNil [] σ H Q := ⟨rfl, h⟩
theorem r_gS {to ti : TE} {t : TSet} {v : V} {Q : St → Hp → Prop} (h : to σ H fun o H1 => ti σ H1 fun i H2 => t o i v H2 fun H3 => Q σ H3) : gSub to ti t v σ H Q := h
theorem r_par {i j : Nat} {ta : TA} (h : ta σ H fun vs H1 => ∃ v w, vs = [v, w] ∧ D.nx ((σ.set i (some v)).set j (some w)) H1) : tPar i j ta D σ H := h
theorem r_vw {v w : V} {Q : V → V → Prop} (h : Q v w) : ∃ v' w', [v, w] = [v', w'] ∧ Q v' w' := ⟨v, w, rfl, h⟩
theorem r_aug {i : Nat} {te : TE} {ti : TIp} {x : V} (e : σ[i]? = some (some x)) (h : te σ H fun y H1 => ti x y H1 fun z H2 => D.nx (σ.set i (some z)) H2) : tAug i te ti D σ H := ⟨x, e, h⟩
theorem r_ip {f : Int → Int → Int} {i j : Int} (k : Q (.int (f i j)) H) : ipI f (.int i) (.int j) H Q := ⟨i, j, rfl, rfl, k⟩
theorem r_ret {te : TE} (h : te σ H D.rt) : tRet te D σ H := h
theorem r_retN (h : D.rt .non H) : tRetN D σ H := h
theorem r_drop {te : TE} (h : te σ H fun _ H1 => D.nx σ H1) : tDrop te D σ H := h
theorem r_if {c : TT} {t u : TS} (h : c σ H fun b H1 => if b = true then t D σ H1 else u D σ H1) : tIfS c t u D σ H := h
theorem ite_d {p A B : Prop} [Decidable p] (h1 : p → A) (h2 : ¬ p → B) : if decide p = true then A else B := by
  by_cases h : p
  · rw [if_pos (decide_eq_true h)]
    exact h1 h
  · rw [if_neg (by rw [decide_eq_false h]; exact Bool.false_ne_true)]
    exact h2 h
theorem ite_n {p A B : Prop} [Decidable p] (h1 : ¬ p → A) (h2 : p → B) : if (!decide p) = true then A else B := by
  by_cases h : p
  · rw [if_neg (by rw [decide_eq_true h]; exact Bool.false_ne_true)]
    exact h2 h
  · rw [if_pos (by rw [decide_eq_false h]; rfl)]
    exact h1 h
theorem ite_y {b : Bool} {A B : Prop} (e : b = true) (h : A) : if b = true then A else B := by
  rw [if_pos e]
  exact h
theorem ite_o {b : Bool} {A B : Prop} (e : b = false) (h : B) : if b = true then A else B := by
  rw [if_neg (by rw [e]; exact Bool.false_ne_true)]
  exact h
/-! lists' methods -/
theorem r_bm {T : String} {r : V → List V → Hp → VK → Prop} {to : TE} {t : TA} (h : to σ H fun x H1 => tyV K T x H1 ∧ t σ H1 fun xs H2 => r x xs H2 Q) : tBM K T r to t σ H Q := h
theorem r_bmL {a : Addr} {xs : List V} {P : Prop} (h : SqL K H a xs) (k : P) : tyV K "list" (.ref a) H ∧ P := ⟨Or.inl ⟨rfl, _, h⟩, k⟩
theorem r_app {a : Addr} {xs : List V} {y : V} (h : H a = some (.lst xs)) (z : xs.length < sizeLine) (k : Q .non (upd H a (.lst (xs ++ [y])))) : rAppend (.ref a) [y] H Q := ⟨a, xs, y, rfl, rfl, h, z, k⟩
/-! indexes -/
theorem atI_of {α : Type} {xs : List α} {i : Int} (h0 : 0 ≤ i) (h1 : i < (xs.length : Int)) : ∃ v, atI xs i = some v ∧ xs[i.toNat]? = some v := by
  obtain ⟨n, rfl⟩ := Int.eq_ofNat_of_zero_le h0
  have h2 : n < xs.length := by omega
  refine ⟨xs[n], ?_, ?_⟩
  · exact atI_nat (List.getElem?_eq_getElem h2)
  · show xs[n]? = some xs[n]
    exact List.getElem?_eq_getElem h2
theorem atI_mem {α : Type} {xs : List α} {i : Int} (h0 : 0 ≤ i) (h1 : i < (xs.length : Int)) : ∃ v, atI xs i = some v ∧ v ∈ xs := by
  obtain ⟨v, e, q⟩ := atI_of h0 h1
  exact ⟨v, e, List.mem_of_getElem? q⟩
/-! // and % -/
theorem cdiv_of {i j : Int} {n : Nat} (h : 0 < j) (hb : j < 2 ^ n) (h0 : 0 < n) (h9 : n ≤ 9000) : CDivW i j := wide_div h (by
  have e : ((2 ^ n : Nat) : Int) = (2 : Int) ^ n := by rw [Int.natCast_pow]; rfl
  omega) h0 h9
theorem cdiv_s {i j : Int} (h : 0 < j) (hb : j < 18446744073709551616) : CDivW i j := cdiv_of (n := 64) h (by simpa using hb) (by decide) (by decide)
theorem cmul_r {i j : Int} (h : -18446744073709551616 < j ∧ j < 18446744073709551616) : CMul i j := .inr (by simpa using h)
theorem cmul_l {i j : Int} (h : -18446744073709551616 < i ∧ i < 18446744073709551616) : CMul i j := .inl (by simpa using h)
end

/-! arguments by names -/
def kgen (n m : Nat) (idx : List Nat) {α : Type} (us ws : List α) : List α := if us.length = n ∧ ws.length = m then idx.filterMap fun i => (us ++ ws)[i]? else []
theorem vals_pick {vs : List V} {us : List Value} (r : Vals vs us) : ∀ idx : List Nat, Vals (idx.filterMap fun i => vs[i]?) (idx.filterMap fun i => us[i]?)
  | [] => .nil
  | i :: idx => by
    rw [List.filterMap_cons, List.filterMap_cons]
    cases e : vs[i]? with
    | none =>
      rw [r.none_of e]
      exact vals_pick r idx
    | some v =>
      obtain ⟨u, h1, h2⟩ := r.get e
      rw [h1]
      exact .cons h2 (vals_pick r idx)
theorem kb_gen {K : PySem.W.Frag} {fd : FuncData} {ps ks : List Str} {n m : Nat} {idx : List Nat} (hp : ps.length ≠ 0)
    (h : ∀ us ws : List Value, us.length = n → ws.length = m → bindArgs fd ⟨us, ks.zip ws⟩ = pure (ps.zip (kgen n m idx us ws))) : KBinds K fd ps ks (kgen n m idx) (kgen n m idx) := by
  refine ⟨fun s us ws _ hl => ?_, fun {vs us zs ws} r rz => ?_⟩
  · by_cases c : us.length = n ∧ ws.length = m
    · exact .of_eq (h us ws c.1 c.2)
    · unfold kgen at hl
      rw [if_neg c] at hl
      exact absurd hl.symm hp
  · unfold kgen
    rw [r.length, rz.length]
    by_cases c : us.length = n ∧ ws.length = m
    · rw [if_pos c, if_pos c]
      exact vals_pick (r.append rz) idx
    · rw [if_neg c, if_neg c]
      exact .nil
section
variable {X : Cx} {CX : CXT} {k : Nat} {f : Addr} {fd : FuncData} {ps ks : List Str} {sp : Sp} {E : XK} {x : Str} {p pos : Pos} {kws : List Keyword} {tk : TA} {g : List Value → List Value → List Value} {gV : List V → List V → List V}
theorem pe_callK0 (F : FnOk X.prog X.w X.K X.mg X.base CX k f fd ps sp) (hr : Room k X.A) (hg : Gl X x) (hm : X.mg x = some (.ref f)) (hk : PySem.W.keepIn X.K (.ref f) = true) (hb : KBinds X.K fd ps ks g gV) (hx : Passes CX X E)
    (hkw : PK X kws tk) (hall : (backToKw pos (keywordEach kws X.env)).all (·.1.isSome) = true := by rfl) (hks : (backToKw pos (keywordEach kws X.env)).filterMap (·.1) = ks := by rfl)
    (hdb : (x == ("__debug__" : Str)) = false := by decide)
    (hpl : ((backTo pos (starEach [] X.env)).any (·.1) || (backToKw pos (keywordEach kws X.env)).any (·.1.isNone)) = false := by rfl) :
    PE X (.Call (.Name x p) [] kws pos) (tCallK sp gV E tNil tk) := by
  refine ⟨fun pins s σ H Q I h => ?_⟩
  refine wpAny_Call_Name_kw (ld_glob I hg hm ?_ hdb)
  refine PySem.W.callWith_KW0 (h₀ := X.base) I.ok.mod.kin hk hall ?_ hpl
  refine thn (hkw.run pos pins s σ H _ I h) fun ws s2 ⟨zs, H2, I2, rz, q2⟩ => ⟨I2.kIn, ?_⟩
  rw [hks]
  exact run_fnk (us := []) (vs := []) F hr hb hx I2 .nil rz q2
end
/-! built-in classes as calls, named -/
section
variable {σ : St} {H : Hp} {Q : VK} {D : Ends} {K : PySem.W.Frag} {X : Cx}
def rIntA : List V → Hp → VK → Prop := fun xs H Q => ((∃ i, xs = [.int i] ∧ Q (.int i) H) ∨ ∃ k, xs = [.bl k] ∧ Q (.int (if k then 1 else 0)) H) ∨ (∃ a n, xs = [.str a] ∧ PySem.intText? a = some n ∧ a.length ≤ 640 ∧ Q (.int n) H)
theorem cl_int : CallR X (.type "int") rIntA := call_intA
theorem r_intI {i : Int} (k : Q (.int i) H) : rIntA [.int i] H Q := .inl (.inl ⟨i, rfl, k⟩)
theorem r_intB {i : Bool} (k : Q (.int (if i then 1 else 0)) H) : rIntA [.bl i] H Q := .inl (.inr ⟨i, rfl, k⟩)
theorem r_intS {a : Str} {n : Int} (e : PySem.intText? a = some n) (l : a.length ≤ 640) (k : Q (.int n) H) : rIntA [.str a] H Q := .inr ⟨a, n, rfl, e, l, k⟩
def rStrA : List V → Hp → VK → Prop := fun xs H Q => (∃ i, xs = [.int i] ∧ i.natAbs.log2 < 1920 ∧ Q (.str (toString i)) H) ∨ (∃ a, xs = [.str a] ∧ Q (.str a) H)
theorem cl_str : CallR X (.type "str") rStrA := call_strA
theorem r_strI {i : Int} (l : i.natAbs.log2 < 1920) (k : Q (.str (toString i)) H) : rStrA [.int i] H Q := .inl ⟨i, rfl, l, k⟩
theorem r_strS {i : Str} (k : Q (.str i) H) : rStrA [.str i] H Q := .inr ⟨i, rfl, k⟩
def rListA (K : PySem.W.Frag) : List V → Hp → VK → Prop := fun xs H Q => ∃ p ys, xs = [.ref p] ∧ (SqL K H p ys ∨ SqT K H p ys) ∧ ∀ l, H l = none → Q (.ref l) (upd H l (.lst ys))
theorem cl_list : CallR X (.type "list") (rListA X.K) := call_listA
theorem r_listL {a : Addr} {ys : List V} (h : SqL K H a ys) (k : ∀ l, H l = none → Q (.ref l) (upd H l (.lst ys))) : rListA K [.ref a] H Q := ⟨a, ys, rfl, .inl h, k⟩
theorem r_listT {a : Addr} {ys : List V} (h : SqT K H a ys) (k : ∀ l, H l = none → Q (.ref l) (upd H l (.lst ys))) : rListA K [.ref a] H Q := ⟨a, ys, rfl, .inr h, k⟩
def rTupleA (K : PySem.W.Frag) : List V → Hp → VK → Prop := fun xs H Q => ∃ p ys, xs = [.ref p] ∧ ((SqL K H p ys ∧ ∀ l, H l = none → Q (.ref l) (upd H l (.tup ys))) ∨ (SqT K H p ys ∧ Q (.ref p) H))
theorem cl_tuple : CallR X (.type "tuple") (rTupleA X.K) := call_tupleA
theorem r_tupleL {a : Addr} {ys : List V} (h : SqL K H a ys) (k : ∀ l, H l = none → Q (.ref l) (upd H l (.tup ys))) : rTupleA K [.ref a] H Q := ⟨a, ys, rfl, .inl ⟨h, k⟩⟩
theorem r_tupleT {a : Addr} {ys : List V} (h : SqT K H a ys) (k : Q (.ref a) H) : rTupleA K [.ref a] H Q := ⟨a, ys, rfl, .inr ⟨h, k⟩⟩
/-! joins, all, any -/
def rJoin (K : PySem.W.Frag) : V → List V → Hp → VK → Prop := fun x xs H Q => ∃ a p, ∃ ys : List Str, x = .str a ∧ xs = [.ref p] ∧ (SqL K H p (ys.map V.str) ∨ SqT K H p (ys.map V.str)) ∧ (ys.map (·.length)).sum + ys.length * a.length ≤ 16777216 ∧ Q (.str (Txt.join a ys)) H
theorem mj_join : MtR X "str.join" (rJoin X.K) := mt_join
theorem r_join {a : Str} {p : Addr} {ys : List Str} (h : SqL K H p (ys.map V.str)) (z : (ys.map (·.length)).sum + ys.length * a.length ≤ 16777216) (k : Q (.str (Txt.join a ys)) H) : rJoin K (.str a) [.ref p] H Q := ⟨a, p, ys, rfl, rfl, .inl h, z, k⟩
theorem r_bmS {a : Str} {P : Prop} (k : P) : tyV K "str" (.str a) H ∧ P := ⟨rfl, k⟩
theorem r_all {a : Addr} {bs : List Bool} (h : SqL K H a (bs.map V.bl)) (k : Q (.bl (bs.all id)) H) : rAll K [.ref a] H Q := ⟨a, bs, rfl, h, k⟩
/-! loops -/
theorem r_for {wi : TI} {g : TG} {tb : TS} (h : wi σ H fun J H1 => ∃ W : Nat → Nat → St → Hp → Prop, (∃ m, W 0 m σ H1) ∧ ∀ i m σ H, W i m σ H →
  (J.stop i H ∧ D.nx σ H) ∨ (J.go i H ∧ ∃ N : St → Hp → Prop, (∀ σ' H', N σ' H' → ∃ m', m' < m ∧ W (i + 1) m' σ' H') ∧ ∀ x H', J.yld i H x H' → g x σ H' fun σ2 H2 => tb { D with nx := N, ct := N, bk := D.nx } σ2 H2)) : tFor wi g tb D σ H := h
theorem r_lc {wi : TI} {g : TG} {tt : TT} {te : TE} {vs : List Nat} (h : wi σ H fun J H1 => ∀ D, H1 D = none → ∃ W : Nat → Nat → Hp → Prop, (∃ m, W 0 m (upd H1 D (.lst []))) ∧ ∀ i m H, W i m H →
  (J.stop i H ∧ Q (.ref D) H) ∨ (J.go i H ∧ ∃ Nx : Hp → Prop, (∀ H', Nx H' → ∃ m', m' < m ∧ W (i + 1) m' H') ∧ ∀ x H', J.yld i H x H' → g x (wipe σ vs) H' fun σ2 H2 => wipe σ2 vs = wipe σ vs ∧ tt σ2 H2 fun b H3 =>
    if b = true then te σ2 H3 fun y H4 => ∃ acc, H4 D = some (.lst acc) ∧ acc.length < sizeLine ∧ Nx (upd H4 D (.lst (acc ++ [y]))) else Nx H3)) : tLc wi g tt te vs σ H Q := h
theorem r_R1 {ta : TA} {R : It → Hp → Prop} (h : ta σ H fun vs H1 => ∃ j : Int, vs = [.int j] ∧ -(2 ^ 62) ≤ j ∧ j < 2 ^ 62 ∧ R (Itr 0 j.toNat) H1) : iRng1 ta σ H R := h
theorem r_rng {n : Int} {P : Int → Prop} (h0 : -4611686018427387904 ≤ n) (h1 : n < 4611686018427387904) (h : P n) : ∃ j : Int, [V.int n] = [.int j] ∧ -(2 ^ 62) ≤ j ∧ j < 2 ^ 62 ∧ P j := ⟨n, rfl, by simpa using h0, by simpa using h1, h⟩
theorem r_iL {tl : TE} {R : It → Hp → Prop} (h : tl σ H fun x H1 => ∃ a, x = .ref a ∧ (∃ xs, SqL K H1 a xs) ∧ R (Itl K a) H1) : iAny K tl σ H R := .inl h
theorem r_iT {tl : TE} {R : It → Hp → Prop} (h : tl σ H fun x H1 => ∃ a, x = .ref a ∧ (∃ xs, SqT K H1 a xs) ∧ R (Itt K a) H1) : iAny K tl σ H R := .inr (.inl h)
theorem r_iS {tl : TE} {R : It → Hp → Prop} (h : tl σ H fun v H1 => ∃ x, v = .str x ∧ R (Its x) H1) : iAny K tl σ H R := .inr (.inr h)
theorem r_aL {a : Addr} {xs : List V} {P : Addr → Prop} (h : SqL K H a xs) (k : P a) : ∃ b, V.ref a = .ref b ∧ (∃ xs, SqL K H b xs) ∧ P b := ⟨a, rfl, ⟨xs, h⟩, k⟩
theorem r_aT {a : Addr} {xs : List V} {P : Addr → Prop} (h : SqT K H a xs) (k : P a) : ∃ b, V.ref a = .ref b ∧ (∃ xs, SqT K H b xs) ∧ P b := ⟨a, rfl, ⟨xs, h⟩, k⟩
theorem r_aS {z : Str} {P : Str → Prop} (k : P z) : ∃ x, V.str z = .str x ∧ P x := ⟨z, rfl, k⟩
theorem r_yes {Q : Bool → Hp → Prop} (h : Q true H) : tYes σ H Q := h
theorem r_wipe {σ' : St} {vs : List Nat} {P : Prop} (e : wipe σ' vs = wipe σ vs) (h : P) : wipe σ' vs = wipe σ vs ∧ P := ⟨e, h⟩
theorem r_acc {D : Addr} {acc : List V} {P : List V → Prop} (h : H D = some (.lst acc)) (z : acc.length < sizeLine) (k : P acc) : ∃ acc, H D = some (.lst acc) ∧ acc.length < sizeLine ∧ P acc := ⟨acc, h, z, k⟩
end

/-! what a loop or a comprehension appends to stands apart -/
theorem chg_acc {b D : Addr} {H1 H4 : Hp} {o : HO} (c : Chg b H1 H4) (n : H1 D = none) : Chg b H1 (upd H4 D o) := ⟨fun a x na e => by
  rw [upd_ne (ne_of_none e n)]
  exact c.to a x na e⟩
theorem sm_acc {D : Addr} {H1 H4 : Hp} {o : HO} (c : Sm H1 H4) (n : H1 D = none) : Sm H1 (upd H4 D o) := ⟨fun a x e => by
  rw [upd_ne (ne_of_none e n)]
  exact c.to a x e⟩
theorem sm_chg {b : Addr} {H H1 H2 : Hp} (a : Sm H H1) (c : Chg b H1 H2) : Chg b H H2 := a.chg.trans c
theorem chg_sm {b : Addr} {H H1 H2 : Hp} (a : Chg b H H1) (c : Sm H1 H2) : Chg b H H2 := a.trans c.chg
/-! texts -/
theorem str_len (z : Str) : z.length = z.cps.toList.length := (Array.length_toList).symm
theorem str_get {z : Str} {i c : Nat} (h : z.cps[i]? = some c) : z.cps.toList[i]? = some c := by
  rw [Array.getElem?_toList]
  exact h
theorem strs_sum : ∀ (ys : List Str) (n : Nat), (∀ y ∈ ys, y.length ≤ n) → (ys.map (·.length)).sum ≤ n * ys.length
  | [], n, _ => by simp
  | y :: ys, n, h => by
    have h1 := h y (by simp)
    have h2 := strs_sum ys n fun z hz => h z (by simp [hz])
    rw [List.map_cons, List.sum_cons, List.length_cons, Nat.mul_succ]
    omega
theorem ne_fr {H : Hp} {a b : Addr} {o : HO} (n : H b = none) (h : H a = some o) : a ≠ b := ne_of_none h n
theorem fr_of {H H' : Hp} {l : Addr} (n : H' l = none) (e : Sm H H') : H l = none := e.free n
theorem ix2 {b : Bool} {x y : Int} : atI [V.int x, V.int y] (if b = true then 1 else 0) = some (V.int (if b = true then y else x)) := by
  cases b <;> rfl
section
variable {H : Hp} {Q : VK} {K : PySem.W.Frag} {a : Addr} {x0 x1 x2 x3 v : V} {xs : List V}
theorem r_ixL0 (h : SqL K H a (x0 :: xs)) (k : Q x0 H) : rIx K (.ref a) (.int 0) H Q := r_ixL h (atI_nat (j := 0) rfl) k
theorem r_ixL1 (h : SqL K H a (x0 :: x1 :: xs)) (k : Q x1 H) : rIx K (.ref a) (.int 1) H Q := r_ixL h (atI_nat (j := 1) rfl) k
theorem r_ixL2 (h : SqL K H a (x0 :: x1 :: x2 :: xs)) (k : Q x2 H) : rIx K (.ref a) (.int 2) H Q := r_ixL h (atI_nat (j := 2) rfl) k
theorem r_ixT0 (h : SqT K H a (x0 :: xs)) (k : Q x0 H) : rIx K (.ref a) (.int 0) H Q := r_ixT h (atI_nat (j := 0) rfl) k
theorem r_ixT1 (h : SqT K H a (x0 :: x1 :: xs)) (k : Q x1 H) : rIx K (.ref a) (.int 1) H Q := r_ixT h (atI_nat (j := 1) rfl) k
theorem r_ixT2 (h : SqT K H a (x0 :: x1 :: x2 :: xs)) (k : Q x2 H) : rIx K (.ref a) (.int 2) H Q := r_ixT h (atI_nat (j := 2) rfl) k
theorem r_setB0 {Q : Hp → Prop} (h : H a = some (.lst [x0, x1])) (k : Q (upd H a (.lst [v, x1]))) : rSetL (.ref a) (.int 0) v H Q := r_setL h rfl k
theorem r_setB1 {Q : Hp → Prop} (h : H a = some (.lst [x0, x1])) (k : Q (upd H a (.lst [x0, v]))) : rSetL (.ref a) (.int 1) v H Q := r_setL h (j := 1) rfl k
end
/-! texts by their signs -/
theorem joinL_nil : ∀ ps : List (List Nat), TL.joinL [] ps = ps.flatten
  | [] => rfl
  | [p] => by
    show p = [p].flatten
    simp
  | p :: q :: r => by
    show p ++ ([] ++ TL.joinL [] (q :: r)) = (p :: q :: r).flatten
    rw [joinL_nil (q :: r)]
    simp
theorem join_parts (ps : List (List Nat)) : Txt.join (SX.S []) (ps.map SX.S) = SX.S ps.flatten := by rw [SX.join_S, joinL_nil]
theorem flat_ones (cs : List Nat) : (cs.map fun c => [c]).flatten = cs := by
  induction cs with
  | nil => rfl
  | cons c cs ih => rw [List.map_cons, List.flatten_cons, ih]; rfl
section
variable {H : Hp} {Q : VK} {K : PySem.W.Frag}
/-- a sign of a text at a place within -/
theorem r_ixSn {z : Str} {i : Int} {n : Nat} (hz : z.length = n) (hn : n ≤ 1000000) (h0 : 0 ≤ i) (h1 : i < (n : Int)) (k : ∀ c, z.cps.toList[i.toNat]? = some c → Q (.str ⟨#[c]⟩) H) : rIx K (.str z) (.int i) H Q := by
  obtain ⟨c, e, g⟩ := atI_of (xs := z.cps.toList) h0 (by rw [← str_len, hz]; exact h1)
  have hl : (1000000 : Nat) ≤ sizeLine := by rw [sizeLine_eq]; decide
  exact r_ixS (by rw [hz]; omega) e (k c g)
/-- a text joined of single signs -/
theorem r_join1 {p : Addr} {cs : List Nat} (h : H p = some (.lst (cs.map fun c => V.str ⟨#[c]⟩))) (z : cs.length ≤ 16777216) (k : Q (.str (SX.S cs)) H) : rJoin K (.str (SX.S [])) [.ref p] H Q := by
  have e : (cs.map fun c => V.str ⟨#[c]⟩) = ((cs.map fun c => [c]).map SX.S).map V.str := by
    rw [List.map_map, List.map_map]
    rfl
  rw [e] at h
  refine r_join (ys := (cs.map fun c => [c]).map SX.S) (SqL.of h) ?_ ?_
  · rw [SX.lens, List.map_map]
    have : ((fun c : List Nat => c.length) ∘ fun c => [c]) = fun _ : Nat => 1 := rfl
    rw [this]
    have e0 : (SX.S []).length = 0 := rfl
    rw [e0, Nat.mul_zero, Nat.add_zero]
    have : ∀ l : List Nat, (l.map fun _ => 1).sum = l.length := fun l => by
      induction l with
      | nil => rfl
      | cons c l ih => rw [List.map_cons, List.sum_cons, ih, List.length_cons]; omega
    rw [this]
    exact z
  · rw [join_parts, flat_ones]
    exact k
end
/-! the same rules, the written part by its own name -/
section
variable {X : Cx} {K : PySem.W.Frag}
theorem ix_k (e : X.K = K) : IxR X (rIx K) := e ▸ ix_seq
theorem add_k (e : X.K = K) : OpR X (binaryOp .Add) (rAddA K) := e ▸ op_addA
theorem mul_k (e : X.K = K) : OpR X (binaryOp .Mult) (rMulA K) := e ▸ op_mulA
theorem eq_k (e : X.K = K) (hu : X.A.units + 64 < cLine) : OpR X (compareOp .Eq) (rEqA K) := e ▸ op_eqA hu
theorem ne_k (e : X.K = K) (hu : X.A.units + 64 < cLine) : OpR X (compareOp .NotEq) (rNeA K) := e ▸ op_neA hu
theorem in_k (e : X.K = K) : OpR X (compareOp .In) (rInA K) := e ▸ op_inA
theorem notIn_k (e : X.K = K) : OpR X (compareOp .NotIn) (rNotInA K) := e ▸ op_notInA
theorem sl_k (e : X.K = K) : SlR X (rSlAny K) := e ▸ sl_any
theorem len_k (e : X.K = K) : CallR X (.builtin "len") (rLenA K) := e ▸ call_lenA
theorem max_k (e : X.K = K) (hc : X.calm = true) : CallR X (.builtin "max") (rMaxA K) := e ▸ call_maxA hc
theorem min_k (e : X.K = K) (hc : X.calm = true) : CallR X (.builtin "min") (rMinA K) := e ▸ call_minA hc
theorem sum_k (e : X.K = K) (hc : X.calm = true) : CallR X (.builtin "sum") (rSum K) := e ▸ cr_sum hc
theorem all_k (e : X.K = K) (hc : X.calm = true) : CallR X (.builtin "all") (rAll K) := e ▸ cr_all hc
theorem any_k (e : X.K = K) (hc : X.calm = true) : CallR X (.builtin "any") (rAny K) := e ▸ cr_any hc
theorem isi_k (e : X.K = K) : CallR X (.builtin "isinstance") (rIsi K) := e ▸ call_isi
theorem list_k (e : X.K = K) : CallR X (.type "list") (rListA K) := e ▸ cl_list
theorem tuple_k (e : X.K = K) : CallR X (.type "tuple") (rTupleA K) := e ▸ cl_tuple
theorem join_k (e : X.K = K) : MtR X "str.join" (rJoin K) := e ▸ mj_join
theorem any_pi {tg l : Expr} {tl : TE} (e : X.K = K) (hl : PE X l tl) : PI X tg l (iAny K tl) := e ▸ pi_any hl
variable {a b : Expr} {ta tb : TE} {rest : List Expr} {pos : Pos}
theorem orT_k (e : X.K = K) (ha : PE X a ta) (hb : PE X (.BoolOp .Or (b :: rest) pos) tb) : PE X (.BoolOp .Or (a :: b :: rest) pos) (tOrT K ta tb) := e ▸ pe_orT ha hb
theorem andT_k (e : X.K = K) (ha : PE X a ta) (hb : PE X (.BoolOp .And (b :: rest) pos) tb) : PE X (.BoolOp .And (a :: b :: rest) pos) (tAndT K ta tb) := e ▸ pe_andT ha hb
theorem notT_k (e : X.K = K) (ha : PE X a ta) : PE X (.UnaryOp .Not a pos) (tNotT K ta) := e ▸ pe_notT ha
end
theorem ne_fr' {H : Hp} {b D : Addr} (h : BoxAt H b) (n : H D = none) : D ≠ b := by
  obtain ⟨c, s, h⟩ := h
  exact (ne_of_none h n).symm
theorem chg_tr {b : Addr} {H H1 H2 : Hp} (c : Chg b H1 H2) (a : Chg b H H1) : Chg b H H2 := a.trans c
theorem sm_tr {H H1 H2 : Hp} (c : Sm H1 H2) (a : Sm H H1) : Sm H H2 := a.trans c
theorem sm_hid {b : Addr} {H H1 H2 : Hp} (c : Chg b H1 H2) (n : H b = none) (a : Sm H H1) : Sm H H2 := c.sm a n
theorem len_le {n : Nat} (h : n ≤ 1000000) : n ≤ sizeLine := by
  have hl : (1000000 : Nat) ≤ sizeLine := by rw [sizeLine_eq]; decide
  omega
section
variable {σ : St} {H : Hp} {Q : VK} {K : PySem.W.Frag}
theorem r_chain {r r' : R2} {ta tb tc : TE} (h : ta σ H fun x H1 => tb σ H1 fun y H2 => r x y H2 fun z H3 => ∃ k, z = .bl k ∧ (if k = true then tc σ H3 fun w' H4 => r' y w' H4 Q else Q (.bl false) H3)) : tChain r r' ta tb tc σ H Q := h
theorem r_maxF {i j : Int} (k : ∀ m, i ≤ m → j ≤ m → (m = i ∨ m = j) → Q (.int m) H) : rMaxA K [.int i, .int j] H Q := by
  refine r_max (k _ ?_ ?_ ?_) <;> split <;> omega
theorem r_minF {i j : Int} (k : ∀ m, m ≤ i → m ≤ j → (m = i ∨ m = j) → Q (.int m) H) : rMinA K [.int i, .int j] H Q := by
  refine r_min (k _ ?_ ?_ ?_) <;> split <;> omega
theorem r_isB {a b : Bool} (k : Q (.bl (decide (a = b))) H) : rIsB (.bl a) (.bl b) H Q := ⟨a, b, rfl, rfl, k⟩
theorem r_inSt {t : Str} {c : Nat} {z : Str} (e : t = ⟨#[c]⟩) (k : Q (.bl (decide (c ∈ z.cps.toList))) H) : rInA K (.str t) (.str z) H Q := by
  subst e
  exact r_inS k
end
section
variable {σ : St} {H : Hp} {Q : VK} {K : PySem.W.Frag}
/-- an item of a list of ints at a place within -/
theorem r_ixLi {a : Addr} {xs : List V} {i : Int} {ns : List Int} (h : SqL K H a xs) (e : xs = ns.map V.int) (h0 : 0 ≤ i) (h1 : i < (ns.length : Int)) (k : ∀ n, n ∈ ns → Q (.int n) H) : rIx K (.ref a) (.int i) H Q := by
  subst e
  obtain ⟨v, ev, hv⟩ := atI_mem (xs := ns.map V.int) h0 (by rw [List.length_map]; exact h1)
  obtain ⟨n, hn, rfl⟩ := List.mem_map.mp hv
  exact r_ixL h ev (k n hn)
theorem cshl1 {j : Int} (h0 : 0 ≤ j) (h1 : j ≤ 100000) : CShl 1 j := by
  refine ⟨h0, ?_⟩
  have e1 : (Builtin.Int.intBits 1 : Int) = 1 := by decide
  have e2 : (2 : Int) ^ 27 = 134217728 := by decide
  rw [e1, e2]
  omega
theorem pow2_le {a b : Nat} (h : a ≤ b) : (2 : Int) ^ a ≤ 2 ^ b := by
  have := Nat.pow_le_pow_right (show 0 < 2 by decide) h
  have e : ∀ n : Nat, ((2 ^ n : Nat) : Int) = (2 : Int) ^ n := fun n => by rw [Int.natCast_pow]; rfl
  rw [← e, ← e]
  exact Int.ofNat_le.mpr this
theorem ediv_down {l b : Int} (hl : 0 < l) (hb : 2 ≤ b) : 0 ≤ l / b ∧ l / b < l := by
  refine ⟨Int.ediv_nonneg (by omega) (by omega), ?_⟩
  have h1 : l / b * b ≤ l := Int.ediv_mul_le l (by omega)
  have h2 : 0 ≤ l / b := Int.ediv_nonneg (by omega) (by omega)
  rcases Int.lt_or_le (l / b) l with h | h
  · exact h
  · have h3 : l * 2 ≤ l / b * b := Int.mul_le_mul h hb (by omega) h2
    omega
end
theorem Chg.seq {K : PySem.W.Frag} {b : Addr} {H H' : Hp} {a : Addr} {xs : List V} (e : Chg b H H') (n : a ≠ b) (h : SqL K H a xs) : SqL K H' a xs := by
  rcases h with (h | ⟨o, h⟩) | h
  · exact .inl (.inl (e.to _ _ n h))
  · exact .inl (.inr ⟨o, e.to _ _ n h⟩)
  · exact .inr h
theorem Chg.seqT {K : PySem.W.Frag} {b : Addr} {H H' : Hp} {a : Addr} {xs : List V} (e : Chg b H H') (n : a ≠ b) (h : SqT K H a xs) : SqT K H' a xs := by
  rcases h with (h | ⟨o, h⟩) | h
  · exact .inl (.inl (e.to _ _ n h))
  · exact .inl (.inr ⟨o, e.to _ _ n h⟩)
  · exact .inr h
theorem BoxAt.chg {b D : Addr} {H H' : Hp} (e : Chg D H H') (n : b ≠ D) (h : BoxAt H b) : BoxAt H' b := by
  obtain ⟨x, y, h⟩ := h
  exact ⟨x, y, e.to _ _ n h⟩
theorem box_ne {H : Hp} {b D : Addr} (n : H D = none) (h : BoxAt H b) : b ≠ D := (ne_fr' h n).symm
theorem chg_fr {b t : Addr} {H H' : Hp} (n : H' t = none) (hb : BoxAt H' b) (c : Chg b H H') : H t = none := by
  cases q : H t with
  | none => rfl
  | some o =>
    have := c.to t o (ne_fr' hb n) q
    rw [n] at this
    cases this
theorem cutV_mem {xs : List V} {lo hi : Option Int} {v : V} (h : v ∈ cutV xs lo hi) : v ∈ xs := List.mem_of_mem_drop (List.mem_of_mem_take h)
theorem cutV_le (xs : List V) (lo hi : Option Int) : (cutV xs lo hi).length ≤ xs.length := by
  unfold cutV
  rw [List.length_take, List.length_drop]
  omega
section
variable {σ : St} {H : Hp} {Q : VK} {K : PySem.W.Frag} {X : Cx}
theorem rev_pi {tg e : Expr} {te : TE} {p pos : Pos} (ek : X.K = K) (hg : Gl X "reversed") (hm : X.mg "reversed" = none) (he : PE X e te) (hs : starEach [e] X.env = (false, eval e X.env) :: starEach [] X.env := by rfl) : PI X tg (.Call (.Name "reversed" p) [e] [] pos) (RT.iRevA K te) := ek ▸ RT.pi_revA hg hm he hs
theorem r_rev {te : TE} {R : It → Hp → Prop} (h : te σ H fun v H1 => ∃ (a : Addr) (xs : List V), v = .ref a ∧ ((SqL K H1 a xs ∧ R (Itv K a xs.length) H1) ∨ (SqT K H1 a xs ∧ R (RT.ItvT K a xs.length) H1))) : RT.iRevA K te σ H R := h
theorem r_revL {a : Addr} {xs : List V} {P : Addr → List V → Prop} {P' : Addr → List V → Prop} (h : SqL K H a xs) (k : P a xs) : ∃ (b : Addr) (ys : List V), V.ref a = .ref b ∧ ((SqL K H b ys ∧ P b ys) ∨ (SqT K H b ys ∧ P' b ys)) := ⟨a, xs, rfl, .inl ⟨h, k⟩⟩
theorem r_revT {a : Addr} {xs : List V} {P : Addr → List V → Prop} {P' : Addr → List V → Prop} (h : SqT K H a xs) (k : P' a xs) : ∃ (b : Addr) (ys : List V), V.ref a = .ref b ∧ ((SqL K H b ys ∧ P b ys) ∨ (SqT K H b ys ∧ P' b ys)) := ⟨a, xs, rfl, .inr ⟨h, k⟩⟩
/-- an item of a list of ints, by its place -/
theorem r_ixLg {a : Addr} {xs : List V} {i : Int} {ns : List Int} (h : SqL K H a xs) (e : xs = ns.map V.int) (h0 : 0 ≤ i) (h1 : i < (ns.length : Int)) (k : ∀ n, ns[i.toNat]? = some n → Q (.int n) H) : rIx K (.ref a) (.int i) H Q := by
  subst e
  obtain ⟨v, ev, hv⟩ := atI_of (xs := ns.map V.int) h0 (by rw [List.length_map]; exact h1)
  rw [List.getElem?_map] at hv
  cases hn : ns[i.toNat]? with
  | none =>
    rw [hn] at hv
    cases hv
  | some n =>
    rw [hn] at hv
    have e : V.int n = v := Option.some.inj hv
    subst e
    exact r_ixL h ev (k n hn)
end
theorem rep_ints (n : Nat) (x : Int) : (List.replicate n [V.int x]).flatten = (List.replicate n x).map V.int := by
  induction n with
  | zero => rfl
  | succ n ih => rw [List.replicate_succ, List.flatten_cons, ih, List.replicate_succ, List.map_cons]; rfl
/-- lists of ints are equal as data just where they are -/
theorem dps_ints {K : PySem.W.Frag} {H : Hp} : ∀ ns : List Int, DpAll K H (ns.map V.int) (ns.map PyData.int)
  | [] => .nil
  | n :: ns => .cons (.int n) (dps_ints ns)
theorem dp_ints {K : PySem.W.Frag} {H : Hp} {a : Addr} {ns : List Int} (h : SqL K H a (ns.map V.int)) : Dp K H (.ref a) (.list (ns.map PyData.int)) := .lst h (dps_ints ns)
theorem pow_lim {b : Int} {n : Nat} (h0 : 0 ≤ b) (h1 : b ≤ 1099511627776) : (b ^ n).natAbs < 2 ^ (40 * n + 1) := by
  rw [Int.natAbs_pow]
  have h2 : b.natAbs ≤ 2 ^ 40 := by
    have e : (2 : Nat) ^ 40 = 1099511627776 := by decide
    omega
  have h3 := Nat.pow_le_pow_left h2 n
  rw [← Nat.pow_mul] at h3
  have h4 : 2 ^ (40 * n) < 2 ^ (40 * n + 1) := Nat.pow_lt_pow_right (by decide) (by omega)
  omega
theorem lay_ints (ns : List Int) : PyData.canLayAll0 (ns.map PyData.int) = true := by
  induction ns with
  | nil => rfl
  | cons n ns ih => simpa [PyData.canLayAll0, PyData.canLay0] using ih
theorem deep_ints (ns : List Int) : PyData.depthAll (ns.map PyData.int) ≤ 1 := by
  induction ns with
  | nil => decide
  | cons n ns ih => simpa [PyData.depthAll, PyData.depth] using ih
theorem shaped_ints (ns : List Int) : SeqAt.shaped (.list (ns.map PyData.int)) = true := by
  have h := lay_ints ns
  have h2 := deep_ints ns
  simp [SeqAt.shaped, PyData.canLay0, PyData.depth, h]
  omega
theorem eqv_ints (ns : List Int) : PyData.eqv (.list (ns.map PyData.int)) (.list (ns.map PyData.int)) = true := SeqAt.eqv_refl _ (by simpa [PyData.canLay0] using lay_ints ns)
section
variable {H : Hp} {Q : VK} {K : PySem.W.Frag}
/-- two lists of the same ints -/
theorem r_neLL {a b : Addr} {ns : List Int} (ha : SqL K H a (ns.map V.int)) (hb : SqL K H b (ns.map V.int)) (k : Q (.bl false) H) : rNeA K (.ref a) (.ref b) H Q := r_neD (dp_ints ha) (dp_ints hb) (shaped_ints ns) (shaped_ints ns) (by rw [eqv_ints]; exact k)
theorem r_eqLL {a b : Addr} {ns : List Int} (ha : SqL K H a (ns.map V.int)) (hb : SqL K H b (ns.map V.int)) (k : Q (.bl true) H) : rEqA K (.ref a) (.ref b) H Q := r_eqD (dp_ints ha) (dp_ints hb) (shaped_ints ns) (shaped_ints ns) (by rw [eqv_ints]; exact k)
end
section
variable {H : Hp} {Q : VK} {K : PySem.W.Frag}
/-- [x] * n -/
theorem r_repI {a : Addr} {x i : Int} (ha : H a = some (.lst [V.int x])) (h0 : 0 ≤ i) (h1 : i ≤ 1000) (k : ∀ p H', Sm H H' → H p = none → H' p = some (.lst ((List.replicate i.toNat x).map V.int)) → Q (.ref p) H') : rMulA K (.ref a) (.int i) H Q :=
  r_mulL ha (by omega) (by omega) (len_le (by
    show 1 * i.toNat ≤ 1000000
    omega)) fun p H' s n e => k p H' s n (by rw [← rep_ints]; exact e)
/-- two lists of ints, one behind the other -/
theorem r_addLI {a b : Addr} {xs ys : List Int} (ha : H a = some (.lst (xs.map V.int))) (hb : H b = some (.lst (ys.map V.int))) (hz : xs.length + ys.length ≤ 1000000)
    (k : ∀ p H', Sm H H' → H p = none → H' p = some (.lst ((xs ++ ys).map V.int)) → Q (.ref p) H') : rAddA K (.ref a) (.ref b) H Q :=
  r_addL ha hb (len_le (by rw [List.length_map, List.length_map]; exact hz)) fun p H' s n e => k p H' s n (by rw [List.map_append]; exact e)
end
theorem r_ixLm {K : PySem.W.Frag} {H : Hp} {Q : VK} {a : Addr} {xs : List V} {i : Int} (h : SqL K H a xs) (h0 : 0 ≤ i) (h1 : i < (xs.length : Int)) (k : ∀ v, v ∈ xs → Q v H) : rIx K (.ref a) (.int i) H Q := by
  obtain ⟨v, ev, hv⟩ := atI_mem h0 h1
  exact r_ixL h ev (k v hv)
theorem chg_acc2 {b D : Addr} {H1 H4 : Hp} {o : HO} (n : H1 D = none) (c : Chg b H1 H4) : Chg b H1 (upd H4 D o) := chg_acc c n
theorem sm_acc2 {D : Addr} {H1 H4 : Hp} {o : HO} (n : H1 D = none) (c : Sm H1 H4) : Sm H1 (upd H4 D o) := sm_acc c n
end RV

namespace RV
open PySem PySem.Spec L2 PySem.NumText PySem.W
open PyProof.Rows hiding St
/-- the limit on an int's signs is what it was at the start -/
theorem looks_msd {K : PySem.W.Frag} {M : Model} {h : Heap} (X : K.In h) (e : PySem.W.nsIn K cStatics "sys.int_max_str_digits" = some none) : PySem.W.Looks M h Builtin.intMaxStrDigits 4300 :=
  (PySem.W.looks_nsIn X e).andThen .now
theorem from_text {M : Model} {A : Around} {E : Value → Shared → Prop} {s : Shared} {Q : Value → Shared → Prop} {v : Value} {text : List Nat} {n : Int}
    (lk : PySem.W.Looks M s.heap Builtin.intMaxStrDigits 4300) (far : ¬ (text.takeWhile (· != 0)).length ≤ 640)
    (got : (int_private% "readNumeral") 4300 10 (text.takeWhile (· != 0)) = (int_private% "Numeral.value") n)
    (whole : ((text.takeWhile (· != 0)).length == text.length) = true) (k : Q (.int n s.toks) { s with toks := s.toks + 1 }) :
    wpAny M A ((int_private% "intFromText") v text 10) Q E s := by
  obtain ⟨hp, g, d, tk, os⟩ := s
  have lk' : PySem.W.Looks M hp Builtin.intMaxStrDigits 4300 := lk
  clear lk
  repeat (any_goals (first
    | (with_reducible refine wpAny_ite_false (decide_eq_false far) ?_)
    | (with_reducible refine wpAny_ite_true (decide_eq_true whole) ?_)
    | ((with_reducible show wpAny _ _ Builtin.intMaxStrDigits _ _ _); refine PySem.W.Looks.here lk' ?_)
    | assumption
    | wp_step))
  all_goals (try rw [got])
  all_goals (try dsimp only)
  repeat (any_goals (first
    | (with_reducible refine wpAny_ite_true (decide_eq_true whole) ?_)
    | assumption
    | wp_step))
structure Kept (p : Prop) : Prop where
  get : p
theorem whole_text {x : PySem.Str} {u : Tok} {n : Int} (hl : x.length ≤ 16777216) (far : ¬ (numSeenOf x).length ≤ 640) (hn : PySem.intText? x = some n) :
    Meets (Builtin.«int.__new__» ⟨[.type "int", .str x u], []⟩) (fun A R s => (∀ M, PySem.W.Looks M s.heap Builtin.intMaxStrDigits 4300) ∧ R (.ok (.ret (.int n s.toks))) { s with toks := s.toks + 1 }) :=
  .of_wp fun prog w A R s hs => by
    obtain ⟨hp, g, d, tk, os⟩ := s
    obtain ⟨lk, fin⟩ := hs
    have a1 := F.conv_sub_int
    have a2 := F.madeHere_int
    have a3 := PySem.W.KIN.str_int
    have a4 := PySem.W.KIN.str_idx
    have a5 := PySem.W.KIN.str_trunc
    have a6 : typeOf (.str x u) = pure (.type "str") := rfl
    have got : (int_private% "readNumeral") 4300 10 (numSeenOf x) = (int_private% "Numeral.value") n ∧ ((numSeenOf x).length == (numTextOf x).length) = true := by
      have hs : (16777216 : Nat) = sizeLine := by rw [sizeLine_eq]
      rcases read4300 x (by rw [← hs]; exact hl) with ⟨m, h1, h2, h3⟩ | ⟨h1, _⟩
      · rw [hn] at h1
        cases h1
        exact ⟨h3, h2⟩
      · rw [hn] at h1
        cases h1
    have kk := Kept.mk (And.intro far got)
    have lk' := Kept.mk lk
    clear far got hl hn lk
    repeat (any_goals (first
      | assumption
      | ((with_reducible show wpAny _ _ ((int_private% "intFromText") _ _ _) _ _ _); refine from_text (lk'.get _) kk.get.1 kk.get.2.1 kk.get.2.2 ?_)
      | wp_step))
    all_goals first | exact ⟨_, rfl, fin⟩ | skip
section
variable {X : Cx} {K : PySem.W.Frag}
def rIntL : List V → Hp → VK → Prop := fun xs H Q => ∃ a n, xs = [.str a] ∧ PySem.intText? a = some n ∧ ¬ (numSeenOf a).length ≤ 640 ∧ a.length ≤ 16777216 ∧ Q (.int n) H
theorem long_int (e : X.K = K) (zs : PySem.W.nsIn K cStatics "sys.int_max_str_digits" = some none) : CallR X (.type "int") rIntL := by
  intro pins s σ H xs us Q I r h
  obtain ⟨a, n, rfl, hn, far, hl, q⟩ := h
  obtain ⟨u, rfl, t, rfl⟩ := vals1 r
  subst e
  exact call_int_1 (whole_text hl far hn) ⟨fun M => looks_msd I.kIn zs, rfl, ⟨.int n, H, I.tok _, ⟨_, rfl⟩, q⟩⟩
/-- int(..) of an int, a truth, a text of any length -/
def rIntX : List V → Hp → VK → Prop := fun xs H Q => rIntA xs H Q ∨ rIntL xs H Q
theorem int_x (e : X.K = K) (zs : PySem.W.nsIn K cStatics "sys.int_max_str_digits" = some none) : CallR X (.type "int") rIntX := cl_int.or (long_int e zs)
variable {H : Hp} {Q : VK}
theorem x_intI {i : Int} (k : Q (.int i) H) : rIntX [.int i] H Q := .inl (r_intI k)
theorem x_intB {i : Bool} (k : Q (.int (if i then 1 else 0)) H) : rIntX [.bl i] H Q := .inl (r_intB k)
/-- a text of figures alone -/
theorem x_intS {cs : List Nat} {n : Nat} (h : AllDigits cs) (h1 : cs ≠ []) (h2 : cs.length ≤ 4300) (hv : digitsVal cs = n) (k : Q (.int (n : Int)) H) : rIntX [.str (SX.S cs)] H Q := by
  have hl : (SX.S cs).length = cs.length := SX.S_len cs
  have hn : PySem.intText? (SX.S cs) = some (n : Int) := by
    rw [← hv]
    exact intText_digits (x := SX.S cs) h h1 (by rw [hl]; exact h2)
  by_cases far : (SX.S cs).length ≤ 640
  · exact .inl (r_intS hn far k)
  · refine .inr ⟨_, _, rfl, hn, ?_, by omega, k⟩
    rw [(numText_signs (x := SX.S cs) fun c hc => Or.inr (h c hc)).2]
    show ¬ (SX.S cs).cps.toList.length ≤ 640
    rw [← str_len]
    exact far
end
end RV

/-! promises of defs that show lists and tuples (repr): kept where nothing is being shown -/
namespace RV
open PySem PySem.Spec L2
open PyProof.Rows hiding St
section
variable {P : Program} {w : World} {K : PySem.W.Frag} {mg : Str → Option Value} {base : Heap} {CX : CXT} {k : Nat} {f : Addr} {fd : FuncData} {ps N : List Str} {sp : Sp}
structure FnG (P : Program) (w : World) (K : PySem.W.Frag) (mg : Str → Option Value) (base : Heap) (CX : CXT) (k : Nat) (f : Addr) (fd : FuncData) (ps : List Str) (sp : Sp) : Prop where
  many : ∀ vs H Q E, sp vs H Q E → vs.length = ps.length
  go : ∀ (A : Around) (outer : List Env) (s : Shared) (H : Hp) (args : Args) (us : List Value) (vs : List V) (Q : VK) (E : XK), A.guards = some [] → Room k A → Env0 P w K mg base A outer s H → BindsTo s fd args (ps.zip us) → Vals vs us → sp vs H Q E →
    codeAny (model P w) A (.call (.ref f) args) (CR CX outer P w H s Q E) s
theorem deeper_guards {A : Around} {env : Env} (h : A.guards = some []) : (A.deeper env).guards = some [] := by
  first
    | exact h
    | simpa [Around.deeper] using h
/-- one entry of a def, by its body -/
theorem entered {name qual : Str} {params : Arguments} {body : List Stmt} {scope : Scope} {dV kV doc pm cdv ct oc : Value} {an od : Option Addr} {osl : Array (Option Value)} {A : Around} {outer : List Env} {s : Shared} {H : Hp} {args : Args} {us : List Value} {vs : List V} {Q : VK} {E : XK}
    (there : K.lookup f = some ⟨oc, od, .func (PySem.W.fnOf name qual params body scope dV kV doc pm an cdv ct), osl⟩) (code : PySem.W.codeIn K cdv qual = true) (S : FnScope N ps scope) (hl : vs.length = ps.length)
    (hr : Room (k + 1) A) (e0 : Env0 P w K mg base A outer s H) (hb : BindsTo s (PySem.W.fnOf name qual params body scope dV kV doc pm an cdv ct) args (ps.zip us)) (r : Vals vs us)
    (t : TS) (ht : PSs (cxOf CX P w K mg base N qual scope f cdv A outer s H E) body t) (hq : t { nx := fun _ H' => Q .non H', rt := Q } (start N vs) H) :
    codeAny (model P w) A (.call (.ref f) args) (CR CX outer P w H s Q E) s := by
  have inK : K.In s.heap := e0.mod.kin.keeps fun b o e => (e0.bs b o e).1
  have free : s.heap.NoLimit := e0.mod.nolimit.keeps fun b o e => (e0.bs b o e).1
  have kinds : ∀ y ∈ ps.zip us, scope.names.lookup y.1 = some .local ∨ (scope.names.lookup y.1 = some .cell ∧ ((cellsFrom (s.heap.objs.size + 1) scope.names []).lookup y.1).isSome = true) := fun y hy =>
    (S.par y.1 (List.of_mem_zip (show (y.1, y.2) ∈ ps.zip us from hy)).1).imp _root_.id fun q => ⟨q, PySem.W.cellsFrom_some _ _ _ (.inl q)⟩
  refine codeAny_call_function hr.depth (inK _ _ there) rfl S.co S.gen rfl (PySem.W.codeRec_of inK code) (hb _ _ _ _ ?_)
  refine wpAny_newFunctionEnv_cells S.kind kinds fun env he s1 x => ?_
  subst he
  refine ⟨free.keeps x.toInCall.keep, codeAny_func ?_⟩
  refine wpAny_mono (ht.run [] s1 (start N vs) H _ (inv_start S hr.hd e0 hl r x) hq) (fun fl s' hs => ?_) fun e s' hs => hs
  cases fl with
  | ret u =>
    obtain ⟨v, σ', H', J, rv, q⟩ := hs
    exact ⟨v, H', J.os, J.bare, J.base, J.hok, rv, q⟩
  | next =>
    obtain ⟨σ', H', J, q⟩ := hs
    exact ⟨.non, H', J.os, J.bare, J.base, J.hok, rfl, q⟩
  | brk => exact hs.elim fun _ z => z.elim fun _ z => z.2.elim
  | cont => exact hs.elim fun _ z => z.elim fun _ z => z.2.elim
theorem okG {x qual : Str} {st : Stmt} (F : Fun K x qual st f fd) (S : FnScope N ps (defScope st)) (many : ∀ vs H Q E, sp vs H Q E → vs.length = ps.length)
    (hbody : ∀ (cdv : Value) (A : Around) (outer : List Env) (s : Shared) (H : Hp) (vs : List V) (Q : VK) (E : XK), Room k (A.deeper (envOfC qual (defScope st) s.heap.objs.size f cdv)) → (A.deeper (envOfC qual (defScope st) s.heap.objs.size f cdv)).guards = some [] → sp vs H Q E →
      ∃ t, PSs (cxOf CX0 P w K mg base N qual (defScope st) f cdv A outer s H E).nox (defBody st) t ∧ t { nx := fun _ H' => Q .non H', rt := Q } (start N vs) H) : FnG P w K mg base CX0 (k + 1) f fd ps sp := by
  obtain ⟨oc, od, kV, doc, pm, an, cdv, ct, osl, rfl, lk, hcd⟩ := F.ex
  refine ⟨many, fun A outer s H args us vs Q E hg hr e0 hb r hsp => ?_⟩
  obtain ⟨t, h, q⟩ := hbody cdv A outer s H vs Q E (hr.deeper _) (deeper_guards hg) hsp
  exact entered lk hcd S (many _ _ _ _ hsp) hr e0 hb r t h.nox q
end
section
variable {X : Cx} {CX : CXT} {k : Nat} {f : Addr} {fd : FuncData} {ps : List Str} {sp : Sp} {E : XK} {x : Str} {p pos : Pos} {e : Expr} {es : List Expr} {t : TA} {K : PySem.W.Frag}
/-- f(a, ..) of such a def -/
theorem pe_callG (F : FnG X.prog X.w X.K X.mg X.base CX k f fd ps sp) (hg0 : X.A.guards = some []) (hr : Room k X.A) (hg : Gl X x) (hm : X.mg x = some (.ref f)) (hk : PySem.W.keepIn X.K (.ref f) = true) (hb : Binds X.K fd ps []) (hx : Passes CX X E)
    (ha : PA X (e :: es) t) (hdb : (x == ("__debug__" : Str)) = false := by decide) (he : starEach (e :: es) X.env = (false, eval e X.env) :: starEach es X.env := by rfl) (hpl : (backTo pos (starEach es X.env)).any (·.1) = false := by rfl) :
    PE X (.Call (.Name x p) (e :: es) [] pos) (tCall sp [] E t) := by
  refine ⟨fun pins s σ H Q I h => wpAny_Call_Name_kw (ld_glob I hg hm ?_ hdb)⟩
  refine PySem.W.callWith_K (h₀ := X.base) I.ok.mod.kin hk (thn (ha.run pos pins s σ H _ I h) fun us s1 ⟨vs, H1, I1, r, q⟩ => ⟨I1.kIn, ?_⟩) he hpl
  have r2 : Vals (vs ++ []) (us ++ []) := r.append .nil
  refine wpAny_call (codeAny_mono (F.go X.A X.stack s1 H1 ⟨us, []⟩ (us ++ []) (vs ++ []) Q E hg0 hr I1.env0 (hb s1 us I1.kIn (by rw [← r2.length]; exact F.many _ _ _ _ q)) r2 q) fun z s' hq => ?_)
  cases z with
  | error er => exact hx pins σ H1 s1 er s' I1 hq
  | ok fl =>
    cases fl with
    | ret u => exact I1.after hq
    | next => exact hq.elim
    | brk => exact hq.elim
    | cont => exact hq.elim
/-! repr of data -/
def rReprD (K : PySem.W.Frag) : List V → Hp → VK → Prop := fun xs H Q => ∃ (a : Addr) (d : PyData), xs = [.ref a] ∧ Dp K H (.ref a) d ∧ d.showable = true ∧ d.hasDict = false ∧ d.depth ≤ 20 ∧ d.shown.length ≤ sizeLine ∧ Q (.str d.shown) H
theorem repr_k (e : X.K = K) (hg : X.A.guards = some []) (hu : X.A.units + 64 < cLine) : CallR X (.builtin "repr") (rReprD K) := by
  intro pins s σ H xs us Q I r h
  obtain ⟨a, d, rfl, hd, h1, h2, h3, h4, q⟩ := h
  obtain ⟨u, rfl, ru⟩ := vals1 r
  subst e
  obtain ⟨as, hr⟩ := Dp.reads I d _ _ hd ru
  obtain rfl : u = Value.ref a := ru
  refine repr_of_reads' hr h1 (PyData.noDict_hsm h2) hg (by omega) (fun b o e => e) (fun h' u tk hk => ?_) h4
  exact ⟨.str d.shown, H, I.kept (t' := tk) hk, ⟨u, rfl⟩, q⟩
end
/-! the law's head for such a def -/
theorem headG {P : Program} {w : World} {K : PySem.W.Frag} {mg mb : Str → Option Value} {CX : CXT} {k : Nat} {fa a : Addr} {fd : FuncData} {x : Str} {sp : Sp} {s1 : Shared} {vs : List Value} {ns : List Int}
    (inK : K.In s1.heap) (gn : s1.heap.Ns mainGlobals mg) (bn : s1.heap.Ns builtinsNs mb) (bb : ∀ y : Str, y ≠ "__name__" → mb y = bootBuiltins y) (free : s1.heap.NoLimit) (g0 : s1.gens = #[])
    (at0 : s1.heap.get? a = some { cls := .type "list", data := .seq vs.toArray }) (nums : IntsAre vs ns) (short : ns.length ≤ sizeLine) (room : Room k callerA)
    (F : ∀ b : Heap, K.In b → b.Ns mainGlobals mg → FnG P w K mg b CX k fa fd [x] sp) (bind : ∀ (s : Shared) (u : Value), BindsTo s fd ⟨[u], []⟩ [(x, u)])
    (asked : ∀ H : Hp, Only H → SqL K H a (ns.map V.int) → sp [.ref a] H (fun v _ => v = .bl true) fun _ _ _ => False)
    (none_out : ∀ H e s', CX [] H s1 (fun _ _ _ => False) e s' → False) :
    codeAny (model P w) callerA (.call (.ref fa) ⟨[.ref a], []⟩) (fun r s' => r = .ok (.ret (.bool true)) ∧ OldK s1.heap s'.heap ∧ s'.os = s1.os ∧ AllBare s'.gens) s1 := by
  have rv := vals_ints nums
  have main : ∀ H : Hp, Only H → SqL K H a (ns.map V.int) → HOk P w H s1.heap → (∀ b u, H b = some u → b = a ∧ K.lookup a = none) →
      codeAny (model P w) callerA (.call (.ref fa) ⟨[.ref a], []⟩) (fun r s' => r = .ok (.ret (.bool true)) ∧ OldK s1.heap s'.heap ∧ s'.os = s1.os ∧ AllBare s'.gens) s1 := by
    intro H only sq hok lone
    have noDict : ∀ {b : Addr} {m : Str → Option Value}, s1.heap.Ns b m → (hidT s1.heap H).Ns b m := fun {b m} ⟨o, es, ep, e, d, z⟩ => ⟨o, es, ep, hidT_get e (by
      cases q : H b with
      | none => rfl
      | some u =>
        obtain ⟨rfl, _⟩ := lone b u q
        rw [at0] at e
        cases e
        cases d), d, z⟩
    have inB : K.In (hidT s1.heap H) := fun b o e => hidT_get (inK b o e) (by
      cases q : H b with
      | none => rfl
      | some u =>
        obtain ⟨rfl, z⟩ := lone b u q
        rw [z] at e
        cases e)
    have mod : Mod K mg (hidT s1.heap H) := ⟨inB, noDict gn, ⟨mb, noDict bn, bb⟩, free.elim fun mc z => ⟨mc, noDict z.1, z.2⟩⟩
    have e0 : Env0 P w K mg (hidT s1.heap H) callerA [] s1 H := ⟨rfl, mod, fun b o e => of_hidT e, Nat.le_of_eq (hidT_size _ _), trivial, (fun b hb => absurd (show b ∈ ([] : List Addr) from hb) List.not_mem_nil), hok, .of_eq g0⟩
    refine codeAny_mono ((F _ inB (noDict gn)).go callerA [] s1 H ⟨[.ref a], []⟩ [.ref a] [.ref a] _ _ rfl room e0 (bind s1 (.ref a)) (.cons rfl .nil) (asked H only sq)) fun r s' z => ?_
    cases r with
    | error e => exact (none_out H e s' z).elim
    | ok fl =>
      cases fl with
      | next => exact z.elim
      | brk => exact z.elim
      | cont => exact z.elim
      | ret u =>
        obtain ⟨v, H', os, bare, un, hok', r', q⟩ := z
        obtain rfl : v = V.bl true := q
        obtain rfl : u = Value.bool true := r'
        refine ⟨rfl, OldK.of_keep fun b o e => ?_, os, bare⟩
        cases q : H b with
        | none => exact un.keep b o e q (fun z => absurd (show b ∈ ([] : List Addr) from z) List.not_mem_nil) List.not_mem_nil
        | some u =>
          rcases only b with z | ⟨ob, xs, z⟩
          · rw [q] at z
            cases z
          · obtain ⟨e1, _⟩ := hok b _ z
            obtain ⟨e2, _⟩ := hok' b _ (un.frzs b ob _ z)
            rw [e] at e1
            cases e1
            exact e2
  cases own : K.lookup a with
  | some o =>
    have e := inK a o own
    rw [at0] at e
    cases e
    exact main (fun _ => none) (fun _ => .inl rfl) (.inr ⟨_, vs.toArray, _, own, rfl, rfl, rfl, by rw [List.size_toArray, nums.length]; exact short, by simpa using rv⟩) (fun b u z => nomatch (show (none : Option HO) = some u from z)) fun b u z => nomatch (show (none : Option HO) = some u from z)
  | none =>
    have tracked : ∀ b u, (fun c => if c = a then some (HO.frz { cls := .type "list", data := .seq vs.toArray } (.lst (ns.map V.int))) else none) b = some u → b = a ∧ u = HO.frz { cls := .type "list", data := .seq vs.toArray } (.lst (ns.map V.int)) := fun b u z => by
      by_cases hb : b = a
      · exact ⟨hb, (Option.some.inj ((if_pos hb).symm.trans z)).symm⟩
      · exact nomatch (if_neg hb).symm.trans z
    refine main (fun c => if c = a then some (.frz { cls := .type "list", data := .seq vs.toArray } (.lst (ns.map V.int))) else none) (fun b => ?_) (.inl (.inr ⟨_, if_pos rfl⟩)) (fun b u z => ?_) fun b u z => ⟨(tracked b u z).1, own⟩
    · by_cases hb : b = a
      · exact .inr ⟨_, _, if_pos hb⟩
      · exact .inl (if_neg hb)
    · obtain ⟨rfl, rfl⟩ := tracked b u z
      exact ⟨at0, by rw [List.length_map]; exact short, vs, _, rv, at0⟩
theorem walkG {l : PySem.W.OpenLaw} {n k : Nat} {q : Program} {loose : List Str} {XP : (Str → Option Value) → Heap → Prop} {YP : World → Heap → Prop} {d : DefRec} {K : Params → PySem.W.Frag} {CX : World → CXT} {sp : World → Sp} {x : Str}
    (hn : l.most = some n) (hn2 : n ≤ sizeLine) (hdf : d.params.defaults = []) (room : Room k callerA) (hY : ∀ (w : World) (h : Heap), YP w h → (K w.params).In h)
    (F : ∀ (w : World) (mg : Str → Option Value) (fa : Addr) (h : Heap), (K w.params).In h → h.Ns mainGlobals mg → mg d.name = some (.ref fa) →
      ∃ fd : FuncData, (∀ (s : Shared) (u : Value), BindsTo s fd ⟨[u], []⟩ [(x, u)]) ∧ ∀ b : Heap, (K w.params).In b → b.Ns mainGlobals mg → FnG l.prog w (K w.params) mg b (CX w) k fa fd [x] (sp w))
    (asked : ∀ (w : World) (H : Hp) (a : Addr) (ns : List Int), ns.length ≤ n → Only H → SqL (K w.params) H a (ns.map V.int) → sp w [.ref a] H (fun v _ => v = .bl true) fun _ _ _ => False)
    (none_out : ∀ (w : World) (H : Hp) (s : Shared) (e : Value) (s' : Shared), CX w [] H s (fun _ _ _ => False) e s' → False) :
    PySem.W.WalkO q loose XP YP l.row.toRowW d [] (fun f vs => PySem.call f vs) := by
  refine Att.attach_call hn hdf fun w s0 s1 mg mb fa o pm cd doc a vs ns G Y _ _ _ named obj nums len g0 => ?_
  have inK := hY w _ Y
  obtain ⟨fd, bind, got⟩ := F w mg fa _ inK G.T.g named
  exact headG inK G.T.g G.T.b G.T.builtins G.T.nolimit g0 obj nums (Nat.le_trans len hn2) room got bind (fun H only sq => asked w H a ns len only sq) fun H e s' => none_out w H s1 e s'
end RV
/-! repr of lists of numbers -/
namespace RV
open PySem PySem.Spec L2
open PyProof.Rows hiding St
theorem showable_ints : ∀ {ns : List Int}, (∀ n ∈ ns, n.natAbs < 2 ^ 64) → PyData.showableAll (ns.map PyData.int) = true
  | [], _ => by simp [PyData.showableAll]
  | n :: ns, h => by
    have h1 := h n List.mem_cons_self
    have h2 : n.natAbs.log2 < 1920 := by
      by_cases z : n.natAbs = 0
      · rw [z]; decide
      · exact Nat.lt_of_lt_of_le ((Nat.log2_lt z).mpr h1) (by decide)
    have h3 := showable_ints fun m hm => h m (List.mem_cons_of_mem _ hm)
    simp only [List.map_cons, PyData.showableAll, PyData.showable, h3, Bool.and_true, decide_eq_true_eq]
    exact h2
theorem noDict_ints (ns : List Int) : (PyData.list (ns.map PyData.int)).hasDict = false := PyData.hasDict_of_canLay _ (by simpa [PyData.canLay0] using lay_ints ns)
theorem sum_ints : ∀ {ns : List Int}, (∀ n ∈ ns, n.natAbs < 2 ^ 64) → ((PyData.shownAll (ns.map PyData.int)).map (·.length)).sum ≤ 65 * ns.length ∧ (PyData.shownAll (ns.map PyData.int)).length = ns.length
  | [], _ => by simp [PyData.shownAll]
  | n :: ns, h => by
    have h1 := h n List.mem_cons_self
    have h2 : n.natAbs.log2 < 64 := by
      by_cases z : n.natAbs = 0
      · rw [z]; decide
      · exact (Nat.log2_lt z).mpr h1
    have h3 := sum_ints fun m hm => h m (List.mem_cons_of_mem _ hm)
    have h4 := int_text_length_le (k := 64) (by decide) h2
    have h5 : (Str.ofString (toString n)).length ≤ 65 := by rw [PySem.ofString_length]; exact h4
    simp only [List.map_cons, PyData.shownAll, PyData.shown, List.sum_cons, List.length_cons]
    refine ⟨?_, by omega⟩
    have h6 : (Str.ofString (toString n)).length + ((PyData.shownAll (ns.map PyData.int)).map (·.length)).sum ≤ 65 * (ns.length + 1) := by omega
    exact h6
theorem shown_ints {ns : List Int} (h : ∀ n ∈ ns, n.natAbs < 2 ^ 64) (hl : ns.length ≤ 1000) : (PyData.list (ns.map PyData.int)).shown.length ≤ sizeLine := by
  have e := sum_ints h
  have e1 := listText_len_le (PyData.shownAll (ns.map PyData.int))
  have e2 : (PyData.list (ns.map PyData.int)).shown.length ≤ 65 * 1000 + 2 * 1000 + 3 := by
    simp only [PyData.shown]
    rw [e.2] at e1
    omega
  exact Nat.le_trans e2 (by rw [sizeLine_eq]; decide)
theorem r_reprL {K : PySem.W.Frag} {H : Hp} {Q : VK} {a : Addr} {ns : List Int} (h : SqL K H a (ns.map V.int)) (hn : ∀ n ∈ ns, n.natAbs < 2 ^ 64) (hl : ns.length ≤ 1000) (k : Q (.str (PyData.list (ns.map PyData.int)).shown) H) : rReprD K [.ref a] H Q :=
  ⟨a, _, rfl, dp_ints h, by simp only [PyData.showable]; exact showable_ints hn, noDict_ints ns, by
    have := deep_ints ns
    simp only [PyData.depth]
    omega, shown_ints hn hl, k⟩
section
variable {X : Cx} {pos : Pos} {K : PySem.W.Frag}
/-- a tuple of targets where the fragment is said by its name: goes in a comprehension's block -/
theorem pgT_k (e : X.K = K) {es : List Expr} {k : Nat} {t : TGs} {n : Nat} (hc : X.calm = true) (h : PGs X es t)
    (hn : (assignEach es X.env).length = n := by rfl) (hst : (assignEach es X.env).findIdx? (·.1) = none := by rfl) : PG X (.Tuple es k pos) (gTup K n t) := e ▸ pg_tup hc h hn hst
end
end RV

namespace RV
/-! bits of whole numbers, by halves -/
theorem and_par (a b : Nat) : (a &&& b) % 2 = a % 2 * (b % 2) := by
  have h := Nat.testBit_and a b 0
  rw [Nat.testBit_zero, Nat.testBit_zero, Nat.testBit_zero] at h
  have ha : a % 2 = 0 ∨ a % 2 = 1 := by omega
  have hb : b % 2 = 0 ∨ b % 2 = 1 := by omega
  have hc : (a &&& b) % 2 = 0 ∨ (a &&& b) % 2 = 1 := by omega
  rcases ha with ha | ha <;> rcases hb with hb | hb <;> rcases hc with hc | hc <;> simp_all
theorem and_half (a b : Nat) : (a &&& b) / 2 = (a / 2) &&& (b / 2) := Nat.and_div_two
/-- what the one has and the other has not -/
def out (a b : Nat) : Nat := a - (a &&& b)
theorem out_le (a b : Nat) : out a b ≤ a := Nat.sub_le _ _
theorem out_half (a b : Nat) : out a b / 2 = out (a / 2) (b / 2) ∧ out a b % 2 = a % 2 * (1 - b % 2) := by
  unfold out
  have h1 := and_half a b
  have h2 := and_par a b
  have h3 : (a &&& b) ≤ a := Nat.and_le_left
  have h4 : (a / 2 &&& b / 2) ≤ a / 2 := Nat.and_le_left
  have ha : a % 2 = 0 ∨ a % 2 = 1 := by omega
  have hb : b % 2 = 0 ∨ b % 2 = 1 := by omega
  generalize a &&& b = c at *
  generalize a / 2 &&& b / 2 = d at *
  rcases ha with ha | ha <;> rcases hb with hb | hb <;> rw [ha, hb] at h2 ⊢ <;> simp only [Nat.mul_zero, Nat.zero_mul, Nat.mul_one, Nat.one_mul, Nat.sub_zero, Nat.sub_self] at h2 ⊢ <;> constructor <;> omega
/-- how many bits are 1 -/
def pop (n : Nat) : Nat := if h : n = 0 then 0 else n % 2 + pop (n / 2)
termination_by n
decreasing_by omega
theorem pop_zero : pop 0 = 0 := by unfold pop; rfl
theorem pop_eq (n : Nat) : pop n = n % 2 + pop (n / 2) := by
  by_cases h : n = 0
  · subst h
    rw [pop_zero]
  · rw [pop, dif_neg h]
/-- where the ones stand, from a place on -/
def onesAt (n k : Nat) : List Nat := if h : n = 0 then [] else (if n % 2 = 1 then [k] else []) ++ onesAt (n / 2) (k + 1)
termination_by n
decreasing_by omega
theorem onesAt_zero (k : Nat) : onesAt 0 k = [] := by unfold onesAt; rfl
theorem onesAt_eq (n k : Nat) : onesAt n k = (if n % 2 = 1 then [k] else []) ++ onesAt (n / 2) (k + 1) := by
  by_cases h : n = 0
  · subst h
    simp [onesAt_zero]
  · rw [onesAt, dif_neg h]
theorem onesAt_len (n : Nat) : ∀ k, (onesAt n k).length = pop n := by
  induction n using Nat.strongRecOn with
  | _ n ih =>
    intro k
    by_cases h : n = 0
    · subst h
      rw [onesAt_zero, pop_zero]
      rfl
    · rw [onesAt_eq, pop_eq, List.length_append, ih (n / 2) (by omega)]
      split <;> simp only [List.length_cons, List.length_nil] <;> omega
theorem onesAt_mem (n : Nat) : ∀ k p, p ∈ onesAt n k ↔ k ≤ p ∧ n.testBit (p - k) = true := by
  induction n using Nat.strongRecOn with
  | _ n ih =>
    intro k p
    by_cases h : n = 0
    · subst h
      rw [onesAt_zero]
      simp
    · rw [onesAt_eq, List.mem_append, ih (n / 2) (by omega)]
      by_cases hp : p = k
      · subst hp
        rw [Nat.sub_self, Nat.testBit_zero]
        by_cases h1 : n % 2 = 1
        · simp [h1]
        · simp only [h1, if_false, List.not_mem_nil, false_or, decide_false]
          constructor
          · rintro ⟨h2, _⟩
            omega
          · rintro ⟨_, h2⟩
            exact absurd h2 Bool.false_ne_true
      · have e : p ∈ (if n % 2 = 1 then [k] else []) ↔ False := by
          split <;> simp [hp]
        rw [e, false_or]
        constructor
        · rintro ⟨h1, h2⟩
          refine ⟨by omega, ?_⟩
          have e2 : p - k = (p - (k + 1)) + 1 := by omega
          rw [e2, Nat.testBit_succ]
          exact h2
        · rintro ⟨h1, h2⟩
          refine ⟨by omega, ?_⟩
          have e2 : p - k = (p - (k + 1)) + 1 := by omega
          rw [e2, Nat.testBit_succ] at h2
          exact h2
/-- the ones that the other has not: how many, and what they come to -/
theorem lone_len (n : Nat) : ∀ m k (M : Nat), (∀ j, M.testBit (j + k) = m.testBit j) → ((onesAt n k).filter fun p => !M.testBit p).length = pop (out n m) := by
  induction n using Nat.strongRecOn with
  | _ n ih =>
    intro m k M hM
    by_cases h : n = 0
    · subst h
      have e : out 0 m = 0 := Nat.le_zero.mp (out_le 0 m)
      rw [onesAt_zero, e, pop_zero]
      rfl
    · have hM2 : ∀ j, M.testBit (j + (k + 1)) = (m / 2).testBit j := fun j => by
        rw [← Nat.testBit_succ, ← hM]
        congr 1
        all_goals omega
      rw [onesAt_eq, List.filter_append, List.length_append, ih (n / 2) (by omega) (m / 2) (k + 1) M hM2, pop_eq (out n m), (out_half n m).1, (out_half n m).2]
      congr 1
      have h0 := hM 0
      rw [Nat.zero_add, Nat.testBit_zero] at h0
      have hb : m % 2 = 0 ∨ m % 2 = 1 := by omega
      have ha : n % 2 = 0 ∨ n % 2 = 1 := by omega
      rcases ha with ha | ha <;> rcases hb with hb | hb <;> simp [ha, hb, h0]
theorem lone_sum (n : Nat) : ∀ m k (M : Nat), (∀ j, M.testBit (j + k) = m.testBit j) → (((onesAt n k).filter fun p => !M.testBit p).map fun p => 2 ^ p).sum = 2 ^ k * out n m := by
  induction n using Nat.strongRecOn with
  | _ n ih =>
    intro m k M hM
    by_cases h : n = 0
    · subst h
      have e : out 0 m = 0 := Nat.le_zero.mp (out_le 0 m)
      rw [onesAt_zero, e]
      rfl
    · have hM2 : ∀ j, M.testBit (j + (k + 1)) = (m / 2).testBit j := fun j => by
        rw [← Nat.testBit_succ, ← hM]
        congr 1
        all_goals omega
      rw [onesAt_eq, List.filter_append, List.map_append, List.sum_append, ih (n / 2) (by omega) (m / 2) (k + 1) M hM2]
      have h0 := hM 0
      rw [Nat.zero_add, Nat.testBit_zero] at h0
      obtain ⟨o1, o2⟩ := out_half n m
      have e : out n m = 2 * out (n / 2) (m / 2) + n % 2 * (1 - m % 2) := by omega
      rw [e, Nat.mul_add, Nat.pow_succ, Nat.mul_assoc, Nat.add_comm]
      congr 1
      have hb : m % 2 = 0 ∨ m % 2 = 1 := by omega
      have ha : n % 2 = 0 ∨ n % 2 = 1 := by omega
      rcases ha with ha | ha <;> rcases hb with hb | hb <;> simp [ha, hb, h0]
theorem out_and (a b : Nat) : out a b &&& a = out a b := by
  induction a using Nat.strongRecOn generalizing b with
  | _ a ih =>
    by_cases h : a = 0
    · subst h
      have e : out 0 b = 0 := Nat.le_zero.mp (out_le 0 b)
      rw [e]
      rfl
    · have h1 := and_half (out a b) a
      have h2 := and_par (out a b) a
      obtain ⟨o1, o2⟩ := out_half a b
      rw [o1, ih (a / 2) (by omega)] at h1
      have ha : a % 2 = 0 ∨ a % 2 = 1 := by omega
      have hb : b % 2 = 0 ∨ b % 2 = 1 := by omega
      generalize out a b &&& a = c at *
      generalize out (a / 2) (b / 2) = d at *
      generalize out a b = f at *
      rcases ha with ha | ha <;> rcases hb with hb | hb <;> rw [ha, hb] at o2 <;> rw [ha] at h2 <;> simp only [Nat.mul_zero, Nat.zero_mul, Nat.mul_one, Nat.one_mul, Nat.sub_zero, Nat.sub_self] at o2 h2 <;> omega
theorem out_zero {a b : Nat} (h : a &&& b = a) : out a b = 0 := by unfold out; rw [h]; omega
theorem out_self_zero {a b : Nat} : out a b = 0 ↔ pop (out a b) = 0 := by
  constructor
  · intro h; rw [h, pop_zero]
  · intro h
    generalize out a b = n at h
    induction n using Nat.strongRecOn with
    | _ n ih =>
      by_cases h0 : n = 0
      · exact h0
      · rw [pop_eq] at h
        have := ih (n / 2) (by omega) (by omega)
        omega
/-- the bits as signs, the greatest first -/
def bin (n : Nat) : List Nat := if h : n < 2 then [48 + n] else bin (n / 2) ++ [48 + n % 2]
termination_by n
decreasing_by omega
theorem bin_small {n : Nat} (h : n < 2) : bin n = [48 + n] := by rw [bin, dif_pos h]
theorem bin_big {n : Nat} (h : 2 ≤ n) : bin n = bin (n / 2) ++ [48 + n % 2] := by rw [bin, dif_neg (by omega)]
theorem dig_bit {d : Nat} (h : d < 2) : (Nat.digitChar d).toNat = 48 + d := by
  have : d = 0 ∨ d = 1 := by omega
  rcases this with rfl | rfl <;> rfl
theorem toDigits_bin (n : Nat) : (Nat.toDigits 2 n).map (fun c => c.toNat) = bin n := by
  induction n using Nat.strongRecOn with
  | _ n ih =>
    by_cases h : n < 2
    · rw [Nat.toDigits_of_lt_base h, bin_small h]
      show [(Nat.digitChar n).toNat] = _
      rw [dig_bit h]
    · rw [Nat.toDigits_of_base_le (by decide) (by omega), bin_big (by omega), List.map_append, ih (n / 2) (by omega)]
      show _ ++ [(Nat.digitChar (n % 2)).toNat] = _
      rw [dig_bit (by omega)]
theorem bin_in (n : Nat) : ∀ c ∈ bin n, c = 48 ∨ c = 49 := by
  induction n using Nat.strongRecOn with
  | _ n ih =>
    intro c hc
    by_cases h : n < 2
    · rw [bin_small h, List.mem_singleton] at hc
      omega
    · rw [bin_big (by omega), List.mem_append, List.mem_singleton] at hc
      rcases hc with hc | hc
      · exact ih (n / 2) (by omega) c hc
      · omega
theorem bin_ne (n : Nat) : bin n ≠ [] := by
  by_cases h : n < 2
  · rw [bin_small h]; simp
  · rw [bin_big (by omega)]; simp
theorem bin_len (n : Nat) : ∀ k, n < 2 ^ (k + 1) → (bin n).length ≤ k + 1 := by
  induction n using Nat.strongRecOn with
  | _ n ih =>
    intro k hk
    by_cases h : n < 2
    · rw [bin_small h]
      simp
    · rw [bin_big (by omega), List.length_append]
      cases k with
      | zero => rw [Nat.zero_add, Nat.pow_one] at hk; omega
      | succ k =>
        rw [Nat.pow_succ] at hk
        have := ih (n / 2) (by omega) k (by omega)
        simp only [List.length_cons, List.length_nil]
        omega
theorem bin_count (n : Nat) : (bin n).count 49 = pop n := by
  induction n using Nat.strongRecOn with
  | _ n ih =>
    by_cases h : n < 2
    · rw [bin_small h]
      have : n = 0 ∨ n = 1 := by omega
      rcases this with rfl | rfl
      · rw [pop_zero]; rfl
      · rw [pop_eq]
        simp [pop_zero]
    · rw [bin_big (by omega), List.count_append, ih (n / 2) (by omega), pop_eq n]
      have : n % 2 = 0 ∨ n % 2 = 1 := by omega
      rcases this with e | e <;> rw [e] <;> simp <;> omega
/-- what signs of bits come to -/
def bitsNum (l : List Nat) : Nat := l.foldl (fun a c => a * 2 + (c - 48)) 0
theorem bitsNum_snoc (l : List Nat) (c : Nat) : bitsNum (l ++ [c]) = bitsNum l * 2 + (c - 48) := by
  unfold bitsNum
  rw [List.foldl_append]
  rfl
theorem bitsNum_bin (n : Nat) : bitsNum (bin n) = n := by
  induction n using Nat.strongRecOn with
  | _ n ih =>
    by_cases h : n < 2
    · rw [bin_small h]
      show 0 * 2 + (48 + n - 48) = n
      omega
    · rw [bin_big (by omega), bitsNum_snoc, ih (n / 2) (by omega)]
      omega
theorem bitsNum_zeros (k : Nat) (l : List Nat) : bitsNum (List.replicate k 48 ++ l) = bitsNum l := by
  induction k with
  | zero => rfl
  | succ k ih =>
    rw [List.replicate_succ, List.cons_append]
    show bitsNum (List.replicate k 48 ++ l) = _
    exact ih
theorem pop_le {n k : Nat} (h : n < 2 ^ k) : pop n ≤ k + 1 := by
  have h3 : 2 ^ k ≤ 2 ^ (k + 1) := Nat.pow_le_pow_right (by decide) (by omega)
  have h1 := bin_len n k (by omega)
  have h2 := List.count_le_length (a := 49) (l := bin n)
  rw [bin_count] at h2
  omega
theorem bit_lt {n k p : Nat} (h : n < 2 ^ k) (hp : n.testBit p = true) : p < k := by
  rcases Nat.lt_or_ge p k with g | g
  · exact g
  · rw [Nat.testBit_lt_two_pow (Nat.lt_of_lt_of_le h (Nat.pow_le_pow_right (by decide) g))] at hp
    cases hp
/-- figures in a base that is a power of 2 -/
theorem and_fig (w : Nat) : ∀ x y r s : Nat, x < 2 ^ w → y < 2 ^ w → (x + 2 ^ w * r) &&& (y + 2 ^ w * s) = (x &&& y) + 2 ^ w * (r &&& s) := by
  induction w with
  | zero =>
    intro x y r s hx hy
    rw [Nat.pow_zero] at hx hy
    have : x = 0 := by omega
    have : y = 0 := by omega
    subst x
    subst y
    rw [Nat.pow_zero, Nat.zero_add, Nat.one_mul, Nat.zero_add, Nat.one_mul, Nat.one_mul]
    show _ = 0 + _
    rw [Nat.zero_add]
  | succ w ih =>
    intro x y r s hx hy
    rw [Nat.pow_succ] at hx hy
    have e : ∀ z t : Nat, (z + 2 ^ (w + 1) * t) / 2 = z / 2 + 2 ^ w * t ∧ (z + 2 ^ (w + 1) * t) % 2 = z % 2 := by
      intro z t
      rw [Nat.pow_succ, Nat.mul_right_comm]
      generalize 2 ^ w * t = u
      omega
    have h1 := and_half (x + 2 ^ (w + 1) * r) (y + 2 ^ (w + 1) * s)
    have h2 := and_par (x + 2 ^ (w + 1) * r) (y + 2 ^ (w + 1) * s)
    rw [(e x r).1, (e y s).1, ih _ _ _ _ (by omega) (by omega), ← and_half] at h1
    rw [(e x r).2, (e y s).2, ← and_par] at h2
    have e3 := e (x &&& y) (r &&& s)
    generalize x + 2 ^ (w + 1) * r &&& y + 2 ^ (w + 1) * s = c at *
    omega
end RV

/-! the bits of a number as a text: {n:b} -/
namespace RV
open PySem PySem.Spec L2 Builtin Float
open PyProof.Rows hiding St
def binSpec : FormatSpec := { align := 62, type := some 98 }
/-- the bits as a text -/
def binText (a : Int) : Str := ⟨((Nat.toDigits 2 a.natAbs).map fun c => c.toNat).toArray⟩
section
variable {prog : Program} {w : World} {A : Around} {E : Value → Shared → Prop} {s : Shared}
theorem by_eq {α : Type} {Q : α → Shared → Prop} {m m' : Sem α} (h : wpAny (model prog w) A m' Q E s) (e : m = m') : wpAny (model prog w) A m Q E s := e ▸ h
theorem field_bin {a : Int} (h0 : 0 ≤ a) : intField' binSpec (decide (a < 0)) [] ((Nat.toDigits 2 a.natAbs).map fun c => (if ((98 : Nat) == 88) = true then c.toUpper else c).toNat) [] 4 = binText a := by
  have e0 : decide (a < 0) = false := decide_eq_false (by omega)
  have e1 : (fun c : Char => (if ((98 : Nat) == 88) = true then c.toUpper else c).toNat) = fun c => c.toNat := by
    funext c
    rw [if_neg (by decide)]
  rw [e0, e1]
  generalize hL : (Nat.toDigits 2 a.natAbs).map (fun c => c.toNat) = L
  have e2 : binText a = ⟨L.toArray⟩ := by rw [binText, hL]
  rw [e2]
  cases L with
  | nil => rfl
  | cons x r =>
    have e3 : intField' binSpec false [] (x :: r) [] 4 = ⟨(List.replicate ((-1 : Int) - ((([] : List Nat).length : Int) + (([] : List Nat).length : Int) + (([] : List Nat).length : Int)) - ((List.replicate ((0 : Int).toNat - (x :: r).length) 48 ++ (x :: r)).length : Int)).toNat 32 ++ [] ++ [] ++ List.replicate 0 32 ++ (List.replicate ((0 : Int).toNat - (x :: r).length) 48 ++ (x :: r)) ++ [] ++ List.replicate 0 32).toArray⟩ := rfl
    have hz : (0 : Int).toNat - (x :: r).length = 0 := by
      show 0 - _ = 0
      omega
    have hp : ((-1 : Int) - ((([] : List Nat).length : Int) + (([] : List Nat).length : Int) + (([] : List Nat).length : Int)) - ((x :: r).length : Int)).toNat = 0 := by
      have : (([] : List Nat).length : Int) = 0 := rfl
      omega
    rw [e3, hz, List.replicate_zero, List.nil_append, hp, List.replicate_zero]
    simp only [List.nil_append, List.append_nil]
theorem formatField_bin {a : Int} {t : Tok} {Q : Value → Shared → Prop} (h0 : 0 ≤ a) (hl : (binText a).length ≤ sizeLine)
    (h : Q (.str (binText a) (s.toks + 1)) { s with toks := s.toks + 1 + 1 }) :
    wpAny (model prog w) A (formatField (.int a t) (Str.ofString "b")) Q E s := by
  have hsz : (Str.ofString "b").length ≤ sizeLine := by size_fits
  have hne : ((Str.ofString "b").length == 0) = false := by decide +kernel
  have hasc : (((Str.ofString "b").cps.toList.drop 1).any (· ≥ 128) || ((Str.ofString "b").cps.getD 0 0 ≥ 128 && !([60, 62, 61, 94] : List Nat).contains ((Str.ofString "b").cps.getD 1 0))) = false := by decide +kernel
  have hp : parseFormatSpec (Str.ofString "b").cps.toList "int" 62 = .ok binSpec := by kernel_rfl
  have hty : binSpec.type = some 98 := by kernel_rfl
  have hpr : binSpec.precision = none := by kernel_rfl
  have hz : binSpec.noNeg0 = false := by kernel_rfl
  have hal : binSpec.alt = false := by kernel_rfl
  have hw : binSpec.width = none := by kernel_rfl
  have hgr : binSpec.grouping = none := by kernel_rfl
  have hsg : binSpec.sign = none := by kernel_rfl
  have hfi : binSpec.fill = 32 := by kernel_rfl
  have hli : binSpec.align = 62 := by kernel_rfl
  show wpAny _ _ (holding [.int a t] (pyFormat (.int a t) (Str.ofString "b"))) Q E s
  refine wpAny_holding ?_
  unfold pyFormat
  refine wpAny_bind (wpAny_mkStr ?_ hsz)
  refine wpAny_bind (m := callSpecial? (.int a t) (Str.ofString "__format__") [.str (Str.ofString "b") s.toks]) (wpAny_callSpecial?_slot (name := Str.ofString "__format__") (typeIs_int _ a t) F.slot_int_format ?_)
  refine wpAny_call (codeAny_call_builtin F.slot_int_format.plain F.entry_int_format (F.slot_int_format.check _ _ _ _ _ _ _ _ (typeIs_int _ a t) (F.args_int_format_2 _ _) ?_))
  unfold Builtin.«int.__format__»
  simp only [selfAndOne, noKeywords, Int.intOfSelf, asInt?, asStr?, List.isEmpty_nil, if_true, pure_bind, bind_pure, bind_assoc, hne, hasc, Bool.false_eq_true, if_false,
    show (Value.str (Str.ofString "b") s.toks == Value.none) = false from rfl]
  refine wpAny_bind (wpAny_typeNameOf (T := "str") (typeIs_str _ _ _) (by decide) fun _ => ?_)
  first | refine wpAny_bind (wpAny_typeNameOfCut_int ?_) | refine wpAny_bind (wpAny_typeNameOf_int ?_)
  simp only [hp, hty, Option.getD_some]
  rw [if_pos (by decide)]
  refine by_eq (m' := retStr (intField' binSpec (decide (a < 0)) [] ((Nat.toDigits 2 a.natAbs).map fun c => (if ((98 : Nat) == 88) = true then c.toUpper else c).toNat) [] 4)) ?_ (by with_unfolding_all rfl)
  rw [field_bin h0]
  unfold retStr
  refine wpAny_bind (wpAny_mkStr (wpAny_pure ?_) hl)
  dsimp only
  exact wpAny_bind (wpAny_isInstance (typeIs_str _ _ _) isSubtype_str_str (wpAny_pure h))
end
theorem binText_is {a : Int} (h : 0 ≤ a) : binText a = SX.S (bin a.toNat) := by
  have e : a.natAbs = a.toNat := by omega
  unfold binText
  rw [e, toDigits_bin]
section
variable {X : Cx}
/-- {n:b}: a number's bits -/
def tBin (te : TE) : TE := fun σ H Q => te σ H fun x H1 => ∃ i : Int, x = .int i ∧ 0 ≤ i ∧ (bin i.toNat).length ≤ sizeLine ∧ Q (.str (SX.S (bin i.toNat))) H1
theorem pe_bin {e spec : Expr} {te : TE} {pos : Pos} (he : PE X e te) (hs : PE X spec (tC (.str (Str.ofString "b")))) : PE X (.FormattedValue e (-1) (some spec) pos) (tBin te) := by
  refine ⟨fun pins s σ H Q I h => ?_⟩
  refine wpAny_FormattedValue_spec (thn (he.run pins s σ H _ I h) fun v s1 hv => ?_)
  obtain ⟨x, H1, I1, r1, i, rfl, h0, hz, q⟩ := hv
  obtain ⟨t, rfl⟩ := r1
  refine thn (hs.run pins s1 σ H1 (fun y H2 => y = .str (Str.ofString "b") ∧ H2 = H1) I1 ⟨rfl, rfl⟩) fun r s2 hr => ?_
  obtain ⟨y, H2, I2, r2, rfl, rfl⟩ := hr
  obtain ⟨t2, rfl⟩ := r2
  have e := binText_is h0
  exact ⟨_, _, rfl, formatField_bin h0 (by rw [e]; exact hz) (by rw [e]; exact ⟨.str (SX.S (bin i.toNat)), H2, I2.tok _, ⟨_, rfl⟩, q⟩)⟩
theorem r_bin {σ : St} {H : Hp} {Q : VK} {te : TE} (h : te σ H fun x H1 => ∃ i : Int, x = .int i ∧ 0 ≤ i ∧ (bin i.toNat).length ≤ sizeLine ∧ Q (.str (SX.S (bin i.toNat))) H1) : tBin te σ H Q := h
theorem bin_ok {i : Int} {k : Nat} {P : Prop} (h0 : 0 ≤ i) (h1 : i < 2 ^ k) (hk : k ≤ 900000) (q : P) : 0 ≤ i ∧ (bin i.toNat).length ≤ sizeLine ∧ P := by
  refine ⟨h0, ?_, q⟩
  have hl : (1000000 : Nat) ≤ sizeLine := by rw [sizeLine_eq]; decide
  have e : ((2 ^ k : Nat) : Int) = (2 : Int) ^ k := by rw [Int.natCast_pow]; rfl
  have h2 : i.toNat < 2 ^ k := Int.ofNat_lt.mp (by rw [e, Int.toNat_of_nonneg h0]; exact h1)
  have h3 : 2 ^ k ≤ 2 ^ (k + 1) := Nat.pow_le_pow_right (by decide) (by omega)
  have := bin_len i.toNat k (by omega)
  omega
end
/-! int(text, 2) -/
open PySem.NumText
structure Held (p : Prop) : Prop where
  get : p
def Bits (l : List Nat) : Prop := ∀ c ∈ l, c = 48 ∨ c = 49
theorem Bits.hex {l : List Nat} (h : Bits l) : ∀ c ∈ l, Hx.IsHex c := fun c hc => .inl (by rcases h c hc with rfl | rfl <;> decide)
theorem two_step {ds : Array Nat} {b : Bool} {c : Nat} (h : c = 48 ∨ c = 49) : PySem.NumText.step 2 (ds, b) c = some (ds.push (c - 48), true) := by
  rcases h with rfl | rfl <;> rfl
theorem two_fold : ∀ (l : List Nat) (ds : Array Nat), Bits l → l.foldlM (PySem.NumText.step 2) (ds, true) = some (l.foldl (fun d c => d.push (c - 48)) ds, true)
  | [], _, _ => rfl
  | c :: l, ds, h => by
    rw [List.foldlM_cons, two_step (h c (by simp))]
    exact two_fold l _ fun d hd => h d (by simp [hd])
theorem two_digits {l : List Nat} (h : Bits l) (hn : l ≠ []) : digits? 2 l = some (l.foldl (fun d c => d.push (c - 48)) #[]) := by
  cases l with
  | nil => exact absurd rfl hn
  | cons c l =>
    unfold digits?
    rw [List.foldlM_cons, two_step (h c (by simp))]
    show (l.foldlM (PySem.NumText.step 2) ((#[] : Array Nat).push (c - 48), true)).bind _ = _
    rw [two_fold l _ fun d hd => h d (by simp [hd])]
    rfl
theorem two_worth : ∀ (l : List Nat) (ds : Array Nat), (l.foldl (fun d c => d.push (c - 48)) ds).foldl (fun a d => a * 2 + d) 0 = l.foldl (fun a c => a * 2 + (c - 48)) (ds.foldl (fun a d => a * 2 + d) 0)
  | [], _ => rfl
  | c :: l, ds => by
    rw [List.foldl_cons, two_worth l, List.foldl_cons]
    congr 1
    simp
theorem two_based {l : List Nat} (h : Bits l) : based 2 l = (2, false, l) := by
  match l, h with
  | [], _ => rfl
  | [a], h =>
    rcases h a (by simp) with rfl | rfl <;> rfl
  | a :: c :: r, h =>
    rcases h a (by simp) with rfl | rfl
    · rcases h c (by simp) with rfl | rfl <;> rfl
    · rfl
theorem two_read {l : List Nat} (lim : Nat) (h : Bits l) (hn : l ≠ []) : (int_private% "readNumeral") lim 2 l = (int_private% "Numeral.value") ((bitsNum l : Nat) : Int) := by
  have hr : Bits l.reverse := fun c hc => h c (List.mem_reverse.mp hc)
  refine (readNumeral_eq lim 2 l).trans ?_
  rw [Hx.dropB h.hex, Hx.signH h.hex]
  show judge lim false (based 2 l).1 (based 2 l).2.1 (digits? (based 2 l).1 (((based 2 l).2.2.reverse.dropWhile blank).reverse)) = _
  rw [two_based h]
  show judge lim false 2 false (digits? 2 ((l.reverse.dropWhile blank).reverse)) = _
  rw [Hx.dropB hr.hex, List.reverse_reverse, two_digits h hn]
  show (int_private% "Numeral.value") (((l.foldl (fun d c => d.push (c - 48)) (#[] : Array Nat)).foldl (fun a d => a * 2 + d) 0 : Nat) : Int) = _
  rw [two_worth]
  rfl
theorem text_two {M : PySem.Model} {A : Around} {E : Value → Shared → Prop} {s : Shared} {Q : Value → Shared → Prop} {v : Value} {text : List Nat} {n : Int}
    (lk : ¬ (text.takeWhile (· != 0)).length ≤ 640 → PySem.W.Looks M s.heap Builtin.intMaxStrDigits 4300)
    (got : ∀ lim, (int_private% "readNumeral") lim 2 (text.takeWhile (· != 0)) = (int_private% "Numeral.value") n)
    (whole : ((text.takeWhile (· != 0)).length == text.length) = true) (k : Q (.int n s.toks) { s with toks := s.toks + 1 }) :
    wpAny M A ((int_private% "intFromText") v text 2) Q E s := by
  by_cases far : (text.takeWhile (· != 0)).length ≤ 640
  · exact Hx.wp_textB far (got 0) whole k
  · have lk1 := lk far
    clear lk
    obtain ⟨hp, g, d, tk, os⟩ := s
    have lk' : PySem.W.Looks M hp Builtin.intMaxStrDigits 4300 := lk1
    clear lk1
    repeat (any_goals (first
      | (with_reducible refine wpAny_ite_false (decide_eq_false far) ?_)
      | (with_reducible refine wpAny_ite_true (decide_eq_true whole) ?_)
      | ((with_reducible show wpAny _ _ Builtin.intMaxStrDigits _ _ _); refine PySem.W.Looks.here lk' ?_)
      | assumption
      | wp_step))
    all_goals (try rw [got])
    all_goals (try dsimp only)
    repeat (any_goals (first
      | (with_reducible refine wpAny_ite_true (decide_eq_true whole) ?_)
      | assumption
      | wp_step))
theorem meets_two {x : PySem.Str} {u t : Tok} (h : Bits x.cps.toList) (hn : x.cps.toList ≠ []) :
    Meets (Builtin.«int.__new__» ⟨[.type "int", .str x u, .int 2 t], []⟩) (fun A R s => (∀ M, PySem.W.Looks M s.heap Builtin.intMaxStrDigits 4300) ∧ R (.ok (.ret (.int ((bitsNum x.cps.toList : Nat) : Int) s.toks))) { s with toks := s.toks + 1 }) :=
  .of_wp fun prog w A R s hs => by
    obtain ⟨hp, g, d, tk, os⟩ := s
    obtain ⟨lk, fin⟩ := hs
    have a1 := F.conv_sub_int
    have a2 := F.madeHere_int
    have a6 : typeOf (.str x u) = pure (.type "str") := rfl
    obtain ⟨e1, e2⟩ := Hx.seen_hex (x := x) h.hex
    have got : ∀ lim, (int_private% "readNumeral") lim 2 (numSeenOf x) = (int_private% "Numeral.value") ((bitsNum x.cps.toList : Nat) : Int) := by
      intro lim
      rw [e2]
      exact two_read lim h hn
    have whole : ((numSeenOf x).length == (numTextOf x).length) = true := by
      rw [e1, e2]
      exact beq_self_eq_true _
    have kk := Held.mk (And.intro got whole)
    have lk' := Held.mk lk
    clear got whole e1 e2 hn h lk
    repeat (any_goals (first
      | assumption
      | ((with_reducible show wpAny _ _ ((int_private% "intFromText") _ _ _) _ _ _); refine text_two (fun _ => lk'.get _) kk.get.1 kk.get.2 ?_)
      | wp_step))
    all_goals first | exact ⟨_, rfl, fin⟩ | skip
theorem new_two (a b : Value) : checkBuiltinCall "int.__new__" ⟨[.type "int", a, b], []⟩ = pure () := by kernel_rfl
theorem ty_two (a b : Value) : checkTypeCall "int" ⟨[a, b], []⟩ = pure () := by kernel_rfl
section
variable {X : Cx} {K : PySem.W.Frag}
def rInt2 : List V → Hp → VK → Prop := fun xs H Q => ∃ l : List Nat, xs = [.str (SX.S l), .int 2] ∧ Bits l ∧ l ≠ [] ∧ Q (.int ((bitsNum l : Nat) : Int)) H
theorem int_two (e : X.K = K) (zs : PySem.W.nsIn K cStatics "sys.int_max_str_digits" = some none) : CallR X (.type "int") rInt2 := by
  intro pins s σ H xs us Q I r h
  obtain ⟨l, rfl, hb, hn, q⟩ := h
  obtain ⟨u, w', rfl, r1, r2⟩ := vals2 r
  obtain ⟨t1, rfl⟩ := r1
  obtain ⟨t2, rfl⟩ := r2
  subst e
  exact callType_new F.called_int F.newNe_int (ty_two _ _) (new_two _ _) (fun obj => F.initArgs_range_2 obj _ _) F.entry_int_new (meets_two (x := SX.S l) hb hn) ⟨fun M => looks_msd I.kIn zs, rfl, ⟨.int ((bitsNum l : Nat) : Int), H, I.tok _, ⟨_, rfl⟩, q⟩⟩
theorem r_int2 {l : List Nat} {H : Hp} {Q : VK} (hb : Bits l) (hn : l ≠ []) (k : Q (.int ((bitsNum l : Nat) : Int)) H) : rInt2 [.str (SX.S l), .int 2] H Q := ⟨l, rfl, hb, hn, k⟩
end
end RV

/-! more of the own layer: raises that are never reached, lists that are gathered -/
namespace RV
open PySem PySem.Spec L2
open PyProof.Rows hiding St
section
variable {X : Cx} {K : PySem.W.Frag} {σ : St} {H : Hp} {Q : VK}
theorem r_tru_str {z : Str} {P : Bool → Prop} (h : z.length ≤ sizeLine) (k : P ((z.length : Int) != 0)) : ∃ b, TruV K (.str z) H b ∧ P b := ⟨_, ⟨h, rfl⟩, k⟩
theorem r_tru_lst {a : Addr} {xs : List V} {P : Bool → Prop} (h : SqL K H a xs) (k : P (!xs.isEmpty)) : ∃ b, TruV K (.ref a) H b ∧ P b := ⟨_, .inl ⟨xs, h, rfl⟩, k⟩
theorem r_tru_tup {a : Addr} {xs : List V} {P : Bool → Prop} (h : SqT K H a xs) (k : P (!xs.isEmpty)) : ∃ b, TruV K (.ref a) H b ∧ P b := ⟨_, .inr (.inl ⟨xs, h, rfl⟩), k⟩
theorem r_tru_non {P : Bool → Prop} (k : P false) : ∃ b, TruV K .non H b ∧ P b := ⟨_, rfl, k⟩
theorem r_par3 {D : Ends} {i j l : Nat} {ta : TA} (h : ta σ H fun vs H1 => ∃ u v w, vs = [u, v, w] ∧ D.nx (((σ.set i (some u)).set j (some v)).set l (some w)) H1) : tPar3 i j l ta D σ H := h
theorem r_uvw {u v w : V} {P : V → V → V → Prop} (h : P u v w) : ∃ u' v' w', [u, v, w] = [u', v', w'] ∧ P u' v' w' := ⟨u, v, w, rfl, h⟩
/-! f-strings -/
theorem r_fmtS {te : TE} (h : te σ H fun x H1 => (∃ y : Str, x = .str y ∧ y.length ≤ sizeLine ∧ Q (.str y) H1) ∨ ∃ i : Int, x = .int i ∧ i.natAbs.log2 < 1920 ∧ Q (.str (toString i)) H1) : tFmt te σ H Q := h
theorem r_fS {z : Str} {P : Str → Prop} {R : Prop} (h : z.length ≤ sizeLine) (k : P z) : (∃ y : Str, V.str z = .str y ∧ y.length ≤ sizeLine ∧ P y) ∨ R := .inl ⟨z, rfl, h, k⟩
theorem r_fI {i : Int} {P : Str → Prop} {R : Prop} (h : i.natAbs.log2 < 1920) (k : P (toString i)) : R ∨ (∃ j : Int, V.int i = .int j ∧ j.natAbs.log2 < 1920 ∧ P (toString j)) := .inr ⟨i, rfl, h, k⟩
def tJoined (ts : List TE) : TE := fun σ H Q => tJs ts Str.empty σ H fun out H1 => Q (.str out) H1
theorem pe_joinedN {v1 v2 : Expr} {rest : List Expr} {ts : List TE} {pos : Pos} (h : PJ X (v1 :: v2 :: rest) ts) : PE X (.JoinedStr (v1 :: v2 :: rest) pos) (tJoined ts) := pe_joined h
theorem r_joined {ts : List TE} (h : tJs ts Str.empty σ H fun out H1 => Q (.str out) H1) : tJoined ts σ H Q := h
theorem r_js0 {acc : Str} {R : Str → Hp → Prop} (h : R acc H) : tJs [] acc σ H R := h
theorem r_js1 {t : TE} {ts : List TE} {acc : Str} {R : Str → Hp → Prop} (h : t σ H fun x H1 => ∃ y : Str, x = .str y ∧ (acc ++ y).length ≤ sizeLine ∧ tJs ts (acc ++ y) σ H1 R) : tJs (t :: ts) acc σ H R := h
theorem r_jsS {z acc : Str} {P : Str → Prop} (h : (acc ++ z).length ≤ sizeLine) (k : P z) : ∃ y : Str, V.str z = .str y ∧ (acc ++ y).length ≤ sizeLine ∧ P y := ⟨z, rfl, h, k⟩
end
/-! lists that are gathered -/
structure Kp (P : Hp → V → Prop) : Prop where
  sm : ∀ {H H' : Hp} {x : V}, Sm H H' → P H x → P H' x
  up : ∀ {H : Hp} {A : Addr} {xs : List V} {o : HO} {x : V}, H A = some (.lst xs) → P H x → P (upd H A o) x
theorem Kp.add {P : Hp → V → Prop} (kp : Kp P) {Hi H4 : Hp} {A : Addr} {xs : List V} {y : V} (hA : Hi A = some (.lst xs)) (all : ∀ x ∈ xs, P Hi x) (s : Sm Hi H4) (py : P H4 y) :
    ∀ x ∈ xs ++ [y], P (upd H4 A (.lst (xs ++ [y]))) x := by
  intro x hx
  refine kp.up (s.to _ _ hA) ?_
  rcases List.mem_append.mp hx with hx | hx
  · exact kp.sm s (all x hx)
  · rw [List.mem_singleton.mp hx]
    exact py
theorem cat_mem {xs : List V} {lo hi : Option Int} {x : V} (h : x ∈ xs ++ cutV xs lo hi) : x ∈ xs := by
  rcases List.mem_append.mp h with h | h
  · exact h
  · exact cutV_mem h
theorem cat_len {xs : List V} {lo hi : Option Int} {n : Nat} (h : xs.length ≤ n) (hn : n ≤ 500000) : xs.length + (cutV xs lo hi).length ≤ sizeLine := by
  have := cutV_le xs lo hi
  exact len_le (by omega)
/-- a tuple with such items -/
def TupAt (F : List V → Prop) : Hp → V → Prop := fun H x => ∃ t vs, x = .ref t ∧ H t = some (.tup vs) ∧ F vs
theorem kp_tup (F : List V → Prop) : Kp (TupAt F) := by
  refine ⟨fun s h => ?_, fun hA h => ?_⟩
  · obtain ⟨t, vs, rfl, e, f⟩ := h
    exact ⟨t, vs, rfl, s.to _ _ e, f⟩
  · obtain ⟨t, vs, rfl, e, f⟩ := h
    refine ⟨t, vs, rfl, ?_, f⟩
    rw [upd_ne (ne_of e hA (by intro z; cases z))]
    exact e
/-- values alone -/
def ValAt (F : V → Prop) : Hp → V → Prop := fun _ x => F x
theorem kp_val (F : V → Prop) : Kp (ValAt F) := ⟨fun _ h => h, fun _ h => h⟩
theorem len_lt {n : Nat} (h : n ≤ 900000) : n < sizeLine := by
  have hl : (1000000 : Nat) ≤ sizeLine := by rw [sizeLine_eq]; decide
  omega
theorem cat1 (c : Nat) (l : List Nat) : (⟨#[c]⟩ : Str) ++ SX.S l = SX.S (c :: l) := SX.S_cat [c] l
theorem cat2 (c : Nat) (l : List Nat) : SX.S l ++ (⟨#[c]⟩ : Str) = SX.S (l ++ [c]) := SX.S_cat l [c]
theorem rep48 (n : Nat) (s : Str) (h : s.cps.toList = [48]) : (⟨((List.replicate n s.cps.toList).flatten).toArray⟩ : Str) = SX.S (List.replicate n 48) := by
  rw [h]
  have e : ∀ n : Nat, (List.replicate n [48]).flatten = List.replicate n 48 := fun n => by
    induction n with
    | zero => rfl
    | succ n ih => rw [List.replicate_succ, List.flatten_cons, ih]; rfl
  rw [e]
end RV

/-! masks of ints, counts of signs, dicts made of pairs, equal lists of ints -/
namespace RV
open PySem PySem.Spec L2
open PyProof.Rows hiding St
theorem iand {a b : Int} (ha : 0 ≤ a) (hb : 0 ≤ b) : Builtin.bitAnd a b = ((a.toNat &&& b.toNat : Nat) : Int) := bitAnd_pp ha hb
theorem iout {a b : Int} (ha : 0 ≤ a) (hb : 0 ≤ b) : Builtin.bitXor a (Builtin.bitAnd a b) = ((out a.toNat b.toNat : Nat) : Int) := by
  rw [bitXor_and, iand ha hb, iand ha (Int.natCast_nonneg _), Int.toNat_natCast]
  have e : a.toNat &&& (a.toNat &&& b.toNat) = a.toNat &&& b.toNat := by rw [← Nat.and_assoc, Nat.and_self]
  rw [e]
  unfold out
  have := Nat.and_le_left (n := a.toNat) (m := b.toNat)
  omega
theorem iand_le {a b : Int} (ha : 0 ≤ a) (hb : 0 ≤ b) : 0 ≤ Builtin.bitAnd a b ∧ Builtin.bitAnd a b ≤ a ∧ Builtin.bitAnd a b ≤ b := by
  rw [iand ha hb]
  have := Nat.and_le_left (n := a.toNat) (m := b.toNat)
  have := Nat.and_le_right (n := a.toNat) (m := b.toNat)
  omega
theorem ior_le {a b : Int} (ha : 0 ≤ a) (hb : 0 ≤ b) : 0 ≤ Builtin.bitOr a b ∧ Builtin.bitOr a b ≤ a + b := by
  have h := iand_le ha hb
  rw [bitOr_and]
  omega
theorem bits_le {x : Int} {k : Nat} (h0 : 0 ≤ x) (h : x < 2 ^ k) : Builtin.Int.intBits x ≤ k := by
  refine PySem.intBits_le_iff.mpr ?_
  have e : ((2 ^ k : Nat) : Int) = (2 : Int) ^ k := by rw [Int.natCast_pow]; rfl
  have h2 : x.toNat < 2 ^ k := Int.ofNat_lt.mp (by rw [e, Int.toNat_of_nonneg h0]; exact h)
  have h3 : x.natAbs = x.toNat := by omega
  omega
theorem cnt49 : ∀ l : List Nat, cnt 49 l = ((l.count 49 : Nat) : Int)
  | [] => rfl
  | c :: l => by
    rw [cnt_cons, cnt49 l, List.count_cons]
    by_cases h : c = 49
    · subst h
      simp
      omega
    · simp [h]
theorem count_bin (n : Nat) : Txt.count (SX.S (bin n)) (Str.ofString "1") = ((pop n : Nat) : Int) := by
  have e : (Str.ofString "1") = (⟨#[49]⟩ : Str) := by decide +kernel
  rw [e]
  have h := count_is (SX.S (bin n)) 49
  have h2 : countIn (.str ⟨#[49]⟩) ((SX.S (bin n)).cps.toList.map fun n => PyData.str ⟨#[n]⟩) = cnt 49 (bin n) := rfl
  rw [h, h2, cnt49, bin_count]
/-- a dict made of numbers -/
theorem merge_some (n : Int) (v : V) : ∀ (l : List Int) (kvs : List (Key × V)), (valV (mergeK kvs (l.map fun x => ((Sum.inl x : Key), v))) (Sum.inl n : Key)).isSome = ((valV kvs (Sum.inl n : Key)).isSome || decide (n ∈ l))
  | [], kvs => by
    show (valV kvs (Sum.inl n : Key)).isSome = _
    simp
  | x :: l, kvs => by
    show (valV (mergeK (putK kvs (Sum.inl x : Key) v) (l.map fun x => ((Sum.inl x : Key), v))) (Sum.inl n : Key)).isSome = _
    rw [merge_some n v l, valV_put]
    by_cases h : n = x
    · subst h
      simp
    · have h2 : ¬ ((Sum.inl n : Key) = Sum.inl x) := fun z => h (Sum.inl.inj z)
      rw [if_neg h2]
      simp [h]
theorem eqv_lists : ∀ ns ms : List Int, PyData.eqvAll (ns.map PyData.int) (ms.map PyData.int) = decide (ns = ms)
  | [], [] => rfl
  | [], _ :: _ => rfl
  | _ :: _, [] => rfl
  | n :: ns, m :: ms => by
    show ((n == m) && PyData.eqvAll (ns.map PyData.int) (ms.map PyData.int)) = _
    rw [eqv_lists ns ms]
    by_cases h : n = m
    · subst h
      by_cases h2 : ns = ms
      · subst h2
        simp
      · simp [h2]
    · simp [h]
section
variable {H : Hp} {Q : VK} {K : PySem.W.Frag}
/-- two lists of ints -/
theorem r_eqLI {a b : Addr} {ns ms : List Int} (ha : SqL K H a (ns.map V.int)) (hb : SqL K H b (ms.map V.int)) (k : Q (.bl (decide (ns = ms))) H) : rEqA K (.ref a) (.ref b) H Q := r_eqD (dp_ints ha) (dp_ints hb) (shaped_ints ns) (shaped_ints ms) (by
  have e : PyData.eqv (.list (ns.map PyData.int)) (.list (ms.map PyData.int)) = decide (ns = ms) := eqv_lists ns ms
  rw [e]
  exact k)
theorem r_neLI {a b : Addr} {ns ms : List Int} (ha : SqL K H a (ns.map V.int)) (hb : SqL K H b (ms.map V.int)) (k : Q (.bl (!decide (ns = ms))) H) : rNeA K (.ref a) (.ref b) H Q := r_neD (dp_ints ha) (dp_ints hb) (shaped_ints ns) (shaped_ints ms) (by
  have e : PyData.eqv (.list (ns.map PyData.int)) (.list (ms.map PyData.int)) = decide (ns = ms) := eqv_lists ns ms
  rw [e]
  exact k)
theorem r_sum {a : Addr} {ns : List Int} (h : SqL K H a (ns.map V.int)) (k : Q (.int ns.sum) H) : rSum K [.ref a] H Q := ⟨a, ns, rfl, h, k⟩
theorem r_dnotin {σ : St} {ty td : TE} (h : ty σ H fun y H1 => td σ H1 fun x H2 => ∃ a o, x = .ref a ∧ DGet H2 a y o ∧ Q (.bl (!o.isSome)) H2) : tDNotIn ty td σ H Q := h
theorem r_din {σ : St} {ty td : TE} (h : ty σ H fun y H1 => td σ H1 fun x H2 => ∃ a o, x = .ref a ∧ DGet H2 a y o ∧ Q (.bl o.isSome) H2) : tDIn ty td σ H Q := h
theorem r_dgetI {d : Addr} {kvs : List (Key × V)} {n : Int} {P : Option V → Prop} (h : H d = some (.dK kvs)) (k : P (valV kvs (Sum.inl n : Key))) : ∃ a o, V.ref d = .ref a ∧ DGet H a (.int n) o ∧ P o := ⟨d, _, rfl, DGet.k (k := Sum.inl n) h, k⟩
theorem r_dgetS {d : Addr} {kvs : List (Key × V)} {n : Str} {P : Option V → Prop} (h : H d = some (.dK kvs)) (k : P (valV kvs (Sum.inr n : Key))) : ∃ a o, V.ref d = .ref a ∧ DGet H a (.str n) o ∧ P o := ⟨d, _, rfl, DGet.k (k := Sum.inr n) h, k⟩
def rDictP (K : PySem.W.Frag) : List V → Hp → VK → Prop := fun xs H Q => ∃ (a : Addr) (ps : List Addr) (kvs : List (Key × V)), xs = [.ref a] ∧ SqL K H a (ps.map V.ref) ∧ Paired (fun p kv => SqT K H p [kV kv.1, kv.2]) ps kvs ∧ ∀ p, H p = none → Q (.ref p) (upd H p (.dK (mergeK [] kvs)))
theorem dict_k {X : Cx} (e : X.K = K) (hc : X.calm = true) : CallR X (.type "dict") (rDictP K) := e ▸ call_dictP hc
/-- dict(pairs), the pairs numbers with one value -/
theorem r_dictP {a : Addr} {ps : List Addr} {l : List Int} {v : V} (h : SqL K H a (ps.map V.ref)) (hp : Paired (fun p kv => SqT K H p [kV kv.1, kv.2]) ps (l.map fun x => ((Sum.inl x : Key), v)))
    (k : ∀ p, H p = none → Q (.ref p) (upd H p (.dK (mergeK [] (l.map fun x => ((Sum.inl x : Key), v)))))) : rDictP K [.ref a] H Q := ⟨a, ps, _, rfl, h, hp, k⟩
theorem r_bits {σ : St} {to : TE} (h : to σ H fun x H1 => ∃ i, x = .int i ∧ Q (.int (Builtin.Int.intBits i : Nat)) H1) : tBits to σ H Q := h
end
theorem nat_lt {i : Int} {k : Nat} (h0 : 0 ≤ i) (h : i < 2 ^ k) : i.toNat < 2 ^ k := by
  have e : ((2 ^ k : Nat) : Int) = (2 : Int) ^ k := by rw [Int.natCast_pow]; rfl
  exact Int.ofNat_lt.mp (by rw [e, Int.toNat_of_nonneg h0]; exact h)
theorem sum_cast : ∀ l : List Nat, (l.map fun p => (1 * 2 ^ ((p : Nat) : Int).toNat : Int)).sum = (((l.map fun p => 2 ^ p).sum : Nat) : Int)
  | [] => rfl
  | p :: l => by
    rw [List.map_cons, List.sum_cons, sum_cast l, List.map_cons, List.sum_cons, Int.natCast_add, Int.natCast_pow, Int.one_mul, Int.toNat_natCast]
    rfl
theorem mem_cast {l : List Nat} {p : Nat} : ((p : Nat) : Int) ∈ l.map (fun q => ((q : Nat) : Int)) ↔ p ∈ l := by
  rw [List.mem_map]
  constructor
  · rintro ⟨q, hq, e⟩
    have : q = p := by omega
    exact this ▸ hq
  · intro h
    exact ⟨p, h, rfl⟩
end RV

/-! objects of own classes: len, str, repr, truth, == by their own defs -/
namespace RV
open PySem PySem.Spec L2
open PyProof.Rows hiding St
section
variable {X : Cx} {CX : CXT} {k : Nat} {f C : Addr} {fd : FuncData} {ps : List Str} {sp : Sp} {E : XK} {pins : List (Addr × Obj)} {σ : St} {H : Hp} {s : Shared}
/-- a def called from inside a built-in -/
theorem run_in {A : Around} {Q : VK} {us : List Value} {vs : List V} (F : FnOk X.prog X.w X.K X.mg X.base CX k f fd ps sp) (hr : Room k A) (e0 : Env0 X.prog X.w X.K X.mg X.base A X.stack s H)
    (hb : Binds X.K fd ps []) (hx : Passes CX X E) (I : Inv X pins σ H s) (r : Vals vs us) (h : sp vs H Q E) : wpAny (model X.prog X.w) A (call (.ref f) us) (EP X pins σ Q) X.xe s := by
  have hl : us.length = ps.length := by rw [← r.length]; exact F.len _ _ _ _ h
  refine wpAny_call (codeAny_mono (F.run A X.stack s H ⟨us, []⟩ us vs Q E hr e0 (by
    have z := hb s us I.kIn (by rw [List.append_nil]; exact hl)
    rw [List.append_nil] at z
    exact z) r h) fun r s' hq => ?_)
  cases r with
  | error e => exact hx pins σ H s e s' I hq
  | ok fl =>
    cases fl with
    | ret u => exact I.after hq
    | next => exact False.elim hq
    | brk => exact False.elim hq
    | cont => exact False.elim hq
theorem ins_inst {a dx : Addr} {fs : List (Str × V)} (I : Inv X pins σ H s) (e : H a = some (.ins C dx fs)) : ∃ ox od, PySem.W.InstAt s.heap a ox C od := by
  obtain ⟨mA, O, _⟩ := ins_get I.hok e
  obtain ⟨od, J, _⟩ := O.look
  exact ⟨_, _, J⟩
def rLenOwn (C : Addr) (sp : Sp) (E : XK) : List V → Hp → VK → Prop := fun xs H Q => ∃ a dx fs, xs = [V.ref a] ∧ H a = some (.ins C dx fs) ∧ sp [.ref a] H (fun z H' => ∃ n : Int, z = .int n ∧ (0 ≤ n ∧ n < 2 ^ 63) ∧ Q z H') E
theorem call_lenOwn (hm : Meth X.K C "__len__" f) (F : FnOk X.prog X.w X.K X.mg X.base CX k f fd ps sp) (hr : Room (k + 2) X.A) (hb : Binds X.K fd ps []) (hx : Passes CX X E) : CallR X (.builtin "len") (rLenOwn C sp E) := by
  intro pins s σ H xs us Q I r h
  obtain ⟨a, dx, fs, rfl, e, q⟩ := h
  obtain ⟨u, rfl, ru⟩ := r.one
  cases (show u = Value.ref a from ru)
  obtain ⟨ox, od, J⟩ := ins_inst I e
  obtain ⟨m, hF⟩ := I.fr
  have hr1 : Room k X.A.in1 := (show Room (k + 1) X.A.in1 from Room.in1 hr).mono (Nat.le_succ _)
  refine PySem.W.len_K hF I.ok.mod.kin J hm.at_ hm.fn (wpAny_mono (run_in (us := [.ref a]) (vs := [.ref a]) F hr1 I.env0.in1 hb hx I (.cons rfl .nil) q) (fun w s' z => ?_) fun _ _ x => x)
  obtain ⟨z', H', I', rz, n, en, b, qz⟩ := z
  subst en
  obtain ⟨t, et⟩ := (show ∃ t, w = Value.int n t from rz)
  cases et
  exact ⟨b, .int n, H', I'.tok _, ⟨_, rfl⟩, qz⟩
def rStrOwn (C : Addr) (sp : Sp) (E : XK) : List V → Hp → VK → Prop := fun xs H Q => ∃ a dx fs, xs = [V.ref a] ∧ H a = some (.ins C dx fs) ∧ sp [.ref a] H (fun z H' => ∃ y : Str, z = .str y ∧ Q z H') E
theorem call_reprOwn (hm : Meth X.K C "__repr__" f) (F : FnOk X.prog X.w X.K X.mg X.base CX k f fd ps sp) (hr : Room (k + 2) X.A) (hb : Binds X.K fd ps []) (hx : Passes CX X E) : CallR X (.builtin "repr") (rStrOwn C sp E) := by
  intro pins s σ H xs us Q I r h
  obtain ⟨a, dx, fs, rfl, e, q⟩ := h
  obtain ⟨u, rfl, ru⟩ := r.one
  cases (show u = Value.ref a from ru)
  obtain ⟨ox, od, J⟩ := ins_inst I e
  obtain ⟨m, hF⟩ := I.fr
  have hr0 : Room (k + 1) X.A.in1 := Room.in1 hr
  have hr1 : Room k X.A.in1 := hr0.mono (Nat.le_succ _)
  refine PySem.W.repr_K hr1.units0 hF I.ok.mod.kin J hm.at_ hm.fn (wpAny_mono (run_in (us := [.ref a]) (vs := [.ref a]) F hr1 I.env0.in1 hb hx I (.cons rfl .nil) q) (fun w s' z => ?_) fun _ _ x => x)
  obtain ⟨z', H', I', rz, n, en, qz⟩ := z
  subst en
  obtain ⟨t, et⟩ := (show ∃ t, w = Value.str n t from rz)
  cases et
  exact ⟨.str n, H', I', ⟨_, rfl⟩, qz⟩
theorem call_strOwn (hm : Meth X.K C "__str__" f) (F : FnOk X.prog X.w X.K X.mg X.base CX k f fd ps sp) (hr : Room (k + 2) X.A) (hb : Binds X.K fd ps []) (hx : Passes CX X E) : CallR X (.type "str") (rStrOwn C sp E) := by
  intro pins s σ H xs us Q I r h
  obtain ⟨a, dx, fs, rfl, e, q⟩ := h
  obtain ⟨u, rfl, ru⟩ := r.one
  cases (show u = Value.ref a from ru)
  obtain ⟨ox, od, J⟩ := ins_inst I e
  have hr1 : Room k X.A.in1.in1 := (show Room (k + 1) X.A.in1 from Room.in1 hr).in1
  refine PySem.W.kso_call hr1.units0 I.kIn J hm.at_ hm.fn (wpAny_mono (run_in (us := [.ref a]) (vs := [.ref a]) F hr1 I.env0.in1.in1 hb hx I (.cons rfl .nil) q) (fun w s' z => ?_) fun _ _ x => x)
  obtain ⟨z', H', I', rz, n, en, qz⟩ := z
  subst en
  obtain ⟨t, et⟩ := (show ∃ t, w = Value.str n t from rz)
  cases et
  exact ⟨.str n, H', I', ⟨_, rfl⟩, qz⟩
/-- x == y: x an object with its own def, y anything that is no instance of a class below -/
def rEqOwn (K : PySem.W.Frag) (C : Addr) (sp : Sp) (E : XK) : R2 := fun x y H Q => ∃ a dx fs t, x = .ref a ∧ H a = some (.ins C dx fs) ∧ TyX K H y t ∧ PySem.W.notFirst K C t = true ∧ sp [x, y] H Q E
/-- truth by __len__ -/
theorem truthy_len {prog : Program} {w : World} {A : Around} {E : Value → Shared → Prop} {s : Shared} {K : PySem.W.Frag} {x C f : Addr} {ox : Obj} {od : Option Obj} {Q : Bool → Shared → Prop} (Xk : K.In s.heap) (J : PySem.W.InstAt s.heap x ox C od)
    (hb : PySem.W.findIn K (.ref C) "__bool__" = some none) (hl : PySem.W.findIn K (.ref C) "__len__" = some (some (.ref f))) (hf : PySem.W.isFn K (.ref f) = true)
    (h : wpAny (model prog w) A.in1 (call (.ref f) [.ref x]) (PySem.W.LenBack fun v s' => ∃ n t, v = .int n t ∧ Q (n != 0) s') E s) : wpAny (model prog w) A (truthy (.ref x)) Q E s := by
  have key : wpAny (model prog w) A (runValue (.builtin "len" ⟨[.ref x], []⟩)) (fun r s' => ∃ n t, r = .int n t ∧ Q (n != 0) s') E s := by
    refine wpAny_runValue (codeAny_builtin PySem.entry_len ?_)
    rw [Around.under_plainId PySem.plain_len _]
    refine wpAny_mono (Q := fun fin s' => ∃ r, fin = .done (.ret r) ∧ ∃ n t, r = .int n t ∧ Q (n != 0) s') ?_ (fun fin s' h' => by obtain ⟨r, rfl, hq⟩ := h'; exact hq) fun _ _ e => e
    unfold Builtin.«len»
    refine wpAny_bind (m := oneArg "len" _) (wpAny_pure ?_)
    refine wpAny_bind (m := callSpecial? (.ref x) (Str.ofString "__len__")) (PySem.W.special_fn Xk J hl (beq_iff_eq.mp hf) (wpAny_mono h (fun r s' hr => ?_) fun _ _ y => y))
    cases r <;> first | exact hr.elim | skip
    rename_i n u
    obtain ⟨⟨h0, h1⟩, hq⟩ := hr
    refine wpAny_bind (wpAny_holding (wpAny_pure ?_))
    refine wpAny_bind (wpAny_letGo ?_)
    show wpAny _ _ (if n < 0 then _ else _) _ _ _
    rw [if_neg (by omega)]
    show wpAny _ _ (if n ≥ 2 ^ 63 then _ else _) _ _ _
    rw [if_neg (by omega)]
    exact wpAny_bind (wpAny_mkInt (wpAny_pure ⟨_, rfl, hq⟩))
  unfold truthy
  refine wpAny_bind (m := callSpecial? (.ref x) (Str.ofString "__bool__")) (wpAny_bind (wpAny_bind (J.type.here ((PySem.W.looks_findIn Xk hb).here (wpAny_pure ?_)))))
  refine wpAny_bind (wpAny_bind (J.type.here ((PySem.W.looks_findIn Xk hl).here ?_)))
  show wpAny _ _ (if (some (Value.ref f)).isNone = true then _ else _) _ _ _
  rw [if_neg (by simp)]
  refine wpAny_bind (wpAny_mono key (fun r s' h' => ?_) fun _ _ e => e)
  obtain ⟨n, t, rfl, hq⟩ := h'
  exact wpAny_pure hq
def rBoolOwn (C : Addr) (sp : Sp) (E : XK) : List V → Hp → VK → Prop := fun xs H Q => ∃ a dx fs, xs = [V.ref a] ∧ H a = some (.ins C dx fs) ∧ sp [.ref a] H (fun z H' => ∃ n : Int, z = .int n ∧ (0 ≤ n ∧ n < 2 ^ 63) ∧ Q (.bl (n != 0)) H') E
theorem call_boolOwn (hm : Meth X.K C "__len__" f) (hnb : PySem.W.findIn X.K (.ref C) "__bool__" = some none) (F : FnOk X.prog X.w X.K X.mg X.base CX k f fd ps sp) (hr : Room (k + 3) X.A) (hb : Binds X.K fd ps []) (hx : Passes CX X E) : CallR X (.type "bool") (rBoolOwn C sp E) := by
  intro pins s σ H xs us Q I r h
  obtain ⟨a, dx, fs, rfl, e, q⟩ := h
  obtain ⟨u, rfl, ru⟩ := r.one
  cases (show u = Value.ref a from ru)
  obtain ⟨ox, od, J⟩ := ins_inst I e
  have hr1 : Room k X.A.in1.in1.in1 := (show Room (k + 1) X.A.in1.in1 from (show Room (k + 2) X.A.in1 from Room.in1 hr).in1).in1
  have T : wpAny (model X.prog X.w) X.A.in1.in1 (truthy (.ref a)) (fun b s' => EP X pins σ Q (.bool b) s') X.xe s := by
    refine truthy_len I.kIn J hnb hm.at_ hm.fn (wpAny_mono (run_in (us := [.ref a]) (vs := [.ref a]) F hr1 I.env0.in1.in1.in1 hb hx I (.cons rfl .nil) q) (fun w s' z => ?_) fun _ _ x => x)
    obtain ⟨z', H', I', rz, n, en, b, qz⟩ := z
    subst en
    obtain ⟨t, et⟩ := (show ∃ t, w = Value.int n t from rz)
    cases et
    exact ⟨b, n, _, rfl, .bl (n != 0), H', I'.tok _, rfl, qz⟩
  refine callType_codes (T := "bool") (Bi := Builtin.«object.__init__») (Q₁ := fun r s₁ => ∃ b, r = .bool b ∧ EP X pins σ Q r s₁) PySem.F.called_bool (PySem.F.typeCall_bool_1 _) PySem.F.entry_object_init ?_ ?_
  · refine codeAny_of_tree ?_
    show wpAny _ X.A.in1.in1 (do checkBuiltinCall "bool.__new__" ⟨[.type "bool", .ref a], []⟩; again (.builtin "bool.__new__" ⟨[.type "bool", .ref a], []⟩)) _ _ s
    refine wpAny_bind (wpAny_of_eq (PySem.F.newCall_bool_1 _) (wpAny_pure ⟨plainId_quiet (by decide +kernel) _, codeAny_builtin PySem.F.entry_bool_new ?_⟩))
    rw [Around.under_plainId (by decide +kernel) _]
    unfold Builtin.«bool.__new__»
    refine wpAny_bind (m := isType (.type "bool")) (wpAny_pure ?_)
    refine wpAny_bind (wpAny_of_eq PySem.F.conv_sub_bool ?_)
    refine wpAny_bind (wpAny_pure ?_)
    refine wpAny_bind (wpAny_mono T (fun b s' hb => wpAny_pure ?_) fun _ _ y => y)
    exact ⟨b, rfl, hb⟩
  · rintro obj s₁ ⟨b, rfl, hq⟩
    exact ⟨rfl, PySem.F.args_object_init_2 _ _, object_init_meets PySem.F.called_bool.init.lookup PySem.F.called_bool.made (by decide) X.prog X.w X.A.in1 _ s₁ ⟨rfl, rfl, hq⟩⟩
end
end RV

/-! objects, defaults, written dicts, zip of tuples, dict displays: readings -/
namespace RV
open PySem PySem.Spec L2
open PyProof.Rows hiding St
section
variable {X : Cx} {K : PySem.W.Frag} {w : World}
def rIsC (C : Addr) : List V → Hp → VK → Prop := fun xs H Q => ∃ a dx fs, xs = [V.ref a, V.ref C] ∧ H a = some (.ins C dx fs) ∧ Q (.bl true) H
theorem isC_k {C : Addr} (e : X.K = K) (c : C8.InsC K C) : CallR X (.builtin "isinstance") (rIsC C) := C8.call_isC (e ▸ c)
theorem kdix_k (e : X.K = K) (ew : X.w = w) : IxR X (rIxD K w) := e ▸ ew ▸ ix_kdict
theorem zip_k {elts : List Expr} {kk : Nat} {tpos p pos : Pos} {x y : Expr} {ta : TA} (e : X.K = K) (hg : Gl X "zip") (hm : X.mg "zip" = none) (ha : PA X [x, y] ta) (hs : starEach [x, y] X.env = (false, eval x X.env) :: starEach [y] X.env := by rfl) (hpl : ((backTo pos (starEach [y] X.env)).any fun x => x.1) = false := by rfl) :
    PI X (.Tuple elts kk tpos) (.Call (.Name "zip" p) [x, y] [] pos) (RZ.iZipA K ta) := e ▸ RZ.pi_zipA hg hm ha hs hpl
end
section
variable {X : Cx} {K : PySem.W.Frag} {e : Expr} {te : TE} {k p1 p2 p3 pos}
theorem revL_k (ek : X.K = K) (he : PE X e te) : PE X (.Subscript e (.Slice none none (some (.UnaryOp .USub (.Constant (.int 1) k p1) p2)) p3) pos) (tRevL K te) := ek ▸ pe_revL he
theorem r_revX {σ : St} {H : Hp} {Q : VK} (h : te σ H fun x H1 => ∃ a xs, x = .ref a ∧ SqL K H1 a xs ∧ ∀ p, H1 p = none → Q (.ref p) (upd H1 p (.lst xs.reverse))) : tRevL K te σ H Q := h
end
section
variable {σ : St} {H : Hp} {Q : VK} {D : Ends} {K : PySem.W.Frag} {w : World}
theorem r_fld {te : TE} {f : Str} (h : te σ H fun x H1 => ∃ a C dx fs v, x = .ref a ∧ H1 a = some (.ins C dx fs) ∧ Cls K C ∧ NoAttr K C f ∧ fs.lookup f = some v ∧ Q v H1) : tFld K te f σ H Q := h
theorem r_fldO {a C dx : Addr} {fs : List (Str × V)} {f : Str} {v : V} {P : V → Prop} (e : H a = some (.ins C dx fs)) (c : Cls K C) (n : NoAttr K C f) (l : fs.lookup f = some v) (k : P v) :
    ∃ b C dx fs v, V.ref a = .ref b ∧ H b = some (.ins C dx fs) ∧ Cls K C ∧ NoAttr K C f ∧ fs.lookup f = some v ∧ P v := ⟨a, C, dx, fs, v, rfl, e, c, n, l, k⟩
theorem r_setF {ta tv : TE} {f : Str} (h : tv σ H fun y H1 => ta σ H1 fun x H2 => ∃ a C dx fs, x = .ref a ∧ H2 a = some (.ins C dx fs) ∧ Cls K C ∧ NoAttr K C f ∧ fs.length < 1000 ∧ D.nx σ (upd H2 a (.ins C dx (putF f y fs)))) : sFld K ta tv f D σ H := h
theorem r_setO {a C dx : Addr} {fs : List (Str × V)} {f : Str} {P : Addr → Addr → Addr → List (Str × V) → Prop} (e : H a = some (.ins C dx fs)) (c : Cls K C) (n : NoAttr K C f) (l : fs.length < 1000) (k : P a C dx fs) :
    ∃ b C dx fs, V.ref a = .ref b ∧ H b = some (.ins C dx fs) ∧ Cls K C ∧ NoAttr K C f ∧ fs.length < 1000 ∧ P b C dx fs := ⟨a, C, dx, fs, rfl, e, c, n, l, k⟩
theorem r_make {C : Addr} {sp : Sp} {E : XK} {t : TA} (h : t σ H fun vs H1 => ∀ x dx, H1 x = none → H1 dx = none → dx ≠ x → sp (.ref x :: vs) (upd (upd H1 dx (.own x)) x (.ins C dx [])) (fun v H2 => v = .non ∧ Q (.ref x) H2) E) : tMake C sp [] E t σ H Q := by
  unfold tMake
  have e : (fun (vs : List V) (H1 : Hp) => ∀ x dx, H1 x = none → H1 dx = none → dx ≠ x → sp (.ref x :: (vs ++ [])) (upd (upd H1 dx (.own x)) x (.ins C dx [])) (fun v H2 => v = .non ∧ Q (.ref x) H2) E) = fun vs H1 => ∀ x dx, H1 x = none → H1 dx = none → dx ≠ x → sp (.ref x :: vs) (upd (upd H1 dx (.own x)) x (.ins C dx [])) (fun v H2 => v = .non ∧ Q (.ref x) H2) E := by
    funext vs H1
    rw [List.append_nil]
  rw [e]
  exact h
/-- what an __init__ leaves of the heap that its caller knew -/
theorem made_sm {C x dx : Addr} {H H' : Hp} (nx : H x = none) (nd : H dx = none) (c : Chg x (upd (upd H dx (.own x)) x (.ins C dx [])) H') : Sm H H' := ⟨fun a o e => by
  have h1 : a ≠ x := ne_of_none e nx
  have h2 : a ≠ dx := ne_of_none e nd
  refine c.to a o h1 ?_
  rw [upd_ne h1, upd_ne h2]
  exact e⟩
theorem made_keep {C x dx : Addr} {H : Hp} {a : Addr} {o : HO} (nx : H x = none) (nd : H dx = none) (e : H a = some o) : upd (upd H dx (.own x)) x (.ins C dx []) a = some o := by
  rw [upd_ne (ne_of_none e nx), upd_ne (ne_of_none e nd)]
  exact e
/-! dict displays, d[k] -/
theorem r_disp {trs : List (TE × TE)} (h : ∀ p, H p = none → tPairs trs σ (upd H p (.dK [])) fun ps H2 => H2 p = some (.dK []) ∧ ∃ kvs : List (Key × V), ps = kvs.map (fun kv => (kV kv.1, kv.2)) ∧ kvs.length ≤ 15 ∧ Q (.ref p) (upd H2 p (.dK (mergeK [] kvs)))) : tDisp trs σ H Q := h
theorem r_pairs0 {R : List (V × V) → Hp → Prop} (h : R [] H) : tPairs [] σ H R := h
theorem r_pairs1 {tk tv : TE} {r : List (TE × TE)} {R : List (V × V) → Hp → Prop} (h : tk σ H fun x H1 => tv σ H1 fun y H2 => tPairs r σ H2 fun ps H3 => R ((x, y) :: ps) H3) : tPairs ((tk, tv) :: r) σ H R := h
theorem r_kdix {p : Addr} {es : Array DictEntry} {n : Nat} {z : Str} {u : Value} {v : V} (D : KDict K w p es n) (e : PySem.W.nsIn K p z = some (some u)) (r : RelV v u) (k : Q v H) : rIxD K w (.ref p) (.str z) H Q := ⟨p, z, v, rfl, rfl, ⟨es, n, u, D.at_, D.lit, e, r⟩, k⟩
theorem r_kdnot {p : Addr} {z : Str} {u : Option Value} {P : Bool → Prop} (e : PySem.W.nsIn K p z = some u) (k : P (!u.isSome)) : ∃ (y : Str) (r : Option Value), V.str z = .str y ∧ V.ref p = .ref p ∧ PySem.W.nsIn K p y = some r ∧ P (!r.isSome) := ⟨z, u, rfl, rfl, e, k⟩
theorem r_kdin {p : Addr} {z : Str} {u : Option Value} {P : Bool → Prop} (e : PySem.W.nsIn K p z = some u) (k : P u.isSome) : ∃ (y : Str) (r : Option Value), V.str z = .str y ∧ V.ref p = .ref p ∧ PySem.W.nsIn K p y = some r ∧ P r.isSome := ⟨z, u, rfl, rfl, e, k⟩
theorem r_zip {ta : TA} {R : It → Hp → Prop} (h : ta σ H fun vs H1 => ∃ a b xs ys, vs = [V.ref a, V.ref b] ∧ ((SqL K H1 a xs ∧ SqL K H1 b ys ∧ R (Itz K a b) H1) ∨ (SqT K H1 a xs ∧ SqT K H1 b ys ∧ R (RZ.ItzT K a b) H1))) : RZ.iZipA K ta σ H R := h
theorem r_zT {a b : Addr} {xs ys : List V} {R : Addr → Addr → Prop} {S : Addr → Addr → List V → List V → Prop} (h1 : SqT K H a xs) (h2 : SqT K H b ys) (k : R a b) : ∃ a' b' xs' ys', [V.ref a, V.ref b] = [V.ref a', V.ref b'] ∧ (S a' b' xs' ys' ∨ (SqT K H a' xs' ∧ SqT K H b' ys' ∧ R a' b')) := ⟨a, b, xs, ys, rfl, .inr ⟨h1, h2, k⟩⟩
theorem cut_tail (x : V) (xs : List V) : cutV (x :: xs) (some 1) none = xs := by
  have e1 : HT.sIx (x :: xs).length 0 (some ((1 : Nat) : Int)) = min 1 (x :: xs).length := HT.sIx_nat _ _ _
  have e3 : (some (1 : Int)) = some ((1 : Nat) : Int) := rfl
  unfold cutV
  rw [e3, e1, HT.sIx_none, List.length_cons]
  have e2 : min 1 (xs.length + 1) = 1 := by omega
  rw [e2]
  show xs.take (xs.length + 1 - 1) = xs
  rw [Nat.add_sub_cancel, List.take_length]
theorem r_dg {td ty : TE} (h : td σ H fun x H1 => ty σ H1 fun y H2 => ∃ a v, x = .ref a ∧ DGet H2 a y (some v) ∧ Q v H2) : tDGet td ty σ H Q := h
theorem r_dgS {d : Addr} {kvs : List (Key × V)} {n : Str} {v : V} {P : V → Prop} (h : H d = some (.dK kvs)) (e : valV kvs (Sum.inr n : Key) = some v) (k : P v) : ∃ a u, V.ref d = .ref a ∧ DGet H a (.str n) (some u) ∧ P u := ⟨d, v, rfl, by rw [← e]; exact DGet.k (k := Sum.inr n) h, k⟩
theorem r_notIn {x : V} {p : Addr} {xs : List V} (h : SqL K H p xs ∨ SqT K H p xs) (fx : flatV x = true) (fs : xs.all flatV = true) (k : Q (.bl (!inV x xs)) H) : rNotInA K x (.ref p) H Q := .inr ⟨p, xs, rfl, h, fx, fs, k⟩
theorem r_inV {x : V} {p : Addr} {xs : List V} (h : SqL K H p xs ∨ SqT K H p xs) (fx : flatV x = true) (fs : xs.all flatV = true) (k : Q (.bl (inV x xs)) H) : rInA K x (.ref p) H Q := .inr ⟨p, xs, rfl, h, fx, fs, k⟩
theorem atI_end {xs : List V} {v : V} (h : xs[xs.length - 1]? = some v) : atI xs (-1) = some v := by
  have hl : 0 < xs.length := by
    rcases Nat.eq_zero_or_pos xs.length with e | e
    · rw [e] at h
      have := (List.getElem?_eq_some_iff.mp h).1
      omega
    · exact e
  have e : ixN xs.length (-1) = some (xs.length - 1) := by
    unfold ixN
    rw [if_neg (by decide), if_pos (by omega)]
    congr 1
    omega
  unfold atI
  rw [e]
  exact h
theorem r_addB {a b : Nat} {x y : Str} (ha : x.length ≤ a) (hz : y.length ≤ b) (hab : a + b ≤ 900000) (k : (x ++ y).length ≤ a + b → Q (.str (x ++ y)) H) : rAddA K (.str x) (.str y) H Q := by
  have e : (x ++ y).length = x.length + y.length := by
    show (x.cps ++ y.cps).size = x.cps.size + y.cps.size
    exact Array.size_append
  exact r_addS (len_le (by omega)) (k (by omega))
theorem r_jsB {a b : Nat} {z acc : Str} {P : Prop} (ha : acc.length ≤ a) (hz : z.length ≤ b) (hab : a + b ≤ 900000) (k : (acc ++ z).length ≤ a + b → P) : (acc ++ z).length ≤ sizeLine ∧ P := by
  have e : (acc ++ z).length = acc.length + z.length := by
    show (acc.cps ++ z.cps).size = acc.cps.size + z.cps.size
    exact Array.size_append
  exact ⟨len_le (by omega), k (by omega)⟩
end
/-- gathered in the list at A -/
structure KpA (A : Addr) (P : Hp → V → Prop) : Prop where
  sm : ∀ {H H' : Hp} {x : V}, Sm H H' → P H x → P H' x
  up : ∀ {H : Hp} {xs ys : List V} {x : V}, H A = some (.lst xs) → P H x → P (upd H A (.lst ys)) x
theorem KpA.add {A : Addr} {P : Hp → V → Prop} (kp : KpA A P) {Hi H4 : Hp} {xs : List V} {y : V} (hA : Hi A = some (.lst xs)) (all : ∀ x ∈ xs, P Hi x) (s : Sm Hi H4) (py : P H4 y) :
    ∀ x ∈ xs ++ [y], P (upd H4 A (.lst (xs ++ [y]))) x := by
  intro x hx
  refine kp.up (s.to _ _ hA) ?_
  rcases List.mem_append.mp hx with hx | hx
  · exact kp.sm s (all x hx)
  · rw [List.mem_singleton.mp hx]
    exact py
theorem ixN_zero {n : Nat} (h : 0 < n) : ixN n 0 = some 0 := by
  unfold ixN
  rw [if_pos (Int.le_refl 0), if_pos (by omega)]
  rfl
theorem joinL_len (a : List Nat) : ∀ l : List (List Nat), (TL.joinL a l).length ≤ (l.map (·.length)).sum + l.length * a.length
  | [] => Nat.zero_le _
  | [p] => by
    show p.length ≤ p.length + 0 + 1 * a.length
    omega
  | p :: q :: r => by
    have ih := joinL_len a (q :: r)
    show (p ++ (a ++ TL.joinL a (q :: r))).length ≤ _
    rw [List.length_append, List.length_append]
    simp only [List.map_cons, List.sum_cons, List.length_cons, Nat.add_mul, Nat.one_mul] at ih ⊢
    omega
theorem len_join (sep : Str) (ys : List Str) : (PySem.Txt.join sep ys).length ≤ (ys.map (·.length)).sum + ys.length * sep.length := by
  have h1 : ys = (ys.map fun y => y.cps.toList).map SX.S := by
    rw [List.map_map]
    have : (SX.S ∘ fun y : Str => y.cps.toList) = id := by
      funext y
      exact SX.S_tl y
    rw [this, List.map_id]
  have h2 : sep = SX.S sep.cps.toList := (SX.S_tl sep).symm
  have h3 := joinL_len sep.cps.toList (ys.map fun y => y.cps.toList)
  have h4 : (PySem.Txt.join sep ys).length = (TL.joinL sep.cps.toList (ys.map fun y => y.cps.toList)).length := by
    rw [h1, h2, SX.join_S, SX.S_len, List.map_map, List.map_map]
    rfl
  rw [h4]
  rw [List.map_map, List.length_map] at h3
  have h5 : ((fun l : List Nat => l.length) ∘ fun y : Str => y.cps.toList) = fun y : Str => y.length := by
    funext y
    exact (str_len y).symm
  rw [h5, ← str_len] at h3
  exact h3
theorem not_o {p : Prop} [Decidable p] (h : p) : (!decide p) = false := by rw [decide_eq_true h]; rfl
theorem not_y {p : Prop} [Decidable p] (h : ¬ p) : (!decide p) = true := by rw [decide_eq_false h]; rfl
theorem empty_add (z : Str) : Str.empty ++ z = z := by
  cases z with
  | mk c =>
    show (⟨#[] ++ c⟩ : Str) = ⟨c⟩
    rw [Array.empty_append]
theorem small_text {i : Int} (h0 : 0 ≤ i) (h1 : i < 20) : (toString i : Str).length ≤ 2 := by
  have h : ∀ n : Fin 20, (toString ((n.val : Nat) : Int) : Str).length ≤ 2 := by decide +kernel
  have e := h ⟨i.toNat, by omega⟩
  have e2 : ((i.toNat : Nat) : Int) = i := Int.toNat_of_nonneg h0
  rw [show (((⟨i.toNat, by omega⟩ : Fin 20).val : Nat) : Int) = i from e2] at e
  exact e
theorem small_log {i : Int} (h0 : 0 ≤ i) (h1 : i < 1000) : i.natAbs.log2 < 1920 := by
  have : i.natAbs < 2 ^ 10 := by omega
  by_cases e : i.natAbs = 0
  · rw [e]; decide
  · have := (Nat.log2_lt e).mpr this
    omega
theorem sum_le : ∀ (ys : List Str) (n : Nat), (∀ y ∈ ys, y.length ≤ n) → (ys.map (·.length)).sum ≤ ys.length * n
  | [], n, _ => Nat.zero_le _
  | y :: ys, n, h => by
    have h1 := h y (by simp)
    have h2 := sum_le ys n fun z hz => h z (by simp [hz])
    rw [List.map_cons, List.sum_cons, List.length_cons, Nat.succ_mul]
    omega
theorem noDs {K : PySem.W.Frag} {fd : FuncData} {ps : List Str} (h : ∃ ds, Vals [] ds ∧ Binds K fd ps ds) : Binds K fd ps [] := by
  obtain ⟨ds, r, b⟩ := h
  cases r
  exact b
theorem okD {P : Program} {w : World} {K : PySem.W.Frag} {mg : Str → Option Value} {base : Heap} {x qual : Str} {params : Arguments} {body : List Stmt} {scope : Scope} {dvs : List V} {kws : List (Str × V)} {f : Addr} {fd : FuncData} {N ps : List Str} {k : Nat} {sp : Sp}
    (F : FunD K x qual params body scope dvs kws f fd) (S : FnScope N ps scope) (len : ∀ vs H Q E, sp vs H Q E → vs.length = ps.length)
    (hbody : ∀ (cdv : Value) (A : Around) (outer : List Env) (s : Shared) (H : Hp) (vs : List V) (Q : VK) (E : XK), Room k (A.deeper (envOfC qual scope s.heap.objs.size f cdv)) → sp vs H Q E →
      ∃ t, PSs (cxOf CX0 P w K mg base N qual scope f cdv A outer s H E).nox body t ∧ t { nx := fun _ H' => Q .non H', rt := Q } (start N vs) H) : FnOk P w K mg base CX0 (k + 1) f fd ps sp :=
  F.ok S len fun cdv A outer s H vs Q E hr h => by
    obtain ⟨t, h1, h2⟩ := hbody cdv A outer s H vs Q E hr h
    exact ⟨t, h1.nox, h2⟩
end RV

/-! choosing numbers, halvings, carries -/
namespace RV
open PySem PySem.Spec L2
open PyProof.Rows hiding St
/-! ways to choose -/
def ch : Nat → Nat → Nat
  | _, 0 => 1
  | 0, _ + 1 => 0
  | n + 1, k + 1 => ch n k + ch n (k + 1)
theorem ch_zero (n : Nat) : ch n 0 = 1 := by cases n <;> rfl
theorem ch_succ (n k : Nat) : ch (n + 1) (k + 1) = ch n k + ch n (k + 1) := rfl
theorem ch_above : ∀ {n k : Nat}, n < k → ch n k = 0
  | _, 0, h => absurd h (by omega)
  | 0, _ + 1, _ => rfl
  | n + 1, k + 1, h => by rw [ch_succ, ch_above (show n < k by omega), ch_above (show n < k + 1 by omega)]
theorem ch_self : ∀ n : Nat, ch n n = 1
  | 0 => rfl
  | n + 1 => by rw [ch_succ, ch_self n, ch_above (show n < n + 1 by omega)]
theorem ch_pos : ∀ {n k : Nat}, k ≤ n → 0 < ch n k
  | n, 0, _ => by rw [ch_zero]; decide
  | 0, k + 1, h => absurd h (by omega)
  | n + 1, k + 1, h => by
    have := ch_pos (show k ≤ n by omega)
    rw [ch_succ]
    omega
theorem ch_le : ∀ n k : Nat, ch n k ≤ 2 ^ n
  | n, 0 => by rw [ch_zero]; exact Nat.one_le_two_pow
  | 0, _ + 1 => Nat.zero_le _
  | n + 1, k + 1 => by
    have a := ch_le n k
    have b := ch_le n (k + 1)
    rw [ch_succ, Nat.pow_succ]
    omega
theorem ch_mul : ∀ n k : Nat, ch (n + 1) (k + 1) * (k + 1) = (n + 1) * ch n k
  | 0, 0 => rfl
  | 0, k + 1 => by rw [ch_above (show 0 + 1 < k + 1 + 1 by omega), ch_above (show 0 < k + 1 by omega), Nat.zero_mul, Nat.mul_zero]
  | n + 1, 0 => by
    have a := ch_mul n 0
    rw [ch_zero] at a
    rw [ch_succ, ch_zero, Nat.mul_one]
    omega
  | n + 1, k + 1 => by
    have a := ch_mul n k
    have b := ch_mul n (k + 1)
    rw [ch_succ (n + 1) (k + 1), Nat.add_mul, b, Nat.mul_succ (ch (n + 1) (k + 1)), a, Nat.succ_mul (n + 1), ch_succ n k, Nat.mul_add]
    omega
/-- the product of so many numbers downwards -/
def fl (n : Nat) : Nat → Nat
  | 0 => 1
  | k + 1 => fl n k * (n - k)
def fac : Nat → Nat
  | 0 => 1
  | n + 1 => (n + 1) * fac n
theorem fac_pos : ∀ n : Nat, 0 < fac n
  | 0 => by decide
  | n + 1 => Nat.mul_pos (by omega) (fac_pos n)
theorem fac_le {m n : Nat} (h : m ≤ n) : fac m ≤ fac n := by
  induction n with
  | zero => rw [show m = 0 by omega]; exact Nat.le_refl _
  | succ n ih =>
    by_cases e : m = n + 1
    · rw [e]; exact Nat.le_refl _
    · have := ih (by omega)
      exact Nat.le_trans this (Nat.le_mul_of_pos_left _ (by omega))
theorem fl_succ (n k : Nat) : fl (n + 1) (k + 1) = (n + 1) * fl n k := by
  induction k with
  | zero => show 1 * (n + 1 - 0) = (n + 1) * 1; omega
  | succ k ih =>
    show fl (n + 1) (k + 1) * (n + 1 - (k + 1)) = (n + 1) * (fl n k * (n - k))
    rw [ih, Nat.mul_assoc, show n + 1 - (k + 1) = n - k by omega]
theorem fl_ch : ∀ n k : Nat, fl n k = ch n k * fac k
  | n, 0 => by rw [ch_zero]; rfl
  | 0, k + 1 => by
    rw [ch_above (show 0 < k + 1 by omega), Nat.zero_mul]
    induction k with
    | zero => rfl
    | succ k ih => show fl 0 (k + 1) * _ = 0; rw [ih, Nat.zero_mul]
  | n + 1, k + 1 => by
    rw [fl_succ, fl_ch n k, ← Nat.mul_assoc, ← ch_mul n k, Nat.mul_assoc]
    rfl
theorem fl_fac {n : Nat} : ∀ {k : Nat}, k ≤ n → fl n k * fac (n - k) = fac n
  | 0, _ => by show 1 * fac (n - 0) = fac n; rw [Nat.one_mul, Nat.sub_zero]
  | k + 1, h => by
    have e := fl_fac (n := n) (k := k) (by omega)
    have e2 : fac (n - k) = (n - k) * fac (n - (k + 1)) := by
      obtain ⟨d, hd⟩ : ∃ d, n - k = d + 1 := ⟨n - k - 1, by omega⟩
      rw [hd, show n - (k + 1) = d by omega]
      rfl
    show fl n k * (n - k) * fac (n - (k + 1)) = fac n
    rw [Nat.mul_assoc, ← e2, e]
theorem ch_fac {n k : Nat} (h : k ≤ n) : ch n k * fac k * fac (n - k) = fac n := by rw [← fl_ch, fl_fac h]
theorem ch_symm {n k : Nat} (h : k ≤ n) : ch n (n - k) = ch n k := by
  have a := ch_fac h
  have b := ch_fac (show n - k ≤ n by omega)
  rw [show n - (n - k) = k by omega, Nat.mul_assoc, Nat.mul_comm (fac (n - k)), ← Nat.mul_assoc, ← a] at b
  exact Nat.mul_right_cancel (fac_pos k) (Nat.mul_right_cancel (fac_pos (n - k)) b)
theorem fl_div {n k : Nat} : fl n k / fac k = ch n k := by rw [fl_ch]; exact Nat.mul_div_cancel _ (fac_pos k)
theorem fl_all (n : Nat) : fl n n = fac n := by rw [fl_ch, ch_self, Nat.one_mul]
theorem fp_nat (n : Nat) : ∀ {k : Nat}, k ≤ n → Builtin.Math.fallingProduct (n : Int) k = ((fl n k : Nat) : Int)
  | 0, _ => rfl
  | k + 1, h => by
    rw [PySem.W.mc_fp_succ, fp_nat n (show k ≤ n by omega)]
    show _ = ((fl n k * (n - k) : Nat) : Int)
    rw [Int.natCast_mul, Int.ofNat_sub (show k ≤ n by omega)]
theorem comb_nat (n k : Nat) : PySem.W.mcComb (n : Int) (k : Int) = ((ch n k : Nat) : Int) := by
  by_cases h : n < k
  · rw [PySem.W.mcComb_above (by omega), ch_above h]
    rfl
  · have key : ∀ m : Nat, m ≤ n → Builtin.Math.fallingProduct (n : Int) m / Builtin.Math.fallingProduct (m : Int) m = ((ch n m : Nat) : Int) := by
      intro m hm
      rw [fp_nat n hm, fp_nat m (Nat.le_refl m), fl_all, ← fl_div (n := n) (k := m)]
      exact (Int.natCast_ediv _ _).symm
    by_cases h2 : k ≤ n - k
    · rw [PySem.W.mcComb_at (m := (k : Int)) (by omega) (by omega) (by omega)]
      exact key k (by omega)
    · rw [PySem.W.mcComb_at (m := ((n - k : Nat) : Int)) (by omega) (by omega) (by omega), ← ch_symm (show k ≤ n by omega)]
      exact key (n - k) (by omega)
/-! the built-in function -/
section
variable {X : Cx}
def rComb : List V → Hp → VK → Prop := fun vs H Q => ∃ a b : Int, vs = [.int a, .int b] ∧ 0 ≤ a ∧ a ≤ 18000 ∧ 0 ≤ b ∧ Q (.int ((ch a.toNat b.toNat : Nat) : Int)) H
theorem cr_comb : CallR X (.builtin "math.comb") rComb := by
  intro pins s σ H vs us Q I r h
  obtain ⟨a, b, rfl, h0, h1, h2, q⟩ := h
  obtain ⟨t, u, rfl⟩ := Vals.int2 r
  have e : PySem.W.mcComb a b = ((ch a.toNat b.toNat : Nat) : Int) := by
    have := comb_nat a.toNat b.toNat
    rw [Int.toNat_of_nonneg h0, Int.toNat_of_nonneg h2] at this
    exact this
  exact PySem.W.mc_comb_v h0 h2 (by omega) (.inr h1) e ⟨.int _, H, I.tok _, ⟨_, rfl⟩, q⟩
theorem r_comb {H : Hp} {Q : VK} {a b : Int} (h0 : 0 ≤ a) (h1 : a ≤ 18000) (h2 : 0 ≤ b) (k : Q (.int ((ch a.toNat b.toNat : Nat) : Int)) H) : rComb [.int a, .int b] H Q := ⟨a, b, rfl, h0, h1, h2, k⟩
end
/-! halvings -/
def hv (n : Nat) : Nat := if h : n = 0 ∨ n % 2 = 1 then 0 else hv (n / 2) + 1
termination_by n
decreasing_by omega
theorem hv_odd {n : Nat} (h : n % 2 = 1) : hv n = 0 := by rw [hv, dif_pos (.inr h)]
theorem hv_even {n : Nat} (h0 : n ≠ 0) (h : n % 2 = 0) : hv n = hv (n / 2) + 1 := by rw [hv, dif_neg (by omega)]
theorem hv_two {n : Nat} (h0 : n ≠ 0) : hv (2 * n) = hv n + 1 := by rw [hv_even (by omega) (by omega), show 2 * n / 2 = n by omega]
theorem hv_zero {n : Nat} (h0 : n ≠ 0) : hv n = 0 ↔ n % 2 = 1 := by
  by_cases h : n % 2 = 1
  · exact ⟨fun _ => h, fun _ => hv_odd h⟩
  · rw [hv_even h0 (by omega)]
    exact ⟨fun z => by omega, fun z => by omega⟩
theorem hv_pow {n : Nat} (h0 : n ≠ 0) : ∀ m : Nat, hv (n * 2 ^ m) = hv n + m
  | 0 => by rw [Nat.pow_zero, Nat.mul_one]; rfl
  | m + 1 => by
    have hp : n * 2 ^ m ≠ 0 := Nat.mul_ne_zero h0 (Nat.pos_iff_ne_zero.mp (Nat.two_pow_pos m))
    rw [Nat.pow_succ, ← Nat.mul_assoc, Nat.mul_comm _ 2, hv_two hp, hv_pow h0 m]
    rfl
theorem hv_mul (x : Nat) : ∀ y : Nat, x ≠ 0 → y ≠ 0 → hv (x * y) = hv x + hv y := by
  induction x using Nat.strongRecOn with
  | ind x ih =>
    intro y hx hy
    by_cases h : x % 2 = 1
    · rw [hv_odd h, Nat.zero_add]
      induction y using Nat.strongRecOn with
      | ind y ihy =>
        by_cases g : y % 2 = 1
        · rw [hv_odd g, hv_odd]
          rw [Nat.mul_mod, h, g]
        · have e : y = 2 * (y / 2) := by omega
          have z := ihy (y / 2) (by omega) (by omega)
          rw [hv_even hy (by omega), ← z, e, Nat.mul_left_comm, hv_two (Nat.mul_ne_zero hx (by omega)), show 2 * (y / 2) / 2 = y / 2 by omega]
    · have e : x = 2 * (x / 2) := by omega
      have z := ih (x / 2) (by omega) y (by omega) hy
      have e3 : x * y = 2 * (x / 2 * y) := by rw [← Nat.mul_assoc, ← e]
      rw [hv_even hx (by omega), e3, hv_two (Nat.mul_ne_zero (by omega) hy), z]
      omega
theorem hv_next (n : Nat) : hv (n + 1) + pop (n + 1) = pop n + 1 := by
  induction n using Nat.strongRecOn with
  | ind n ih =>
    by_cases h : n % 2 = 0
    · rw [hv_odd (by omega), pop_eq (n + 1), pop_eq n, show (n + 1) / 2 = n / 2 by omega]
      omega
    · have z := ih (n / 2) (by omega)
      rw [hv_even (by omega) (by omega), pop_eq (n + 1), pop_eq n, show (n + 1) / 2 = n / 2 + 1 by omega]
      omega
theorem hv_fac : ∀ n : Nat, hv (fac n) + pop n = n
  | 0 => by
    rw [pop_zero]
    exact hv_odd (by decide)
  | n + 1 => by
    have a := hv_fac n
    have b := hv_next n
    show hv ((n + 1) * fac n) + pop (n + 1) = n + 1
    rw [hv_mul _ _ (by omega) (Nat.pos_iff_ne_zero.mp (fac_pos n))]
    omega
theorem hv_ch {n k : Nat} (h : k ≤ n) : hv (ch n k) + pop n = pop k + pop (n - k) := by
  have a := ch_fac h
  have p0 : ch n k ≠ 0 := Nat.pos_iff_ne_zero.mp (ch_pos h)
  have p1 : fac k ≠ 0 := Nat.pos_iff_ne_zero.mp (fac_pos k)
  have p2 : fac (n - k) ≠ 0 := Nat.pos_iff_ne_zero.mp (fac_pos (n - k))
  have e := congrArg hv a
  rw [hv_mul _ _ (Nat.mul_ne_zero p0 p1) p2, hv_mul _ _ p0 p1] at e
  have e1 := hv_fac n
  have e2 := hv_fac k
  have e3 := hv_fac (n - k)
  omega
/-! carries -/
theorem pop_step (a b c : Nat) : pop (a + b + c) = (a % 2 + b % 2 + c) % 2 + pop (a / 2 + b / 2 + (a % 2 + b % 2 + c) / 2) := by
  rw [pop_eq (a + b + c), show (a + b + c) % 2 = (a % 2 + b % 2 + c) % 2 by omega, show (a + b + c) / 2 = a / 2 + b / 2 + (a % 2 + b % 2 + c) / 2 by omega]
theorem pop_add (a : Nat) : ∀ b c : Nat, c ≤ 1 → pop (a + b + c) ≤ pop a + pop b + c := by
  suffices h : ∀ m a b c : Nat, a + b + c ≤ m → c ≤ 1 → pop (a + b + c) ≤ pop a + pop b + c from fun b c hc => h _ a b c (Nat.le_refl _) hc
  intro m
  induction m with
  | zero =>
    intro a b c h _
    rw [show a = 0 by omega, show b = 0 by omega, show c = 0 by omega]
    show pop 0 ≤ pop 0 + pop 0 + 0
    omega
  | succ m ih =>
    intro a b c h hc
    have hs := pop_step a b c
    have ha := pop_eq a
    have hb := pop_eq b
    by_cases z : a + b + c ≤ m
    · exact ih a b c z hc
    · have i := ih (a / 2) (b / 2) ((a % 2 + b % 2 + c) / 2) (by omega) (by omega)
      omega
theorem pop_both (a : Nat) : ∀ b : Nat, pop (a + b) = pop a + pop b ↔ a &&& b = 0 := by
  induction a using Nat.strongRecOn with
  | ind a ih =>
    intro b
    by_cases h0 : a = 0
    · subst h0
      rw [pop_zero, Nat.zero_add, Nat.zero_add, Nat.zero_and]
      exact ⟨fun _ => rfl, fun _ => rfl⟩
    · have i := ih (a / 2) (by omega) (b / 2)
      have hs := pop_step a b 0
      have ha := pop_eq a
      have hb := pop_eq b
      have p := and_par a b
      have q := and_half a b
      rw [Nat.add_zero, Nat.add_zero] at hs
      by_cases g : a % 2 = 1 ∧ b % 2 = 1
      · rw [g.1, g.2] at p hs
        have l := pop_add (a / 2) (b / 2) 1 (by omega)
        constructor
        · intro z
          exfalso
          have : (1 + 1) / 2 = 1 := rfl
          rw [this] at hs
          omega
        · intro z
          rw [z] at p
          omega
      · have c0 : (a % 2 + b % 2) / 2 = 0 := by omega
        rw [c0, Nat.add_zero] at hs
        have p0 : (a &&& b) % 2 = 0 := by
          rw [p]
          rcases Nat.mod_two_eq_zero_or_one a with h | h
          · rw [h, Nat.zero_mul]
          · rw [show b % 2 = 0 by omega, Nat.mul_zero]
        constructor
        · intro z
          have := i.mp (by omega)
          omega
        · intro z
          rw [z] at q
          have := i.mpr (by omega)
          omega
theorem out_both (a : Nat) : ∀ b : Nat, out a (a + b) = 0 ↔ a &&& b = 0 := by
  induction a using Nat.strongRecOn with
  | ind a ih =>
    intro b
    by_cases h0 : a = 0
    · subst h0
      rw [Nat.zero_and]
      exact ⟨fun _ => rfl, fun _ => by have := out_le 0 (0 + b); omega⟩
    · have i := ih (a / 2) (by omega) (b / 2)
      obtain ⟨o1, o2⟩ := out_half a (a + b)
      have p := and_par a b
      have q := and_half a b
      by_cases g : a % 2 = 1 ∧ b % 2 = 1
      · rw [g.1, g.2] at p
        rw [g.1, show (a + b) % 2 = 0 by omega] at o2
        constructor
        · intro z
          rw [z] at o2
          omega
        · intro z
          rw [z] at p
          omega
      · rw [show (a + b) / 2 = a / 2 + b / 2 by omega] at o1
        have p0 : (a &&& b) % 2 = 0 := by
          rw [p]
          rcases Nat.mod_two_eq_zero_or_one a with h | h
          · rw [h, Nat.zero_mul]
          · rw [show b % 2 = 0 by omega, Nat.mul_zero]
        have o0 : out a (a + b) % 2 = 0 := by
          rw [o2]
          rcases Nat.mod_two_eq_zero_or_one a with h | h
          · rw [h, Nat.zero_mul]
          · rw [show (a + b) % 2 = 1 by omega, Nat.mul_zero]
        constructor
        · intro z
          rw [z] at o1
          have := i.mp (by omega)
          omega
        · intro z
          rw [z] at q
          have := i.mpr (by omega)
          omega
theorem out_gt {a b : Nat} (h : b < a) : out a b ≠ 0 := by
  intro z
  have e : a &&& b ≤ b := Nat.and_le_right
  have f : out a b = a - (a &&& b) := rfl
  omega
/-- odd just where it fits -/
theorem ch_odd {n k : Nat} (h : k ≤ n) : hv (ch n k) = 0 ↔ out k n = 0 := by
  have a := hv_ch h
  have b := pop_both k (n - k)
  have c := out_both k (n - k)
  rw [show k + (n - k) = n by omega] at b c
  rw [c, ← b]
  omega
/-! the lowest one of the bits -/
theorem low_bit (m : Nat) : ∀ q : Nat, q % 2 = 1 → q * 2 ^ m - ((q * 2 ^ m) &&& (q * 2 ^ m - 1)) = 2 ^ m := by
  induction m with
  | zero =>
    intro q hq
    rw [Nat.pow_zero, Nat.mul_one]
    have p := and_par q (q - 1)
    have h := and_half q (q - 1)
    rw [show (q - 1) / 2 = q / 2 by omega, Nat.and_self] at h
    rw [show (q - 1) % 2 = 0 by omega, Nat.mul_zero] at p
    omega
  | succ m ih =>
    intro q hq
    have z := ih q hq
    have e : q * 2 ^ (m + 1) = 2 * (q * 2 ^ m) := by rw [Nat.pow_succ, ← Nat.mul_assoc, Nat.mul_comm]
    have hp : 0 < q * 2 ^ m := Nat.mul_pos (by omega) (Nat.two_pow_pos m)
    rw [e, Nat.pow_succ]
    generalize q * 2 ^ m = x at z hp
    have p := and_par (2 * x) (2 * x - 1)
    have h := and_half (2 * x) (2 * x - 1)
    rw [show 2 * x / 2 = x by omega, show (2 * x - 1) / 2 = x - 1 by omega] at h
    rw [show 2 * x % 2 = 0 by omega, Nat.zero_mul] at p
    have hl : x &&& (x - 1) ≤ x := Nat.and_le_left
    generalize 2 ^ m = y at z ⊢
    omega
theorem hv_split (n : Nat) (h0 : n ≠ 0) : ∃ q, q % 2 = 1 ∧ n = q * 2 ^ hv n := by
  induction n using Nat.strongRecOn with
  | ind n ih =>
    by_cases h : n % 2 = 1
    · exact ⟨n, h, by rw [hv_odd h, Nat.pow_zero, Nat.mul_one]⟩
    · obtain ⟨q, hq, e⟩ := ih (n / 2) (by omega) (by omega)
      refine ⟨q, hq, ?_⟩
      rw [hv_even h0 (by omega), Nat.pow_succ, ← Nat.mul_assoc, ← e]
      omega
theorem neg_and {n : Int} (h : 0 < n) : Builtin.bitAnd n (-n) = ((2 ^ hv n.toNat : Nat) : Int) := by
  obtain ⟨q, hq, e⟩ := hv_split n.toNat (by omega)
  have z := low_bit (hv n.toNat) q hq
  rw [← e] at z
  unfold Builtin.bitAnd
  rw [decide_eq_true (show (0 : Int) ≤ n by omega), decide_eq_false (show ¬ (0 : Int) ≤ -n by omega)]
  show n - ((n.toNat &&& (Builtin.bitNot (-n)).toNat : Nat) : Int) = _
  have e2 : (Builtin.bitNot (-n)).toNat = n.toNat - 1 := by
    unfold Builtin.bitNot
    omega
  rw [e2]
  have hl : n.toNat &&& (n.toNat - 1) ≤ n.toNat := Nat.and_le_left
  generalize 2 ^ hv n.toNat = y at z ⊢
  omega
theorem bits_pow (m : Nat) : Builtin.Int.intBits ((2 ^ m : Nat) : Int) = m + 1 := by
  unfold Builtin.Int.intBits
  have h : ((2 ^ m : Nat) : Int) ≠ 0 := by
    have := Nat.two_pow_pos m
    omega
  rw [Int.natAbs_natCast, Nat.log2_two_pow]
  split
  · rename_i z
    first
    | exact absurd z h
    | exact absurd (beq_iff_eq.mp z) h
  · rfl
/-! powers by figures -/
/-- the first so many choosing numbers as figures -/
def fs (u n : Nat) : Nat → Nat
  | 0 => 0
  | k + 1 => fs u n k + ch n k * u ^ k
theorem fs_next (u n : Nat) : ∀ k : Nat, fs u (n + 1) (k + 1) = fs u n (k + 1) + u * fs u n k
  | 0 => by
    show 0 + ch (n + 1) 0 * u ^ 0 = 0 + ch n 0 * u ^ 0 + u * 0
    rw [ch_zero, ch_zero]
    omega
  | k + 1 => by
    have i := fs_next u n k
    show fs u (n + 1) (k + 1) + ch (n + 1) (k + 1) * u ^ (k + 1) = fs u n (k + 1) + ch n (k + 1) * u ^ (k + 1) + u * (fs u n k + ch n k * u ^ k)
    rw [i, ch_succ, Nat.add_mul, Nat.mul_add, Nat.pow_succ]
    have e : ch n k * (u ^ k * u) = u * (ch n k * u ^ k) := by rw [Nat.mul_left_comm, Nat.mul_comm u (ch n k * u ^ k), Nat.mul_assoc, Nat.mul_left_comm]
    rw [e]
    omega
theorem fs_all (u : Nat) : ∀ n k : Nat, n < k → fs u n k = (u + 1) ^ n
  | 0, 0, h => absurd h (by omega)
  | 0, k + 1, _ => by
    induction k with
    | zero => rfl
    | succ k ih =>
      show fs u 0 (k + 1) + ch 0 (k + 1) * u ^ (k + 1) = (u + 1) ^ 0
      rw [ih (by omega), ch_above (by omega), Nat.zero_mul, Nat.add_zero]
  | n + 1, 0, h => absurd h (by omega)
  | n + 1, k + 1, h => by
    rw [fs_next, fs_all u n (k + 1) (by omega), fs_all u n k (by omega), Nat.pow_succ, Nat.mul_comm u, Nat.mul_add, Nat.mul_one, Nat.add_comm]
theorem fs_lt {u n : Nat} (h : 2 ^ n < u) : ∀ k : Nat, fs u n k < u ^ k
  | 0 => by show 0 < u ^ 0; rw [Nat.pow_zero]; decide
  | k + 1 => by
    have i := fs_lt h k
    have l := ch_le n k
    show fs u n k + ch n k * u ^ k < u ^ (k + 1)
    have m : (ch n k + 1) * u ^ k ≤ u * u ^ k := Nat.mul_le_mul_right _ (by omega)
    rw [Nat.add_mul, Nat.one_mul] at m
    rw [Nat.pow_succ, Nat.mul_comm _ u]
    omega
theorem fs_fig {u n : Nat} (h : 2 ^ n < u) (k : Nat) : (u + 1) ^ n / u ^ k % u = ch n k := by
  have hu : 0 < u := Nat.lt_of_le_of_lt (Nat.zero_le _) h
  have hk : 0 < u ^ k := Nat.pow_pos hu
  have key : ∀ d : Nat, ∃ r, fs u n (k + 1 + d) = fs u n k + u ^ k * (ch n k + u * r) := by
    intro d
    induction d with
    | zero =>
      refine ⟨0, ?_⟩
      show fs u n k + ch n k * u ^ k = _
      rw [Nat.mul_zero, Nat.add_zero, Nat.mul_comm]
    | succ d ih =>
      obtain ⟨r, e⟩ := ih
      refine ⟨r + ch n (k + 1 + d) * u ^ d, ?_⟩
      show fs u n (k + 1 + d) + ch n (k + 1 + d) * u ^ (k + 1 + d) = _
      have e2 : ch n (k + 1 + d) * u ^ (k + 1 + d) = u ^ k * (u * (ch n (k + 1 + d) * u ^ d)) := by
        rw [Nat.pow_add, Nat.pow_succ]
        simp only [Nat.mul_comm, Nat.mul_left_comm, Nat.mul_assoc]
      rw [e, e2, Nat.mul_add u, ← Nat.add_assoc (ch n k), Nat.mul_add (u ^ k) (ch n k + u * r), Nat.add_assoc]
  obtain ⟨r, e⟩ := key (n + 1)
  rw [fs_all u n _ (by omega)] at e
  rw [e, Nat.add_mul_div_left _ _ hk, Nat.div_eq_of_lt (fs_lt h k), Nat.zero_add, Nat.add_mul_mod_self_left]
  exact Nat.mod_eq_of_lt (Nat.lt_of_le_of_lt (ch_le n k) h)
theorem fs_one (n : Nat) : fs 1 n (n + 1) = 2 ^ n := fs_all 1 n (n + 1) (by omega)
end RV


namespace K21

open PySem PySem.Spec L2 RV
open PyProof.Rows hiding St
def topS (i : Nat) : Stmt := PySem.Challenge.pw_runsums_k21_whole_masks_figure_by_figure.main.body.getD i (.Pass ⟨0, 0, 0, 0⟩)
abbrev s_box : Stmt := topS 13
theorem sc_box : FnScope ["script", "k", "cell", "seed"] ["script", "k"] (defScope s_box) := ⟨rfl, rfl, rfl, by decide +kernel, rfl, by decide +kernel, by decide +kernel⟩
abbrev s_take : Stmt := topS 12
theorem sc_take : FnScope ["box", "wide", "digit", "one"] ["box", "wide"] (defScope s_take) := ⟨rfl, rfl, rfl, by decide +kernel, rfl, by decide +kernel, by decide +kernel⟩
abbrev s_rows_of : Stmt := topS 14
theorem sc_rows_of : FnScope ["box", "base", "many", "form", "t", "other", "one", "mine", "theirs", "at"] ["box", "base"] (defScope s_rows_of) := ⟨rfl, rfl, rfl, by decide +kernel, rfl, by decide +kernel, by decide +kernel⟩
abbrev s_p_of_figures : Stmt := topS 8
theorem sc_p_of_figures : FnScope ["some", "base", "number", "one"] ["some", "base"] (defScope s_p_of_figures) := ⟨rfl, rfl, rfl, by decide +kernel, rfl, by decide +kernel, by decide +kernel⟩
abbrev s_p_bits_of : Stmt := topS 1
theorem sc_p_bits_of : FnScope ["number"] ["number"] (defScope s_p_bits_of) := ⟨rfl, rfl, rfl, by decide +kernel, rfl, by decide +kernel, by decide +kernel⟩
abbrev s_p_how_many : Stmt := topS 4
theorem sc_p_how_many : FnScope ["number"] ["number"] (defScope s_p_how_many) := ⟨rfl, rfl, rfl, by decide +kernel, rfl, by decide +kernel, by decide +kernel⟩
abbrev s_p_figures : Stmt := topS 7
theorem sc_p_figures : FnScope ["number", "base", "many", "told", "rest", "_", "lowest"] ["number", "base", "many"] (defScope s_p_figures) := ⟨rfl, rfl, rfl, by decide +kernel, rfl, by decide +kernel, by decide +kernel⟩
abbrev s_truth : Stmt := topS 11
theorem sc_truth : FnScope ["found", "due"] ["found", "due"] (defScope s_truth) := ⟨rfl, rfl, rfl, by decide +kernel, rfl, by decide +kernel, by decide +kernel⟩
abbrev s_p_stands_out : Stmt := topS 3
theorem sc_p_stands_out : FnScope ["one", "other"] ["one", "other"] (defScope s_p_stands_out) := ⟨rfl, rfl, rfl, by decide +kernel, rfl, by decide +kernel, by decide +kernel⟩
abbrev s_p_figure : Stmt := topS 6
theorem sc_p_figure : FnScope ["number", "base", "k", "rest", "_"] ["number", "base", "k"] (defScope s_p_figure) := ⟨rfl, rfl, rfl, by decide +kernel, rfl, by decide +kernel, by decide +kernel⟩
abbrev s_p_fits : Stmt := topS 2
theorem sc_p_fits : FnScope ["one", "other"] ["one", "other"] (defScope s_p_fits) := ⟨rfl, rfl, rfl, by decide +kernel, rfl, by decide +kernel, by decide +kernel⟩
abbrev s_bits : Stmt := topS 15
theorem sc_bits : FnScope ["number", "found"] ["number"] (defScope s_bits) := ⟨rfl, rfl, rfl, by decide +kernel, rfl, by decide +kernel, by decide +kernel⟩
abbrev s_p_ones : Stmt := topS 9
theorem sc_p_ones : FnScope ["base", "many"] ["base", "many"] (defScope s_p_ones) := ⟨rfl, rfl, rfl, by decide +kernel, rfl, by decide +kernel, by decide +kernel⟩
abbrev s_right : Stmt := topS 16
theorem sc_right : FnScope ["one", "other", "base", "pick", "mine", "theirs", "many", "own", "there", "lone", "t"] ["one", "other", "base", "pick"] (defScope s_right) := ⟨rfl, rfl, rfl, by decide +kernel, rfl, by decide +kernel, by decide +kernel⟩
abbrev s_law : Stmt := topS 17
theorem sc_law : FnScope ["script", "some", "k", "box", "base", "one", "other", "pick"] ["script"] (defScope s_law) := ⟨rfl, rfl, rfl, by decide +kernel, rfl, by decide +kernel, by decide +kernel⟩
structure Txt (K : PySem.W.Frag) (mg : Str → Option Value) where
  f_box : Addr
  d_box : FuncData
  F_box : Fun K "_law_box" "_law_box" s_box f_box d_box
  g_box : mg "_law_box" = some (.ref f_box)
  b_box : Binds K d_box ["script", "k"] []
  f_take : Addr
  d_take : FuncData
  F_take : Fun K "_law_take" "_law_take" s_take f_take d_take
  g_take : mg "_law_take" = some (.ref f_take)
  b_take : Binds K d_take ["box", "wide"] []
  f_rows_of : Addr
  d_rows_of : FuncData
  F_rows_of : Fun K "_law_rows_of" "_law_rows_of" s_rows_of f_rows_of d_rows_of
  g_rows_of : mg "_law_rows_of" = some (.ref f_rows_of)
  b_rows_of : Binds K d_rows_of ["box", "base"] []
  f_p_of_figures : Addr
  d_p_of_figures : FuncData
  F_p_of_figures : Fun K "of_figures" "of_figures" s_p_of_figures f_p_of_figures d_p_of_figures
  g_p_of_figures : mg "of_figures" = some (.ref f_p_of_figures)
  b_p_of_figures : Binds K d_p_of_figures ["some", "base"] []
  f_p_bits_of : Addr
  d_p_bits_of : FuncData
  F_p_bits_of : Fun K "bits_of" "bits_of" s_p_bits_of f_p_bits_of d_p_bits_of
  g_p_bits_of : mg "bits_of" = some (.ref f_p_bits_of)
  b_p_bits_of : Binds K d_p_bits_of ["number"] []
  f_p_how_many : Addr
  d_p_how_many : FuncData
  F_p_how_many : Fun K "how_many" "how_many" s_p_how_many f_p_how_many d_p_how_many
  g_p_how_many : mg "how_many" = some (.ref f_p_how_many)
  b_p_how_many : Binds K d_p_how_many ["number"] []
  f_p_figures : Addr
  d_p_figures : FuncData
  F_p_figures : Fun K "figures" "figures" s_p_figures f_p_figures d_p_figures
  g_p_figures : mg "figures" = some (.ref f_p_figures)
  b_p_figures : Binds K d_p_figures ["number", "base", "many"] []
  f_truth : Addr
  d_truth : FuncData
  F_truth : Fun K "_law_truth" "_law_truth" s_truth f_truth d_truth
  g_truth : mg "_law_truth" = some (.ref f_truth)
  b_truth : Binds K d_truth ["found", "due"] []
  f_p_stands_out : Addr
  d_p_stands_out : FuncData
  F_p_stands_out : Fun K "stands_out" "stands_out" s_p_stands_out f_p_stands_out d_p_stands_out
  g_p_stands_out : mg "stands_out" = some (.ref f_p_stands_out)
  b_p_stands_out : Binds K d_p_stands_out ["one", "other"] []
  f_p_figure : Addr
  d_p_figure : FuncData
  F_p_figure : Fun K "figure" "figure" s_p_figure f_p_figure d_p_figure
  g_p_figure : mg "figure" = some (.ref f_p_figure)
  b_p_figure : Binds K d_p_figure ["number", "base", "k"] []
  f_p_fits : Addr
  d_p_fits : FuncData
  F_p_fits : Fun K "fits" "fits" s_p_fits f_p_fits d_p_fits
  g_p_fits : mg "fits" = some (.ref f_p_fits)
  b_p_fits : Binds K d_p_fits ["one", "other"] []
  f_bits : Addr
  d_bits : FuncData
  F_bits : Fun K "_law_bits" "_law_bits" s_bits f_bits d_bits
  g_bits : mg "_law_bits" = some (.ref f_bits)
  b_bits : Binds K d_bits ["number"] []
  f_p_ones : Addr
  d_p_ones : FuncData
  F_p_ones : Fun K "ones" "ones" s_p_ones f_p_ones d_p_ones
  g_p_ones : mg "ones" = some (.ref f_p_ones)
  b_p_ones : Binds K d_p_ones ["base", "many"] []
  f_right : Addr
  d_right : FuncData
  F_right : Fun K "_law_right" "_law_right" s_right f_right d_right
  g_right : mg "_law_right" = some (.ref f_right)
  b_right : Binds K d_right ["one", "other", "base", "pick"] []
  f_law : Addr
  d_law : FuncData
  F_law : Fun K "law" "law" s_law f_law d_law
  g_law : mg "law" = some (.ref f_law)
  b_law : Binds K d_law ["script"] []
  z_all : mg "all" = none
  z_bool : mg "bool" = none
  z_divmod : mg "divmod" = none
  z_int : mg "int" = none
  z_isinstance : mg "isinstance" = none
  z_len : mg "len" = none
  z_max : mg "max" = none
  z_min : mg "min" = none
  z_range : mg "range" = none
  z_reversed : mg "reversed" = none
  z_sum : mg "sum" = none
  z_zip : mg "zip" = none
  s_msd : PySem.W.nsIn K cStatics "sys.int_max_str_digits" = some none
section
variable {P : Program} {w : World} {K : PySem.W.Frag} {mg : Str → Option Value} {base : Heap}
/-! the reading, step by step: own words, by strings -/
local macro_rules | `(tactic| tm_at "ne") => `(tactic| with_reducible first
  | assumption
  | exact Ne.symm (by assumption)
  | exact ne_fr (by assumption) (by tm_at "mv")
  | exact box_ne (by assumption) (by tm_at "mv")
  | exact (ne_fr (by assumption) (by tm_at "mv")).symm
  | exact (box_ne (by assumption) (by tm_at "mv")).symm)
local macro_rules | `(tactic| tm_at "mv") => `(tactic| with_reducible first
  | assumption
  | (show upd _ _ _ _ = some _; first
    | exact upd_same
    | exact (sm_upd (by assumption)).to _ _ (by tm_at "mv")
    | exact chg_upd.to _ _ (by tm_at "ne") (by tm_at "mv"))
  | (show _ = some _; first
    | exact Sm.to (by assumption) _ _ (by tm_at "mv")
    | exact Chg.to (by assumption) _ _ (by tm_at "ne") (by tm_at "mv"))
  | (show SqL _ (upd _ _ _) _ _; first
    | exact SqL.of (by assumption)
    | exact SqL.of upd_same
    | exact (sm_upd (by assumption)).seq (by tm_at "mv")
    | exact chg_upd.seq (by tm_at "ne") (by tm_at "mv"))
  | (show SqL _ _ _ _; first
    | exact SqL.of (by assumption)
    | exact Sm.seq (by assumption) (by tm_at "mv")
    | exact Chg.seq (by assumption) (by tm_at "ne") (by tm_at "mv"))
  | (show SqT _ (upd _ _ _) _ _; first
    | exact SqT.of (by assumption)
    | exact SqT.of upd_same
    | exact (sm_upd (by assumption)).seqT (by tm_at "mv")
    | exact chg_upd.seqT (by tm_at "ne") (by tm_at "mv"))
  | (show SqT _ _ _ _; first
    | exact SqT.of (by assumption)
    | exact Sm.seqT (by assumption) (by tm_at "mv")
    | exact Chg.seqT (by assumption) (by tm_at "ne") (by tm_at "mv"))
  | (show Dp _ (upd _ _ _) _ _; exact (sm_upd (by assumption)).dp (by tm_at "mv"))
  | (show Dp _ _ _ _; exact Sm.dp (by assumption) (by tm_at "mv"))
  | (show BoxAt (upd _ _ _) _; first
    | exact BoxAt.sm (sm_upd (by assumption)) (by tm_at "mv")
    | exact BoxAt.chg chg_upd (by tm_at "ne") (by tm_at "mv"))
  | (show BoxAt _ _; first
    | exact BoxAt.sm (by assumption) (by tm_at "mv")
    | exact BoxAt.chg (by assumption) (by tm_at "ne") (by tm_at "mv")))
local macro_rules | `(tactic| tm_at "sd") => `(tactic| first
  | assumption
  | exact cmul_l (by decide)
  | exact cmul_r (by decide)
  | exact cshl1 (by omega) (by omega)
  | exact cdiv_s (by omega) (by omega)
  | exact cmul_r (by omega)
  | exact cmul_l (by omega)
  | (show (0 : Int) < _; first | decide | omega)
  | omega
  | exact ⟨by decide, by decide, by decide⟩
  | exact sz_le (by simp only [List.length_cons, List.length_nil]; omega))
local macro_rules | `(tactic| tm_at "if") => `(tactic| with_reducible first
  | refine ite_y rfl ?_
  | refine ite_o rfl ?_
  | refine ite_y (decide_eq_true (by first | assumption | omega)) ?_
  | refine ite_o (decide_eq_false (by first | assumption | omega)) ?_)
local macro_rules | `(tactic| tm_at "1") => `(tactic| with_reducible first
  | refine r_seq ?_
  | refine r_nx ?_
  | refine r_rt ?_
  | refine r_next ?_
  | refine r_op ?_
  | refine r_var rfl ?_
  | refine r_C ?_
  | refine r_asg ?_
  | refine r_gN ?_
  | refine r_cons ?_
  | refine r_nil ?_
  | refine r_call ?_
  | refine r_CB ?_
  | refine r_ret ?_
  | refine r_if ?_
  | refine r_test ?_
  | refine r_bl ?_
  | refine r_addI ?_
  | refine r_I0 ?_
  | refine r_eqI ?_
  | refine r_neI ?_
  | refine r_eqS ?_
  | refine r_neS ?_
  | refine r_eqB ?_
  | refine r_neB ?_
  | refine r_un ?_
  | refine r_U ?_
  | refine r_drop ?_
  | refine r_lst ?_
  | refine r_tup ?_
  | refine r_par ?_
  | refine r_vw ?_
  | refine r_aug rfl ?_
  | refine r_ip ?_
  | refine r_and ?_
  | refine r_or ?_
  | refine r_not ?_
  | refine r_notT ?_
  | refine r_orT ?_
  | refine r_andT ?_
  | refine r_tru_bl ?_
  | refine r_tru_int ?_
  | refine r_ifE ?_
  | refine r_gS ?_
  | refine r_gC ?_
  | refine r_g0 ?_
  | refine r_retN ?_
  | refine r_sl ?_
  | refine r_noPart ?_
  | refine r_part ?_
  | refine r_exI ?_
  | refine r_callK ?_
  | refine r_bm ?_
  | refine r_chain ?_
  | refine r_isB ?_
  | refine r_isi_int rfl ?_
  | refine r_isi_bl rfl ?_
  | refine r_isi_str rfl ?_
  | refine r_inS ?_
  | refine r_notInS ?_
  | refine r_bmS ?_
  | refine r_lc ?_
  | refine r_for ?_
  | refine r_R1 ?_
  | refine r_yes ?_
  | refine r_aS ?_
  | refine r_intB ?_
  | refine r_intI ?_
  | refine r_strS ?_)
local macro_rules | `(tactic| tm_at "h") => `(tactic| first
  | ((with_reducible show rI _ _ (V.int _) (V.int _) _ _); refine r_I (by tm_at "sd") ?_)
  | ((with_reducible show rMulA _ (V.int _) (V.int _) _ _); refine r_mulS (by tm_at "sd") ?_)
  | ((with_reducible show rIx _ (V.ref _) (V.int _) _ _); first
    | ((with_reducible show rIx _ (V.ref _) (V.int 0) _ _); first | refine r_ixL0 (by tm_at "mv") ?_ | refine r_ixT0 (by tm_at "mv") ?_)
    | ((with_reducible show rIx _ (V.ref _) (V.int 1) _ _); first | refine r_ixL1 (by tm_at "mv") ?_ | refine r_ixT1 (by tm_at "mv") ?_)
    | ((with_reducible show rIx _ (V.ref _) (V.int 2) _ _); first | refine r_ixL2 (by tm_at "mv") ?_ | refine r_ixT2 (by tm_at "mv") ?_))
  | ((with_reducible show rLenA _ [V.ref _] _ _); first
    | refine r_lenL (by tm_at "mv") ?_
    | refine r_lenT (by tm_at "mv") ?_)
  | ((with_reducible show rSetL (V.ref _) (V.int _) _ _ _); first | refine r_setB0 (by tm_at "mv") ?_ | refine r_setB1 (by tm_at "mv") ?_)
  | ((with_reducible show gTup _ _ _ (V.ref _) _ _ _); refine r_gT (by tm_at "mv") (by exact rfl) ?_)
  | ((with_reducible show tyV _ "list" (V.ref _) _ ∧ _); refine r_bmL (by tm_at "mv") ?_)
  | ((with_reducible show tAug _ _ _ _ _ _); refine r_aug (by exact rfl) ?_)
  | ((with_reducible show rMaxA _ [V.int _, V.int _] _ _); refine r_maxF ?_; intro _ _ _ _)
  | ((with_reducible show rMinA _ [V.int _, V.int _] _ _); refine r_minF ?_; intro _ _ _ _)
  | ((with_reducible show wipe _ _ = wipe _ _ ∧ _); refine r_wipe (by exact rfl) ?_)
  | ((with_reducible show ∃ j, [V.int _] = [V.int j] ∧ _); refine r_rng (by omega) (by omega) ?_)
  | ((with_reducible show tVar _ _ _ _); refine r_var (by exact rfl) ?_))
local macro_rules | `(tactic| tm_at "sm") => `(tactic| with_reducible first
  | exact Sm.refl _
  | assumption
  | (show Sm _ (upd _ _ _); first
    | exact sm_tr (sm_upd (by assumption)) (by tm_at "sm")
    | exact sm_acc2 (by assumption) (by tm_at "sm"))
  | exact sm_tr (by assumption) (by tm_at "sm")
  | exact sm_hid (by assumption) (by assumption) (by tm_at "sm"))
local macro_rules | `(tactic| tm_at "fr") => `(tactic| with_reducible first
  | assumption
  | exact fr_of (by assumption) (by tm_at "sm"))
local macro_rules | `(tactic| tm_at "al") => `(tactic| (refine ⟨by tm_at "sd", fun p np => ?_⟩))
local macro_rules | `(tactic| tm_at "rv") => `(tactic| repeat (first | tm_at "1" | tm_at "h" | tm_at "if" | ((with_reducible show _ ≤ sizeLine ∧ ∀ _, _); refine ⟨by tm_at "sd", fun p np => ?_⟩)))
local macro_rules | `(tactic| tm_at "ch") => `(tactic| with_reducible first
  | exact Chg.refl _ _
  | assumption
  | (show Chg _ _ (upd _ _ _); first
    | exact chg_tr (sm_upd (by assumption)).chg (by tm_at "ch")
    | exact chg_acc2 (by assumption) (by tm_at "ch")
    | exact chg_tr chg_upd (by tm_at "ch"))
  | exact chg_tr (by assumption) (by tm_at "ch")
  | exact chg_tr (Sm.chg (by assumption)) (by tm_at "ch"))

local macro_rules | `(tactic| tm_at "1") => `(tactic| with_reducible first
  | refine x_intB ?_
  | refine x_intI ?_)

local macro_rules | `(tactic| tm_at "1") => `(tactic| with_reducible first
  | refine r_bin ?_
  | refine r_par3 ?_
  | refine r_uvw ?_
  | refine r_tru_non ?_
  | refine r_joined ?_
  | refine r_js0 ?_
  | refine r_js1 ?_
  | refine r_fmtS ?_)


local macro_rules | `(tactic| tm_at "1") => `(tactic| with_reducible first
  | refine r_bits ?_
  | refine r_tB ?_
  | refine r_dnotin ?_
  | refine r_din ?_)

local macro_rules | `(tactic| tm_at "1") => `(tactic| with_reducible first
  | refine r_fld ?_
  | refine r_setF ?_
  | refine r_make ?_
  | refine r_pairs0 ?_
  | refine r_pairs1 ?_
  | refine r_dg ?_
  | refine r_zip ?_)
local macro_rules | `(tactic| tm_at "if") => `(tactic| with_reducible first
  | refine ite_o (not_o (by first | assumption | omega)) ?_
  | refine ite_y (not_y (by first | assumption | omega)) ?_)
local macro_rules | `(tactic| tm_at "if") => `(tactic| ((with_reducible show if decide (Str.ofString _ = Str.ofString _) = true then _ else _); first | refine ite_y (by decide +kernel) ?_ | refine ite_o (by decide +kernel) ?_))

/-! the drawer -/
def sp_take : Sp := fun vs H Q _ => ∃ (b : Addr) (wide : Int), vs = [.ref b, .int wide] ∧ BoxAt H b ∧ 0 < wide ∧ CDivW 0 wide ∧ ∀ d H', Chg b H H' → BoxAt H' b → 0 ≤ d → d < wide → Q (.int d) H'
theorem use_take {H : Hp} {Q : VK} {E : XK} {b : Addr} {wide : Int} (h : BoxAt H b) (h0 : 0 < wide) (h1 : CDivW 0 wide) (k : ∀ d H', Chg b H H' → BoxAt H' b → 0 ≤ d → d < wide → Q (.int d) H') : sp_take [.ref b, .int wide] H Q E := ⟨b, wide, rfl, h, h0, h1, k⟩
theorem ok_take (T : Txt K mg) : FnOk P w K mg base CX0 1 T.f_take T.d_take ["box", "wide"] sp_take := by
  refine T.F_take.ok sc_take (fun vs H Q E h => ?_) (fun cdv A outer s H vs Q E hr h => ?_)
  · obtain ⟨b, wide, rfl, _⟩ := h
    rfl
  · obtain ⟨b, wide, rfl, ⟨c, z, hb⟩, hw, hd, k⟩ := h
    refine ⟨_, (pss_cons (ps_if (pt_cmpR op_gt (pe_ix (ix_k (K := K) rfl) (pv 0) pe_int (fun _ _ => rfl)) pe_int (nomark _))
      (pss_cons (ps_set (i := 2) sc_take.nd rfl (Or.inl rfl) (pe_op op_mod (pe_ix (ix_k (K := K) rfl) (pv 0) pe_int (fun _ _ => rfl)) (pv 1)))
      (pss_cons (ps_asg (pe_op op_fdivW (pe_ix (ix_k (K := K) rfl) (pv 0) pe_int (fun _ _ => rfl)) (pv 1)) (pg_sub (pv 0) pe_int set_list))
      (pss_one (ps_ret (pv 2))))) pss_nil)
      (pss_cons (ps_set (i := 3) sc_take.nd rfl (Or.inl rfl) (pe_op op_mod (pe_op (mul_k (K := K) rfl) (pe_ix (ix_k (K := K) rfl) (pv 0) pe_int (fun _ _ => rfl)) pe_int) pe_int))
      (pss_cons (ps_asg (pe_op (add_k (K := K) rfl) (pe_op op_mod (pe_op (add_k (K := K) rfl) (pe_op (mul_k (K := K) rfl) (pv 3) pe_int) pe_int) pe_int) pe_int) (pg_sub (pv 0) pe_int set_list))
      (pss_one (ps_ret (pe_op op_mod (pe_op op_fdivW (pe_op (add_k (K := K) rfl) (pe_op (mul_k (K := K) rfl) (pv 3) pe_int) (pe_ix (ix_k (K := K) rfl) (pv 0) pe_int (fun _ _ => rfl))) pe_int) (pv 1))))))), ?_⟩
    tm_at "rv"
    refine ite_d (fun e => ?_) (fun e => ?_)
    · tm_at "rv"
      exact k _ _ chg_upd ⟨_, _, upd_same⟩ (Int.emod_nonneg _ (by omega)) (Int.emod_lt_of_pos _ hw)
    · tm_at "rv"
      exact k _ _ chg_upd ⟨_, _, upd_same⟩ (Int.emod_nonneg _ (by omega)) (Int.emod_lt_of_pos _ hw)

/-! the drawer made -/
def sp_box (K : PySem.W.Frag) : Sp := fun vs H Q _ => ∃ (a : Addr) (k : Int) (ns : List Int), vs = [.ref a, .int k] ∧ SqL K H a (ns.map V.int) ∧ 0 ≤ k ∧ ∀ b H', Sm H H' → H b = none → BoxAt H' b → Q (.ref b) H'
theorem use_box {H : Hp} {Q : VK} {E : XK} {a : Addr} {i : Int} {ns : List Int} (h : SqL K H a (ns.map V.int)) (h0 : 0 ≤ i) (k : ∀ b H', Sm H H' → H b = none → BoxAt H' b → Q (.ref b) H') : sp_box K [.ref a, .int i] H Q E := ⟨a, i, ns, rfl, h, h0, k⟩
theorem ok_box (T : Txt K mg) : FnOk P w K mg base CX0 1 T.f_box T.d_box ["script", "k"] (sp_box K) := by
  refine T.F_box.ok sc_box (fun vs H Q E h => ?_) (fun cdv A outer s H vs Q E hr h => ?_)
  · obtain ⟨a, k, ns, rfl, _⟩ := h
    rfl
  · obtain ⟨a, k, ns, rfl, hS, h0, q⟩ := h
    have item : ∀ i : Int, 0 ≤ i → i < ((ns.map V.int).length : Int) → ∃ n, atI (ns.map V.int) i = some (V.int n) := fun i a b => by
      obtain ⟨v, e, m⟩ := atI_mem a b
      obtain ⟨n, _, rfl⟩ := List.mem_map.mp m
      exact ⟨n, e⟩
    refine ⟨_, (pss_cons (ps_set (i := 2) sc_box.nd rfl (Or.inl rfl) (pe_op (add_k (K := K) rfl) (pe_op (mul_k (K := K) rfl) pe_int (pv 1)) pe_int))
      (pss_cons (ps_if (pt_cmpR op_lt (pv 1) (pe_callB (len_k (K := K) rfl) (by rfl) T.z_len (by decide +kernel) (pa_cons (pv 0) pa_nil)) (nomark _))
      (pss_one (ps_set (i := 2) sc_box.nd rfl (Or.inl rfl) (pe_ix (ix_k (K := K) rfl) (pv 0) (pv 1) (fun _ _ => rfl)))) (pss_one (ps_if (pt_cmpR op_gt (pe_callB (len_k (K := K) rfl) (by rfl) T.z_len (by decide +kernel) (pa_cons (pv 0) pa_nil)) pe_int (nomark _))
      (pss_one (ps_set (i := 2) sc_box.nd rfl (Or.inl rfl) (pe_op (add_k (K := K) rfl) (pv 2) (pe_op (mul_k (K := K) rfl) (pe_op op_mod (pe_ix (ix_k (K := K) rfl) (pv 0) (pe_op op_mod (pv 1) (pe_callB (len_k (K := K) rfl) (by rfl) T.z_len (by decide +kernel) (pa_cons (pv 0) pa_nil))) (fun _ _ => rfl)) pe_int) pe_int)))) pss_nil)))
      (pss_cons (ps_set (i := 3) sc_box.nd rfl (Or.inl rfl) (pe_op (add_k (K := K) rfl) (pe_op op_mod (pe_op (add_k (K := K) rfl) (pe_op (mul_k (K := K) rfl) (pe_op op_mod (pv 2) pe_int) pe_int) (pe_op (mul_k (K := K) rfl) pe_int (pv 1))) pe_int) pe_int))
      (pss_one (ps_ret (pe_lst (pa_cons (pe_ix (ix_k (K := K) rfl) (pe_lst (pa_cons pe_int (pa_cons (pv 2) pa_nil))) (pe_callTy (int_x (K := K) rfl T.s_msd) (by rfl) T.z_int (by decide +kernel) (pa_cons (pe_cmpR op_ge (pv 2) (pe_op op_pow pe_int pe_int) (nomark _)) pa_nil)) (fun _ _ => rfl)) (pa_cons (pv 3) pa_nil)))))))), ?_⟩
    tm_at "rv"
    have hlen : ((ns.map V.int).length : Int) = (ns.length : Int) := by rw [List.length_map]
    refine ite_d (fun e1 => ?_) (fun e1 => ?_)
    · tm_at "rv"
      obtain ⟨n, en⟩ := item k h0 e1
      refine r_ixL (by tm_at "mv") en ?_
      tm_at "rv"
      refine r_ixL (by tm_at "mv") ix2 ?_
      tm_at "rv"
      exact q _ _ (by tm_at "sm") (by tm_at "fr") ⟨_, _, upd_same⟩
    · tm_at "rv"
      refine ite_d (fun e2 => ?_) (fun e2 => ?_)
      · tm_at "rv"
        obtain ⟨n, en⟩ := item (k % ((ns.map V.int).length : Int)) (Int.emod_nonneg _ (by omega)) (Int.emod_lt_of_pos _ e2)
        refine r_ixL (by tm_at "mv") en ?_
        tm_at "rv"
        refine r_ixL (by tm_at "mv") ix2 ?_
        tm_at "rv"
        exact q _ _ (by tm_at "sm") (by tm_at "fr") ⟨_, _, upd_same⟩
      · tm_at "rv"
        refine r_ixL (by tm_at "mv") ix2 ?_
        tm_at "rv"
        exact q _ _ (by tm_at "sm") (by tm_at "fr") ⟨_, _, upd_same⟩

/-- the number that figures come to -/
def val (b : Int) : List Int → Int
  | [] => 0
  | x :: r => x + b * val b r
theorem val_snoc (b x : Int) : ∀ l : List Int, val b (l ++ [x]) = val b l + x * b ^ l.length
  | [] => by
    show x + b * 0 = 0 + x * b ^ 0
    rw [Int.pow_zero]
    omega
  | y :: r => by
    show y + b * val b (r ++ [x]) = y + b * val b r + x * (b ^ (r.length + 1))
    rw [val_snoc b x r, Int.mul_add, Int.pow_succ, Int.add_assoc, ← Int.mul_assoc, Int.mul_comm b x, Int.mul_assoc, Int.mul_comm b (b ^ r.length)]
def sp_p_of_figures (K : PySem.W.Frag) : Sp := fun vs H Q _ => ∃ (a : Addr) (ns : List Int) (b : Int), vs = [.ref a, .int b] ∧ (SqL K H a (ns.map V.int) ∨ SqT K H a (ns.map V.int)) ∧ 2 ≤ b ∧ b ≤ 1099511627776 ∧ Q (.int (val b ns)) H
theorem use_ofF {H : Hp} {Q : VK} {E : XK} {a : Addr} {ns : List Int} {b : Int} (h : SqL K H a (ns.map V.int) ∨ SqT K H a (ns.map V.int)) (h1 : 2 ≤ b) (h2 : b ≤ 1099511627776) (k : Q (.int (val b ns)) H) : sp_p_of_figures K [.ref a, .int b] H Q E := ⟨a, ns, b, rfl, h, h1, h2, k⟩
theorem ok_p_of_figures (T : Txt K mg) : FnOk P w K mg base CX0 1 T.f_p_of_figures T.d_p_of_figures ["some", "base"] (sp_p_of_figures K) := by
  refine T.F_p_of_figures.ok sc_p_of_figures (fun vs H Q E h => ?_) (fun cdv A outer s H vs Q E hr h => ?_)
  · obtain ⟨a, ns, b, rfl, _⟩ := h
    rfl
  · obtain ⟨a, ns, b, rfl, hS, h1, h2, k⟩ := h
    refine ⟨_, (pss_cons (ps_set (i := 2) sc_p_of_figures.nd rfl (Or.inl rfl) pe_int)
      (pss_cons (ps_for PassesOwn.never rfl (rev_pi (K := K) rfl (by rfl) T.z_reversed (pv 0)) (pg_name (i := 3) sc_p_of_figures.nd rfl (Or.inl rfl))
      (pss_one (ps_set (i := 2) sc_p_of_figures.nd rfl (Or.inl rfl) (pe_op (add_k (K := K) rfl) (pe_op (mul_k (K := K) rfl) (pv 2) (pv 1)) (pv 3)))))
      (pss_one (ps_ret (pv 2))))), ?_⟩
    have hl : (ns.map V.int).length = ns.length := List.length_map _
    have step : ∀ (i : Nat) (x : V), i < (ns.map V.int).length → (ns.map V.int)[(ns.map V.int).length - 1 - i]? = some x → ∃ n, x = .int n ∧ val b (ns.drop (ns.length - (i + 1))) = n + b * val b (ns.drop (ns.length - i)) := by
      intro i x hi hx
      rw [hl] at hi hx
      rw [List.getElem?_map] at hx
      have hj : ns.length - 1 - i < ns.length := by omega
      rw [List.getElem?_eq_getElem hj] at hx
      refine ⟨ns[ns.length - 1 - i], (Option.some.inj hx).symm, ?_⟩
      have e1 : ns.length - (i + 1) = ns.length - 1 - i := by omega
      have e2 : ns.length - i = ns.length - 1 - i + 1 := by omega
      rw [e1, e2, List.drop_eq_getElem_cons hj]
      rfl
    have fin : val b (ns.drop (ns.length - (ns.map V.int).length)) = val b ns := by
      rw [hl, Nat.sub_self, List.drop_zero]
    have beg : val b (ns.drop (ns.length - 0)) = 0 := by
      rw [Nat.sub_zero, List.drop_length]
      rfl
    tm_at "rv"
    refine r_rev ?_
    tm_at "rv"
    rcases hS with hS | hS
    · refine r_revL hS ?_
      refine RT.for_Itv (K := K) (a := a) (xs := ns.map V.int) (fun i σ H' => (∃ x3, σ = [some (.ref a), some (.int b), some (.int (val b (ns.drop (ns.length - i)))), x3]) ∧ H' = H) ⟨⟨_, by rw [beg]; rfl⟩, rfl⟩ (fun i σ H' h => h.2 ▸ hS) ?_ ?_
      · rintro i x σ Hj hi hx ⟨⟨x3, rfl⟩, rfl⟩
        obtain ⟨n, rfl, e⟩ := step i x hi hx
        tm_at "rv"
        refine ⟨⟨some (.int n), ?_⟩, rfl⟩
        rw [e, Int.add_comm n, Int.mul_comm b]
        rfl
      · rintro σ Hj ⟨⟨x3, rfl⟩, rfl⟩
        tm_at "rv"
        rw [fin]
        exact k
    · refine r_revT hS ?_
      refine RT.for_ItvT (K := K) (a := a) (xs := ns.map V.int) (fun i σ H' => (∃ x3, σ = [some (.ref a), some (.int b), some (.int (val b (ns.drop (ns.length - i)))), x3]) ∧ H' = H) ⟨⟨_, by rw [beg]; rfl⟩, rfl⟩ (fun i σ H' h => h.2 ▸ hS) ?_ ?_
      · rintro i x σ Hj hi hx ⟨⟨x3, rfl⟩, rfl⟩
        obtain ⟨n, rfl, e⟩ := step i x hi hx
        tm_at "rv"
        refine ⟨⟨some (.int n), ?_⟩, rfl⟩
        rw [e, Int.add_comm n, Int.mul_comm b]
        rfl
      · rintro σ Hj ⟨⟨x3, rfl⟩, rfl⟩
        tm_at "rv"
        rw [fin]
        exact k

/-! bits of a number, written and read -/
def sp_p_bits_of : Sp := fun vs H Q _ => ∃ (n : Int) (k : Nat), vs = [.int n] ∧ 0 ≤ n ∧ n < 2 ^ k ∧ k ≤ 900000 ∧ Q (.str (SX.S (bin n.toNat))) H
theorem use_bits_of {H : Hp} {Q : VK} {E : XK} {n : Int} (k : Nat) (h0 : 0 ≤ n) (h1 : n < 2 ^ k) (hk : k ≤ 900000) (q : Q (.str (SX.S (bin n.toNat))) H) : sp_p_bits_of [.int n] H Q E := ⟨n, k, rfl, h0, h1, hk, q⟩
theorem ok_p_bits_of (T : Txt K mg) : FnOk P w K mg base CX0 1 T.f_p_bits_of T.d_p_bits_of ["number"] sp_p_bits_of := by
  refine T.F_p_bits_of.ok sc_p_bits_of (fun vs H Q E h => ?_) (fun cdv A outer s H vs Q E hr h => ?_)
  · obtain ⟨n, k, rfl, _⟩ := h
    rfl
  · obtain ⟨n, k, rfl, h0, h1, hk, q⟩ := h
    refine ⟨_, (pss_one (ps_ret (pe_joined1 (pe_bin (pv 0) (pe_joined1 pe_str))))), ?_⟩
    tm_at "rv"
    exact bin_ok h0 h1 hk q

/-! what stands out, what fits, how many -/
def sp_p_stands_out : Sp := fun vs H Q _ => ∃ (a b : Int), vs = [.int a, .int b] ∧ 0 ≤ a ∧ 0 ≤ b ∧ Q (.int ((out a.toNat b.toNat : Nat) : Int)) H
theorem use_out {H : Hp} {Q : VK} {E : XK} {a b : Int} (h0 : 0 ≤ a) (h1 : 0 ≤ b) (k : Q (.int ((out a.toNat b.toNat : Nat) : Int)) H) : sp_p_stands_out [.int a, .int b] H Q E := ⟨a, b, rfl, h0, h1, k⟩
theorem ok_p_stands_out (T : Txt K mg) : FnOk P w K mg base CX0 1 T.f_p_stands_out T.d_p_stands_out ["one", "other"] sp_p_stands_out := by
  refine T.F_p_stands_out.ok sc_p_stands_out (fun vs H Q E h => ?_) (fun cdv A outer s H vs Q E hr h => ?_)
  · obtain ⟨a, b, rfl, _⟩ := h
    rfl
  · obtain ⟨a, b, rfl, h0, h1, k⟩ := h
    refine ⟨_, (pss_one (ps_ret (pe_op op_xor (pv 0) (pe_op op_and (pv 0) (pv 1))))), ?_⟩
    tm_at "rv"
    rw [iout h0 h1]
    exact k
def sp_p_fits : Sp := fun vs H Q _ => ∃ (a b : Int), vs = [.int a, .int b] ∧ 0 ≤ a ∧ 0 ≤ b ∧ Q (.bl (decide (((out a.toNat b.toNat : Nat) : Int) = 0))) H
theorem use_fits {H : Hp} {Q : VK} {E : XK} {a b : Int} (h0 : 0 ≤ a) (h1 : 0 ≤ b) (k : Q (.bl (decide (((out a.toNat b.toNat : Nat) : Int) = 0))) H) : sp_p_fits [.int a, .int b] H Q E := ⟨a, b, rfl, h0, h1, k⟩
theorem ok_p_fits (T : Txt K mg) : FnOk P w K mg base CX0 2 T.f_p_fits T.d_p_fits ["one", "other"] sp_p_fits := by
  refine T.F_p_fits.ok sc_p_fits (fun vs H Q E h => ?_) (fun cdv A outer s H vs Q E hr h => ?_)
  · obtain ⟨a, b, rfl, _⟩ := h
    rfl
  · obtain ⟨a, b, rfl, h0, h1, k⟩ := h
    refine ⟨_, (pss_one (ps_ret (pe_cmpR (eq_k (K := K) rfl hr.units) (pe_call (ok_p_stands_out T) hr (by rfl) T.g_p_stands_out T.F_p_stands_out.kp T.b_p_stands_out .nil pass0 (pa_cons (pv 0) (pa_cons (pv 1) pa_nil))) pe_int (nomark _)))), ?_⟩
    tm_at "rv"
    refine use_out h0 h1 ?_
    tm_at "rv"
    exact k

def sp_p_how_many : Sp := fun vs H Q _ => ∃ (n : Int) (k : Nat), vs = [.int n] ∧ 0 ≤ n ∧ n < 2 ^ k ∧ k ≤ 900000 ∧ Q (.int ((pop n.toNat : Nat) : Int)) H
theorem use_many {H : Hp} {Q : VK} {E : XK} {n : Int} (k : Nat) (h0 : 0 ≤ n) (h1 : n < 2 ^ k) (hk : k ≤ 900000) (q : Q (.int ((pop n.toNat : Nat) : Int)) H) : sp_p_how_many [.int n] H Q E := ⟨n, k, rfl, h0, h1, hk, q⟩
theorem ok_p_how_many (T : Txt K mg) : FnOk P w K mg base CX0 2 T.f_p_how_many T.d_p_how_many ["number"] sp_p_how_many := by
  refine T.F_p_how_many.ok sc_p_how_many (fun vs H Q E h => ?_) (fun cdv A outer s H vs Q E hr h => ?_)
  · obtain ⟨n, k, rfl, _⟩ := h
    rfl
  · obtain ⟨n, k, rfl, h0, h1, hk, q⟩ := h
    refine ⟨_, (pss_one (ps_ret (pe_bm PySem.F.plainAttrs_str PySem.F.slot_str_count PySem.F.type_str_count mt_count (pe_call (ok_p_bits_of T) hr (by rfl) T.g_p_bits_of T.F_p_bits_of.kp T.b_p_bits_of .nil pass0 (pa_cons (pv 0) pa_nil)) (pa_cons pe_str pa_nil)))), ?_⟩
    tm_at "rv"
    refine use_bits_of k h0 h1 hk ?_
    tm_at "rv"
    refine ⟨_, _, rfl, rfl, ?_⟩
    rw [count_bin]
    exact q

def sp_truth : Sp := fun vs H Q _ => ∃ (a b : Bool), vs = [.bl a, .bl b] ∧ Q (.bl (decide (a = b))) H
theorem use_truth {H : Hp} {Q : VK} {E : XK} {a b : Bool} (k : Q (.bl (decide (a = b))) H) : sp_truth [.bl a, .bl b] H Q E := ⟨a, b, rfl, k⟩
theorem ok_truth (T : Txt K mg) : FnOk P w K mg base CX0 1 T.f_truth T.d_truth ["found", "due"] sp_truth := by
  refine T.F_truth.ok sc_truth (fun vs H Q E h => ?_) (fun cdv A outer s H vs Q E hr h => ?_)
  · obtain ⟨a, b, rfl, _⟩ := h
    rfl
  · obtain ⟨a, b, rfl, k⟩ := h
    refine ⟨_, (pss_one (ps_ret (andT_k (K := K) rfl (pe_callB (isi_k (K := K) rfl) (by rfl) T.z_isinstance (by decide +kernel) (pa_cons (pv 0) (pa_cons (pe_bltn (v := .ty "bool") (by rfl) T.z_bool (by decide +kernel) rfl) pa_nil))) (pe_one (pe_cmpR (eq_k (K := K) rfl hr.units) (pv 0) (pv 1) (nomark _)))))), ?_⟩
    tm_at "rv"
    exact k

/-- so often divided -/
def fdn (n b : Int) : Nat → Int
  | 0 => n
  | k + 1 => fdn n b k / b
/-- the first so many figures -/
def fgs (n b : Int) (m : Nat) : List Int := (List.range m).map fun j => fdn n b j % b
theorem fgs_len (n b : Int) (m : Nat) : (fgs n b m).length = m := by rw [fgs, List.length_map, List.length_range]
theorem fgs_snoc (n b : Int) (m : Nat) : fgs n b (m + 1) = fgs n b m ++ [fdn n b m % b] := by
  rw [fgs, List.range_succ, List.map_append]
  rfl
theorem fgs_in {n b : Int} {m : Nat} (h1 : 2 ≤ b) {x : Int} (h : x ∈ fgs n b m) : 0 ≤ x ∧ x < b := by
  obtain ⟨j, _, rfl⟩ := List.mem_map.mp h
  exact ⟨Int.emod_nonneg _ (by omega), Int.emod_lt_of_pos _ (by omega)⟩
/-- the figures and what is left come to the number -/
theorem fgs_val (n b : Int) : ∀ m : Nat, val b (fgs n b m) + fdn n b m * b ^ m = n
  | 0 => by
    show val b [] + n * b ^ 0 = n
    rw [Int.pow_zero]
    show 0 + n * 1 = n
    omega
  | m + 1 => by
    have ih := fgs_val n b m
    rw [fgs_snoc, val_snoc, fgs_len, Int.pow_succ]
    have e := Int.emod_add_mul_ediv (fdn n b m) b
    have e2 : fdn n b (m + 1) = fdn n b m / b := rfl
    rw [e2]
    generalize fdn n b m = f at *
    have e3 : f / b * (b ^ m * b) = b * (f / b) * b ^ m := by
      rw [Int.mul_comm (b ^ m) b, ← Int.mul_assoc, Int.mul_comm (f / b) b]
    rw [e3, Int.add_assoc, ← Int.add_mul, e]
    exact ih
/-- divided so often that nothing is left -/
theorem fdn_zero {n b : Int} {i : Nat} (h : fdn n b i = 0) : ∀ j, i ≤ j → fdn n b j = 0 := by
  intro j hj
  induction j with
  | zero =>
    have : i = 0 := by omega
    rw [this] at h
    exact h
  | succ j ih =>
    by_cases e : i = j + 1
    · rw [← e]; exact h
    · show fdn n b j / b = 0
      rw [ih (by omega)]
      exact Int.zero_ediv b
theorem fgs_all {n b : Int} {i m : Nat} (h : fdn n b i = 0) (hm : i ≤ m) : val b (fgs n b m) = n := by
  have e := fgs_val n b m
  rw [fdn_zero h m hm, Int.zero_mul, Int.add_zero] at e
  exact e
theorem fdn_nn {n b : Int} (h0 : 0 ≤ n) (h1 : 2 ≤ b) : ∀ j, 0 ≤ fdn n b j
  | 0 => h0
  | j + 1 => Int.ediv_nonneg (fdn_nn h0 h1 j) (by omega)
def sp_fgs : Sp := fun vs H Q _ => ∃ (n b m : Int), vs = [.int n, .int b, .int m] ∧ 2 ≤ b ∧ b ≤ 1099511627776 ∧ 0 ≤ m ∧ m ≤ 300 ∧ ∀ l H', Sm H H' → H l = none → H' l = some (.lst ((fgs n b m.toNat).map V.int)) → Q (.ref l) H'
theorem use_fgs {H : Hp} {Q : VK} {E : XK} {n b m : Int} (h1 : 2 ≤ b) (h2 : b ≤ 1099511627776) (h3 : 0 ≤ m) (h4 : m ≤ 300) (k : ∀ l H', Sm H H' → H l = none → H' l = some (.lst ((fgs n b m.toNat).map V.int)) → Q (.ref l) H') : sp_fgs [.int n, .int b, .int m] H Q E := ⟨n, b, m, rfl, h1, h2, h3, h4, k⟩
theorem cdivP {i j : Int} (h : CDivW i j) : CDivP i j := ⟨h.1, PyProof.noPylong_of_log2 h.2⟩
theorem r_dm {H : Hp} {Q : VK} {i j : Int} (h : CDivP i j) (k : ∀ p, H p = none → Q (.ref p) (upd H p (.tup [.int (i / j), .int (i % j)]))) : ∃ i' j', [V.int i, V.int j] = [.int i', .int j'] ∧ CDivP i' j' ∧ ∀ p, H p = none → Q (.ref p) (upd H p (.tup [.int (i' / j'), .int (i' % j')])) := ⟨i, j, rfl, h, k⟩
theorem ok_p_figures (T : Txt K mg) : FnOk P w K mg base CX0 1 T.f_p_figures T.d_p_figures ["number", "base", "many"] sp_fgs := by
  refine T.F_p_figures.ok sc_p_figures (fun vs H Q E h => ?_) (fun cdv A outer s H vs Q E hr h => ?_)
  · obtain ⟨n, b, k, rfl, _⟩ := h
    rfl
  · obtain ⟨n, b, m, rfl, h1, h2, h3, h4, k⟩ := h
    refine ⟨_, (pss_cons (ps_set (i := 3) sc_p_figures.nd rfl (Or.inl rfl) (pe_lst pa_nil))
      (pss_cons (ps_set (i := 4) sc_p_figures.nd rfl (Or.inl rfl) (pv 0))
      (pss_cons (ps_for PassesOwn.never rfl (pi_range1 (by rfl) T.z_range (pa_cons (pv 2) pa_nil)) (pg_name (i := 5) sc_p_figures.nd rfl (Or.inl rfl))
      (pss_cons (ps_asg (pe_callB call_divmodW (by rfl) T.z_divmod (by decide +kernel) (pa_cons (pv 4) (pa_cons (pv 1) pa_nil))) (pg_tup rfl (pgs_cons (pg_name (i := 4) sc_p_figures.nd rfl (Or.inl rfl)) (pgs_cons (pg_name (i := 6) sc_p_figures.nd rfl (Or.inl rfl)) pgs_nil))))
      (pss_one (ps_expr (pe_bm PySem.F.plainAttrs_list PySem.F.slot_list_append PySem.F.type_list_append mt_append (pv 3) (pa_cons (pv 6) pa_nil))))))
      (pss_one (ps_ret (pv 3)))))), ?_⟩
    tm_at "rv"
    rename_i D nD
    refine for_range (lo := 0) (n := m.toNat) (fun j σ H' => (∃ x5 x6, σ = [some (.int n), some (.int b), some (.int m), some (.ref D), some (.int (fdn n b j)), x5, x6]) ∧ H' D = some (.lst ((fgs n b j).map V.int)) ∧ Sm H H') ⟨⟨_, _, rfl⟩, upd_same, sm_upd nD⟩ ?_ ?_
    · rintro j σ Hj hj ⟨⟨x5, x6, rfl⟩, hD, sj⟩
      tm_at "rv"
      refine ⟨fdn n b j, b, rfl, cdivP (cdiv_s (by omega) (by omega)), fun p np => ?_⟩
      tm_at "rv"
      have hD2 : upd Hj p (.tup [.int (fdn n b j / b), .int (fdn n b j % b)]) D = some (.lst ((fgs n b j).map V.int)) := by tm_at "mv"
      refine r_app hD2 (small1000 (by rw [List.length_map, fgs_len]; omega)) ?_
      tm_at "rv"
      refine ⟨⟨_, _, rfl⟩, ?_, ?_⟩
      · rw [upd_same, fgs_snoc, List.map_append]
        rfl
      · exact sm_acc (sj.trans (sm_upd np)) nD
    · rintro σ Hj ⟨⟨x5, x6, rfl⟩, hD, sj⟩
      tm_at "rv"
      exact k D Hj sj nD hD

def sp_fig : Sp := fun vs H Q _ => ∃ (n b k : Int), vs = [.int n, .int b, .int k] ∧ 2 ≤ b ∧ b ≤ 1099511627776 ∧ 0 ≤ k ∧ k ≤ 300 ∧ Q (.int (fdn n b k.toNat % b)) H
theorem use_fig {H : Hp} {Q : VK} {E : XK} {n b i : Int} (h1 : 2 ≤ b) (h2 : b ≤ 1099511627776) (h3 : 0 ≤ i) (h4 : i ≤ 300) (k : Q (.int (fdn n b i.toNat % b)) H) : sp_fig [.int n, .int b, .int i] H Q E := ⟨n, b, i, rfl, h1, h2, h3, h4, k⟩
theorem ok_p_figure (T : Txt K mg) : FnOk P w K mg base CX0 1 T.f_p_figure T.d_p_figure ["number", "base", "k"] sp_fig := by
  refine T.F_p_figure.ok sc_p_figure (fun vs H Q E h => ?_) (fun cdv A outer s H vs Q E hr h => ?_)
  · obtain ⟨n, b, k, rfl, _⟩ := h
    rfl
  · obtain ⟨n, b, i, rfl, h1, h2, h3, h4, k⟩ := h
    refine ⟨_, (pss_cons (ps_set (i := 3) sc_p_figure.nd rfl (Or.inl rfl) (pv 0))
      (pss_cons (ps_for PassesOwn.never rfl (pi_range1 (by rfl) T.z_range (pa_cons (pv 2) pa_nil)) (pg_name (i := 4) sc_p_figure.nd rfl (Or.inl rfl))
      (pss_cons (ps_if (pt_cmpR (eq_k (K := K) rfl hr.units) (pv 3) pe_int (nomark _))
      (pss_one (ps_ret pe_int)) pss_nil)
      (pss_one (ps_set (i := 3) sc_p_figure.nd rfl (Or.inl rfl) (pe_op op_fdivW (pv 3) (pv 1))))))
      (pss_one (ps_ret (pe_op op_mod (pv 3) (pv 1)))))), ?_⟩
    tm_at "rv"
    refine for_range (lo := 0) (n := i.toNat) (fun j σ H' => (∃ x4, σ = [some (.int n), some (.int b), some (.int i), some (.int (fdn n b j)), x4]) ∧ H' = H) ⟨⟨_, rfl⟩, rfl⟩ ?_ ?_
    · rintro j σ Hj hj ⟨⟨x4, rfl⟩, rfl⟩
      tm_at "rv"
      refine ite_d (fun e1 => ?_) (fun e1 => ?_)
      · have e2 := fdn_zero e1 i.toNat (by omega)
        rw [e2, Int.zero_emod] at k
        tm_at "rv"
        exact k
      · tm_at "rv"
        exact ⟨⟨_, rfl⟩, rfl⟩
    · rintro σ Hj ⟨⟨x4, rfl⟩, rfl⟩
      tm_at "rv"
      exact k

def sp_p_ones : Sp := fun vs H Q _ => ∃ (b m : Int), vs = [.int b, .int m] ∧ 2 ≤ b ∧ b ≤ 1099511627776 ∧ 0 ≤ m ∧ m ≤ 301 ∧ ∀ H', Sm H H' → Q (.int (val b (List.replicate m.toNat 1))) H'
theorem use_ones {H : Hp} {Q : VK} {E : XK} {b m : Int} (h1 : 2 ≤ b) (h2 : b ≤ 1099511627776) (h3 : 0 ≤ m) (h4 : m ≤ 301) (k : ∀ H', Sm H H' → Q (.int (val b (List.replicate m.toNat 1))) H') : sp_p_ones [.int b, .int m] H Q E := ⟨b, m, rfl, h1, h2, h3, h4, k⟩
theorem ok_p_ones (T : Txt K mg) : FnOk P w K mg base CX0 2 T.f_p_ones T.d_p_ones ["base", "many"] sp_p_ones := by
  refine T.F_p_ones.ok sc_p_ones (fun vs H Q E h => ?_) (fun cdv A outer s H vs Q E hr h => ?_)
  · obtain ⟨b, m, rfl, _⟩ := h
    rfl
  · obtain ⟨b, m, rfl, h1, h2, h3, h4, k⟩ := h
    refine ⟨_, (pss_one (ps_ret (pe_call (ok_p_of_figures T) hr (by rfl) T.g_p_of_figures T.F_p_of_figures.kp T.b_p_of_figures .nil pass0 (pa_cons (pe_op (mul_k (K := K) rfl) (pe_lst (pa_cons pe_int pa_nil)) (pv 1)) (pa_cons (pv 0) pa_nil))))), ?_⟩
    tm_at "rv"
    refine r_repI (x := 1) (by tm_at "mv") h3 (by omega) fun p1 H5 s5 n5 e5 => ?_
    tm_at "rv"
    refine use_ofF (.inl (SqL.of e5)) h1 h2 ?_
    tm_at "rv"
    exact k _ (by tm_at "sm")

/-! figures of a base, a power of two -/
def InB (b : Int) (l : List Int) : Prop := ∀ x ∈ l, 0 ≤ x ∧ x < b
theorem InB.tl {b x : Int} {l : List Int} (h : InB b (x :: l)) : InB b l := fun y hy => h y (List.mem_cons_of_mem _ hy)
theorem InB.hd {b x : Int} {l : List Int} (h : InB b (x :: l)) : 0 ≤ x ∧ x < b := h x List.mem_cons_self
theorem val_nn {b : Int} (hb : 0 ≤ b) : ∀ {l : List Int}, InB b l → 0 ≤ val b l
  | [], _ => Int.le_refl 0
  | x :: l, h => by
    have i := val_nn hb h.tl
    have j := Int.mul_nonneg hb i
    have := h.hd
    show 0 ≤ x + b * val b l
    omega
theorem fdn_next (n b : Int) (j : Nat) : fdn n b (j + 1) = fdn n b j / b := rfl
theorem fdn_val {b : Int} (hb : 0 < b) {l : List Int} (h : InB b l) : ∀ j : Nat, fdn (val b l) b j = val b (l.drop j)
  | 0 => rfl
  | j + 1 => by
    rw [fdn_next, fdn_val hb h j]
    by_cases e : j < l.length
    · rw [List.drop_eq_getElem_cons e]
      have hx := h l[j] (List.getElem_mem e)
      show (l[j] + b * val b (l.drop (j + 1))) / b = _
      rw [Int.add_mul_ediv_left _ _ (by omega), Int.ediv_eq_zero_of_lt hx.1 hx.2, Int.zero_add]
    · rw [List.drop_eq_nil_of_le (by omega), List.drop_eq_nil_of_le (by omega)]
      exact Int.zero_ediv b
theorem fig_val {b : Int} (hb : 0 < b) {l : List Int} (h : InB b l) {j : Nat} (e : j < l.length) : fdn (val b l) b j % b = l[j] := by
  rw [fdn_val hb h j, List.drop_eq_getElem_cons e]
  have hx := h l[j] (List.getElem_mem e)
  show (l[j] + b * val b (l.drop (j + 1))) % b = _
  rw [Int.add_mul_emod_self_left, Int.emod_eq_of_lt hx.1 hx.2]
theorem fgs_of_val {b : Int} (hb : 0 < b) {l : List Int} (h : InB b l) : fgs (val b l) b l.length = l := by
  refine List.ext_getElem (fgs_len _ _ _) fun j h1 h2 => ?_
  have e : (fgs (val b l) b l.length)[j]'h1 = fdn (val b l) b j % b := by simp [fgs]
  rw [e]
  exact fig_val hb h h2
theorem val_times (b : Int) (l : List Int) : val b l * b = val b (0 :: l) := by
  show _ = 0 + b * val b l
  rw [Int.mul_comm, Int.zero_add]
theorem val_ones (b p : Int) : ∀ m : Nat, val b (List.replicate m 1) * p = val b (List.replicate m p)
  | 0 => Int.zero_mul p
  | m + 1 => by
    rw [List.replicate_succ, List.replicate_succ]
    show (1 + b * val b (List.replicate m 1)) * p = p + b * val b (List.replicate m p)
    rw [← val_ones b p m, Int.add_mul, Int.one_mul, Int.mul_assoc]
theorem val_zero {b : Int} (hb : 0 < b) : ∀ {l : List Int}, InB b l → (val b l = 0 ↔ l = List.replicate l.length 0)
  | [], _ => ⟨fun _ => rfl, fun _ => rfl⟩
  | x :: l, h => by
    have i := val_zero hb h.tl
    have n := val_nn (Int.le_of_lt hb) h.tl
    have hx := h.hd
    show x + b * val b l = 0 ↔ x :: l = 0 :: List.replicate l.length 0
    constructor
    · intro z
      have m := Int.mul_nonneg (Int.le_of_lt hb) n
      have m0 : b * val b l = 0 := by omega
      have v0 : val b l = 0 := (Int.mul_eq_zero.mp m0).resolve_left (by omega)
      rw [← i.mp v0, show x = 0 by omega]
    · intro z
      have z1 := (List.cons.inj z).1
      rw [i.mpr (List.cons.inj z).2, z1]
      simp
theorem val_lt {b : Int} {w : Nat} (hb : b = ((2 ^ w : Nat) : Int)) : ∀ {l : List Int}, InB b l → val b l < ((2 ^ (w * l.length) : Nat) : Int)
  | [], _ => by show (0 : Int) < _; rw [List.length_nil, Nat.mul_zero]; decide
  | x :: l, h => by
    have i := val_lt hb h.tl
    have hx := h.hd
    have hp : 0 < b := by have := Nat.two_pow_pos w; omega
    have m := Int.mul_le_mul_of_nonneg_left (show val b l + 1 ≤ ((2 ^ (w * l.length) : Nat) : Int) by omega) (Int.le_of_lt hp)
    have e : ((2 ^ (w * (x :: l).length) : Nat) : Int) = b * ((2 ^ (w * l.length) : Nat) : Int) := by
      rw [List.length_cons, Nat.mul_succ, Nat.pow_add, Int.natCast_mul, hb, Int.mul_comm]
    rw [e]
    rw [Int.mul_add, Int.mul_one] at m
    show x + b * val b l < _
    omega
/-- what stands out, figure by figure -/
def lones : List Int → List Int → List Int
  | x :: xs, y :: ys => (x - Builtin.bitAnd x y) :: lones xs ys
  | _, _ => []
theorem lones_len : ∀ {xs ys : List Int}, xs.length = ys.length → (lones xs ys).length = xs.length
  | [], [], _ => rfl
  | x :: xs, y :: ys, h => by
    have i := lones_len (xs := xs) (ys := ys) (by simpa using h)
    show (lones xs ys).length + 1 = xs.length + 1
    omega
  | [], _ :: _, h => absurd h (by simp)
  | _ :: _, [], h => absurd h (by simp)
theorem out_int {x y : Int} (hx : 0 ≤ x) (hy : 0 ≤ y) : x - Builtin.bitAnd x y = ((out x.toNat y.toNat : Nat) : Int) := by
  rw [iand hx hy]
  have hl : x.toNat &&& y.toNat ≤ x.toNat := Nat.and_le_left
  unfold out
  omega
theorem lones_in {b : Int} : ∀ {xs ys : List Int}, InB b xs → InB b ys → InB b (lones xs ys)
  | [], [], _, _ => fun x hx => absurd hx (by intro z; cases z)
  | x :: xs, y :: ys, h1, h2 => by
    have i := lones_in h1.tl h2.tl
    intro z hz
    rcases List.mem_cons.mp hz with rfl | hz
    · have hx := h1.hd
      have hy := h2.hd
      have := iand_le hx.1 hy.1
      omega
    · exact i z hz
  | [], _ :: _, _, _ => fun x hx => absurd hx (by intro z; cases z)
  | _ :: _, [], _, _ => fun x hx => absurd hx (by intro z; cases z)
theorem lones_snoc : ∀ {xs ys : List Int} (x y : Int), xs.length = ys.length → lones (xs ++ [x]) (ys ++ [y]) = lones xs ys ++ [x - Builtin.bitAnd x y]
  | [], [], x, y, _ => rfl
  | a :: xs, c :: ys, x, y, h => by
    show (a - Builtin.bitAnd a c) :: lones (xs ++ [x]) (ys ++ [y]) = _
    rw [lones_snoc x y (by simpa using h)]
    rfl
  | [], _ :: _, _, _, h => absurd h (by simp)
  | _ :: _, [], _, _, h => absurd h (by simp)
theorem nat_val {b x v : Int} {w : Nat} (hb : b = ((2 ^ w : Nat) : Int)) (hx : 0 ≤ x) (hv : 0 ≤ v) : (x + b * v).toNat = x.toNat + 2 ^ w * v.toNat := by
  have e : x + b * v = ((x.toNat + 2 ^ w * v.toNat : Nat) : Int) := by
    rw [Int.natCast_add, Int.natCast_mul, ← hb, Int.toNat_of_nonneg hx, Int.toNat_of_nonneg hv]
  rw [e, Int.toNat_natCast]
theorem out_val {b : Int} {w : Nat} (hb : b = ((2 ^ w : Nat) : Int)) : ∀ {xs ys : List Int}, xs.length = ys.length → InB b xs → InB b ys → ((out (val b xs).toNat (val b ys).toNat : Nat) : Int) = val b (lones xs ys)
  | [], [], _, _, _ => by
    show ((out (0 : Int).toNat (0 : Int).toNat : Nat) : Int) = 0
    decide
  | x :: xs, y :: ys, h, h1, h2 => by
    have hp : 0 ≤ b := by rw [hb]; exact Int.natCast_nonneg _
    have i := out_val hb (xs := xs) (ys := ys) (by simpa using h) h1.tl h2.tl
    have hx := h1.hd
    have hy := h2.hd
    have n1 := val_nn hp h1.tl
    have n2 := val_nn hp h2.tl
    show ((out (x + b * val b xs).toNat (y + b * val b ys).toNat : Nat) : Int) = (x - Builtin.bitAnd x y) + b * val b (lones xs ys)
    rw [← i, out_int hx.1 hy.1, nat_val hb hx.1 n1, nat_val hb hy.1 n2]
    have e := and_fig w x.toNat y.toNat (val b xs).toNat (val b ys).toNat (by omega) (by omega)
    generalize (val b xs).toNat = r at *
    generalize (val b ys).toNat = s at *
    unfold out
    rw [e]
    have l1 : x.toNat &&& y.toNat ≤ x.toNat := Nat.and_le_left
    have l2 : r &&& s ≤ r := Nat.and_le_left
    have m : 2 ^ w * (r &&& s) ≤ 2 ^ w * r := Nat.mul_le_mul_left _ l2
    have m2 : 2 ^ w * (r - (r &&& s)) = 2 ^ w * r - 2 ^ w * (r &&& s) := Nat.mul_sub _ _ _
    rw [hb, ← Int.natCast_mul, m2]
    omega
  | [], _ :: _, h, _, _ => absurd h (by simp)
  | _ :: _, [], h, _, _ => absurd h (by simp)
theorem pop_fig : ∀ (w x r : Nat), x < 2 ^ w → pop (x + 2 ^ w * r) = pop x + pop r
  | 0, x, r, h => by
    rw [Nat.pow_zero] at h
    rw [show x = 0 by omega, Nat.pow_zero, Nat.one_mul, Nat.zero_add, pop_zero, Nat.zero_add]
  | w + 1, x, r, h => by
    have i := pop_fig w (x / 2) r (by rw [Nat.pow_succ] at h; omega)
    have e : 2 ^ (w + 1) * r = 2 * (2 ^ w * r) := by rw [Nat.pow_succ, Nat.mul_comm (2 ^ w) 2, Nat.mul_assoc]
    rw [e, pop_eq (x + 2 * (2 ^ w * r)), pop_eq x, show (x + 2 * (2 ^ w * r)) % 2 = x % 2 by omega, show (x + 2 * (2 ^ w * r)) / 2 = x / 2 + 2 ^ w * r by omega, i]
    omega
theorem pop_val {b : Int} {w : Nat} (hb : b = ((2 ^ w : Nat) : Int)) : ∀ {xs : List Int}, InB b xs → ((pop (val b xs).toNat : Nat) : Int) = (xs.map fun x => ((pop x.toNat : Nat) : Int)).sum
  | [], _ => by
    show ((pop (0 : Int).toNat : Nat) : Int) = 0
    rw [show (0 : Int).toNat = 0 from rfl, pop_zero]
    rfl
  | x :: xs, h => by
    have hp : 0 ≤ b := by rw [hb]; exact Int.natCast_nonneg _
    have i := pop_val hb h.tl
    have hx := h.hd
    have n1 := val_nn hp h.tl
    show ((pop (x + b * val b xs).toNat : Nat) : Int) = _
    rw [nat_val hb hx.1 n1, pop_fig w _ _ (by omega), List.map_cons, List.sum_cons, ← i]
    omega

/-! bits of a number, counted here -/
def sp_bits : Sp := fun vs H Q _ => ∃ (n : Int), vs = [.int n] ∧ 0 ≤ n ∧ Q (.int ((pop n.toNat : Nat) : Int)) H
theorem use_bits {H : Hp} {Q : VK} {E : XK} {n : Int} (h0 : 0 ≤ n) (k : Q (.int ((pop n.toNat : Nat) : Int)) H) : sp_bits [.int n] H Q E := ⟨n, rfl, h0, k⟩
theorem ok_bits (T : Txt K mg) : FnOk P w K mg base CX0 1 T.f_bits T.d_bits ["number"] sp_bits := by
  refine T.F_bits.ok sc_bits (fun vs H Q E h => ?_) (fun cdv A outer s H vs Q E hr h => ?_)
  · obtain ⟨n, rfl, _⟩ := h
    rfl
  · obtain ⟨n, rfl, h0, k⟩ := h
    refine ⟨_, (pss_cons (ps_set (i := 1) sc_bits.nd rfl (Or.inl rfl) pe_int)
      (pss_cons (ps_while PassesOwn.never (pt_cmpR op_gt (pv 0) pe_int (nomark _))
      (pss_one (ps_par (i := 1) (j := 0) rfl sc_bits.nd rfl rfl (by decide) rfl rfl (pa_cons (pe_op (add_k (K := K) rfl) (pv 1) (pe_op op_mod (pv 0) pe_int)) (pa_cons (pe_op op_fdivW (pv 0) pe_int) pa_nil)) (by rfl))))
      (pss_one (ps_ret (pv 1))))), ?_⟩
    tm_at "rv"
    refine while_by (fun σ H' => (∃ (m f : Int), σ = [some (.int m), some (.int f)] ∧ 0 ≤ m ∧ f + ((pop m.toNat : Nat) : Int) = ((pop n.toNat : Nat) : Int)) ∧ H' = H) (fun σ _ => match (σ : List (Option V))[0]? with | some (some (V.int l)) => l.toNat | _ => 0) ⟨⟨n, 0, rfl, h0, by omega⟩, rfl⟩ ?_ ?_
    · rintro σ Hj ⟨⟨m, f, rfl, hm, hv⟩, rfl⟩
      tm_at "rv"
      refine ite_d (fun e1 => ?_) (fun e1 => ?_)
      · tm_at "rv"
        have p := pop_eq m.toNat
        refine ⟨⟨⟨m / 2, f + m % 2, rfl, by omega, ?_⟩, rfl⟩, ?_⟩
        · rw [show (m / 2).toNat = m.toNat / 2 by omega]
          omega
        · show (m / 2).toNat < m.toNat
          omega
      · tm_at "rv"
        rw [show m.toNat = 0 by omega, pop_zero] at hv
        rw [show f = ((pop n.toNat : Nat) : Int) by omega]
        exact k
    · rintro σ H Q Q' hq ⟨v, e, i, j, a1, a2, k, z, q⟩
      exact ⟨v, e, i, j, a1, a2, k, z, hq _ _ q⟩
/-! all of it, asked -/
theorem zeros_int (n : Nat) : (List.replicate n [V.int 0]).flatten = (List.replicate n (0 : Int)).map V.int := rep_ints n 0
def sp_right (K : PySem.W.Frag) : Sp := fun vs H Q _ => ∃ (l1 l2 : Addr) (xs ys : List Int) (b p : Int) (w : Nat), vs = [.ref l1, .ref l2, .int b, .int p] ∧ H l1 = some (.lst (xs.map V.int)) ∧ H l2 = some (.lst (ys.map V.int)) ∧ xs.length = ys.length ∧ xs.length ≤ 40 ∧ b = ((2 ^ w : Nat) : Int) ∧ 1 ≤ w ∧ w ≤ 21 ∧ InB b xs ∧ InB b ys ∧ 0 ≤ p ∧ p < b ∧ ∀ H', Sm H H' → Q (.bl true) H'
theorem use_right {H : Hp} {Q : VK} {E : XK} {l1 l2 : Addr} {xs ys : List Int} {b p : Int} {w : Nat} (h1 : H l1 = some (.lst (xs.map V.int))) (h2 : H l2 = some (.lst (ys.map V.int))) (h3 : xs.length = ys.length) (h4 : xs.length ≤ 40) (h5 : b = ((2 ^ w : Nat) : Int)) (h6 : 1 ≤ w) (h7 : w ≤ 21) (h8 : InB b xs) (h9 : InB b ys) (h10 : 0 ≤ p) (h11 : p < b) (k : ∀ H', Sm H H' → Q (.bl true) H') : sp_right K [.ref l1, .ref l2, .int b, .int p] H Q E := ⟨l1, l2, xs, ys, b, p, w, rfl, h1, h2, h3, h4, h5, h6, h7, h8, h9, h10, h11, k⟩
theorem ok_right (T : Txt K mg) : FnOk P w K mg base CX0 3 T.f_right T.d_right ["one", "other", "base", "pick"] (sp_right K) := by
  refine T.F_right.ok sc_right (fun vs H Q E h => ?_) (fun cdv A outer s H vs Q E hr h => ?_)
  · obtain ⟨l1, l2, xs, ys, b, p, w, rfl, _⟩ := h
    rfl
  · obtain ⟨l1, l2, xs, ys, b, p, w, rfl, e1, e2, hl, h40, hb, hw1, hw2, i1, i2, hp0, hp1, k⟩ := h
    refine ⟨_, (pss_cons (ps_asg (pe_tup (pa_cons (pe_call (ok_p_of_figures T) (hr.mono (by decide)) (by rfl) T.g_p_of_figures T.F_p_of_figures.kp T.b_p_of_figures .nil pass0 (pa_cons (pv 0) (pa_cons (pv 2) pa_nil))) (pa_cons (pe_call (ok_p_of_figures T) (hr.mono (by decide)) (by rfl) T.g_p_of_figures T.F_p_of_figures.kp T.b_p_of_figures .nil pass0 (pa_cons (pv 1) (pa_cons (pv 2) pa_nil))) (pa_cons (pe_callB (len_k (K := K) rfl) (by rfl) T.z_len (by decide +kernel) (pa_cons (pv 0) pa_nil)) pa_nil)))) (pg_tup rfl (pgs_cons (pg_name (i := 4) sc_right.nd rfl (Or.inl rfl)) (pgs_cons (pg_name (i := 5) sc_right.nd rfl (Or.inr rfl)) (pgs_cons (pg_name (i := 6) sc_right.nd rfl (Or.inl rfl)) pgs_nil)))))
      (pss_cons (ps_setLc (i := 9) (own := [("own", 7), ("there", 8)]) rfl sc_right.nd rfl rfl (sw_true rfl rfl rfl (by decide +kernel)) (zip_k (K := K) rfl (by rfl) T.z_zip (pa_cons (pv 0) (pa_cons (pv 1) pa_nil))) (blkOk_by (N := ["one", "other", "base", "pick", "mine", "theirs", "many", "own", "there", "lone", "t"]) (sc := defScope s_right) (own := [("own", 7), ("there", 8)]) (by decide +kernel)) (fun _ _ _ _ _ => (pgT_k (n := 2) (K := K) rfl rfl (pgs_cons (pg_name (i := 7) sc_right.nd rfl (Or.inl rfl)) (pgs_cons (pg_name (i := 8) sc_right.nd rfl (Or.inl rfl)) pgs_nil)))) (fun _ _ _ _ _ => pts_nil) (fun _ _ _ _ _ => (pe_op op_sub (pv 7) (pe_op op_and (pv 7) (pv 8)))))
      (pss_cons (ps_if (PW.pt (pw_or (pt_not (pt_truth (pe_call (ok_truth T) (hr.mono (by decide)) (by rfl) T.g_truth T.F_truth.kp T.b_truth .nil pass0 (pa_cons (pe_call (ok_p_fits T) hr (by rfl) T.g_p_fits T.F_p_fits.kp T.b_p_fits .nil pass0 (pa_cons (pv 4) (pa_cons (pv 5) pa_nil))) (pa_cons (pe_cmpR (eq_k (K := K) rfl hr.units) (pv 9) (pe_op (mul_k (K := K) rfl) (pe_lst (pa_cons pe_int pa_nil)) (pv 6)) (nomark _)) pa_nil))) (by intro _; rfl))) (pw_or1 (pt_cmpR (ne_k (K := K) rfl hr.units) (pe_call (ok_p_stands_out T) (hr.mono (by decide)) (by rfl) T.g_p_stands_out T.F_p_stands_out.kp T.b_p_stands_out .nil pass0 (pa_cons (pv 4) (pa_cons (pv 5) pa_nil))) (pe_call (ok_p_of_figures T) (hr.mono (by decide)) (by rfl) T.g_p_of_figures T.F_p_of_figures.kp T.b_p_of_figures .nil pass0 (pa_cons (pv 9) (pa_cons (pv 2) pa_nil))) (nomark _)))))
      (pss_one (ps_ret pe_bl)) pss_nil)
      (pss_cons (ps_if (pt_cmpR (ne_k (K := K) rfl hr.units) (pe_call (ok_p_how_many T) hr (by rfl) T.g_p_how_many T.F_p_how_many.kp T.b_p_how_many .nil pass0 (pa_cons (pv 4) pa_nil)) (pe_callB (sum_k (K := K) rfl rfl) (by rfl) T.z_sum (by decide +kernel) (pa_cons (pe_lc (own := [("own", 7)]) rfl sc_right.nd (any_pi (K := K) rfl (pv 0)) (blkOk_by (N := ["one", "other", "base", "pick", "mine", "theirs", "many", "own", "there", "lone", "t"]) (sc := defScope s_right) (own := [("own", 7)]) (by decide +kernel)) (fun _ _ _ _ _ => (pg_name (i := 7) sc_right.nd rfl (Or.inl rfl))) (fun _ _ _ _ _ => pts_nil) (fun _ _ _ _ _ => (pe_call (ok_bits T) (hr.mono (by decide)) (by rfl) T.g_bits T.F_bits.kp T.b_bits .nil pass0 (pa_cons (pv 7) pa_nil)))) pa_nil)) (nomark _))
      (pss_one (ps_ret pe_bl)) pss_nil)
      (pss_cons (ps_if (PW.pt (pw_or (pt_cmpR (ne_k (K := K) rfl hr.units) (pe_call (ok_p_figures T) (hr.mono (by decide)) (by rfl) T.g_p_figures T.F_p_figures.kp T.b_p_figures .nil pass0 (pa_cons (pv 4) (pa_cons (pv 2) (pa_cons (pv 6) pa_nil)))) (pv 0) (nomark _)) (pw_or1 (pt_cmpR (ne_k (K := K) rfl hr.units) (pe_lc (own := [("t", 10)]) rfl sc_right.nd (pi_range1 (by rfl) T.z_range (pa_cons (pv 6) pa_nil)) (blkOk_by (N := ["one", "other", "base", "pick", "mine", "theirs", "many", "own", "there", "lone", "t"]) (sc := defScope s_right) (own := [("t", 10)]) (by decide +kernel)) (fun _ _ _ _ _ => (pg_name (i := 10) sc_right.nd rfl (Or.inl rfl))) (fun _ _ _ _ _ => pts_nil) (fun _ _ _ _ _ => (pe_call (ok_p_figure T) (hr.mono (by decide)) (by rfl) T.g_p_figure T.F_p_figure.kp T.b_p_figure .nil pass0 (pa_cons (pv 5) (pa_cons (pv 2) (pa_cons (pv 10) pa_nil)))))) (pv 1) (nomark _)))))
      (pss_one (ps_ret pe_bl)) pss_nil)
      (pss_cons (ps_if (PW.pt (pw_or (pt_cmpR (ne_k (K := K) rfl hr.units) (pe_call (ok_p_figures T) (hr.mono (by decide)) (by rfl) T.g_p_figures T.F_p_figures.kp T.b_p_figures .nil pass0 (pa_cons (pe_op (mul_k (K := K) rfl) (pv 4) (pv 2)) (pa_cons (pv 2) (pa_cons (pe_op (add_k (K := K) rfl) (pv 6) pe_int) pa_nil)))) (pe_op (add_k (K := K) rfl) (pe_lst (pa_cons pe_int pa_nil)) (pv 0)) (nomark _)) (pw_or1 (pt_cmpR (ne_k (K := K) rfl hr.units) (pe_call (ok_p_figure T) (hr.mono (by decide)) (by rfl) T.g_p_figure T.F_p_figure.kp T.b_p_figure .nil pass0 (pa_cons (pv 4) (pa_cons (pv 2) (pa_cons (pv 6) pa_nil)))) pe_int (nomark _)))))
      (pss_one (ps_ret pe_bl)) pss_nil)
      (pss_one (ps_ret (pe_cmpR (eq_k (K := K) rfl hr.units) (pe_call (ok_p_figures T) (hr.mono (by decide)) (by rfl) T.g_p_figures T.F_p_figures.kp T.b_p_figures .nil pass0 (pa_cons (pe_op (mul_k (K := K) rfl) (pe_call (ok_p_ones T) hr (by rfl) T.g_p_ones T.F_p_ones.kp T.b_p_ones .nil pass0 (pa_cons (pv 2) (pa_cons (pv 6) pa_nil))) (pv 3)) (pa_cons (pv 2) (pa_cons (pv 6) pa_nil)))) (pe_op (mul_k (K := K) rfl) (pe_lst (pa_cons (pv 3) pa_nil)) (pv 6)) (nomark _)))))))))), ?_⟩
    have b0 : 2 ≤ b ∧ b ≤ 2097152 := by
      have a1 : 2 ^ 1 ≤ 2 ^ w := Nat.pow_le_pow_right (by decide) hw1
      have a2 : 2 ^ w ≤ 2 ^ 21 := Nat.pow_le_pow_right (by decide) hw2
      rw [hb]
      omega
    have hB2 : b ≤ 1099511627776 := by omega
    have hbp : 0 < b := by omega
    have hbn : 0 ≤ b := by omega
    have nx := val_nn hbn i1
    have ny := val_nn hbn i2
    have iL := lones_in i1 i2
    have lL := lones_len hl
    have hout := out_val hb hl i1 i2
    have hz : decide (val b (lones xs ys) = 0) = decide (lones xs ys = List.replicate xs.length 0) := by
      have := val_zero hbp iL
      rw [lL] at this
      exact decide_eq_decide.mpr this
    have hpop := pop_val hb i1
    have hlt : val b xs < 2 ^ 900 := by
      refine Int.lt_of_lt_of_le (val_lt hb i1) ?_
      have a1 : w * xs.length ≤ 21 * 40 := Nat.mul_le_mul hw2 h40
      have a2 : 2 ^ (w * xs.length) ≤ 2 ^ 900 := Nat.pow_le_pow_right (by decide) (by omega)
      have e : ((2 ^ 900 : Nat) : Int) = (2 : Int) ^ 900 := by rw [Int.natCast_pow]; rfl
      rw [← e]
      exact Int.ofNat_le.mpr a2
    have f1 := fgs_of_val hbp i1
    have i0 : InB b (0 :: xs) := by
      intro z hz
      rcases List.mem_cons.mp hz with rfl | hz
      · omega
      · exact i1 z hz
    have f2 := fgs_of_val hbp i0
    rw [← val_times, List.length_cons] at f2
    have f3 : fdn (val b xs) b xs.length = 0 := by
      rw [fdn_val hbp i1, List.drop_length]
      rfl
    have ip : InB b (List.replicate xs.length p) := by
      intro z hz
      rw [List.eq_of_mem_replicate hz]
      exact ⟨hp0, hp1⟩
    have f4 := fgs_of_val hbp ip
    rw [← val_ones, List.length_replicate] at f4
    have hn1 : (xs.map V.int).length = xs.length := List.length_map _
    tm_at "rv"
    refine use_ofF (.inl (SqL.of e1)) b0.1 hB2 ?_
    tm_at "rv"
    refine use_ofF (.inl (SqL.of e2)) b0.1 hB2 ?_
    tm_at "rv"
    rw [hn1]
    rename_i tp ntp
    have g1 := (sm_upd (o := .tup [V.int (val b xs), V.int (val b ys), V.int ((xs.length : Nat) : Int)]) ntp).to _ _ e1
    have g2 := (sm_upd (o := .tup [V.int (val b xs), V.int (val b ys), V.int ((xs.length : Nat) : Int)]) ntp).to _ _ e2
    have s0 := sm_upd (o := .tup [V.int (val b xs), V.int (val b ys), V.int ((xs.length : Nat) : Int)]) ntp
    generalize upd H tp (.tup [V.int (val b xs), V.int (val b ys), V.int ((xs.length : Nat) : Int)]) = H0 at g1 g2 s0 ⊢
    refine ⟨l1, l2, xs.map V.int, ys.map V.int, rfl, .inl ⟨SqL.of g1, SqL.of g2, ?_⟩⟩
    intro D nD
    refine lc_it (walk_zip (K := K) (a := l1) (b := l2) (xs := xs.map V.int) (ys := ys.map V.int) (n := xs.length) (by rw [List.length_map, List.length_map]; omega)) (fun i H' => H' D = some (.lst ((lones (xs.take i) (ys.take i)).map V.int)) ∧ Sm H0 H') ⟨upd_same, sm_upd nD⟩ (fun i H' _ h => ⟨h.2.seq (SqL.of g1), h.2.seq (SqL.of g2)⟩) ?_ ?_
    · rintro i v Ha Hb hi ⟨hD, sa⟩ ⟨tt, x, y, rfl, ntt, rfl, hx, hy⟩
      have hi2 : i < ys.length := by omega
      have hx : (xs.map V.int)[i]? = some x := hx
      have hy : (ys.map V.int)[i]? = some y := hy
      rw [List.getElem?_map, List.getElem?_eq_getElem hi] at hx
      rw [List.getElem?_map, List.getElem?_eq_getElem hi2] at hy
      obtain rfl : V.int xs[i] = x := Option.some.inj hx
      obtain rfl : V.int ys[i] = y := Option.some.inj hy
      tm_at "rv"
      refine r_acc ((sm_upd ntt).to _ _ hD) (len_lt (by rw [List.length_map, lones_len (by rw [List.length_take, List.length_take]; omega), List.length_take]; omega)) ⟨?_, sm_acc (sa.trans (sm_upd ntt)) nD⟩
      rw [upd_same, List.take_add_one, List.take_add_one, List.getElem?_eq_getElem hi, List.getElem?_eq_getElem hi2]
      show _ = some (HO.lst (List.map V.int (lones (xs.take i ++ [xs[i]]) (ys.take i ++ [ys[i]]))))
      rw [lones_snoc _ _ (by rw [List.length_take, List.length_take]; omega), List.map_append]
      rfl
    rintro H1 ⟨hD, s1⟩
    rw [List.take_length, hl, List.take_length] at hD
    tm_at "rv"
    refine use_fits nx ny ?_
    rw [hout]
    tm_at "rv"
    rename_i z1 nz1
    refine r_repI (x := 0) upd_same (by omega) (by omega) fun z2 H2 s2 nz2 ez2 => ?_
    have sA : Sm H1 H2 := (sm_upd nz1).trans s2
    have hD2 := sA.to _ _ hD
    refine r_eqLI (ns := lones xs ys) (ms := List.replicate ((xs.length : Nat) : Int).toNat 0) (SqL.of hD2) (SqL.of ez2) ?_
    rw [Int.toNat_natCast, hz]
    tm_at "rv"
    refine use_truth ?_
    tm_at "rv"
    refine ite_o (by simp) ?_
    tm_at "rv"
    refine use_out nx ny ?_
    rw [hout]
    tm_at "rv"
    refine use_ofF (.inl (SqL.of hD2)) b0.1 hB2 ?_
    tm_at "rv"
    refine use_many 900 nx hlt (by decide) ?_
    rw [hpop]
    tm_at "rv"
    refine r_iL ?_
    tm_at "rv"
    have g3 := sA.to _ _ (s1.to _ _ g1)
    refine r_aL (SqL.of g3) ?_
    intro D3 nD3
    refine lc_list (K := K) (a := l1) (xs := xs.map V.int) (fun i H' => H' D3 = some (.lst (((xs.take i).map fun x => ((pop x.toNat : Nat) : Int)).map V.int)) ∧ Sm H2 H') ⟨upd_same, sm_upd nD3⟩ (fun i H' _ h => h.2.seq (SqL.of g3)) ?_ ?_
    · rintro i x Ha hx ⟨hA, sa⟩
      rw [List.getElem?_map] at hx
      cases e : xs[i]? with
      | none => rw [e] at hx; cases hx
      | some y =>
        rw [e] at hx
        obtain rfl : V.int y = x := Option.some.inj hx
        have hy := i1 y (List.mem_of_getElem? e)
        tm_at "rv"
        refine use_bits hy.1 ?_
        tm_at "rv"
        refine r_acc hA (len_lt (by rw [List.length_map, List.length_map, List.length_take]; omega)) ⟨?_, sm_acc sa nD3⟩
        rw [upd_same, List.take_add_one, e, List.map_append, List.map_append]
        rfl
    rintro H3 ⟨hA, s3⟩
    rw [hn1, List.take_length] at hA
    tm_at "rv"
    refine r_sum (SqL.of hA) ?_
    tm_at "rv"
    have sB : Sm H0 H3 := (s1.trans sA).trans s3
    refine use_fgs b0.1 hB2 (by omega) (by omega) fun l5 H5 s5 n5 e5 => ?_
    rw [Int.toNat_natCast, f1] at e5
    have g5 := (sB.trans s5).to _ _ g1
    tm_at "rv"
    refine r_neLL (SqL.of e5) (SqL.of g5) ?_
    tm_at "rv"
    intro D6 nD6
    refine lc_range (lo := 0) (n := xs.length) (fun i H' => H' D6 = some (.lst ((ys.take i).map V.int)) ∧ Sm H5 H') ⟨upd_same, sm_upd nD6⟩ ?_ ?_
    · rintro i Ha hi ⟨hA, sa⟩
      have hi2 : i < ys.length := by omega
      tm_at "rv"
      refine use_fig b0.1 hB2 (by omega) (by omega) ?_
      rw [show (0 + (i : Int)).toNat = i by omega, fig_val hbp i2 hi2]
      tm_at "rv"
      refine r_acc hA (len_lt (by rw [List.length_map, List.length_take]; omega)) ⟨?_, sm_acc sa nD6⟩
      rw [upd_same, List.take_add_one, List.getElem?_eq_getElem hi2, List.map_append]
      rfl
    rintro H6 ⟨hA6, s6⟩
    rw [hl, List.take_length] at hA6
    have sC : Sm H0 H6 := (sB.trans s5).trans s6
    tm_at "rv"
    refine r_neLL (SqL.of hA6) (SqL.of (sC.to _ _ g2)) ?_
    tm_at "rv"
    refine use_fgs b0.1 hB2 (by omega) (by omega) fun l7 H7 s7 n7 e7 => ?_
    rw [show (((xs.length : Nat) : Int) + 1).toNat = xs.length + 1 by omega, f2] at e7
    tm_at "rv"
    rename_i z8 nz8
    have g8 := (sm_upd (o := .lst [V.int 0]) nz8).to _ _ ((sC.trans s7).to _ _ g1)
    refine r_addLI (xs := [0]) (ys := xs) upd_same g8 (by simp only [List.length_cons, List.length_nil]; omega) fun l9 H9 s9 n9 e9 => ?_
    refine r_neLL (SqL.of (s9.to _ _ ((sm_upd nz8).to _ _ e7))) (SqL.of e9) ?_
    tm_at "rv"
    refine use_fig b0.1 hB2 (by omega) (by omega) ?_
    rw [Int.toNat_natCast, f3, Int.zero_emod]
    tm_at "rv"
    refine use_ones b0.1 hB2 (by omega) (by omega) fun H10 s10 => ?_
    rw [Int.toNat_natCast]
    tm_at "rv"
    refine use_fgs b0.1 hB2 (by omega) (by omega) fun l11 H11 s11 n11 e11 => ?_
    rw [Int.toNat_natCast, f4] at e11
    tm_at "rv"
    rename_i z12 nz12
    refine r_repI (x := p) upd_same (by omega) (by omega) fun z13 H13 s13 nz13 ez13 => ?_
    rw [Int.toNat_natCast] at ez13
    refine r_eqLL (SqL.of (s13.to _ _ ((sm_upd nz12).to _ _ e11))) (SqL.of ez13) ?_
    exact k _ ((((((((s0.trans sC).trans s7).trans (sm_upd nz8)).trans s9).trans s10).trans s11).trans (sm_upd nz12)).trans s13)
/-! the rows drawn -/
def sp_rows_of : Sp := fun vs H Q _ => ∃ (b : Addr) (s : Int) (w : Nat), vs = [.ref b, .int s] ∧ BoxAt H b ∧ s = ((2 ^ w : Nat) : Int) ∧ 1 ≤ w ∧ w ≤ 21 ∧ ∀ t l1 l2 H' xs ys, Chg b H H' → BoxAt H' b → H t = none → H l1 = none → H l2 = none → H' t = some (.tup [.ref l1, .ref l2]) → H' l1 = some (.lst (xs.map V.int)) → H' l2 = some (.lst (ys.map V.int)) → xs.length = ys.length → xs.length ≤ 40 → InB s xs → InB s ys → Q (.ref t) H'
theorem use_rows {H : Hp} {Q : VK} {E : XK} {b : Addr} {s : Int} {w : Nat} (h : BoxAt H b) (h1 : s = ((2 ^ w : Nat) : Int)) (h2 : 1 ≤ w) (h3 : w ≤ 21) (k : ∀ t l1 l2 H' xs ys, Chg b H H' → BoxAt H' b → H t = none → H l1 = none → H l2 = none → H' t = some (.tup [.ref l1, .ref l2]) → H' l1 = some (.lst (xs.map V.int)) → H' l2 = some (.lst (ys.map V.int)) → xs.length = ys.length → xs.length ≤ 40 → InB s xs → InB s ys → Q (.ref t) H') : sp_rows_of [.ref b, .int s] H Q E := ⟨b, s, w, rfl, h, h1, h2, h3, k⟩
theorem inb_snoc {s d : Int} {cs : List Int} (h : InB s cs) (h0 : 0 ≤ d) (h1 : d < s) : InB s (cs ++ [d]) := by
  intro c hc
  rcases List.mem_append.mp hc with hc | hc
  · exact h c hc
  · rw [List.mem_singleton.mp hc]
    exact ⟨h0, h1⟩
theorem inb_set {s d : Int} {cs : List Int} {i : Nat} (h : InB s cs) (h0 : 0 ≤ d) (h1 : d < s) : InB s (cs.set i d) := by
  intro c hc
  rcases List.mem_or_eq_of_mem_set hc with hc | hc
  · exact h c hc
  · rw [hc]
    exact ⟨h0, h1⟩
/-- bits that are in both -/
def boths : List Int → List Int → List Int
  | x :: xs, y :: ys => Builtin.bitAnd x y :: boths xs ys
  | _, _ => []
theorem boths_len : ∀ {xs ys : List Int}, xs.length = ys.length → (boths xs ys).length = xs.length
  | [], [], _ => rfl
  | x :: xs, y :: ys, h => by
    have i := boths_len (xs := xs) (ys := ys) (by simpa using h)
    show (boths xs ys).length + 1 = xs.length + 1
    omega
  | [], _ :: _, h => absurd h (by simp)
  | _ :: _, [], h => absurd h (by simp)
theorem boths_in {b : Int} : ∀ {xs ys : List Int}, InB b xs → InB b ys → InB b (boths xs ys)
  | [], [], _, _ => fun x hx => absurd hx (by intro z; cases z)
  | x :: xs, y :: ys, h1, h2 => by
    have i := boths_in h1.tl h2.tl
    intro z hz
    rcases List.mem_cons.mp hz with rfl | hz
    · have hx := h1.hd
      have hy := h2.hd
      have := iand_le hx.1 hy.1
      omega
    · exact i z hz
  | [], _ :: _, _, _ => fun x hx => absurd hx (by intro z; cases z)
  | _ :: _, [], _, _ => fun x hx => absurd hx (by intro z; cases z)
theorem boths_snoc : ∀ {xs ys : List Int} (x y : Int), xs.length = ys.length → boths (xs ++ [x]) (ys ++ [y]) = boths xs ys ++ [Builtin.bitAnd x y]
  | [], [], x, y, _ => rfl
  | a :: xs, c :: ys, x, y, h => by
    show Builtin.bitAnd a c :: boths (xs ++ [x]) (ys ++ [y]) = _
    rw [boths_snoc x y (by simpa using h)]
    rfl
  | [], _ :: _, _, _, h => absurd h (by simp)
  | _ :: _, [], _, _, h => absurd h (by simp)
theorem or_lt {x y s : Int} {w : Nat} (hs : s = ((2 ^ w : Nat) : Int)) (hx : 0 ≤ x) (hx1 : x < s) (hy : 0 ≤ y) (hy1 : y < s) : 0 ≤ Builtin.bitOr x y ∧ Builtin.bitOr x y < s := by
  rw [bitOr_nn hx hy]
  have := Nat.or_lt_two_pow (x := x.toNat) (y := y.toNat) (n := w) (by omega) (by omega)
  omega
theorem ixN_at {n : Nat} {i : Int} (h0 : 0 ≤ i) (h : i < (n : Int)) : ixN n i = some i.toNat := by
  unfold ixN
  rw [if_pos h0, if_pos h]
theorem ok_rows_of (T : Txt K mg) : FnOk P w K mg base CX0 2 T.f_rows_of T.d_rows_of ["box", "base"] sp_rows_of := by
  refine T.F_rows_of.ok sc_rows_of (fun vs H Q E h => ?_) (fun cdv A outer s H vs Q E hr h => ?_)
  · obtain ⟨b, s, w, rfl, _⟩ := h
    rfl
  · obtain ⟨b, s, w, rfl, hB, hs, hw1, hw2, k⟩ := h
    refine ⟨_, (pss_cons (ps_par (i := 2) (j := 3) rfl sc_rows_of.nd rfl rfl (by decide) rfl rfl (pa_cons (pe_op (add_k (K := K) rfl) pe_int (pe_call (ok_take T) hr (by rfl) T.g_take T.F_take.kp T.b_take .nil pass0 (pa_cons (pv 0) (pa_cons pe_int pa_nil)))) (pa_cons (pe_call (ok_take T) hr (by rfl) T.g_take T.F_take.kp T.b_take .nil pass0 (pa_cons (pv 0) (pa_cons pe_int pa_nil))) pa_nil)) (by rfl))
      (pss_cons (ps_setLc (i := 5) (own := [("t", 4)]) rfl sc_rows_of.nd rfl rfl (sw_true rfl rfl rfl (by decide +kernel)) (pi_range1 (by rfl) T.z_range (pa_cons (pv 2) pa_nil)) (blkOk_by (N := ["box", "base", "many", "form", "t", "other", "one", "mine", "theirs", "at"]) (sc := defScope s_rows_of) (own := [("t", 4)]) (by decide +kernel)) (fun _ _ _ _ _ => (pg_name (i := 4) sc_rows_of.nd rfl (Or.inl rfl))) (fun _ _ _ _ _ => pts_nil) (fun _ _ _ _ _ => (pe_call (ok_take T) hr (by rfl) T.g_take T.F_take.kp T.b_take .nil pass0 (pa_cons (pv 0) (pa_cons (pv 1) pa_nil)))))
      (pss_cons (ps_setLc (i := 6) (own := [("t", 4)]) rfl sc_rows_of.nd rfl rfl (sw_true rfl rfl rfl (by decide +kernel)) (pi_range1 (by rfl) T.z_range (pa_cons (pv 2) pa_nil)) (blkOk_by (N := ["box", "base", "many", "form", "t", "other", "one", "mine", "theirs", "at"]) (sc := defScope s_rows_of) (own := [("t", 4)]) (by decide +kernel)) (fun _ _ _ _ _ => (pg_name (i := 4) sc_rows_of.nd rfl (Or.inl rfl))) (fun _ _ _ _ _ => pts_nil) (fun _ _ _ _ _ => (pe_call (ok_take T) hr (by rfl) T.g_take T.F_take.kp T.b_take .nil pass0 (pa_cons (pv 0) (pa_cons (pv 1) pa_nil)))))
      (pss_cons (ps_if (pt_cmpR op_lt (pv 3) pe_int (nomark _))
      (pss_one (ps_ret (pe_tup (pa_cons (pv 6) (pa_cons (pv 5) pa_nil))))) pss_nil)
      (pss_cons (ps_setLc (i := 6) (own := [("mine", 7), ("theirs", 8)]) rfl sc_rows_of.nd rfl rfl (sw_true rfl rfl rfl (by decide +kernel)) (zip_k (K := K) rfl (by rfl) T.z_zip (pa_cons (pv 6) (pa_cons (pv 5) pa_nil))) (blkOk_by (N := ["box", "base", "many", "form", "t", "other", "one", "mine", "theirs", "at"]) (sc := defScope s_rows_of) (own := [("mine", 7), ("theirs", 8)]) (by decide +kernel)) (fun _ _ _ _ _ => (pgT_k (n := 2) (K := K) rfl rfl (pgs_cons (pg_name (i := 7) sc_rows_of.nd rfl (Or.inl rfl)) (pgs_cons (pg_name (i := 8) sc_rows_of.nd rfl (Or.inl rfl)) pgs_nil)))) (fun _ _ _ _ _ => pts_nil) (fun _ _ _ _ _ => (pe_op op_and (pv 7) (pv 8))))
      (pss_cons (ps_if (pt_cmpR (eq_k (K := K) rfl hr.units) (pv 3) pe_int (nomark _))
      (pss_cons (ps_set (i := 9) sc_rows_of.nd rfl (Or.inl rfl) (pe_call (ok_take T) hr (by rfl) T.g_take T.F_take.kp T.b_take .nil pass0 (pa_cons (pv 0) (pa_cons (pv 2) pa_nil))))
      (pss_one (ps_asg (pe_op op_or (pe_ix (ix_k (K := K) rfl) (pv 6) (pv 9) (fun _ _ => rfl)) (pe_op op_shlW pe_int (pe_call (ok_take T) hr (by rfl) T.g_take T.F_take.kp T.b_take .nil pass0 (pa_cons (pv 0) (pa_cons (pe_op op_sub (pe_bits (pv 1)) pe_int) pa_nil))))) (pg_sub (pv 6) (pv 9) set_list)))) pss_nil)
      (pss_one (ps_ret (pe_tup (pa_cons (pv 6) (pa_cons (pv 5) pa_nil))))))))))), ?_⟩
    have b0 : 2 ≤ s ∧ s ≤ 2097152 := by
      have a1 : 2 ^ 1 ≤ 2 ^ w := Nat.pow_le_pow_right (by decide) hw1
      have a2 : 2 ^ w ≤ 2 ^ 21 := Nat.pow_le_pow_right (by decide) hw2
      rw [hs]
      omega
    tm_at "rv"
    refine use_take (by tm_at "mv") (by decide) (cdiv_s (by decide) (by decide)) fun d1 H1 c1 b1 l1 u1 => ?_
    tm_at "rv"
    refine use_take (by tm_at "mv") (by decide) (cdiv_s (by decide) (by decide)) fun d2 H2 c2 b2 l2 u2 => ?_
    tm_at "rv"
    intro D nD
    have hDb : D ≠ b := ne_fr' b2 nD
    refine lc_range (lo := 0) (n := (1 + d1).toNat) (fun i H' => ∃ cs : List Int, H' D = some (.lst (cs.map V.int)) ∧ cs.length = i ∧ InB s cs ∧ Chg b H2 H' ∧ BoxAt H' b) ⟨[], upd_same, rfl, (fun x hx => absurd hx (by intro z; cases z)), (sm_upd nD).chg, b2.sm (sm_upd nD)⟩ ?_ ?_
    · rintro i Hi hi ⟨cs, hD, hl, hcs, ci, bi⟩
      tm_at "rv"
      refine use_take bi (by omega) (cdiv_s (by omega) (by omega)) fun d H2 c2 b2 l2 u2 => ?_
      tm_at "rv"
      have hD2 := c2.to _ _ hDb hD
      refine r_acc hD2 (len_lt (by rw [List.length_map]; omega)) ⟨cs ++ [d], ?_, by rw [List.length_append, hl]; rfl, inb_snoc hcs l2 u2, chg_acc (ci.trans c2) nD, b2.chg chg_upd hDb.symm⟩
      rw [upd_same, List.map_append]
      rfl
    rintro H3 ⟨ys, hD, hyl, hys, c3, b3⟩
    tm_at "rv"
    intro D2 nD2
    have hDb2 : D2 ≠ b := ne_fr' b3 nD2
    refine lc_range (lo := 0) (n := (1 + d1).toNat) (fun i H' => ∃ cs : List Int, H' D2 = some (.lst (cs.map V.int)) ∧ cs.length = i ∧ InB s cs ∧ Chg b H3 H' ∧ BoxAt H' b) ⟨[], upd_same, rfl, (fun x hx => absurd hx (by intro z; cases z)), (sm_upd nD2).chg, b3.sm (sm_upd nD2)⟩ ?_ ?_
    · rintro i Hi hi ⟨cs, hD, hl, hcs, ci, bi⟩
      tm_at "rv"
      refine use_take bi (by omega) (cdiv_s (by omega) (by omega)) fun d H2 c2 b2 l2 u2 => ?_
      tm_at "rv"
      have hD2 := c2.to _ _ hDb2 hD
      refine r_acc hD2 (len_lt (by rw [List.length_map]; omega)) ⟨cs ++ [d], ?_, by rw [List.length_append, hl]; rfl, inb_snoc hcs l2 u2, chg_acc (ci.trans c2) nD2, b2.chg chg_upd hDb2.symm⟩
      rw [upd_same, List.map_append]
      rfl
    rintro H4 ⟨xs, hD2, hxl, hxs, c4, b4⟩
    have hD4 : H4 D = some (.lst (ys.map V.int)) := c4.to _ _ hDb hD
    have hl : xs.length = ys.length := by omega
    have c04 : Chg b H H4 := ((c1.trans c2).trans c3).trans c4
    have fD : H D = none := chg_fr nD b2 (c1.trans c2)
    have fD2 : H D2 = none := chg_fr nD2 b3 ((c1.trans c2).trans c3)
    tm_at "rv"
    refine ite_d (fun e1 => ?_) (fun e1 => ?_)
    · tm_at "rv"
      rename_i t nt
      exact k t D2 D _ xs ys (chg_tr (sm_upd nt).chg c04) (b4.sm (sm_upd nt)) (chg_fr nt b4 c04) fD2 fD upd_same ((sm_upd nt).to _ _ hD2) ((sm_upd nt).to _ _ hD4) hl (by omega) hxs hys
    tm_at "rv"
    refine ⟨D2, D, xs.map V.int, ys.map V.int, rfl, .inl ⟨SqL.of hD2, SqL.of hD4, ?_⟩⟩
    intro D5 nD5
    have hDb5 : D5 ≠ b := ne_fr' b4 nD5
    have fD5 : H D5 = none := chg_fr nD5 b4 c04
    refine lc_it (walk_zip (K := K) (a := D2) (b := D) (xs := xs.map V.int) (ys := ys.map V.int) (n := xs.length) (by rw [List.length_map, List.length_map]; omega)) (fun i H' => H' D5 = some (.lst ((boths (xs.take i) (ys.take i)).map V.int)) ∧ Sm H4 H') ⟨upd_same, sm_upd nD5⟩ (fun i H' _ h => ⟨h.2.seq (SqL.of hD2), h.2.seq (SqL.of hD4)⟩) ?_ ?_
    · rintro i v Ha Hb hi ⟨hD, sa⟩ ⟨tt, x, y, rfl, ntt, rfl, hx, hy⟩
      have hi2 : i < ys.length := by omega
      have hx : (xs.map V.int)[i]? = some x := hx
      have hy : (ys.map V.int)[i]? = some y := hy
      rw [List.getElem?_map, List.getElem?_eq_getElem hi] at hx
      rw [List.getElem?_map, List.getElem?_eq_getElem hi2] at hy
      obtain rfl : V.int xs[i] = x := Option.some.inj hx
      obtain rfl : V.int ys[i] = y := Option.some.inj hy
      tm_at "rv"
      refine r_acc ((sm_upd ntt).to _ _ hD) (len_lt (by rw [List.length_map, boths_len (by rw [List.length_take, List.length_take]; omega), List.length_take]; omega)) ⟨?_, sm_acc (sa.trans (sm_upd ntt)) nD5⟩
      rw [upd_same, List.take_add_one, List.take_add_one, List.getElem?_eq_getElem hi, List.getElem?_eq_getElem hi2]
      show _ = some (HO.lst (List.map V.int (boths (xs.take i ++ [xs[i]]) (ys.take i ++ [ys[i]]))))
      rw [boths_snoc _ _ (by rw [List.length_take, List.length_take]; omega), List.map_append]
      rfl
    rintro H5 ⟨hD5, s5⟩
    rw [List.take_length, hl, List.take_length] at hD5
    have hbl := boths_len hl
    have hbi := boths_in hxs hys
    generalize boths xs ys = zs at hD5 hbl hbi
    have hD45 := s5.to _ _ hD4
    have b5 := b4.sm s5
    have c05 : Chg b H H5 := c04.trans s5.chg
    tm_at "rv"
    refine ite_d (fun e2 => ?_) (fun e2 => ?_)
    · tm_at "rv"
      refine use_take b5 (by omega) (cdiv_s (by omega) (by omega)) fun d6 H6 c6 b6 l6 u6 => ?_
      have hD6 := c6.to _ _ hDb5 hD5
      tm_at "rv"
      refine r_ixLg (ns := zs) (SqL.of hD6) rfl l6 (by omega) fun x hx => ?_
      have hxi := hbi x (List.mem_of_getElem? hx)
      tm_at "rv"
      have hbits : Builtin.Int.intBits s = w + 1 := by rw [hs]; exact bits_pow w
      rw [hbits]
      tm_at "rv"
      refine use_take (by tm_at "mv") (by omega) (cdiv_s (by omega) (by omega)) fun d7 H7 c7 b7 l7 u7 => ?_
      have p0 := pow2_le (show 0 ≤ d7.toNat by omega)
      have p1 : (1 : Int) * 2 ^ d7.toNat < s := by
        have a1 : 2 ^ d7.toNat < 2 ^ w := Nat.pow_lt_pow_right (by decide) (by omega)
        have e : ((2 ^ d7.toNat : Nat) : Int) = (2 : Int) ^ d7.toNat := by rw [Int.natCast_pow]; rfl
        rw [Int.one_mul, ← e, hs]
        exact Int.ofNat_lt.mpr a1
      have po : (2 : Int) ^ 0 = 1 := rfl
      have hor := or_lt hs hxi.1 hxi.2 (show 0 ≤ 1 * (2 : Int) ^ d7.toNat by omega) p1
      have hD7 := c7.to _ _ hDb5 hD6
      tm_at "rv"
      refine r_setL hD7 (j := d6.toNat) (ixN_at l6 (by rw [List.length_map]; omega)) ?_
      rw [show (zs.map V.int).set d6.toNat (V.int (Builtin.bitOr x (1 * 2 ^ d7.toNat))) = (zs.set d6.toNat (Builtin.bitOr x (1 * 2 ^ d7.toNat))).map V.int from List.map_set.symm]
      have hne : D ≠ D5 := fun z => by rw [z, nD5] at hD4; cases hD4
      have hDm : upd H7 D5 (.lst ((zs.set d6.toNat (Builtin.bitOr x (1 * 2 ^ d7.toNat))).map V.int)) D = some (.lst (ys.map V.int)) := by
        rw [upd_ne hne]
        exact c7.to _ _ hDb (c6.to _ _ hDb hD45)
      have hDn : upd H7 D5 (.lst ((zs.set d6.toNat (Builtin.bitOr x (1 * 2 ^ d7.toNat))).map V.int)) D5 = some (.lst ((zs.set d6.toNat (Builtin.bitOr x (1 * 2 ^ d7.toNat))).map V.int)) := upd_same
      have c08 : Chg b H (upd H7 D5 (.lst ((zs.set d6.toNat (Builtin.bitOr x (1 * 2 ^ d7.toNat))).map V.int))) := chg_acc ((c05.trans c6).trans c7) fD5
      have b8 : BoxAt (upd H7 D5 (.lst ((zs.set d6.toNat (Builtin.bitOr x (1 * 2 ^ d7.toNat))).map V.int))) b := b7.chg chg_upd hDb5.symm
      have hls : (zs.set d6.toNat (Builtin.bitOr x (1 * 2 ^ d7.toNat))).length = zs.length := List.length_set
      have his := inb_set (i := d6.toNat) hbi hor.1 hor.2
      generalize zs.set d6.toNat (Builtin.bitOr x (1 * 2 ^ d7.toNat)) = us at hDm hDn c08 b8 hls his ⊢
      generalize upd H7 D5 (.lst (us.map V.int)) = H8 at hDm hDn c08 b8 ⊢
      tm_at "rv"
      rename_i t nt
      exact k t D5 D _ us ys (chg_tr (sm_upd nt).chg c08) (b8.sm (sm_upd nt)) (chg_fr nt b8 c08) fD5 fD upd_same ((sm_upd nt).to _ _ hDn) ((sm_upd nt).to _ _ hDm) (by omega) (by omega) his hys
    tm_at "rv"
    rename_i t nt
    exact k t D5 D _ zs ys (chg_tr (sm_upd nt).chg c05) (b5.sm (sm_upd nt)) (chg_fr nt b5 c05) fD5 fD upd_same ((sm_upd nt).to _ _ hD5) ((sm_upd nt).to _ _ hD45) (by omega) (by omega) hbi hys
def sp_law (K : PySem.W.Frag) : Sp := fun vs H Q _ => ∃ (a : Addr) (ns : List Int), vs = [.ref a] ∧ SqL K H a (ns.map V.int) ∧ ns.length ≤ 63 ∧ ∀ H', Q (.bl true) H'
theorem sp_law_of {K : PySem.W.Frag} {H : Hp} {a : Addr} {ns : List Int} (h1 : ns.length ≤ 63) (h : SqL K H a (ns.map V.int)) : sp_law K [.ref a] H (fun v _ => v = .bl true) fun _ _ _ => False := ⟨a, ns, rfl, h, h1, fun _ => rfl⟩

theorem all_rep (n : Nat) : (List.replicate n true).all id = true := by
  induction n with
  | zero => rfl
  | succ n ih => rw [List.replicate_succ, List.all_cons, ih]; rfl
def Asked (A : Addr) (H : Hp) (x : V) : Prop := ∃ (t l1 l2 : Addr) (xs ys : List Int) (s p : Int) (w : Nat), x = .ref t ∧ H t = some (.tup [.ref l1, .ref l2, .int s, .int p]) ∧ H l1 = some (.lst (xs.map V.int)) ∧ H l2 = some (.lst (ys.map V.int)) ∧ l1 ≠ A ∧ l2 ≠ A ∧ xs.length = ys.length ∧ xs.length ≤ 40 ∧ s = ((2 ^ w : Nat) : Int) ∧ 1 ≤ w ∧ w ≤ 21 ∧ InB s xs ∧ InB s ys ∧ 0 ≤ p ∧ p < s
theorem Asked.to {A : Addr} {H H' : Hp} {x : V} (h : Asked A H x) (m : ∀ a o, a ≠ A → H a = some o → H' a = some o) (hA : ∃ xs, H A = some (.lst xs)) : Asked A H' x := by
  obtain ⟨t, l1, l2, xs, ys, s, p, w, e, et, e1, e2, n1, n2, r⟩ := h
  obtain ⟨vs, hA⟩ := hA
  exact ⟨t, l1, l2, xs, ys, s, p, w, e, m _ _ (ne_of et hA (by intro z; cases z)) et, m _ _ n1 e1, m _ _ n2 e2, n1, n2, r⟩
theorem ok_law (T : Txt K mg) : FnOk P w K mg base CX0 4 T.f_law T.d_law ["script"] (sp_law K) := by
  refine T.F_law.ok sc_law (fun vs H Q E h => ?_) (fun cdv A outer s H vs Q E hr h => ?_)
  · obtain ⟨a, ns, rfl, _⟩ := h
    rfl
  · obtain ⟨a, ns, rfl, hS, hn, k⟩ := h
    refine ⟨_, (pss_cons (ps_set (i := 1) sc_law.nd rfl (Or.inl rfl) (pe_lst pa_nil))
      (pss_cons (ps_for PassesOwn.never rfl (pi_range1 (by rfl) T.z_range (pa_cons (pe_callB (max_k (K := K) rfl rfl) (by rfl) T.z_max (by decide +kernel) (pa_cons pe_int (pa_cons (pe_callB (min_k (K := K) rfl rfl) (by rfl) T.z_min (by decide +kernel) (pa_cons pe_int (pa_cons (pe_callB (len_k (K := K) rfl) (by rfl) T.z_len (by decide +kernel) (pa_cons (pv 0) pa_nil)) pa_nil))) pa_nil))) pa_nil)) (pg_name (i := 2) sc_law.nd rfl (Or.inl rfl))
      (pss_cons (ps_set (i := 3) sc_law.nd rfl (Or.inl rfl) (pe_call (ok_box T) (hr.mono (by decide)) (by rfl) T.g_box T.F_box.kp T.b_box .nil pass0 (pa_cons (pv 0) (pa_cons (pv 2) pa_nil))))
      (pss_cons (ps_set (i := 4) sc_law.nd rfl (Or.inl rfl) (pe_op op_shlW pe_int (pe_op (add_k (K := K) rfl) pe_int (pe_call (ok_take T) (hr.mono (by decide)) (by rfl) T.g_take T.F_take.kp T.b_take .nil pass0 (pa_cons (pv 3) (pa_cons pe_int pa_nil))))))
      (pss_cons (ps_asg (pe_call (ok_rows_of T) (hr.mono (by decide)) (by rfl) T.g_rows_of T.F_rows_of.kp T.b_rows_of .nil pass0 (pa_cons (pv 3) (pa_cons (pv 4) pa_nil))) (pg_tup rfl (pgs_cons (pg_name (i := 5) sc_law.nd rfl (Or.inl rfl)) (pgs_cons (pg_name (i := 6) sc_law.nd rfl (Or.inl rfl)) pgs_nil))))
      (pss_one (ps_expr (pe_bm PySem.F.plainAttrs_list PySem.F.slot_list_append PySem.F.type_list_append mt_append (pv 1) (pa_cons (pe_tup (pa_cons (pv 5) (pa_cons (pv 6) (pa_cons (pv 4) (pa_cons (pe_call (ok_take T) (hr.mono (by decide)) (by rfl) T.g_take T.F_take.kp T.b_take .nil pass0 (pa_cons (pv 3) (pa_cons (pv 4) pa_nil))) pa_nil))))) pa_nil))))))))
      (pss_one (ps_ret (pe_callB (all_k (K := K) rfl rfl) (by rfl) T.z_all (by decide +kernel) (pa_cons (pe_lc (own := [("one", 5), ("other", 6), ("base", 4), ("pick", 7)]) rfl sc_law.nd (any_pi (K := K) rfl (pe_op (add_k (K := K) rfl) (pv 1) (pe_slice (sl_k (K := K) rfl) (pv 1) po_none (po_some pe_int)))) (blkOk_by (N := ["script", "some", "k", "box", "base", "one", "other", "pick"]) (sc := defScope s_law) (own := [("one", 5), ("other", 6), ("base", 4), ("pick", 7)]) (by decide +kernel)) (fun _ _ _ _ _ => (pgT_k (n := 4) (K := K) rfl rfl (pgs_cons (pg_name (i := 5) sc_law.nd rfl (Or.inl rfl)) (pgs_cons (pg_name (i := 6) sc_law.nd rfl (Or.inl rfl)) (pgs_cons (pg_name (i := 4) sc_law.nd rfl (Or.inl rfl)) (pgs_cons (pg_name (i := 7) sc_law.nd rfl (Or.inl rfl)) pgs_nil)))))) (fun _ _ _ _ _ => pts_nil) (fun _ _ _ _ _ => (pe_call (ok_right T) hr (by rfl) T.g_right T.F_right.kp T.b_right .nil pass0 (pa_cons (pv 5) (pa_cons (pv 6) (pa_cons (pv 4) (pa_cons (pv 7) pa_nil))))))) pa_nil)))))), ?_⟩
    have hlen : (ns.map V.int).length = ns.length := List.length_map _
    tm_at "rv"
    rename_i A nA m1 _ _ _ m2 _ _ _
    refine for_range (lo := 0) (n := m2.toNat) (fun i σ H' => (∃ x2 x3 x4 x5 x6 x7, σ = [some (.ref a), some (.ref A), x2, x3, x4, x5, x6, x7]) ∧ ∃ xs : List V, H' A = some (.lst xs) ∧ xs.length = i ∧ Sm H H' ∧ ∀ x ∈ xs, Asked A H' x) ⟨⟨_, _, _, _, _, _, rfl⟩, [], upd_same, rfl, sm_upd nA, fun x hx => absurd hx (by intro z; cases z)⟩ ?_ ?_
    · rintro i σ Hi hi ⟨⟨x2, x3, x4, x5, x6, x7, rfl⟩, xs, hA, ht, si, ha⟩
      tm_at "rv"
      refine use_box (si.seq hS) (by omega) fun b H2 s2 n2 b2 => ?_
      tm_at "rv"
      refine use_take b2 (by decide) (cdiv_s (by decide) (by decide)) fun d3 H3 c3 b3 l3 u3 => ?_
      tm_at "rv"
      have hw : (1 : Int) * 2 ^ (1 + d3).toNat = ((2 ^ (1 + d3).toNat : Nat) : Int) := by rw [Int.natCast_pow, Int.one_mul]; rfl
      rw [hw]
      refine use_rows b3 rfl (by omega) (by omega) fun t l1 l2 H4 us vs c4 b4 nt n1 n2' et e1 e2 hl h40 i1 i2 => ?_
      have hs0 : (2 : Int) ≤ ((2 ^ (1 + d3).toNat : Nat) : Int) ∧ ((2 ^ (1 + d3).toNat : Nat) : Int) ≤ 2097152 := by
        have a1 : 2 ^ 1 ≤ 2 ^ (1 + d3).toNat := Nat.pow_le_pow_right (by decide) (by omega)
        have a2 : 2 ^ (1 + d3).toNat ≤ 2 ^ 21 := Nat.pow_le_pow_right (by decide) (by omega)
        omega
      obtain ⟨S, hS2⟩ : ∃ S : Int, ((2 ^ (1 + d3).toNat : Nat) : Int) = S := ⟨_, rfl⟩
      rw [hS2] at hs0 i1 i2
      rw [hS2]
      tm_at "rv"
      refine use_take b4 (by omega) (cdiv_s (by omega) (by omega)) fun d5 H5 c5 b5 l5 u5 => ?_
      tm_at "rv"
      rename_i u nu
      have c25 : Chg b H2 H5 := (c3.trans c4).trans c5
      have s5 : Sm Hi H5 := c25.sm s2 n2
      have s6 := s5.trans (sm_upd (o := .tup [V.ref l1, V.ref l2, V.int S, V.int d5]) nu)
      have hA6 := s6.to _ _ hA
      refine r_app hA6 (len_lt (by omega)) ?_
      tm_at "rv"
      have hAb : A ≠ b := ne_of_none hA n2
      have hA3 := c3.to _ _ hAb (s2.to _ _ hA)
      have q1 := (sm_upd (o := .tup [V.ref l1, V.ref l2, V.int S, V.int d5]) nu).to _ _ (c5.to _ _ (ne_fr' b3 n1) e1)
      have q2 := (sm_upd (o := .tup [V.ref l1, V.ref l2, V.int S, V.int d5]) nu).to _ _ (c5.to _ _ (ne_fr' b3 n2') e2)
      have qt := upd_same (H := H5) (a := u) (o := .tup [V.ref l1, V.ref l2, V.int S, V.int d5])
      have w1 : l1 ≠ A := fun z => by rw [z, hA3] at n1; cases n1
      have w2 : l2 ≠ A := fun z => by rw [z, hA3] at n2'; cases n2'
      generalize upd H5 u (.tup [V.ref l1, V.ref l2, V.int S, V.int d5]) = H7 at s6 hA6 q1 q2 qt ⊢
      refine ⟨⟨_, _, _, _, _, _, rfl⟩, xs ++ [.ref u], upd_same, by rw [List.length_append, ht]; rfl, sm_acc (si.trans s6) nA, ?_⟩
      intro x hx
      rcases List.mem_append.mp hx with hx | hx
      · exact (ha x hx).to (fun a o na e => by rw [upd_ne na]; exact s6.to _ _ e) ⟨_, hA⟩
      · rw [List.mem_singleton.mp hx]
        have hpl : ∀ {a : Addr} {o : HO}, a ≠ A → H7 a = some o → upd H7 A (.lst (xs ++ [.ref u])) a = some o := fun na e => by rw [upd_ne na]; exact e
        exact ⟨u, l1, l2, us, vs, S, d5, (1 + d3).toNat, rfl, hpl (ne_of qt hA6 (by intro z; cases z)) qt, hpl w1 q1, hpl w2 q2, w1, w2, hl, h40, hS2.symm, by omega, by omega, i1, i2, l5, u5⟩
    · rintro σ Hi ⟨⟨x2, x3, x4, x5, x6, x7, rfl⟩, xs, hA, ht, si, ha⟩
      tm_at "rv"
      refine r_iL ?_
      tm_at "rv"
      refine r_slL (SqL.of hA) fun p np => ?_
      refine r_addL (by tm_at "mv") (by tm_at "mv") (cat_len (n := 63) (by omega) (by decide)) fun q H5 s5 nq eq => ?_
      refine r_aL (SqL.of eq) ?_
      intro D nD
      refine lc_list (K := K) (a := q) (xs := xs ++ cutV xs none (some 1)) (fun i H' => H' D = some (.lst ((List.replicate i true).map V.bl)) ∧ Sm H5 H') ⟨upd_same, sm_upd nD⟩ (fun i H' _ h => h.2.seq (SqL.of eq)) ?_ ?_
      · rintro i x H6 hx ⟨hD, s6⟩
        have hi := (List.getElem?_eq_some_iff.mp hx).1
        have hc := cutV_le xs none (some 1)
        rw [List.length_append] at hi
        obtain ⟨t, l1, l2, us, vs, s, p', w', rfl, et, e1, e2, n1, n2, r1, r2, r3, r4, r5, r6, r7, r8, r9⟩ := ha x (cat_mem (List.mem_of_getElem? hx))
        have m7 : ∀ {a : Addr} {o : HO}, Hi a = some o → H6 a = some o := fun e => s6.to _ _ (s5.to _ _ ((sm_upd np).to _ _ e))
        have et := m7 et
        tm_at "rv"
        refine use_right (m7 e1) (m7 e2) r1 r2 r3 r4 r5 r6 r7 r8 r9 fun H7 s7 => ?_
        tm_at "rv"
        refine r_acc (s7.to _ _ hD) (len_lt (by rw [List.length_map, List.length_replicate]; omega)) ⟨?_, sm_acc (s6.trans s7) nD⟩
        rw [upd_same, List.replicate_succ', List.map_append]
        rfl
      · rintro H6 ⟨hD, s6⟩
        tm_at "rv"
        refine r_all (SqL.of hD) ?_
        rw [all_rep]
        tm_at "rv"
        exact k _
end
theorem all_mk {l : PySem.W.OpenLaw} {w : World} {K : PySem.W.Frag} {h : Heap} {mg : Str → Option Value} {fa : Addr} (X : K.In h) (G : h.Ns mainGlobals mg) (hfa : mg "law" = some (.ref fa))
    {f0 : Addr}
    {od0 an0 : Option Addr}
    {sl0 : Array (Option Value)}
    {oc0 kV0 dc0 pm0 cd0 ct0 : Value}
    {f1 : Addr}
    {od1 an1 : Option Addr}
    {sl1 : Array (Option Value)}
    {oc1 kV1 dc1 pm1 cd1 ct1 : Value}
    {f2 : Addr}
    {od2 an2 : Option Addr}
    {sl2 : Array (Option Value)}
    {oc2 kV2 dc2 pm2 cd2 ct2 : Value}
    {f3 : Addr}
    {od3 an3 : Option Addr}
    {sl3 : Array (Option Value)}
    {oc3 kV3 dc3 pm3 cd3 ct3 : Value}
    {f4 : Addr}
    {od4 an4 : Option Addr}
    {sl4 : Array (Option Value)}
    {oc4 kV4 dc4 pm4 cd4 ct4 : Value}
    {f5 : Addr}
    {od5 an5 : Option Addr}
    {sl5 : Array (Option Value)}
    {oc5 kV5 dc5 pm5 cd5 ct5 : Value}
    {f6 : Addr}
    {od6 an6 : Option Addr}
    {sl6 : Array (Option Value)}
    {oc6 kV6 dc6 pm6 cd6 ct6 : Value}
    {f7 : Addr}
    {od7 an7 : Option Addr}
    {sl7 : Array (Option Value)}
    {oc7 kV7 dc7 pm7 cd7 ct7 : Value}
    {f8 : Addr}
    {od8 an8 : Option Addr}
    {sl8 : Array (Option Value)}
    {oc8 kV8 dc8 pm8 cd8 ct8 : Value}
    {f9 : Addr}
    {od9 an9 : Option Addr}
    {sl9 : Array (Option Value)}
    {oc9 kV9 dc9 pm9 cd9 ct9 : Value}
    {f10 : Addr}
    {od10 an10 : Option Addr}
    {sl10 : Array (Option Value)}
    {oc10 kV10 dc10 pm10 cd10 ct10 : Value}
    {f11 : Addr}
    {od11 an11 : Option Addr}
    {sl11 : Array (Option Value)}
    {oc11 kV11 dc11 pm11 cd11 ct11 : Value}
    {f12 : Addr}
    {od12 an12 : Option Addr}
    {sl12 : Array (Option Value)}
    {oc12 kV12 dc12 pm12 cd12 ct12 : Value}
    {f13 : Addr}
    {od13 an13 : Option Addr}
    {sl13 : Array (Option Value)}
    {oc13 kV13 dc13 pm13 cd13 ct13 : Value}
    {f14 : Addr}
    {od14 an14 : Option Addr}
    {sl14 : Array (Option Value)}
    {oc14 kV14 dc14 pm14 cd14 ct14 : Value}
    (a0 : PySem.W.nsIn K mainGlobals "_law_box" = some (some (.ref f0)))
    (l0 : K.lookup f0 = some ⟨oc0, od0, .func (PySem.W.fnOf "_law_box" "_law_box" (defArgs s_box) (defBody s_box) (defScope s_box) .none kV0 dc0 pm0 an0 cd0 ct0), sl0⟩)
    (c0 : PySem.W.codeIn K cd0 "_law_box" = true)
    (k0 : PySem.W.keepIn K (.ref f0) = true)
    (a1 : PySem.W.nsIn K mainGlobals "_law_take" = some (some (.ref f1)))
    (l1 : K.lookup f1 = some ⟨oc1, od1, .func (PySem.W.fnOf "_law_take" "_law_take" (defArgs s_take) (defBody s_take) (defScope s_take) .none kV1 dc1 pm1 an1 cd1 ct1), sl1⟩)
    (c1 : PySem.W.codeIn K cd1 "_law_take" = true)
    (k1 : PySem.W.keepIn K (.ref f1) = true)
    (a2 : PySem.W.nsIn K mainGlobals "_law_rows_of" = some (some (.ref f2)))
    (l2 : K.lookup f2 = some ⟨oc2, od2, .func (PySem.W.fnOf "_law_rows_of" "_law_rows_of" (defArgs s_rows_of) (defBody s_rows_of) (defScope s_rows_of) .none kV2 dc2 pm2 an2 cd2 ct2), sl2⟩)
    (c2 : PySem.W.codeIn K cd2 "_law_rows_of" = true)
    (k2 : PySem.W.keepIn K (.ref f2) = true)
    (a3 : PySem.W.nsIn K mainGlobals "of_figures" = some (some (.ref f3)))
    (l3 : K.lookup f3 = some ⟨oc3, od3, .func (PySem.W.fnOf "of_figures" "of_figures" (defArgs s_p_of_figures) (defBody s_p_of_figures) (defScope s_p_of_figures) .none kV3 dc3 pm3 an3 cd3 ct3), sl3⟩)
    (c3 : PySem.W.codeIn K cd3 "of_figures" = true)
    (k3 : PySem.W.keepIn K (.ref f3) = true)
    (a4 : PySem.W.nsIn K mainGlobals "bits_of" = some (some (.ref f4)))
    (l4 : K.lookup f4 = some ⟨oc4, od4, .func (PySem.W.fnOf "bits_of" "bits_of" (defArgs s_p_bits_of) (defBody s_p_bits_of) (defScope s_p_bits_of) .none kV4 dc4 pm4 an4 cd4 ct4), sl4⟩)
    (c4 : PySem.W.codeIn K cd4 "bits_of" = true)
    (k4 : PySem.W.keepIn K (.ref f4) = true)
    (a5 : PySem.W.nsIn K mainGlobals "how_many" = some (some (.ref f5)))
    (l5 : K.lookup f5 = some ⟨oc5, od5, .func (PySem.W.fnOf "how_many" "how_many" (defArgs s_p_how_many) (defBody s_p_how_many) (defScope s_p_how_many) .none kV5 dc5 pm5 an5 cd5 ct5), sl5⟩)
    (c5 : PySem.W.codeIn K cd5 "how_many" = true)
    (k5 : PySem.W.keepIn K (.ref f5) = true)
    (a6 : PySem.W.nsIn K mainGlobals "figures" = some (some (.ref f6)))
    (l6 : K.lookup f6 = some ⟨oc6, od6, .func (PySem.W.fnOf "figures" "figures" (defArgs s_p_figures) (defBody s_p_figures) (defScope s_p_figures) .none kV6 dc6 pm6 an6 cd6 ct6), sl6⟩)
    (c6 : PySem.W.codeIn K cd6 "figures" = true)
    (k6 : PySem.W.keepIn K (.ref f6) = true)
    (a7 : PySem.W.nsIn K mainGlobals "_law_truth" = some (some (.ref f7)))
    (l7 : K.lookup f7 = some ⟨oc7, od7, .func (PySem.W.fnOf "_law_truth" "_law_truth" (defArgs s_truth) (defBody s_truth) (defScope s_truth) .none kV7 dc7 pm7 an7 cd7 ct7), sl7⟩)
    (c7 : PySem.W.codeIn K cd7 "_law_truth" = true)
    (k7 : PySem.W.keepIn K (.ref f7) = true)
    (a8 : PySem.W.nsIn K mainGlobals "stands_out" = some (some (.ref f8)))
    (l8 : K.lookup f8 = some ⟨oc8, od8, .func (PySem.W.fnOf "stands_out" "stands_out" (defArgs s_p_stands_out) (defBody s_p_stands_out) (defScope s_p_stands_out) .none kV8 dc8 pm8 an8 cd8 ct8), sl8⟩)
    (c8 : PySem.W.codeIn K cd8 "stands_out" = true)
    (k8 : PySem.W.keepIn K (.ref f8) = true)
    (a9 : PySem.W.nsIn K mainGlobals "figure" = some (some (.ref f9)))
    (l9 : K.lookup f9 = some ⟨oc9, od9, .func (PySem.W.fnOf "figure" "figure" (defArgs s_p_figure) (defBody s_p_figure) (defScope s_p_figure) .none kV9 dc9 pm9 an9 cd9 ct9), sl9⟩)
    (c9 : PySem.W.codeIn K cd9 "figure" = true)
    (k9 : PySem.W.keepIn K (.ref f9) = true)
    (a10 : PySem.W.nsIn K mainGlobals "fits" = some (some (.ref f10)))
    (l10 : K.lookup f10 = some ⟨oc10, od10, .func (PySem.W.fnOf "fits" "fits" (defArgs s_p_fits) (defBody s_p_fits) (defScope s_p_fits) .none kV10 dc10 pm10 an10 cd10 ct10), sl10⟩)
    (c10 : PySem.W.codeIn K cd10 "fits" = true)
    (k10 : PySem.W.keepIn K (.ref f10) = true)
    (a11 : PySem.W.nsIn K mainGlobals "_law_bits" = some (some (.ref f11)))
    (l11 : K.lookup f11 = some ⟨oc11, od11, .func (PySem.W.fnOf "_law_bits" "_law_bits" (defArgs s_bits) (defBody s_bits) (defScope s_bits) .none kV11 dc11 pm11 an11 cd11 ct11), sl11⟩)
    (c11 : PySem.W.codeIn K cd11 "_law_bits" = true)
    (k11 : PySem.W.keepIn K (.ref f11) = true)
    (a12 : PySem.W.nsIn K mainGlobals "ones" = some (some (.ref f12)))
    (l12 : K.lookup f12 = some ⟨oc12, od12, .func (PySem.W.fnOf "ones" "ones" (defArgs s_p_ones) (defBody s_p_ones) (defScope s_p_ones) .none kV12 dc12 pm12 an12 cd12 ct12), sl12⟩)
    (c12 : PySem.W.codeIn K cd12 "ones" = true)
    (k12 : PySem.W.keepIn K (.ref f12) = true)
    (a13 : PySem.W.nsIn K mainGlobals "_law_right" = some (some (.ref f13)))
    (l13 : K.lookup f13 = some ⟨oc13, od13, .func (PySem.W.fnOf "_law_right" "_law_right" (defArgs s_right) (defBody s_right) (defScope s_right) .none kV13 dc13 pm13 an13 cd13 ct13), sl13⟩)
    (c13 : PySem.W.codeIn K cd13 "_law_right" = true)
    (k13 : PySem.W.keepIn K (.ref f13) = true)
    (a14 : PySem.W.nsIn K mainGlobals "law" = some (some (.ref f14)))
    (l14 : K.lookup f14 = some ⟨oc14, od14, .func (PySem.W.fnOf "law" "law" (defArgs s_law) (defBody s_law) (defScope s_law) .none kV14 dc14 pm14 an14 cd14 ct14), sl14⟩)
    (c14 : PySem.W.codeIn K cd14 "law" = true)
    (k14 : PySem.W.keepIn K (.ref f14) = true)
    (z0 : PySem.W.nsIn K mainGlobals "all" = some none)
    (z1 : PySem.W.nsIn K mainGlobals "bool" = some none)
    (z2 : PySem.W.nsIn K mainGlobals "divmod" = some none)
    (z3 : PySem.W.nsIn K mainGlobals "int" = some none)
    (z4 : PySem.W.nsIn K mainGlobals "isinstance" = some none)
    (z5 : PySem.W.nsIn K mainGlobals "len" = some none)
    (z6 : PySem.W.nsIn K mainGlobals "max" = some none)
    (z7 : PySem.W.nsIn K mainGlobals "min" = some none)
    (z8 : PySem.W.nsIn K mainGlobals "range" = some none)
    (z9 : PySem.W.nsIn K mainGlobals "reversed" = some none)
    (z10 : PySem.W.nsIn K mainGlobals "sum" = some none)
    (z11 : PySem.W.nsIn K mainGlobals "zip" = some none)
    (zm : PySem.W.nsIn K cStatics "sys.int_max_str_digits" = some none)
    : ∃ fd : FuncData, (∀ (s : Shared) (v : Value), BindsTo s fd ⟨[v], []⟩ [("script", v)]) ∧ ∀ base : Heap, K.In base → base.Ns mainGlobals mg → FnOk l.prog w K mg base CX0 4 fa fd ["script"] (sp_law K) := by
  have e := hfa.symm.trans (PySem.W.mg_of X G a14)
  cases e
  have F0 := fun_mk (st := s_box) l0 c0 k0
  have b0 := F0.binds (ps := ["script", "k"]) fun _ _ _ _ _ _ us hl => match us, hl with | [_, _], _ => rfl
  have F1 := fun_mk (st := s_take) l1 c1 k1
  have b1 := F1.binds (ps := ["box", "wide"]) fun _ _ _ _ _ _ us hl => match us, hl with | [_, _], _ => rfl
  have F2 := fun_mk (st := s_rows_of) l2 c2 k2
  have b2 := F2.binds (ps := ["box", "base"]) fun _ _ _ _ _ _ us hl => match us, hl with | [_, _], _ => rfl
  have F3 := fun_mk (st := s_p_of_figures) l3 c3 k3
  have b3 := F3.binds (ps := ["some", "base"]) fun _ _ _ _ _ _ us hl => match us, hl with | [_, _], _ => rfl
  have F4 := fun_mk (st := s_p_bits_of) l4 c4 k4
  have b4 := F4.binds (ps := ["number"]) fun _ _ _ _ _ _ us hl => match us, hl with | [_], _ => rfl
  have F5 := fun_mk (st := s_p_how_many) l5 c5 k5
  have b5 := F5.binds (ps := ["number"]) fun _ _ _ _ _ _ us hl => match us, hl with | [_], _ => rfl
  have F6 := fun_mk (st := s_p_figures) l6 c6 k6
  have b6 := F6.binds (ps := ["number", "base", "many"]) fun _ _ _ _ _ _ us hl => match us, hl with | [_, _, _], _ => rfl
  have F7 := fun_mk (st := s_truth) l7 c7 k7
  have b7 := F7.binds (ps := ["found", "due"]) fun _ _ _ _ _ _ us hl => match us, hl with | [_, _], _ => rfl
  have F8 := fun_mk (st := s_p_stands_out) l8 c8 k8
  have b8 := F8.binds (ps := ["one", "other"]) fun _ _ _ _ _ _ us hl => match us, hl with | [_, _], _ => rfl
  have F9 := fun_mk (st := s_p_figure) l9 c9 k9
  have b9 := F9.binds (ps := ["number", "base", "k"]) fun _ _ _ _ _ _ us hl => match us, hl with | [_, _, _], _ => rfl
  have F10 := fun_mk (st := s_p_fits) l10 c10 k10
  have b10 := F10.binds (ps := ["one", "other"]) fun _ _ _ _ _ _ us hl => match us, hl with | [_, _], _ => rfl
  have F11 := fun_mk (st := s_bits) l11 c11 k11
  have b11 := F11.binds (ps := ["number"]) fun _ _ _ _ _ _ us hl => match us, hl with | [_], _ => rfl
  have F12 := fun_mk (st := s_p_ones) l12 c12 k12
  have b12 := F12.binds (ps := ["base", "many"]) fun _ _ _ _ _ _ us hl => match us, hl with | [_, _], _ => rfl
  have F13 := fun_mk (st := s_right) l13 c13 k13
  have b13 := F13.binds (ps := ["one", "other", "base", "pick"]) fun _ _ _ _ _ _ us hl => match us, hl with | [_, _, _, _], _ => rfl
  have F14 := fun_mk (st := s_law) l14 c14 k14
  have b14 := F14.binds (ps := ["script"]) fun _ _ _ _ _ _ us hl => match us, hl with | [_], _ => rfl
  exact ⟨PySem.W.fnOf "law" "law" (defArgs s_law) (defBody s_law) (defScope s_law) .none kV14 dc14 pm14 an14 cd14 ct14, fun s v => .of_eq rfl, fun base _ _ => ok_law (⟨_, _, F0, PySem.W.mg_of X G a0, b0, _, _, F1, PySem.W.mg_of X G a1, b1, _, _, F2, PySem.W.mg_of X G a2, b2, _, _, F3, PySem.W.mg_of X G a3, b3, _, _, F4, PySem.W.mg_of X G a4, b4, _, _, F5, PySem.W.mg_of X G a5, b5, _, _, F6, PySem.W.mg_of X G a6, b6, _, _, F7, PySem.W.mg_of X G a7, b7, _, _, F8, PySem.W.mg_of X G a8, b8, _, _, F9, PySem.W.mg_of X G a9, b9, _, _, F10, PySem.W.mg_of X G a10, b10, _, _, F11, PySem.W.mg_of X G a11, b11, _, _, F12, PySem.W.mg_of X G a12, b12, _, _, F13, PySem.W.mg_of X G a13, b13, _, _, F14, PySem.W.mg_of X G a14, b14, PySem.W.mg_none_of X G z0, PySem.W.mg_none_of X G z1, PySem.W.mg_none_of X G z2, PySem.W.mg_none_of X G z3, PySem.W.mg_none_of X G z4, PySem.W.mg_none_of X G z5, PySem.W.mg_none_of X G z6, PySem.W.mg_none_of X G z7, PySem.W.mg_none_of X G z8, PySem.W.mg_none_of X G z9, PySem.W.mg_none_of X G z10, PySem.W.mg_none_of X G z11, zm⟩ : Txt K mg)⟩
end K21
open PySem PySem.W PyProof.Rows
set_option maxRecDepth 100000 in
set_option maxHeartbeats 0 in
theorem PySem.Challenge.cw_runsums_k21_whole_masks_figure_by_figure_holds : PySem.Challenge.rw_runsums_k21_whole_masks_figure_by_figure.Holds := by
  w_on; o_law; k_head; (case hw => w_witness2)
  k_fill
  refine L2.walk_of (l := PySem.Challenge.rw_runsums_k21_whole_masks_figure_by_figure) (n := 63) (k := 4) (x := "script") (CX := fun _ => L2.CX0) (sp := fun w => K21.sp_law _) rfl (by decide) rfl ⟨rfl, by decide, by decide⟩ (fun w h Y => PySem.W.kIn_of Y) ?F (fun _ _ a ns hl _ hS => K21.sp_law_of hl hS) (fun _ _ _ _ _ h => h)
  case F =>
    intro w mg fa h KX G hmg
    refine' K21.all_mk KX G hmg ?a0 ?l0 ?c0 ?k0 ?a1 ?l1 ?c1 ?k1 ?a2 ?l2 ?c2 ?k2 ?a3 ?l3 ?c3 ?k3 ?a4 ?l4 ?c4 ?k4 ?a5 ?l5 ?c5 ?k5 ?a6 ?l6 ?c6 ?k6 ?a7 ?l7 ?c7 ?k7 ?a8 ?l8 ?c8 ?k8 ?a9 ?l9 ?c9 ?k9 ?a10 ?l10 ?c10 ?k10 ?a11 ?l11 ?c11 ?k11 ?a12 ?l12 ?c12 ?k12 ?a13 ?l13 ?c13 ?k13 ?a14 ?l14 ?c14 ?k14 ?z0 ?z1 ?z2 ?z3 ?z4 ?z5 ?z6 ?z7 ?z8 ?z9 ?z10 ?z11 ?zm
    (case a0 => k_is)
    (case l0 => k_is)
    (case c0 => k_is)
    (case k0 => k_is)
    (case a1 => k_is)
    (case l1 => k_is)
    (case c1 => k_is)
    (case k1 => k_is)
    (case a2 => k_is)
    (case l2 => k_is)
    (case c2 => k_is)
    (case k2 => k_is)
    (case a3 => k_is)
    (case l3 => k_is)
    (case c3 => k_is)
    (case k3 => k_is)
    (case a4 => k_is)
    (case l4 => k_is)
    (case c4 => k_is)
    (case k4 => k_is)
    (case a5 => k_is)
    (case l5 => k_is)
    (case c5 => k_is)
    (case k5 => k_is)
    (case a6 => k_is)
    (case l6 => k_is)
    (case c6 => k_is)
    (case k6 => k_is)
    (case a7 => k_is)
    (case l7 => k_is)
    (case c7 => k_is)
    (case k7 => k_is)
    (case a8 => k_is)
    (case l8 => k_is)
    (case c8 => k_is)
    (case k8 => k_is)
    (case a9 => k_is)
    (case l9 => k_is)
    (case c9 => k_is)
    (case k9 => k_is)
    (case a10 => k_is)
    (case l10 => k_is)
    (case c10 => k_is)
    (case k10 => k_is)
    (case a11 => k_is)
    (case l11 => k_is)
    (case c11 => k_is)
    (case k11 => k_is)
    (case a12 => k_is)
    (case l12 => k_is)
    (case c12 => k_is)
    (case k12 => k_is)
    (case a13 => k_is)
    (case l13 => k_is)
    (case c13 => k_is)
    (case k13 => k_is)
    (case a14 => k_is)
    (case l14 => k_is)
    (case c14 => k_is)
    (case k14 => k_is)
    (case z0 => k_is)
    (case z1 => k_is)
    (case z2 => k_is)
    (case z3 => k_is)
    (case z4 => k_is)
    (case z5 => k_is)
    (case z6 => k_is)
    (case z7 => k_is)
    (case z8 => k_is)
    (case z9 => k_is)
    (case z10 => k_is)
    (case z11 => k_is)
    (case zm => k_is)

