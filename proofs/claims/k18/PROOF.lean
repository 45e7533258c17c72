import PyProof.Rows.All
import Wide.All
import OpenK.AllK
import Wide.FinOn
import HandS.ForMost
import HandS.Wide
import HandS.WideBits
import HandS.WideMore
import HandS.Flow
import HandS.IsInst
import HandS.Style
import HandS.TupAny
import HandS.TupMul
import HandS.Deep
import HandS.RaiseMore
import HandS.Walk
import HandS.Codes
import HandS.Rev
import KE.KIntText
import HandS.IntHex
import PyProof.Rows.StrIntSpec
import PyProof.FString3
import HandS.FStr
import PyProof.EnumMake
import KE.GoesEnum
import HandS.Iter
import PySem.Challenge.RW_runsums_k18_bits_written_and_read
set_option Elab.async false
set_option linter.all false
set_option maxRecDepth 100000
set_option maxHeartbeats 4000000
/-! own layer over the hand layer: heaps that grow, rules for values of any kind, readings step by step -/
namespace RV
open PySem PySem.Spec L2
open PyProof.Rows hiding St

/-! ### heaps -/
/-- all that was tracked is as it was -/
structure Sm (H H' : Hp) : Prop where
  to : ∀ a o, H a = some o → H' a = some o
/-- all but what stands at b is as it was -/
structure Chg (b : Addr) (H H' : Hp) : Prop where
  to : ∀ a o, a ≠ b → H a = some o → H' a = some o
theorem Sm.refl (H : Hp) : Sm H H := ⟨fun _ _ h => h⟩
theorem Sm.trans {H H1 H2 : Hp} (a : Sm H H1) (b : Sm H1 H2) : Sm H H2 := ⟨fun c o h => b.to c o (a.to c o h)⟩
theorem Sm.same {H H1 : Hp} (a : Sm H H1) : Same H H1 := a.to
theorem Same.sm {H H1 : Hp} (a : Same H H1) : Sm H H1 := ⟨a⟩
theorem Chg.refl (b : Addr) (H : Hp) : Chg b H H := ⟨fun _ _ _ h => h⟩
theorem Chg.trans {b : Addr} {H H1 H2 : Hp} (a : Chg b H H1) (c : Chg b H1 H2) : Chg b H H2 := ⟨fun d o n h => c.to d o n (a.to d o n h)⟩
theorem Sm.chg {b : Addr} {H H1 : Hp} (a : Sm H H1) : Chg b H H1 := ⟨fun d o _ h => a.to d o h⟩
theorem Chg.sm {b : Addr} {H H1 H2 : Hp} (c : Sm H H1) (n : H b = none) (a : Chg b H1 H2) : Sm H H2 := ⟨fun d o h => a.to d o (ne_of_none h n) (c.to d o h)⟩
theorem Sm.free {H H' : Hp} (e : Sm H H') {l : Addr} (h : H' l = none) : H l = none := by
  cases q : H l with
  | none => rfl
  | some o =>
    rw [e.to l o q] at h
    cases h
theorem sm_upd {H : Hp} {p : Addr} {o : HO} (h : H p = none) : Sm H (upd H p o) := ⟨fun b x e => by
  rw [upd_ne (ne_of_none e h)]
  exact e⟩
theorem chg_upd {H : Hp} {p : Addr} {o : HO} : Chg p H (upd H p o) := ⟨fun b x n e => by
  rw [upd_ne n]
  exact e⟩
/-- the heap without what stands at b -/
def hide (b : Addr) (H : Hp) : Hp := fun a => if a = b then none else H a
theorem hide_ne {b a : Addr} {H : Hp} (n : a ≠ b) : hide b H a = H a := by unfold hide; rw [if_neg n]
theorem hide_self {b : Addr} {H : Hp} : hide b H b = none := by unfold hide; rw [if_pos rfl]
theorem hide_some {b a : Addr} {H : Hp} {o : HO} (h : hide b H a = some o) : a ≠ b ∧ H a = some o := by
  by_cases e : a = b
  · subst e
    rw [hide_self] at h
    cases h
  · rw [hide_ne e] at h
    exact ⟨e, h⟩
theorem hide_sm {b : Addr} {H : Hp} : Sm (hide b H) H := ⟨fun _ _ h => (hide_some h).2⟩
theorem Chg.hide {b : Addr} {H H' : Hp} (c : Chg b H H') : Sm (RV.hide b H) (RV.hide b H') := ⟨fun a o h => by
  obtain ⟨n, e⟩ := hide_some h
  rw [hide_ne n]
  exact c.to a o n e⟩
theorem hide_new {b p : Addr} {H H' : Hp} {o u : HO} (hb : H b = some u) (np : H p = none) (hp : H' p = some o) : RV.hide b H' p = some o := by
  rw [hide_ne (ne_of_none hb np).symm]
  exact hp
theorem Sm.seq {K : PySem.W.Frag} {H H' : Hp} {a : Addr} {xs : List V} (e : Sm H H') (h : SqL K H a xs) : SqL K H' a xs := Same.seq e.to h
theorem Sm.seqT {K : PySem.W.Frag} {H H' : Hp} {a : Addr} {xs : List V} (e : Sm H H') (h : SqT K H a xs) : SqT K H' a xs := by
  rcases h with (h | ⟨o, h⟩) | h
  · exact .inl (.inl (e.to _ _ h))
  · exact .inl (.inr ⟨o, e.to _ _ h⟩)
  · exact .inr h
mutual
theorem Sm.dp {K : PySem.W.Frag} {H H' : Hp} (e : Sm H H') : ∀ {v : V} {d : PyData}, Dp K H v d → Dp K H' v d
  | _, _, .non => .non
  | _, _, .bl b => .bl b
  | _, _, .int i => .int i
  | _, _, .str x => .str x
  | _, _, .lst h t => .lst (e.seq h) (e.dps t)
  | _, _, .tup h t => .tup (e.seqT h) (e.dps t)
theorem Sm.dps {K : PySem.W.Frag} {H H' : Hp} (e : Sm H H') : ∀ {vs : List V} {ds : List PyData}, DpAll K H vs ds → DpAll K H' vs ds
  | _, _, .nil => .nil
  | _, _, .cons h t => .cons (e.dp h) (e.dps t)
end
theorem DpAll.length {K : PySem.W.Frag} {H : Hp} : ∀ {vs : List V} {ds : List PyData}, DpAll K H vs ds → vs.length = ds.length
  | _, _, .nil => rfl
  | _, _, .cons _ t => congrArg Nat.succ (DpAll.length t)
theorem DpAll.get {K : PySem.W.Frag} {H : Hp} : ∀ {vs : List V} {ds : List PyData} {i : Nat} {d : PyData}, DpAll K H vs ds → ds[i]? = some d → ∃ v, vs[i]? = some v ∧ Dp K H v d
  | _, _, _, _, .nil, e => by simp at e
  | _, _, 0, _, .cons r _, e => by
    simp at e
    subst e
    exact ⟨_, rfl, r⟩
  | _, _, i + 1, d, .cons _ t, e => by
    obtain ⟨v, h1, h2⟩ := DpAll.get (i := i) (d := d) t (by simpa using e)
    exact ⟨v, by simpa using h1, h2⟩
theorem DpAll.app {K : PySem.W.Frag} {H : Hp} : ∀ {vs us : List V} {ds es : List PyData}, DpAll K H vs ds → DpAll K H us es → DpAll K H (vs ++ us) (ds ++ es)
  | _, _, _, _, .nil, s => s
  | _, _, _, _, .cons r t, s => .cons r (DpAll.app t s)
theorem DpAll.snoc {K : PySem.W.Frag} {H : Hp} {vs : List V} {v : V} {ds : List PyData} {d : PyData} (h : DpAll K H vs ds) (r : Dp K H v d) : DpAll K H (vs ++ [v]) (ds ++ [d]) := DpAll.app h (.cons r .nil)
/-- a list of two ints, the drawer -/
def BoxAt (H : Hp) (b : Addr) : Prop := ∃ c s : Int, H b = some (.lst [.int c, .int s])
theorem BoxAt.sm {H H' : Hp} {b : Addr} (e : Sm H H') (h : BoxAt H b) : BoxAt H' b := by
  obtain ⟨c, s, h⟩ := h
  exact ⟨c, s, e.to _ _ h⟩

/-! ### rules for values of any kind -/
section
variable {X : Cx}
def rStrRep : R2 := fun x y H Q => ∃ (z : Str) (n : Nat), x = .str z ∧ y = .int (n : Int) ∧ z.length * n ≤ 16777216 ∧ n ≤ 16777216 ∧ Q (.str ⟨((List.replicate n z.cps.toList).flatten).toArray⟩) H
theorem flat_rep (c : Array Nat) : ∀ (n : Nat) (acc : Array Nat), (List.replicate n c).foldl (· ++ ·) acc = acc ++ ((List.replicate n c.toList).flatten).toArray
  | 0, acc => by simp
  | n + 1, acc => by
    rw [List.replicate_succ, List.foldl_cons, flat_rep c n, List.replicate_succ, List.flatten_cons]
    apply Array.toList_inj.mp
    simp
theorem line24 : (16777216 : Nat) ≤ sizeLine := by rw [sizeLine_eq]; decide
theorem op_strRep : OpR X (binaryOp .Mult) rStrRep := by
  intro pins s σ H x y v u Q I rx ry h
  obtain ⟨z, n, rfl, rfl, hz, hn, q⟩ := h
  obtain ⟨t, rfl⟩ := rx
  obtain ⟨t', rfl⟩ := ry
  have b63 : (2 : Int) ^ 63 = 9223372036854775808 := by decide
  refine PySem.P.mul_str ?_ (fun _ _ => ?_) (fun _ _ => ?_) ?_
  · rw [b63, decide_eq_false (by omega), decide_eq_false (by omega)]
    rfl
  · have h1 : (z.length : Int) * (n : Int) ≤ 2 ^ 63 - 1 := by
      rw [b63]
      have h := Int.ofNat_le.mpr hz
      rw [Int.natCast_mul] at h
      exact Int.le_trans h (by decide)
    intro h2
    by_cases h0 : n = 0
    · omega
    · have h3 : (0 : Int) < (n : Int) := by omega
      have h4 := Int.le_ediv_of_mul_le h3 h1
      omega
  · show Builtin.Str.tooLong (z.length * ((n : Int)).toNat) = false
    rw [Int.toNat_natCast]
    have := line24
    unfold Builtin.Str.tooLong
    exact decide_eq_false (by omega)
  · by_cases h1 : (n : Int) < 1
    · rw [if_pos h1]
      have e0 : n = 0 := by omega
      subst e0
      have q' : Q (.str Str.empty) H := q
      refine ⟨?_, ⟨.str Str.empty, H, I.tok _, ⟨_, rfl⟩, q'⟩⟩
      show Str.empty.length ≤ sizeLine
      exact Nat.zero_le _
    · rw [if_neg h1]
      by_cases h2 : ((n : Int) == 1 || z.length == 0) = true
      · rw [if_pos h2]
        have e : (⟨((List.replicate n z.cps.toList).flatten).toArray⟩ : Str) = z := by
          rw [Bool.or_eq_true] at h2
          rcases h2 with h2 | h2
          · have e1 : (n : Int) = 1 := by simpa using h2
            have e1 : n = 1 := by omega
            subst e1
            simp
          · have e1 : z.length = 0 := by simpa using h2
            have e2 : z.cps = #[] := Array.eq_empty_of_size_eq_zero e1
            cases z with
            | mk c =>
              simp only at e2
              subst e2
              simp
        rw [e] at q
        exact ⟨.str z, H, I, ⟨t, rfl⟩, q⟩
      · rw [if_neg h2]
        have e : (List.replicate ((n : Int)).toNat z.cps).foldl (· ++ ·) #[] = ((List.replicate n z.cps.toList).flatten).toArray := by
          rw [Int.toNat_natCast, flat_rep]
          simp
        refine ⟨?_, ?_⟩
        · rw [e]
          show (((List.replicate n z.cps.toList).flatten).toArray).size ≤ sizeLine
          rw [List.size_toArray, List.length_flatten, List.map_replicate, List.sum_replicate_nat, Array.length_toList]
          have hz' : z.cps.size * n ≤ 16777216 := hz
          have := line24
          rw [Nat.mul_comm] at hz'
          omega
        · rw [e]
          exact ⟨.str _, H, I.tok _, ⟨_, rfl⟩, q⟩
end

section
variable {X : Cx}
/-! sums, products, equality, in, len, slices, loops: the value's own kind chooses the rule -/
def rAddA (K : PySem.W.Frag) : R2 := fun x y H Q => rI0 (fun i j => .int (i + j)) x y H Q ∨ (∃ i j, x = .str i ∧ y = .str j ∧ i.length + j.length ≤ sizeLine ∧ Q (.str (i ++ j)) H) ∨ rCat x y H Q ∨ rCatA K x y H Q
theorem op_addA : OpR X (binaryOp .Add) (rAddA X.K) := op_add.or (op_add_str.or (op_cat.or op_catA))
def rMulA (K : PySem.W.Frag) : R2 := fun x y H Q => rI CMul (fun i j => .int (i * j)) x y H Q ∨ rI CMulW (fun i j => .int (i * j)) x y H Q ∨ rStrRep x y H Q ∨ rRep x y H Q ∨ rRepT K x y H Q
theorem op_mulA : OpR X (binaryOp .Mult) (rMulA X.K) := op_mul.or (op_mulW.or (op_strRep.or (op_rep.or op_repT)))
def rEqA (K : PySem.W.Frag) : R2 := fun x y H Q => rEq x y H Q ∨ rEqD K x y H Q
def rNeA (K : PySem.W.Frag) : R2 := fun x y H Q => rNe x y H Q ∨ rNeD K x y H Q
theorem op_eqA (hu : X.A.units + 64 < cLine) : OpR X (compareOp .Eq) (rEqA X.K) := op_eq.or (op_eqD hu)
theorem op_neA (hu : X.A.units + 64 < cLine) : OpR X (compareOp .NotEq) (rNeA X.K) := op_ne.or (op_neD hu)
def rInStr (neg : Bool) : R2 := fun x y H Q => ∃ (c : Nat) (z : Str), x = .str ⟨#[c]⟩ ∧ y = .str z ∧ Q (.bl (if neg then !decide (c ∈ z.cps.toList) else decide (c ∈ z.cps.toList))) H
def rInA (K : PySem.W.Frag) : R2 := fun x y H Q => rInStr false x y H Q ∨ rIn K false x y H Q
def rNotInA (K : PySem.W.Frag) : R2 := fun x y H Q => rInStr true x y H Q ∨ rIn K true x y H Q
theorem op_inA : OpR X (compareOp .In) (rInA X.K) := OpR.or op_in_sign op_in_seq
theorem op_notInA : OpR X (compareOp .NotIn) (rNotInA X.K) := OpR.or op_notIn_sign op_notIn_seq
def rSlAny (K : PySem.W.Frag) : V → Option Int → Option Int → Hp → VK → Prop := fun x lo hi H Q => rSlS x lo hi H Q ∨ rSlL K x lo hi H Q ∨ rSlA K x lo hi H Q
theorem sl_any : SlR X (rSlAny X.K) := sl_str.or (sl_list.or sl_tupA)
def rLenA (K : PySem.W.Frag) : List V → Hp → VK → Prop := fun xs H Q => (∃ x n, xs = [x] ∧ LenV K x H n ∧ Q (.int n) H) ∨ (∃ a kvs, xs = [V.ref a] ∧ H a = some (.dK kvs) ∧ Q (.int kvs.length) H)
theorem call_lenA : CallR X (.builtin "len") (rLenA X.K) := call_len.or call_lenD
def rMaxA (K : PySem.W.Frag) : List V → Hp → VK → Prop := fun xs H Q => (∃ i j, xs = [.int i, .int j] ∧ Q (.int (if j > i then j else i)) H) ∨ rMax K xs H Q
theorem call_maxA (hc : X.calm = true) : CallR X (.builtin "max") (rMaxA X.K) := (call_max2 hc).or (cr_max hc)
def rMinA (K : PySem.W.Frag) : List V → Hp → VK → Prop := fun xs H Q => (∃ i j, xs = [.int i, .int j] ∧ Q (.int (if j < i then j else i)) H) ∨ rMin K xs H Q
theorem call_minA (hc : X.calm = true) : CallR X (.builtin "min") (rMinA X.K) := (call_min2 hc).or (cr_min hc)
theorem call_strA : CallR X (.type "str") (fun xs H Q => (∃ i, xs = [.int i] ∧ i.natAbs.log2 < 1920 ∧ Q (.str (toString i)) H) ∨ (∃ a, xs = [.str a] ∧ Q (.str a) H)) := call_str_int.or SkE.call_str_str
theorem call_intA : CallR X (.type "int") (fun xs H Q => ((∃ i, xs = [.int i] ∧ Q (.int i) H) ∨ ∃ k, xs = [.bl k] ∧ Q (.int (if k then 1 else 0)) H) ∨ (∃ a n, xs = [.str a] ∧ PySem.intText? a = some n ∧ a.length ≤ 640 ∧ Q (.int n) H)) := call_int1.or call_int_str
theorem call_listA : CallR X (.type "list") (fun xs H Q => ∃ p ys, xs = [.ref p] ∧ (SqL X.K H p ys ∨ SqT X.K H p ys) ∧ ∀ l, H l = none → Q (.ref l) (upd H l (.lst ys))) := call_list_of
theorem call_tupleA : CallR X (.type "tuple") (fun xs H Q => ∃ p ys, xs = [.ref p] ∧ ((SqL X.K H p ys ∧ ∀ l, H l = none → Q (.ref l) (upd H l (.tup ys))) ∨ (SqT X.K H p ys ∧ Q (.ref p) H))) := call_tuple_of
theorem PI.or {tg l : Expr} {w1 w2 : TI} (h1 : PI X tg l w1) (h2 : PI X tg l w2) : PI X tg l (fun σ H R => w1 σ H R ∨ w2 σ H R) := ⟨fun pins s σ H R I h => h.elim (fun q => h1.run pins s σ H R I q) (fun q => h2.run pins s σ H R I q)⟩
def iAny (K : PySem.W.Frag) (tl : TE) : TI := fun σ H R => iList K tl σ H R ∨ iTup K tl σ H R ∨ iStr tl σ H R
theorem pi_any {tg l : Expr} {tl : TE} (hl : PE X l tl) : PI X tg l (iAny X.K tl) := PI.or (pi_list hl) (PI.or (pi_tup hl) (pi_str hl))
end

/-! ### readings, one construct a time -/
section
variable {σ : St} {H : Hp} {Q : VK} {D : Ends} {K : PySem.W.Frag}
theorem r_var {i : Nat} {v : V} (h : σ[i]? = some (some v)) (k : Q v H) : tVar i σ H Q := ⟨v, h, k⟩
theorem r_C {v : V} (k : Q v H) : tC v σ H Q := k
theorem r_op {r : R2} {ta tb : TE} (h : ta σ H fun x H1 => tb σ H1 fun y H2 => r x y H2 Q) : tOp r ta tb σ H Q := h
theorem r_un {r : V → Hp → VK → Prop} {ta : TE} (h : ta σ H fun x H1 => r x H1 Q) : tUn r ta σ H Q := h
theorem r_I {C : Int → Int → Prop} {g : Int → Int → V} {i j : Int} (c : C i j) (k : Q (g i j) H) : rI C g (.int i) (.int j) H Q := ⟨i, j, rfl, rfl, c, k⟩
theorem r_I0 {g : Int → Int → V} {i j : Int} (k : Q (g i j) H) : rI0 g (.int i) (.int j) H Q := ⟨i, j, rfl, rfl, k⟩
theorem r_U {g : Int → V} {i : Int} (k : Q (g i) H) : rU g (.int i) H Q := ⟨i, rfl, k⟩
theorem r_addI {i j : Int} (k : Q (.int (i + j)) H) : rAddA K (.int i) (.int j) H Q := .inl ⟨i, j, rfl, rfl, k⟩
theorem r_addS {i j : Str} (h : i.length + j.length ≤ sizeLine) (k : Q (.str (i ++ j)) H) : rAddA K (.str i) (.str j) H Q := .inr (.inl ⟨i, j, rfl, rfl, h, k⟩)
theorem r_addL {a b : Addr} {xs ys : List V} (ha : H a = some (.lst xs)) (hb : H b = some (.lst ys)) (hz : xs.length + ys.length ≤ sizeLine)
    (k : ∀ p H', Sm H H' → H p = none → H' p = some (.lst (xs ++ ys)) → Q (.ref p) H') : rAddA K (.ref a) (.ref b) H Q :=
  .inr (.inr (.inl ⟨a, b, xs, ys, rfl, rfl, ha, hb, hz, fun p np => k p _ (sm_upd np) np upd_same⟩))
theorem r_addT {a b : Addr} {xs ys : List V} (ha : SqT K H a xs) (hb : SqT K H b ys) (hz : xs.length + ys.length ≤ sizeLine)
    (k : ∀ p H', Sm H H' → SqT K H' p (xs ++ ys) → Q (.ref p) H') : rAddA K (.ref a) (.ref b) H Q :=
  .inr (.inr (.inr ⟨a, b, xs, ys, rfl, rfl, ha, hb, hz, fun e => k b H (Sm.refl H) (by rw [e, List.nil_append]; exact hb), fun _ e => k a H (Sm.refl H) (by rw [e, List.append_nil]; exact ha), fun _ _ p np => k p _ (sm_upd np) (SqT.of upd_same)⟩))
theorem r_mulS {i j : Int} (c : CMul i j) (k : Q (.int (i * j)) H) : rMulA K (.int i) (.int j) H Q := .inl ⟨i, j, rfl, rfl, c, k⟩
theorem r_mulW {i j : Int} (c : CMulW i j) (k : Q (.int (i * j)) H) : rMulA K (.int i) (.int j) H Q := .inr (.inl ⟨i, j, rfl, rfl, c, k⟩)
theorem r_mulStr {z : Str} {n : Nat} {i : Int} (e : i = (n : Int)) (hz : z.length * n ≤ 16777216) (hn : n ≤ 16777216) (k : Q (.str ⟨((List.replicate n z.cps.toList).flatten).toArray⟩) H) : rMulA K (.str z) (.int i) H Q := .inr (.inr (.inl ⟨z, n, rfl, by rw [e], hz, hn, k⟩))
theorem r_mulL {a : Addr} {i : Int} {xs : List V} (ha : H a = some (.lst xs)) (h0 : -(2 ^ 63) ≤ i) (h1 : i < 2 ^ 63) (hz : xs.length * i.toNat ≤ sizeLine)
    (k : ∀ p H', Sm H H' → H p = none → H' p = some (.lst (List.replicate i.toNat xs).flatten) → Q (.ref p) H') : rMulA K (.ref a) (.int i) H Q :=
  .inr (.inr (.inr (.inl ⟨a, i, xs, rfl, rfl, ha, h0, h1, hz, fun p np => k p _ (sm_upd np) np upd_same⟩)))
theorem dec_VI {i j : Int} : decide (V.int i = V.int j) = decide (i = j) := by
  by_cases e : i = j
  · subst e
    simp
  · rw [decide_eq_false e, decide_eq_false fun z => e (V.int.inj z)]
theorem dec_VS {i j : Str} : decide (V.str i = V.str j) = decide (i = j) := by
  by_cases e : i = j
  · subst e
    simp
  · rw [decide_eq_false e, decide_eq_false fun z => e (V.str.inj z)]
theorem dec_VB {i j : Bool} : decide (V.bl i = V.bl j) = decide (i = j) := by
  by_cases e : i = j
  · subst e
    simp
  · rw [decide_eq_false e, decide_eq_false fun z => e (V.bl.inj z)]
theorem r_eqI {i j : Int} (k : Q (.bl (decide (i = j))) H) : rEqA K (.int i) (.int j) H Q := .inl ⟨rfl, by rw [dec_VI]; exact k⟩
theorem r_eqS {i j : Str} (k : Q (.bl (decide (i = j))) H) : rEqA K (.str i) (.str j) H Q := .inl ⟨rfl, by rw [dec_VS]; exact k⟩
theorem r_eqB {i j : Bool} (k : Q (.bl (decide (i = j))) H) : rEqA K (.bl i) (.bl j) H Q := .inl ⟨rfl, by rw [dec_VB]; exact k⟩
theorem r_neI {i j : Int} (k : Q (.bl (!decide (i = j))) H) : rNeA K (.int i) (.int j) H Q := .inl ⟨rfl, by rw [dec_VI]; exact k⟩
theorem r_neS {i j : Str} (k : Q (.bl (!decide (i = j))) H) : rNeA K (.str i) (.str j) H Q := .inl ⟨rfl, by rw [dec_VS]; exact k⟩
theorem r_neB {i j : Bool} (k : Q (.bl (!decide (i = j))) H) : rNeA K (.bl i) (.bl j) H Q := .inl ⟨rfl, by rw [dec_VB]; exact k⟩
theorem r_eqD {x y : V} {d e : PyData} (hx : Dp K H x d) (hy : Dp K H y e) (sx : SeqAt.shaped d = true) (sy : SeqAt.shaped e = true) (k : Q (.bl (PyData.eqv d e)) H) : rEqA K x y H Q := .inr ⟨d, e, hx, hy, sx, sy, k⟩
theorem r_neD {x y : V} {d e : PyData} (hx : Dp K H x d) (hy : Dp K H y e) (sx : SeqAt.shaped d = true) (sy : SeqAt.shaped e = true) (k : Q (.bl (!PyData.eqv d e)) H) : rNeA K x y H Q := .inr ⟨d, e, hx, hy, sx, sy, k⟩
theorem r_inS {c : Nat} {z : Str} (k : Q (.bl (decide (c ∈ z.cps.toList))) H) : rInA K (.str ⟨#[c]⟩) (.str z) H Q := .inl ⟨c, z, rfl, rfl, k⟩
theorem r_notInS {c : Nat} {z : Str} (k : Q (.bl (!decide (c ∈ z.cps.toList))) H) : rNotInA K (.str ⟨#[c]⟩) (.str z) H Q := .inl ⟨c, z, rfl, rfl, k⟩
theorem r_test {t : TE} {Q : Bool → Hp → Prop} (h : t σ H fun x H' => ∃ k, x = .bl k ∧ Q k H') : tTest t σ H Q := h
theorem r_tB {t : TE} {Q : Bool → Hp → Prop} (h : t σ H fun x H' => ∃ k, x = .bl k ∧ Q k H') : tB t σ H Q := h
theorem r_bl {b : Bool} {Q : Bool → Prop} (h : Q b) : ∃ k, V.bl b = .bl k ∧ Q k := ⟨b, rfl, h⟩
theorem r_tru_bl {b : Bool} {Q : Bool → Prop} (h : Q b) : ∃ k, TruV K (.bl b) H k ∧ Q k := ⟨b, rfl, h⟩
theorem r_tru_int {i : Int} {Q : Bool → Prop} (h : Q (i != 0)) : ∃ k, TruV K (.int i) H k ∧ Q k := ⟨_, rfl, h⟩
theorem r_and {t u : TT} {Q : Bool → Hp → Prop} (h : t σ H fun c H1 => if c = true then u σ H1 Q else Q false H1) : tAnd t u σ H Q := h
theorem r_or {t u : TT} {Q : Bool → Hp → Prop} (h : t σ H fun c H1 => if c = true then Q true H1 else u σ H1 Q) : tOr t u σ H Q := h
theorem r_not {t : TT} {Q : Bool → Hp → Prop} (h : t σ H fun c H1 => Q (!c) H1) : tNot t σ H Q := h
theorem r_notT {ta : TE} (h : ta σ H fun x H1 => ∃ k, TruV K x H1 k ∧ Q (.bl (!k)) H1) : tNotT K ta σ H Q := h
theorem r_orT {ta tb : TE} (h : ta σ H fun x H1 => ∃ k, TruV K x H1 k ∧ if k = true then Q x H1 else tb σ H1 Q) : tOrT K ta tb σ H Q := h
theorem r_andT {ta tb : TE} (h : ta σ H fun x H1 => ∃ k, TruV K x H1 k ∧ if k = true then tb σ H1 Q else Q x H1) : tAndT K ta tb σ H Q := h
theorem r_ifE {t : TT} {ta tb : TE} (h : t σ H fun c H1 => if c = true then ta σ H1 Q else tb σ H1 Q) : tIf t ta tb σ H Q := h
theorem r_nil {Q : List V → Hp → Prop} (k : Q [] H) : tNil σ H Q := k
theorem r_cons {ta : TE} {tr : TA} {Q : List V → Hp → Prop} (h : ta σ H fun x H1 => tr σ H1 fun xs H2 => Q (x :: xs) H2) : tCons ta tr σ H Q := h
theorem r_tup {t : TA} (h : t σ H fun xs H1 => xs.length ≤ sizeLine ∧ ∀ p, H1 p = none → Q (.ref p) (upd H1 p (.tup xs))) : tTup t σ H Q := h
theorem r_lst {t : TA} (h : t σ H fun xs H1 => xs.length ≤ sizeLine ∧ ∀ p, H1 p = none → Q (.ref p) (upd H1 p (.lst xs))) : tLst t σ H Q := h
theorem sz_le {n : Nat} (h : n ≤ 1000 := by decide) : n ≤ sizeLine := Nat.le_of_lt (small1000 h)
theorem r_call {sp : Sp} {E : XK} {t : TA} (h : t σ H fun vs H1 => sp vs H1 Q E) : tCall sp [] E t σ H Q := by
  unfold tCall
  have e : (fun (vs : List V) (H1 : Hp) => sp (vs ++ []) H1 Q E) = fun vs H1 => sp vs H1 Q E := by
    funext vs H1
    rw [List.append_nil]
  rw [e]
  exact h
theorem r_callK {sp : Sp} {E : XK} {t tk : TA} {gV : List V → List V → List V} (h : t σ H fun vs H1 => tk σ H1 fun zs H2 => sp (gV vs zs) H2 Q E) : tCallK sp gV E t tk σ H Q := h
theorem r_CB {r : List V → Hp → VK → Prop} {t : TA} (h : t σ H fun vs H1 => r vs H1 Q) : tCB r t σ H Q := h
/-! calls of built-ins -/
theorem r_lenS {z : Str} (h : z.length ≤ sizeLine) (k : Q (.int z.length) H) : rLenA K [.str z] H Q := .inl ⟨_, _, rfl, ⟨h, rfl⟩, k⟩
theorem r_lenL {a : Addr} {xs : List V} (h : SqL K H a xs) (k : Q (.int xs.length) H) : rLenA K [.ref a] H Q := .inl ⟨_, _, rfl, .inl ⟨xs, h, rfl⟩, k⟩
theorem r_lenT {a : Addr} {xs : List V} (h : SqT K H a xs) (k : Q (.int xs.length) H) : rLenA K [.ref a] H Q := .inl ⟨_, _, rfl, .inr ⟨xs, h, rfl⟩, k⟩
theorem r_max {i j : Int} (k : Q (.int (if j > i then j else i)) H) : rMaxA K [.int i, .int j] H Q := .inl ⟨i, j, rfl, k⟩
theorem r_min {i j : Int} (k : Q (.int (if j < i then j else i)) H) : rMinA K [.int i, .int j] H Q := .inl ⟨i, j, rfl, k⟩
theorem r_isi {x c : V} {t u : Value} {b : Bool} (hc : ClsV c u) (ht : TyX K H x t) (e : PySem.W.kitOne K t u = some b) (k : Q (.bl b) H) : rIsi K [x, c] H Q := ⟨x, c, t, u, b, rfl, hc, ht, e, k⟩
theorem r_isi_int {i : Int} {n : String} {b : Bool} (e : kitB "int" n = some b) (k : Q (.bl b) H) : rIsi K [.int i, .ty n] H Q := r_isi (.ty n) (.base (.int i)) (kit_ty e) k
theorem r_isi_bl {i : Bool} {n : String} {b : Bool} (e : kitB "bool" n = some b) (k : Q (.bl b) H) : rIsi K [.bl i, .ty n] H Q := r_isi (.ty n) (.base (.bl i)) (kit_ty e) k
theorem r_isi_str {i : Str} {n : String} {b : Bool} (e : kitB "str" n = some b) (k : Q (.bl b) H) : rIsi K [.str i, .ty n] H Q := r_isi (.ty n) (.base (.str i)) (kit_ty e) k
/-! items and slices -/
theorem r_ixL {a : Addr} {xs : List V} {i : Int} {v : V} (h : SqL K H a xs) (e : atI xs i = some v) (k : Q v H) : rIx K (.ref a) (.int i) H Q := .inl ⟨a, xs, i, v, rfl, rfl, h, e, k⟩
theorem r_ixT {a : Addr} {xs : List V} {i : Int} {v : V} (h : SqT K H a xs) (e : atI xs i = some v) (k : Q v H) : rIx K (.ref a) (.int i) H Q := .inr (.inl ⟨a, xs, i, v, rfl, rfl, h, e, k⟩)
theorem r_ixS {z : Str} {i : Int} {c : Nat} (h : z.length ≤ sizeLine) (e : atI z.cps.toList i = some c) (k : Q (.str ⟨#[c]⟩) H) : rIx K (.str z) (.int i) H Q := .inr (.inr ⟨z, i, c, rfl, rfl, h, e, k⟩)
theorem r_setL {a : Addr} {xs : List V} {i : Int} {j : Nat} {v : V} {Q : Hp → Prop} (h : H a = some (.lst xs)) (e : ixN xs.length i = some j) (k : Q (upd H a (.lst (xs.set j v)))) : rSetL (.ref a) (.int i) v H Q := ⟨a, xs, i, j, rfl, rfl, h, e, k⟩
theorem r_sl {r : V → Option Int → Option Int → Hp → VK → Prop} {te : TE} {tl th : TO} (h : te σ H fun x H1 => tl σ H1 fun l H2 => th σ H2 fun u H3 => r x l u H3 Q) : tSl r te tl th σ H Q := h
theorem r_noPart {Q : Option Int → Hp → Prop} (h : Q none H) : tNoPart σ H Q := h
theorem r_part {t : TE} {Q : Option Int → Hp → Prop} (h : t σ H fun x H1 => ∃ i, x = .int i ∧ Q (some i) H1) : tPart t σ H Q := h
theorem r_exI {i : Int} {Q : Int → Prop} (h : Q i) : ∃ j, V.int i = .int j ∧ Q j := ⟨i, rfl, h⟩
theorem r_slS {z : Str} {lo hi : Option Int} (h : z.length ≤ sizeLine) (k : Q (.str (cutS z lo hi)) H) : rSlAny K (.str z) lo hi H Q := .inl ⟨z, rfl, h, k⟩
theorem r_slL {a : Addr} {xs : List V} {lo hi : Option Int} (h : SqL K H a xs) (k : ∀ p, H p = none → Q (.ref p) (upd H p (.lst (cutV xs lo hi)))) : rSlAny K (.ref a) lo hi H Q := .inr (.inl ⟨a, xs, rfl, h, k⟩)
theorem cutV_whole {xs : List V} {lo hi : Option Int} (h : HT.sIx xs.length 0 lo = 0 ∧ HT.sIx xs.length xs.length hi = xs.length) : cutV xs lo hi = xs := by
  unfold cutV
  rw [h.1, h.2]
  simp
theorem r_slT {a : Addr} {xs : List V} {lo hi : Option Int} (h : SqT K H a xs) (k : ∀ p H', Sm H H' → SqT K H' p (cutV xs lo hi) → Q (.ref p) H') : rSlAny K (.ref a) lo hi H Q :=
  .inr (.inr ⟨a, xs, rfl, h, fun e => k a H (Sm.refl H) (by rw [cutV_whole e]; exact h), fun _ p np => k p _ (sm_upd np) (SqT.of upd_same)⟩)
/-! statements -/
theorem r_seq {t u : TS} (h : t { D with nx := u D } σ H) : tSeq t u D σ H := h
theorem r_nx {n b c : St → Hp → Prop} {r : VK} (h : n σ H) : Ends.nx ⟨n, r, b, c⟩ σ H := h
theorem r_rt {n b c : St → Hp → Prop} {r : VK} {v : V} (h : r v H) : Ends.rt ⟨n, r, b, c⟩ v H := h
theorem r_next (h : D.nx σ H) : tNext D σ H := h
theorem r_asg {te : TE} {g : TG} (h : te σ H fun x H1 => g x σ H1 D.nx) : tAsg te g D σ H := h
theorem r_gN {i : Nat} {v : V} {Q : St → Hp → Prop} (h : Q (σ.set i (some v)) H) : gName i v σ H Q := h
theorem r_gT {n : Nat} {t : TGs} {a : Addr} {xs : List V} {Q : St → Hp → Prop} (hT : SqT K H a xs) (hn : xs.length = n) (h : t xs σ H Q) : gTup K n t (.ref a) σ H Q := ⟨a, xs, rfl, hT, hn, h⟩
theorem r_gC {t : TG} {u : TGs} {v : V} {r : List V} {Q : St → Hp → Prop} (h : t v σ H fun σ' H' => u r σ' H' Q) : gCons t u (v :: r) σ H Q := ⟨v, r, rfl, h⟩
theorem r_g0 {Q : St → Hp → Prop} (h : Q σ H) : gNil [] σ H Q := ⟨rfl, h⟩
theorem r_gS {to ti : TE} {t : TSet} {v : V} {Q : St → Hp → Prop} (h : to σ H fun o H1 => ti σ H1 fun i H2 => t o i v H2 fun H3 => Q σ H3) : gSub to ti t v σ H Q := h
theorem r_par {i j : Nat} {ta : TA} (h : ta σ H fun vs H1 => ∃ v w, vs = [v, w] ∧ D.nx ((σ.set i (some v)).set j (some w)) H1) : tPar i j ta D σ H := h
theorem r_vw {v w : V} {Q : V → V → Prop} (h : Q v w) : ∃ v' w', [v, w] = [v', w'] ∧ Q v' w' := ⟨v, w, rfl, h⟩
theorem r_aug {i : Nat} {te : TE} {ti : TIp} {x : V} (e : σ[i]? = some (some x)) (h : te σ H fun y H1 => ti x y H1 fun z H2 => D.nx (σ.set i (some z)) H2) : tAug i te ti D σ H := ⟨x, e, h⟩
theorem r_ip {f : Int → Int → Int} {i j : Int} (k : Q (.int (f i j)) H) : ipI f (.int i) (.int j) H Q := ⟨i, j, rfl, rfl, k⟩
theorem r_ret {te : TE} (h : te σ H D.rt) : tRet te D σ H := h
theorem r_retN (h : D.rt .non H) : tRetN D σ H := h
theorem r_drop {te : TE} (h : te σ H fun _ H1 => D.nx σ H1) : tDrop te D σ H := h
theorem r_if {c : TT} {t u : TS} (h : c σ H fun b H1 => if b = true then t D σ H1 else u D σ H1) : tIfS c t u D σ H := h
theorem ite_d {p A B : Prop} [Decidable p] (h1 : p → A) (h2 : ¬ p → B) : if decide p = true then A else B := by
  by_cases h : p
  · rw [if_pos (decide_eq_true h)]
    exact h1 h
  · rw [if_neg (by rw [decide_eq_false h]; exact Bool.false_ne_true)]
    exact h2 h
theorem ite_n {p A B : Prop} [Decidable p] (h1 : ¬ p → A) (h2 : p → B) : if (!decide p) = true then A else B := by
  by_cases h : p
  · rw [if_neg (by rw [decide_eq_true h]; exact Bool.false_ne_true)]
    exact h2 h
  · rw [if_pos (by rw [decide_eq_false h]; rfl)]
    exact h1 h
theorem ite_y {b : Bool} {A B : Prop} (e : b = true) (h : A) : if b = true then A else B := by
  rw [if_pos e]
  exact h
theorem ite_o {b : Bool} {A B : Prop} (e : b = false) (h : B) : if b = true then A else B := by
  rw [if_neg (by rw [e]; exact Bool.false_ne_true)]
  exact h
/-! lists' methods -/
theorem r_bm {T : String} {r : V → List V → Hp → VK → Prop} {to : TE} {t : TA} (h : to σ H fun x H1 => tyV K T x H1 ∧ t σ H1 fun xs H2 => r x xs H2 Q) : tBM K T r to t σ H Q := h
theorem r_bmL {a : Addr} {xs : List V} {P : Prop} (h : SqL K H a xs) (k : P) : tyV K "list" (.ref a) H ∧ P := ⟨Or.inl ⟨rfl, _, h⟩, k⟩
theorem r_app {a : Addr} {xs : List V} {y : V} (h : H a = some (.lst xs)) (z : xs.length < sizeLine) (k : Q .non (upd H a (.lst (xs ++ [y])))) : rAppend (.ref a) [y] H Q := ⟨a, xs, y, rfl, rfl, h, z, k⟩
/-! indexes -/
theorem atI_of {α : Type} {xs : List α} {i : Int} (h0 : 0 ≤ i) (h1 : i < (xs.length : Int)) : ∃ v, atI xs i = some v ∧ xs[i.toNat]? = some v := by
  obtain ⟨n, rfl⟩ := Int.eq_ofNat_of_zero_le h0
  have h2 : n < xs.length := by omega
  refine ⟨xs[n], ?_, ?_⟩
  · exact atI_nat (List.getElem?_eq_getElem h2)
  · show xs[n]? = some xs[n]
    exact List.getElem?_eq_getElem h2
theorem atI_mem {α : Type} {xs : List α} {i : Int} (h0 : 0 ≤ i) (h1 : i < (xs.length : Int)) : ∃ v, atI xs i = some v ∧ v ∈ xs := by
  obtain ⟨v, e, q⟩ := atI_of h0 h1
  exact ⟨v, e, List.mem_of_getElem? q⟩
/-! // and % -/
theorem cdiv_of {i j : Int} {n : Nat} (h : 0 < j) (hb : j < 2 ^ n) (h0 : 0 < n) (h9 : n ≤ 9000) : CDivW i j := wide_div h (by
  have e : ((2 ^ n : Nat) : Int) = (2 : Int) ^ n := by rw [Int.natCast_pow]; rfl
  omega) h0 h9
theorem cdiv_s {i j : Int} (h : 0 < j) (hb : j < 18446744073709551616) : CDivW i j := cdiv_of (n := 64) h (by simpa using hb) (by decide) (by decide)
theorem cmul_r {i j : Int} (h : -18446744073709551616 < j ∧ j < 18446744073709551616) : CMul i j := .inr (by simpa using h)
theorem cmul_l {i j : Int} (h : -18446744073709551616 < i ∧ i < 18446744073709551616) : CMul i j := .inl (by simpa using h)
end

/-! arguments by names -/
def kgen (n m : Nat) (idx : List Nat) {α : Type} (us ws : List α) : List α := if us.length = n ∧ ws.length = m then idx.filterMap fun i => (us ++ ws)[i]? else []
theorem vals_pick {vs : List V} {us : List Value} (r : Vals vs us) : ∀ idx : List Nat, Vals (idx.filterMap fun i => vs[i]?) (idx.filterMap fun i => us[i]?)
  | [] => .nil
  | i :: idx => by
    rw [List.filterMap_cons, List.filterMap_cons]
    cases e : vs[i]? with
    | none =>
      rw [r.none_of e]
      exact vals_pick r idx
    | some v =>
      obtain ⟨u, h1, h2⟩ := r.get e
      rw [h1]
      exact .cons h2 (vals_pick r idx)
theorem kb_gen {K : PySem.W.Frag} {fd : FuncData} {ps ks : List Str} {n m : Nat} {idx : List Nat} (hp : ps.length ≠ 0)
    (h : ∀ us ws : List Value, us.length = n → ws.length = m → bindArgs fd ⟨us, ks.zip ws⟩ = pure (ps.zip (kgen n m idx us ws))) : KBinds K fd ps ks (kgen n m idx) (kgen n m idx) := by
  refine ⟨fun s us ws _ hl => ?_, fun {vs us zs ws} r rz => ?_⟩
  · by_cases c : us.length = n ∧ ws.length = m
    · exact .of_eq (h us ws c.1 c.2)
    · unfold kgen at hl
      rw [if_neg c] at hl
      exact absurd hl.symm hp
  · unfold kgen
    rw [r.length, rz.length]
    by_cases c : us.length = n ∧ ws.length = m
    · rw [if_pos c, if_pos c]
      exact vals_pick (r.append rz) idx
    · rw [if_neg c, if_neg c]
      exact .nil
section
variable {X : Cx} {CX : CXT} {k : Nat} {f : Addr} {fd : FuncData} {ps ks : List Str} {sp : Sp} {E : XK} {x : Str} {p pos : Pos} {kws : List Keyword} {tk : TA} {g : List Value → List Value → List Value} {gV : List V → List V → List V}
theorem pe_callK0 (F : FnOk X.prog X.w X.K X.mg X.base CX k f fd ps sp) (hr : Room k X.A) (hg : Gl X x) (hm : X.mg x = some (.ref f)) (hk : PySem.W.keepIn X.K (.ref f) = true) (hb : KBinds X.K fd ps ks g gV) (hx : Passes CX X E)
    (hkw : PK X kws tk) (hall : (backToKw pos (keywordEach kws X.env)).all (·.1.isSome) = true := by rfl) (hks : (backToKw pos (keywordEach kws X.env)).filterMap (·.1) = ks := by rfl)
    (hdb : (x == ("__debug__" : Str)) = false := by decide)
    (hpl : ((backTo pos (starEach [] X.env)).any (·.1) || (backToKw pos (keywordEach kws X.env)).any (·.1.isNone)) = false := by rfl) :
    PE X (.Call (.Name x p) [] kws pos) (tCallK sp gV E tNil tk) := by
  refine ⟨fun pins s σ H Q I h => ?_⟩
  refine wpAny_Call_Name_kw (ld_glob I hg hm ?_ hdb)
  refine PySem.W.callWith_KW0 (h₀ := X.base) I.ok.mod.kin hk hall ?_ hpl
  refine thn (hkw.run pos pins s σ H _ I h) fun ws s2 ⟨zs, H2, I2, rz, q2⟩ => ⟨I2.kIn, ?_⟩
  rw [hks]
  exact run_fnk (us := []) (vs := []) F hr hb hx I2 .nil rz q2
end
/-! built-in classes as calls, named -/
section
variable {σ : St} {H : Hp} {Q : VK} {D : Ends} {K : PySem.W.Frag} {X : Cx}
def rIntA : List V → Hp → VK → Prop := fun xs H Q => ((∃ i, xs = [.int i] ∧ Q (.int i) H) ∨ ∃ k, xs = [.bl k] ∧ Q (.int (if k then 1 else 0)) H) ∨ (∃ a n, xs = [.str a] ∧ PySem.intText? a = some n ∧ a.length ≤ 640 ∧ Q (.int n) H)
theorem cl_int : CallR X (.type "int") rIntA := call_intA
theorem r_intI {i : Int} (k : Q (.int i) H) : rIntA [.int i] H Q := .inl (.inl ⟨i, rfl, k⟩)
theorem r_intB {i : Bool} (k : Q (.int (if i then 1 else 0)) H) : rIntA [.bl i] H Q := .inl (.inr ⟨i, rfl, k⟩)
theorem r_intS {a : Str} {n : Int} (e : PySem.intText? a = some n) (l : a.length ≤ 640) (k : Q (.int n) H) : rIntA [.str a] H Q := .inr ⟨a, n, rfl, e, l, k⟩
def rStrA : List V → Hp → VK → Prop := fun xs H Q => (∃ i, xs = [.int i] ∧ i.natAbs.log2 < 1920 ∧ Q (.str (toString i)) H) ∨ (∃ a, xs = [.str a] ∧ Q (.str a) H)
theorem cl_str : CallR X (.type "str") rStrA := call_strA
theorem r_strI {i : Int} (l : i.natAbs.log2 < 1920) (k : Q (.str (toString i)) H) : rStrA [.int i] H Q := .inl ⟨i, rfl, l, k⟩
theorem r_strS {i : Str} (k : Q (.str i) H) : rStrA [.str i] H Q := .inr ⟨i, rfl, k⟩
def rListA (K : PySem.W.Frag) : List V → Hp → VK → Prop := fun xs H Q => ∃ p ys, xs = [.ref p] ∧ (SqL K H p ys ∨ SqT K H p ys) ∧ ∀ l, H l = none → Q (.ref l) (upd H l (.lst ys))
theorem cl_list : CallR X (.type "list") (rListA X.K) := call_listA
theorem r_listL {a : Addr} {ys : List V} (h : SqL K H a ys) (k : ∀ l, H l = none → Q (.ref l) (upd H l (.lst ys))) : rListA K [.ref a] H Q := ⟨a, ys, rfl, .inl h, k⟩
theorem r_listT {a : Addr} {ys : List V} (h : SqT K H a ys) (k : ∀ l, H l = none → Q (.ref l) (upd H l (.lst ys))) : rListA K [.ref a] H Q := ⟨a, ys, rfl, .inr h, k⟩
def rTupleA (K : PySem.W.Frag) : List V → Hp → VK → Prop := fun xs H Q => ∃ p ys, xs = [.ref p] ∧ ((SqL K H p ys ∧ ∀ l, H l = none → Q (.ref l) (upd H l (.tup ys))) ∨ (SqT K H p ys ∧ Q (.ref p) H))
theorem cl_tuple : CallR X (.type "tuple") (rTupleA X.K) := call_tupleA
theorem r_tupleL {a : Addr} {ys : List V} (h : SqL K H a ys) (k : ∀ l, H l = none → Q (.ref l) (upd H l (.tup ys))) : rTupleA K [.ref a] H Q := ⟨a, ys, rfl, .inl ⟨h, k⟩⟩
theorem r_tupleT {a : Addr} {ys : List V} (h : SqT K H a ys) (k : Q (.ref a) H) : rTupleA K [.ref a] H Q := ⟨a, ys, rfl, .inr ⟨h, k⟩⟩
/-! joins, all, any -/
def rJoin (K : PySem.W.Frag) : V → List V → Hp → VK → Prop := fun x xs H Q => ∃ a p, ∃ ys : List Str, x = .str a ∧ xs = [.ref p] ∧ (SqL K H p (ys.map V.str) ∨ SqT K H p (ys.map V.str)) ∧ (ys.map (·.length)).sum + ys.length * a.length ≤ 16777216 ∧ Q (.str (Txt.join a ys)) H
theorem mj_join : MtR X "str.join" (rJoin X.K) := mt_join
theorem r_join {a : Str} {p : Addr} {ys : List Str} (h : SqL K H p (ys.map V.str)) (z : (ys.map (·.length)).sum + ys.length * a.length ≤ 16777216) (k : Q (.str (Txt.join a ys)) H) : rJoin K (.str a) [.ref p] H Q := ⟨a, p, ys, rfl, rfl, .inl h, z, k⟩
theorem r_bmS {a : Str} {P : Prop} (k : P) : tyV K "str" (.str a) H ∧ P := ⟨rfl, k⟩
theorem r_all {a : Addr} {bs : List Bool} (h : SqL K H a (bs.map V.bl)) (k : Q (.bl (bs.all id)) H) : rAll K [.ref a] H Q := ⟨a, bs, rfl, h, k⟩
/-! loops -/
theorem r_for {wi : TI} {g : TG} {tb : TS} (h : wi σ H fun J H1 => ∃ W : Nat → Nat → St → Hp → Prop, (∃ m, W 0 m σ H1) ∧ ∀ i m σ H, W i m σ H →
  (J.stop i H ∧ D.nx σ H) ∨ (J.go i H ∧ ∃ N : St → Hp → Prop, (∀ σ' H', N σ' H' → ∃ m', m' < m ∧ W (i + 1) m' σ' H') ∧ ∀ x H', J.yld i H x H' → g x σ H' fun σ2 H2 => tb { D with nx := N, ct := N, bk := D.nx } σ2 H2)) : tFor wi g tb D σ H := h
theorem r_lc {wi : TI} {g : TG} {tt : TT} {te : TE} {vs : List Nat} (h : wi σ H fun J H1 => ∀ D, H1 D = none → ∃ W : Nat → Nat → Hp → Prop, (∃ m, W 0 m (upd H1 D (.lst []))) ∧ ∀ i m H, W i m H →
  (J.stop i H ∧ Q (.ref D) H) ∨ (J.go i H ∧ ∃ Nx : Hp → Prop, (∀ H', Nx H' → ∃ m', m' < m ∧ W (i + 1) m' H') ∧ ∀ x H', J.yld i H x H' → g x (wipe σ vs) H' fun σ2 H2 => wipe σ2 vs = wipe σ vs ∧ tt σ2 H2 fun b H3 =>
    if b = true then te σ2 H3 fun y H4 => ∃ acc, H4 D = some (.lst acc) ∧ acc.length < sizeLine ∧ Nx (upd H4 D (.lst (acc ++ [y]))) else Nx H3)) : tLc wi g tt te vs σ H Q := h
theorem r_R1 {ta : TA} {R : It → Hp → Prop} (h : ta σ H fun vs H1 => ∃ j : Int, vs = [.int j] ∧ -(2 ^ 62) ≤ j ∧ j < 2 ^ 62 ∧ R (Itr 0 j.toNat) H1) : iRng1 ta σ H R := h
theorem r_rng {n : Int} {P : Int → Prop} (h0 : -4611686018427387904 ≤ n) (h1 : n < 4611686018427387904) (h : P n) : ∃ j : Int, [V.int n] = [.int j] ∧ -(2 ^ 62) ≤ j ∧ j < 2 ^ 62 ∧ P j := ⟨n, rfl, by simpa using h0, by simpa using h1, h⟩
theorem r_iL {tl : TE} {R : It → Hp → Prop} (h : tl σ H fun x H1 => ∃ a, x = .ref a ∧ (∃ xs, SqL K H1 a xs) ∧ R (Itl K a) H1) : iAny K tl σ H R := .inl h
theorem r_iT {tl : TE} {R : It → Hp → Prop} (h : tl σ H fun x H1 => ∃ a, x = .ref a ∧ (∃ xs, SqT K H1 a xs) ∧ R (Itt K a) H1) : iAny K tl σ H R := .inr (.inl h)
theorem r_iS {tl : TE} {R : It → Hp → Prop} (h : tl σ H fun v H1 => ∃ x, v = .str x ∧ R (Its x) H1) : iAny K tl σ H R := .inr (.inr h)
theorem r_aL {a : Addr} {xs : List V} {P : Addr → Prop} (h : SqL K H a xs) (k : P a) : ∃ b, V.ref a = .ref b ∧ (∃ xs, SqL K H b xs) ∧ P b := ⟨a, rfl, ⟨xs, h⟩, k⟩
theorem r_aT {a : Addr} {xs : List V} {P : Addr → Prop} (h : SqT K H a xs) (k : P a) : ∃ b, V.ref a = .ref b ∧ (∃ xs, SqT K H b xs) ∧ P b := ⟨a, rfl, ⟨xs, h⟩, k⟩
theorem r_aS {z : Str} {P : Str → Prop} (k : P z) : ∃ x, V.str z = .str x ∧ P x := ⟨z, rfl, k⟩
theorem r_yes {Q : Bool → Hp → Prop} (h : Q true H) : tYes σ H Q := h
theorem r_wipe {σ' : St} {vs : List Nat} {P : Prop} (e : wipe σ' vs = wipe σ vs) (h : P) : wipe σ' vs = wipe σ vs ∧ P := ⟨e, h⟩
theorem r_acc {D : Addr} {acc : List V} {P : List V → Prop} (h : H D = some (.lst acc)) (z : acc.length < sizeLine) (k : P acc) : ∃ acc, H D = some (.lst acc) ∧ acc.length < sizeLine ∧ P acc := ⟨acc, h, z, k⟩
end

/-! what a loop or a comprehension appends to stands apart -/
theorem chg_acc {b D : Addr} {H1 H4 : Hp} {o : HO} (c : Chg b H1 H4) (n : H1 D = none) : Chg b H1 (upd H4 D o) := ⟨fun a x na e => by
  rw [upd_ne (ne_of_none e n)]
  exact c.to a x na e⟩
theorem sm_acc {D : Addr} {H1 H4 : Hp} {o : HO} (c : Sm H1 H4) (n : H1 D = none) : Sm H1 (upd H4 D o) := ⟨fun a x e => by
  rw [upd_ne (ne_of_none e n)]
  exact c.to a x e⟩
theorem sm_chg {b : Addr} {H H1 H2 : Hp} (a : Sm H H1) (c : Chg b H1 H2) : Chg b H H2 := a.chg.trans c
theorem chg_sm {b : Addr} {H H1 H2 : Hp} (a : Chg b H H1) (c : Sm H1 H2) : Chg b H H2 := a.trans c.chg
/-! texts -/
theorem str_len (z : Str) : z.length = z.cps.toList.length := (Array.length_toList).symm
theorem str_get {z : Str} {i c : Nat} (h : z.cps[i]? = some c) : z.cps.toList[i]? = some c := by
  rw [Array.getElem?_toList]
  exact h
theorem strs_sum : ∀ (ys : List Str) (n : Nat), (∀ y ∈ ys, y.length ≤ n) → (ys.map (·.length)).sum ≤ n * ys.length
  | [], n, _ => by simp
  | y :: ys, n, h => by
    have h1 := h y (by simp)
    have h2 := strs_sum ys n fun z hz => h z (by simp [hz])
    rw [List.map_cons, List.sum_cons, List.length_cons, Nat.mul_succ]
    omega
theorem ne_fr {H : Hp} {a b : Addr} {o : HO} (n : H b = none) (h : H a = some o) : a ≠ b := ne_of_none h n
theorem fr_of {H H' : Hp} {l : Addr} (n : H' l = none) (e : Sm H H') : H l = none := e.free n
theorem ix2 {b : Bool} {x y : Int} : atI [V.int x, V.int y] (if b = true then 1 else 0) = some (V.int (if b = true then y else x)) := by
  cases b <;> rfl
section
variable {H : Hp} {Q : VK} {K : PySem.W.Frag} {a : Addr} {x0 x1 x2 x3 v : V} {xs : List V}
theorem r_ixL0 (h : SqL K H a (x0 :: xs)) (k : Q x0 H) : rIx K (.ref a) (.int 0) H Q := r_ixL h (atI_nat (j := 0) rfl) k
theorem r_ixL1 (h : SqL K H a (x0 :: x1 :: xs)) (k : Q x1 H) : rIx K (.ref a) (.int 1) H Q := r_ixL h (atI_nat (j := 1) rfl) k
theorem r_ixL2 (h : SqL K H a (x0 :: x1 :: x2 :: xs)) (k : Q x2 H) : rIx K (.ref a) (.int 2) H Q := r_ixL h (atI_nat (j := 2) rfl) k
theorem r_ixT0 (h : SqT K H a (x0 :: xs)) (k : Q x0 H) : rIx K (.ref a) (.int 0) H Q := r_ixT h (atI_nat (j := 0) rfl) k
theorem r_ixT1 (h : SqT K H a (x0 :: x1 :: xs)) (k : Q x1 H) : rIx K (.ref a) (.int 1) H Q := r_ixT h (atI_nat (j := 1) rfl) k
theorem r_ixT2 (h : SqT K H a (x0 :: x1 :: x2 :: xs)) (k : Q x2 H) : rIx K (.ref a) (.int 2) H Q := r_ixT h (atI_nat (j := 2) rfl) k
theorem r_setB0 {Q : Hp → Prop} (h : H a = some (.lst [x0, x1])) (k : Q (upd H a (.lst [v, x1]))) : rSetL (.ref a) (.int 0) v H Q := r_setL h rfl k
theorem r_setB1 {Q : Hp → Prop} (h : H a = some (.lst [x0, x1])) (k : Q (upd H a (.lst [x0, v]))) : rSetL (.ref a) (.int 1) v H Q := r_setL h (j := 1) rfl k
end
/-! texts by their signs -/
theorem joinL_nil : ∀ ps : List (List Nat), TL.joinL [] ps = ps.flatten
  | [] => rfl
  | [p] => by
    show p = [p].flatten
    simp
  | p :: q :: r => by
    show p ++ ([] ++ TL.joinL [] (q :: r)) = (p :: q :: r).flatten
    rw [joinL_nil (q :: r)]
    simp
theorem join_parts (ps : List (List Nat)) : Txt.join (SX.S []) (ps.map SX.S) = SX.S ps.flatten := by rw [SX.join_S, joinL_nil]
theorem flat_ones (cs : List Nat) : (cs.map fun c => [c]).flatten = cs := by
  induction cs with
  | nil => rfl
  | cons c cs ih => rw [List.map_cons, List.flatten_cons, ih]; rfl
section
variable {H : Hp} {Q : VK} {K : PySem.W.Frag}
/-- a sign of a text at a place within -/
theorem r_ixSn {z : Str} {i : Int} {n : Nat} (hz : z.length = n) (hn : n ≤ 1000000) (h0 : 0 ≤ i) (h1 : i < (n : Int)) (k : ∀ c, z.cps.toList[i.toNat]? = some c → Q (.str ⟨#[c]⟩) H) : rIx K (.str z) (.int i) H Q := by
  obtain ⟨c, e, g⟩ := atI_of (xs := z.cps.toList) h0 (by rw [← str_len, hz]; exact h1)
  have hl : (1000000 : Nat) ≤ sizeLine := by rw [sizeLine_eq]; decide
  exact r_ixS (by rw [hz]; omega) e (k c g)
/-- a text joined of single signs -/
theorem r_join1 {p : Addr} {cs : List Nat} (h : H p = some (.lst (cs.map fun c => V.str ⟨#[c]⟩))) (z : cs.length ≤ 16777216) (k : Q (.str (SX.S cs)) H) : rJoin K (.str (SX.S [])) [.ref p] H Q := by
  have e : (cs.map fun c => V.str ⟨#[c]⟩) = ((cs.map fun c => [c]).map SX.S).map V.str := by
    rw [List.map_map, List.map_map]
    rfl
  rw [e] at h
  refine r_join (ys := (cs.map fun c => [c]).map SX.S) (SqL.of h) ?_ ?_
  · rw [SX.lens, List.map_map]
    have : ((fun c : List Nat => c.length) ∘ fun c => [c]) = fun _ : Nat => 1 := rfl
    rw [this]
    have e0 : (SX.S []).length = 0 := rfl
    rw [e0, Nat.mul_zero, Nat.add_zero]
    have : ∀ l : List Nat, (l.map fun _ => 1).sum = l.length := fun l => by
      induction l with
      | nil => rfl
      | cons c l ih => rw [List.map_cons, List.sum_cons, ih, List.length_cons]; omega
    rw [this]
    exact z
  · rw [join_parts, flat_ones]
    exact k
end
/-! the same rules, the written part by its own name -/
section
variable {X : Cx} {K : PySem.W.Frag}
theorem ix_k (e : X.K = K) : IxR X (rIx K) := e ▸ ix_seq
theorem add_k (e : X.K = K) : OpR X (binaryOp .Add) (rAddA K) := e ▸ op_addA
theorem mul_k (e : X.K = K) : OpR X (binaryOp .Mult) (rMulA K) := e ▸ op_mulA
theorem eq_k (e : X.K = K) (hu : X.A.units + 64 < cLine) : OpR X (compareOp .Eq) (rEqA K) := e ▸ op_eqA hu
theorem ne_k (e : X.K = K) (hu : X.A.units + 64 < cLine) : OpR X (compareOp .NotEq) (rNeA K) := e ▸ op_neA hu
theorem in_k (e : X.K = K) : OpR X (compareOp .In) (rInA K) := e ▸ op_inA
theorem notIn_k (e : X.K = K) : OpR X (compareOp .NotIn) (rNotInA K) := e ▸ op_notInA
theorem sl_k (e : X.K = K) : SlR X (rSlAny K) := e ▸ sl_any
theorem len_k (e : X.K = K) : CallR X (.builtin "len") (rLenA K) := e ▸ call_lenA
theorem max_k (e : X.K = K) (hc : X.calm = true) : CallR X (.builtin "max") (rMaxA K) := e ▸ call_maxA hc
theorem min_k (e : X.K = K) (hc : X.calm = true) : CallR X (.builtin "min") (rMinA K) := e ▸ call_minA hc
theorem sum_k (e : X.K = K) (hc : X.calm = true) : CallR X (.builtin "sum") (rSum K) := e ▸ cr_sum hc
theorem all_k (e : X.K = K) (hc : X.calm = true) : CallR X (.builtin "all") (rAll K) := e ▸ cr_all hc
theorem any_k (e : X.K = K) (hc : X.calm = true) : CallR X (.builtin "any") (rAny K) := e ▸ cr_any hc
theorem isi_k (e : X.K = K) : CallR X (.builtin "isinstance") (rIsi K) := e ▸ call_isi
theorem list_k (e : X.K = K) : CallR X (.type "list") (rListA K) := e ▸ cl_list
theorem tuple_k (e : X.K = K) : CallR X (.type "tuple") (rTupleA K) := e ▸ cl_tuple
theorem join_k (e : X.K = K) : MtR X "str.join" (rJoin K) := e ▸ mj_join
theorem any_pi {tg l : Expr} {tl : TE} (e : X.K = K) (hl : PE X l tl) : PI X tg l (iAny K tl) := e ▸ pi_any hl
variable {a b : Expr} {ta tb : TE} {rest : List Expr} {pos : Pos}
theorem orT_k (e : X.K = K) (ha : PE X a ta) (hb : PE X (.BoolOp .Or (b :: rest) pos) tb) : PE X (.BoolOp .Or (a :: b :: rest) pos) (tOrT K ta tb) := e ▸ pe_orT ha hb
theorem andT_k (e : X.K = K) (ha : PE X a ta) (hb : PE X (.BoolOp .And (b :: rest) pos) tb) : PE X (.BoolOp .And (a :: b :: rest) pos) (tAndT K ta tb) := e ▸ pe_andT ha hb
theorem notT_k (e : X.K = K) (ha : PE X a ta) : PE X (.UnaryOp .Not a pos) (tNotT K ta) := e ▸ pe_notT ha
end
theorem ne_fr' {H : Hp} {b D : Addr} (h : BoxAt H b) (n : H D = none) : D ≠ b := by
  obtain ⟨c, s, h⟩ := h
  exact (ne_of_none h n).symm
theorem chg_tr {b : Addr} {H H1 H2 : Hp} (c : Chg b H1 H2) (a : Chg b H H1) : Chg b H H2 := a.trans c
theorem sm_tr {H H1 H2 : Hp} (c : Sm H1 H2) (a : Sm H H1) : Sm H H2 := a.trans c
theorem sm_hid {b : Addr} {H H1 H2 : Hp} (c : Chg b H1 H2) (n : H b = none) (a : Sm H H1) : Sm H H2 := c.sm a n
theorem len_le {n : Nat} (h : n ≤ 1000000) : n ≤ sizeLine := by
  have hl : (1000000 : Nat) ≤ sizeLine := by rw [sizeLine_eq]; decide
  omega
section
variable {σ : St} {H : Hp} {Q : VK} {K : PySem.W.Frag}
theorem r_chain {r r' : R2} {ta tb tc : TE} (h : ta σ H fun x H1 => tb σ H1 fun y H2 => r x y H2 fun z H3 => ∃ k, z = .bl k ∧ (if k = true then tc σ H3 fun w' H4 => r' y w' H4 Q else Q (.bl false) H3)) : tChain r r' ta tb tc σ H Q := h
theorem r_maxF {i j : Int} (k : ∀ m, i ≤ m → j ≤ m → (m = i ∨ m = j) → Q (.int m) H) : rMaxA K [.int i, .int j] H Q := by
  refine r_max (k _ ?_ ?_ ?_) <;> split <;> omega
theorem r_minF {i j : Int} (k : ∀ m, m ≤ i → m ≤ j → (m = i ∨ m = j) → Q (.int m) H) : rMinA K [.int i, .int j] H Q := by
  refine r_min (k _ ?_ ?_ ?_) <;> split <;> omega
theorem r_isB {a b : Bool} (k : Q (.bl (decide (a = b))) H) : rIsB (.bl a) (.bl b) H Q := ⟨a, b, rfl, rfl, k⟩
theorem r_inSt {t : Str} {c : Nat} {z : Str} (e : t = ⟨#[c]⟩) (k : Q (.bl (decide (c ∈ z.cps.toList))) H) : rInA K (.str t) (.str z) H Q := by
  subst e
  exact r_inS k
end
section
variable {σ : St} {H : Hp} {Q : VK} {K : PySem.W.Frag}
/-- an item of a list of ints at a place within -/
theorem r_ixLi {a : Addr} {xs : List V} {i : Int} {ns : List Int} (h : SqL K H a xs) (e : xs = ns.map V.int) (h0 : 0 ≤ i) (h1 : i < (ns.length : Int)) (k : ∀ n, n ∈ ns → Q (.int n) H) : rIx K (.ref a) (.int i) H Q := by
  subst e
  obtain ⟨v, ev, hv⟩ := atI_mem (xs := ns.map V.int) h0 (by rw [List.length_map]; exact h1)
  obtain ⟨n, hn, rfl⟩ := List.mem_map.mp hv
  exact r_ixL h ev (k n hn)
theorem cshl1 {j : Int} (h0 : 0 ≤ j) (h1 : j ≤ 100000) : CShl 1 j := by
  refine ⟨h0, ?_⟩
  have e1 : (Builtin.Int.intBits 1 : Int) = 1 := by decide
  have e2 : (2 : Int) ^ 27 = 134217728 := by decide
  rw [e1, e2]
  omega
theorem pow2_le {a b : Nat} (h : a ≤ b) : (2 : Int) ^ a ≤ 2 ^ b := by
  have := Nat.pow_le_pow_right (show 0 < 2 by decide) h
  have e : ∀ n : Nat, ((2 ^ n : Nat) : Int) = (2 : Int) ^ n := fun n => by rw [Int.natCast_pow]; rfl
  rw [← e, ← e]
  exact Int.ofNat_le.mpr this
theorem ediv_down {l b : Int} (hl : 0 < l) (hb : 2 ≤ b) : 0 ≤ l / b ∧ l / b < l := by
  refine ⟨Int.ediv_nonneg (by omega) (by omega), ?_⟩
  have h1 : l / b * b ≤ l := Int.ediv_mul_le l (by omega)
  have h2 : 0 ≤ l / b := Int.ediv_nonneg (by omega) (by omega)
  rcases Int.lt_or_le (l / b) l with h | h
  · exact h
  · have h3 : l * 2 ≤ l / b * b := Int.mul_le_mul h hb (by omega) h2
    omega
end
theorem Chg.seq {K : PySem.W.Frag} {b : Addr} {H H' : Hp} {a : Addr} {xs : List V} (e : Chg b H H') (n : a ≠ b) (h : SqL K H a xs) : SqL K H' a xs := by
  rcases h with (h | ⟨o, h⟩) | h
  · exact .inl (.inl (e.to _ _ n h))
  · exact .inl (.inr ⟨o, e.to _ _ n h⟩)
  · exact .inr h
theorem Chg.seqT {K : PySem.W.Frag} {b : Addr} {H H' : Hp} {a : Addr} {xs : List V} (e : Chg b H H') (n : a ≠ b) (h : SqT K H a xs) : SqT K H' a xs := by
  rcases h with (h | ⟨o, h⟩) | h
  · exact .inl (.inl (e.to _ _ n h))
  · exact .inl (.inr ⟨o, e.to _ _ n h⟩)
  · exact .inr h
theorem BoxAt.chg {b D : Addr} {H H' : Hp} (e : Chg D H H') (n : b ≠ D) (h : BoxAt H b) : BoxAt H' b := by
  obtain ⟨x, y, h⟩ := h
  exact ⟨x, y, e.to _ _ n h⟩
theorem box_ne {H : Hp} {b D : Addr} (n : H D = none) (h : BoxAt H b) : b ≠ D := (ne_fr' h n).symm
theorem chg_fr {b t : Addr} {H H' : Hp} (n : H' t = none) (hb : BoxAt H' b) (c : Chg b H H') : H t = none := by
  cases q : H t with
  | none => rfl
  | some o =>
    have := c.to t o (ne_fr' hb n) q
    rw [n] at this
    cases this
theorem cutV_mem {xs : List V} {lo hi : Option Int} {v : V} (h : v ∈ cutV xs lo hi) : v ∈ xs := List.mem_of_mem_drop (List.mem_of_mem_take h)
theorem cutV_le (xs : List V) (lo hi : Option Int) : (cutV xs lo hi).length ≤ xs.length := by
  unfold cutV
  rw [List.length_take, List.length_drop]
  omega
section
variable {σ : St} {H : Hp} {Q : VK} {K : PySem.W.Frag} {X : Cx}
theorem rev_pi {tg e : Expr} {te : TE} {p pos : Pos} (ek : X.K = K) (hg : Gl X "reversed") (hm : X.mg "reversed" = none) (he : PE X e te) (hs : starEach [e] X.env = (false, eval e X.env) :: starEach [] X.env := by rfl) : PI X tg (.Call (.Name "reversed" p) [e] [] pos) (RT.iRevA K te) := ek ▸ RT.pi_revA hg hm he hs
theorem r_rev {te : TE} {R : It → Hp → Prop} (h : te σ H fun v H1 => ∃ (a : Addr) (xs : List V), v = .ref a ∧ ((SqL K H1 a xs ∧ R (Itv K a xs.length) H1) ∨ (SqT K H1 a xs ∧ R (RT.ItvT K a xs.length) H1))) : RT.iRevA K te σ H R := h
theorem r_revL {a : Addr} {xs : List V} {P : Addr → List V → Prop} {P' : Addr → List V → Prop} (h : SqL K H a xs) (k : P a xs) : ∃ (b : Addr) (ys : List V), V.ref a = .ref b ∧ ((SqL K H b ys ∧ P b ys) ∨ (SqT K H b ys ∧ P' b ys)) := ⟨a, xs, rfl, .inl ⟨h, k⟩⟩
theorem r_revT {a : Addr} {xs : List V} {P : Addr → List V → Prop} {P' : Addr → List V → Prop} (h : SqT K H a xs) (k : P' a xs) : ∃ (b : Addr) (ys : List V), V.ref a = .ref b ∧ ((SqL K H b ys ∧ P b ys) ∨ (SqT K H b ys ∧ P' b ys)) := ⟨a, xs, rfl, .inr ⟨h, k⟩⟩
/-- an item of a list of ints, by its place -/
theorem r_ixLg {a : Addr} {xs : List V} {i : Int} {ns : List Int} (h : SqL K H a xs) (e : xs = ns.map V.int) (h0 : 0 ≤ i) (h1 : i < (ns.length : Int)) (k : ∀ n, ns[i.toNat]? = some n → Q (.int n) H) : rIx K (.ref a) (.int i) H Q := by
  subst e
  obtain ⟨v, ev, hv⟩ := atI_of (xs := ns.map V.int) h0 (by rw [List.length_map]; exact h1)
  rw [List.getElem?_map] at hv
  cases hn : ns[i.toNat]? with
  | none =>
    rw [hn] at hv
    cases hv
  | some n =>
    rw [hn] at hv
    have e : V.int n = v := Option.some.inj hv
    subst e
    exact r_ixL h ev (k n hn)
end
theorem rep_ints (n : Nat) (x : Int) : (List.replicate n [V.int x]).flatten = (List.replicate n x).map V.int := by
  induction n with
  | zero => rfl
  | succ n ih => rw [List.replicate_succ, List.flatten_cons, ih, List.replicate_succ, List.map_cons]; rfl
/-- lists of ints are equal as data just where they are -/
theorem dps_ints {K : PySem.W.Frag} {H : Hp} : ∀ ns : List Int, DpAll K H (ns.map V.int) (ns.map PyData.int)
  | [] => .nil
  | n :: ns => .cons (.int n) (dps_ints ns)
theorem dp_ints {K : PySem.W.Frag} {H : Hp} {a : Addr} {ns : List Int} (h : SqL K H a (ns.map V.int)) : Dp K H (.ref a) (.list (ns.map PyData.int)) := .lst h (dps_ints ns)
theorem pow_lim {b : Int} {n : Nat} (h0 : 0 ≤ b) (h1 : b ≤ 1099511627776) : (b ^ n).natAbs < 2 ^ (40 * n + 1) := by
  rw [Int.natAbs_pow]
  have h2 : b.natAbs ≤ 2 ^ 40 := by
    have e : (2 : Nat) ^ 40 = 1099511627776 := by decide
    omega
  have h3 := Nat.pow_le_pow_left h2 n
  rw [← Nat.pow_mul] at h3
  have h4 : 2 ^ (40 * n) < 2 ^ (40 * n + 1) := Nat.pow_lt_pow_right (by decide) (by omega)
  omega
theorem lay_ints (ns : List Int) : PyData.canLayAll0 (ns.map PyData.int) = true := by
  induction ns with
  | nil => rfl
  | cons n ns ih => simpa [PyData.canLayAll0, PyData.canLay0] using ih
theorem deep_ints (ns : List Int) : PyData.depthAll (ns.map PyData.int) ≤ 1 := by
  induction ns with
  | nil => decide
  | cons n ns ih => simpa [PyData.depthAll, PyData.depth] using ih
theorem shaped_ints (ns : List Int) : SeqAt.shaped (.list (ns.map PyData.int)) = true := by
  have h := lay_ints ns
  have h2 := deep_ints ns
  simp [SeqAt.shaped, PyData.canLay0, PyData.depth, h]
  omega
theorem eqv_ints (ns : List Int) : PyData.eqv (.list (ns.map PyData.int)) (.list (ns.map PyData.int)) = true := SeqAt.eqv_refl _ (by simpa [PyData.canLay0] using lay_ints ns)
section
variable {H : Hp} {Q : VK} {K : PySem.W.Frag}
/-- two lists of the same ints -/
theorem r_neLL {a b : Addr} {ns : List Int} (ha : SqL K H a (ns.map V.int)) (hb : SqL K H b (ns.map V.int)) (k : Q (.bl false) H) : rNeA K (.ref a) (.ref b) H Q := r_neD (dp_ints ha) (dp_ints hb) (shaped_ints ns) (shaped_ints ns) (by rw [eqv_ints]; exact k)
theorem r_eqLL {a b : Addr} {ns : List Int} (ha : SqL K H a (ns.map V.int)) (hb : SqL K H b (ns.map V.int)) (k : Q (.bl true) H) : rEqA K (.ref a) (.ref b) H Q := r_eqD (dp_ints ha) (dp_ints hb) (shaped_ints ns) (shaped_ints ns) (by rw [eqv_ints]; exact k)
end
section
variable {H : Hp} {Q : VK} {K : PySem.W.Frag}
/-- [x] * n -/
theorem r_repI {a : Addr} {x i : Int} (ha : H a = some (.lst [V.int x])) (h0 : 0 ≤ i) (h1 : i ≤ 1000) (k : ∀ p H', Sm H H' → H p = none → H' p = some (.lst ((List.replicate i.toNat x).map V.int)) → Q (.ref p) H') : rMulA K (.ref a) (.int i) H Q :=
  r_mulL ha (by omega) (by omega) (len_le (by
    show 1 * i.toNat ≤ 1000000
    omega)) fun p H' s n e => k p H' s n (by rw [← rep_ints]; exact e)
/-- two lists of ints, one behind the other -/
theorem r_addLI {a b : Addr} {xs ys : List Int} (ha : H a = some (.lst (xs.map V.int))) (hb : H b = some (.lst (ys.map V.int))) (hz : xs.length + ys.length ≤ 1000000)
    (k : ∀ p H', Sm H H' → H p = none → H' p = some (.lst ((xs ++ ys).map V.int)) → Q (.ref p) H') : rAddA K (.ref a) (.ref b) H Q :=
  r_addL ha hb (len_le (by rw [List.length_map, List.length_map]; exact hz)) fun p H' s n e => k p H' s n (by rw [List.map_append]; exact e)
end
theorem r_ixLm {K : PySem.W.Frag} {H : Hp} {Q : VK} {a : Addr} {xs : List V} {i : Int} (h : SqL K H a xs) (h0 : 0 ≤ i) (h1 : i < (xs.length : Int)) (k : ∀ v, v ∈ xs → Q v H) : rIx K (.ref a) (.int i) H Q := by
  obtain ⟨v, ev, hv⟩ := atI_mem h0 h1
  exact r_ixL h ev (k v hv)
theorem chg_acc2 {b D : Addr} {H1 H4 : Hp} {o : HO} (n : H1 D = none) (c : Chg b H1 H4) : Chg b H1 (upd H4 D o) := chg_acc c n
theorem sm_acc2 {D : Addr} {H1 H4 : Hp} {o : HO} (n : H1 D = none) (c : Sm H1 H4) : Sm H1 (upd H4 D o) := sm_acc c n
end RV

namespace RV
open PySem PySem.Spec L2 PySem.NumText PySem.W
open PyProof.Rows hiding St
/-- the limit on an int's signs is what it was at the start -/
theorem looks_msd {K : PySem.W.Frag} {M : Model} {h : Heap} (X : K.In h) (e : PySem.W.nsIn K cStatics "sys.int_max_str_digits" = some none) : PySem.W.Looks M h Builtin.intMaxStrDigits 4300 :=
  (PySem.W.looks_nsIn X e).andThen .now
theorem from_text {M : Model} {A : Around} {E : Value → Shared → Prop} {s : Shared} {Q : Value → Shared → Prop} {v : Value} {text : List Nat} {n : Int}
    (lk : PySem.W.Looks M s.heap Builtin.intMaxStrDigits 4300) (far : ¬ (text.takeWhile (· != 0)).length ≤ 640)
    (got : (int_private% "readNumeral") 4300 10 (text.takeWhile (· != 0)) = (int_private% "Numeral.value") n)
    (whole : ((text.takeWhile (· != 0)).length == text.length) = true) (k : Q (.int n s.toks) { s with toks := s.toks + 1 }) :
    wpAny M A ((int_private% "intFromText") v text 10) Q E s := by
  obtain ⟨hp, g, d, tk, os⟩ := s
  have lk' : PySem.W.Looks M hp Builtin.intMaxStrDigits 4300 := lk
  clear lk
  repeat (any_goals (first
    | (with_reducible refine wpAny_ite_false (decide_eq_false far) ?_)
    | (with_reducible refine wpAny_ite_true (decide_eq_true whole) ?_)
    | ((with_reducible show wpAny _ _ Builtin.intMaxStrDigits _ _ _); refine PySem.W.Looks.here lk' ?_)
    | assumption
    | wp_step))
  all_goals (try rw [got])
  all_goals (try dsimp only)
  repeat (any_goals (first
    | (with_reducible refine wpAny_ite_true (decide_eq_true whole) ?_)
    | assumption
    | wp_step))
structure Kept (p : Prop) : Prop where
  get : p
theorem whole_text {x : PySem.Str} {u : Tok} {n : Int} (hl : x.length ≤ 16777216) (far : ¬ (numSeenOf x).length ≤ 640) (hn : PySem.intText? x = some n) :
    Meets (Builtin.«int.__new__» ⟨[.type "int", .str x u], []⟩) (fun A R s => (∀ M, PySem.W.Looks M s.heap Builtin.intMaxStrDigits 4300) ∧ R (.ok (.ret (.int n s.toks))) { s with toks := s.toks + 1 }) :=
  .of_wp fun prog w A R s hs => by
    obtain ⟨hp, g, d, tk, os⟩ := s
    obtain ⟨lk, fin⟩ := hs
    have a1 := F.conv_sub_int
    have a2 := F.madeHere_int
    have a3 := PySem.W.KIN.str_int
    have a4 := PySem.W.KIN.str_idx
    have a5 := PySem.W.KIN.str_trunc
    have a6 : typeOf (.str x u) = pure (.type "str") := rfl
    have got : (int_private% "readNumeral") 4300 10 (numSeenOf x) = (int_private% "Numeral.value") n ∧ ((numSeenOf x).length == (numTextOf x).length) = true := by
      have hs : (16777216 : Nat) = sizeLine := by rw [sizeLine_eq]
      rcases read4300 x (by rw [← hs]; exact hl) with ⟨m, h1, h2, h3⟩ | ⟨h1, _⟩
      · rw [hn] at h1
        cases h1
        exact ⟨h3, h2⟩
      · rw [hn] at h1
        cases h1
    have kk := Kept.mk (And.intro far got)
    have lk' := Kept.mk lk
    clear far got hl hn lk
    repeat (any_goals (first
      | assumption
      | ((with_reducible show wpAny _ _ ((int_private% "intFromText") _ _ _) _ _ _); refine from_text (lk'.get _) kk.get.1 kk.get.2.1 kk.get.2.2 ?_)
      | wp_step))
    all_goals first | exact ⟨_, rfl, fin⟩ | skip
section
variable {X : Cx} {K : PySem.W.Frag}
def rIntL : List V → Hp → VK → Prop := fun xs H Q => ∃ a n, xs = [.str a] ∧ PySem.intText? a = some n ∧ ¬ (numSeenOf a).length ≤ 640 ∧ a.length ≤ 16777216 ∧ Q (.int n) H
theorem long_int (e : X.K = K) (zs : PySem.W.nsIn K cStatics "sys.int_max_str_digits" = some none) : CallR X (.type "int") rIntL := by
  intro pins s σ H xs us Q I r h
  obtain ⟨a, n, rfl, hn, far, hl, q⟩ := h
  obtain ⟨u, rfl, t, rfl⟩ := vals1 r
  subst e
  exact call_int_1 (whole_text hl far hn) ⟨fun M => looks_msd I.kIn zs, rfl, ⟨.int n, H, I.tok _, ⟨_, rfl⟩, q⟩⟩
/-- int(..) of an int, a truth, a text of any length -/
def rIntX : List V → Hp → VK → Prop := fun xs H Q => rIntA xs H Q ∨ rIntL xs H Q
theorem int_x (e : X.K = K) (zs : PySem.W.nsIn K cStatics "sys.int_max_str_digits" = some none) : CallR X (.type "int") rIntX := cl_int.or (long_int e zs)
variable {H : Hp} {Q : VK}
theorem x_intI {i : Int} (k : Q (.int i) H) : rIntX [.int i] H Q := .inl (r_intI k)
theorem x_intB {i : Bool} (k : Q (.int (if i then 1 else 0)) H) : rIntX [.bl i] H Q := .inl (r_intB k)
/-- a text of figures alone -/
theorem x_intS {cs : List Nat} {n : Nat} (h : AllDigits cs) (h1 : cs ≠ []) (h2 : cs.length ≤ 4300) (hv : digitsVal cs = n) (k : Q (.int (n : Int)) H) : rIntX [.str (SX.S cs)] H Q := by
  have hl : (SX.S cs).length = cs.length := SX.S_len cs
  have hn : PySem.intText? (SX.S cs) = some (n : Int) := by
    rw [← hv]
    exact intText_digits (x := SX.S cs) h h1 (by rw [hl]; exact h2)
  by_cases far : (SX.S cs).length ≤ 640
  · exact .inl (r_intS hn far k)
  · refine .inr ⟨_, _, rfl, hn, ?_, by omega, k⟩
    rw [(numText_signs (x := SX.S cs) fun c hc => Or.inr (h c hc)).2]
    show ¬ (SX.S cs).cps.toList.length ≤ 640
    rw [← str_len]
    exact far
end
end RV

namespace RV
/-! bits of whole numbers, by halves -/
theorem and_par (a b : Nat) : (a &&& b) % 2 = a % 2 * (b % 2) := by
  have h := Nat.testBit_and a b 0
  rw [Nat.testBit_zero, Nat.testBit_zero, Nat.testBit_zero] at h
  have ha : a % 2 = 0 ∨ a % 2 = 1 := by omega
  have hb : b % 2 = 0 ∨ b % 2 = 1 := by omega
  have hc : (a &&& b) % 2 = 0 ∨ (a &&& b) % 2 = 1 := by omega
  rcases ha with ha | ha <;> rcases hb with hb | hb <;> rcases hc with hc | hc <;> simp_all
theorem and_half (a b : Nat) : (a &&& b) / 2 = (a / 2) &&& (b / 2) := Nat.and_div_two
/-- what the one has and the other has not -/
def out (a b : Nat) : Nat := a - (a &&& b)
theorem out_le (a b : Nat) : out a b ≤ a := Nat.sub_le _ _
theorem out_half (a b : Nat) : out a b / 2 = out (a / 2) (b / 2) ∧ out a b % 2 = a % 2 * (1 - b % 2) := by
  unfold out
  have h1 := and_half a b
  have h2 := and_par a b
  have h3 : (a &&& b) ≤ a := Nat.and_le_left
  have h4 : (a / 2 &&& b / 2) ≤ a / 2 := Nat.and_le_left
  have ha : a % 2 = 0 ∨ a % 2 = 1 := by omega
  have hb : b % 2 = 0 ∨ b % 2 = 1 := by omega
  generalize a &&& b = c at *
  generalize a / 2 &&& b / 2 = d at *
  rcases ha with ha | ha <;> rcases hb with hb | hb <;> rw [ha, hb] at h2 ⊢ <;> simp only [Nat.mul_zero, Nat.zero_mul, Nat.mul_one, Nat.one_mul, Nat.sub_zero, Nat.sub_self] at h2 ⊢ <;> constructor <;> omega
/-- how many bits are 1 -/
def pop (n : Nat) : Nat := if h : n = 0 then 0 else n % 2 + pop (n / 2)
termination_by n
decreasing_by omega
theorem pop_zero : pop 0 = 0 := by unfold pop; rfl
theorem pop_eq (n : Nat) : pop n = n % 2 + pop (n / 2) := by
  by_cases h : n = 0
  · subst h
    rw [pop_zero]
  · rw [pop, dif_neg h]
/-- where the ones stand, from a place on -/
def onesAt (n k : Nat) : List Nat := if h : n = 0 then [] else (if n % 2 = 1 then [k] else []) ++ onesAt (n / 2) (k + 1)
termination_by n
decreasing_by omega
theorem onesAt_zero (k : Nat) : onesAt 0 k = [] := by unfold onesAt; rfl
theorem onesAt_eq (n k : Nat) : onesAt n k = (if n % 2 = 1 then [k] else []) ++ onesAt (n / 2) (k + 1) := by
  by_cases h : n = 0
  · subst h
    simp [onesAt_zero]
  · rw [onesAt, dif_neg h]
theorem onesAt_len (n : Nat) : ∀ k, (onesAt n k).length = pop n := by
  induction n using Nat.strongRecOn with
  | _ n ih =>
    intro k
    by_cases h : n = 0
    · subst h
      rw [onesAt_zero, pop_zero]
      rfl
    · rw [onesAt_eq, pop_eq, List.length_append, ih (n / 2) (by omega)]
      split <;> simp only [List.length_cons, List.length_nil] <;> omega
theorem onesAt_mem (n : Nat) : ∀ k p, p ∈ onesAt n k ↔ k ≤ p ∧ n.testBit (p - k) = true := by
  induction n using Nat.strongRecOn with
  | _ n ih =>
    intro k p
    by_cases h : n = 0
    · subst h
      rw [onesAt_zero]
      simp
    · rw [onesAt_eq, List.mem_append, ih (n / 2) (by omega)]
      by_cases hp : p = k
      · subst hp
        rw [Nat.sub_self, Nat.testBit_zero]
        by_cases h1 : n % 2 = 1
        · simp [h1]
        · simp only [h1, if_false, List.not_mem_nil, false_or, decide_false]
          constructor
          · rintro ⟨h2, _⟩
            omega
          · rintro ⟨_, h2⟩
            exact absurd h2 Bool.false_ne_true
      · have e : p ∈ (if n % 2 = 1 then [k] else []) ↔ False := by
          split <;> simp [hp]
        rw [e, false_or]
        constructor
        · rintro ⟨h1, h2⟩
          refine ⟨by omega, ?_⟩
          have e2 : p - k = (p - (k + 1)) + 1 := by omega
          rw [e2, Nat.testBit_succ]
          exact h2
        · rintro ⟨h1, h2⟩
          refine ⟨by omega, ?_⟩
          have e2 : p - k = (p - (k + 1)) + 1 := by omega
          rw [e2, Nat.testBit_succ] at h2
          exact h2
/-- the ones that the other has not: how many, and what they come to -/
theorem lone_len (n : Nat) : ∀ m k (M : Nat), (∀ j, M.testBit (j + k) = m.testBit j) → ((onesAt n k).filter fun p => !M.testBit p).length = pop (out n m) := by
  induction n using Nat.strongRecOn with
  | _ n ih =>
    intro m k M hM
    by_cases h : n = 0
    · subst h
      have e : out 0 m = 0 := Nat.le_zero.mp (out_le 0 m)
      rw [onesAt_zero, e, pop_zero]
      rfl
    · have hM2 : ∀ j, M.testBit (j + (k + 1)) = (m / 2).testBit j := fun j => by
        rw [← Nat.testBit_succ, ← hM]
        congr 1
        all_goals omega
      rw [onesAt_eq, List.filter_append, List.length_append, ih (n / 2) (by omega) (m / 2) (k + 1) M hM2, pop_eq (out n m), (out_half n m).1, (out_half n m).2]
      congr 1
      have h0 := hM 0
      rw [Nat.zero_add, Nat.testBit_zero] at h0
      have hb : m % 2 = 0 ∨ m % 2 = 1 := by omega
      have ha : n % 2 = 0 ∨ n % 2 = 1 := by omega
      rcases ha with ha | ha <;> rcases hb with hb | hb <;> simp [ha, hb, h0]
theorem lone_sum (n : Nat) : ∀ m k (M : Nat), (∀ j, M.testBit (j + k) = m.testBit j) → (((onesAt n k).filter fun p => !M.testBit p).map fun p => 2 ^ p).sum = 2 ^ k * out n m := by
  induction n using Nat.strongRecOn with
  | _ n ih =>
    intro m k M hM
    by_cases h : n = 0
    · subst h
      have e : out 0 m = 0 := Nat.le_zero.mp (out_le 0 m)
      rw [onesAt_zero, e]
      rfl
    · have hM2 : ∀ j, M.testBit (j + (k + 1)) = (m / 2).testBit j := fun j => by
        rw [← Nat.testBit_succ, ← hM]
        congr 1
        all_goals omega
      rw [onesAt_eq, List.filter_append, List.map_append, List.sum_append, ih (n / 2) (by omega) (m / 2) (k + 1) M hM2]
      have h0 := hM 0
      rw [Nat.zero_add, Nat.testBit_zero] at h0
      obtain ⟨o1, o2⟩ := out_half n m
      have e : out n m = 2 * out (n / 2) (m / 2) + n % 2 * (1 - m % 2) := by omega
      rw [e, Nat.mul_add, Nat.pow_succ, Nat.mul_assoc, Nat.add_comm]
      congr 1
      have hb : m % 2 = 0 ∨ m % 2 = 1 := by omega
      have ha : n % 2 = 0 ∨ n % 2 = 1 := by omega
      rcases ha with ha | ha <;> rcases hb with hb | hb <;> simp [ha, hb, h0]
theorem out_and (a b : Nat) : out a b &&& a = out a b := by
  induction a using Nat.strongRecOn generalizing b with
  | _ a ih =>
    by_cases h : a = 0
    · subst h
      have e : out 0 b = 0 := Nat.le_zero.mp (out_le 0 b)
      rw [e]
      rfl
    · have h1 := and_half (out a b) a
      have h2 := and_par (out a b) a
      obtain ⟨o1, o2⟩ := out_half a b
      rw [o1, ih (a / 2) (by omega)] at h1
      have ha : a % 2 = 0 ∨ a % 2 = 1 := by omega
      have hb : b % 2 = 0 ∨ b % 2 = 1 := by omega
      generalize out a b &&& a = c at *
      generalize out (a / 2) (b / 2) = d at *
      generalize out a b = f at *
      rcases ha with ha | ha <;> rcases hb with hb | hb <;> rw [ha, hb] at o2 <;> rw [ha] at h2 <;> simp only [Nat.mul_zero, Nat.zero_mul, Nat.mul_one, Nat.one_mul, Nat.sub_zero, Nat.sub_self] at o2 h2 <;> omega
theorem out_zero {a b : Nat} (h : a &&& b = a) : out a b = 0 := by unfold out; rw [h]; omega
theorem out_self_zero {a b : Nat} : out a b = 0 ↔ pop (out a b) = 0 := by
  constructor
  · intro h; rw [h, pop_zero]
  · intro h
    generalize out a b = n at h
    induction n using Nat.strongRecOn with
    | _ n ih =>
      by_cases h0 : n = 0
      · exact h0
      · rw [pop_eq] at h
        have := ih (n / 2) (by omega) (by omega)
        omega
/-- the bits as signs, the greatest first -/
def bin (n : Nat) : List Nat := if h : n < 2 then [48 + n] else bin (n / 2) ++ [48 + n % 2]
termination_by n
decreasing_by omega
theorem bin_small {n : Nat} (h : n < 2) : bin n = [48 + n] := by rw [bin, dif_pos h]
theorem bin_big {n : Nat} (h : 2 ≤ n) : bin n = bin (n / 2) ++ [48 + n % 2] := by rw [bin, dif_neg (by omega)]
theorem dig_bit {d : Nat} (h : d < 2) : (Nat.digitChar d).toNat = 48 + d := by
  have : d = 0 ∨ d = 1 := by omega
  rcases this with rfl | rfl <;> rfl
theorem toDigits_bin (n : Nat) : (Nat.toDigits 2 n).map (fun c => c.toNat) = bin n := by
  induction n using Nat.strongRecOn with
  | _ n ih =>
    by_cases h : n < 2
    · rw [Nat.toDigits_of_lt_base h, bin_small h]
      show [(Nat.digitChar n).toNat] = _
      rw [dig_bit h]
    · rw [Nat.toDigits_of_base_le (by decide) (by omega), bin_big (by omega), List.map_append, ih (n / 2) (by omega)]
      show _ ++ [(Nat.digitChar (n % 2)).toNat] = _
      rw [dig_bit (by omega)]
theorem bin_in (n : Nat) : ∀ c ∈ bin n, c = 48 ∨ c = 49 := by
  induction n using Nat.strongRecOn with
  | _ n ih =>
    intro c hc
    by_cases h : n < 2
    · rw [bin_small h, List.mem_singleton] at hc
      omega
    · rw [bin_big (by omega), List.mem_append, List.mem_singleton] at hc
      rcases hc with hc | hc
      · exact ih (n / 2) (by omega) c hc
      · omega
theorem bin_ne (n : Nat) : bin n ≠ [] := by
  by_cases h : n < 2
  · rw [bin_small h]; simp
  · rw [bin_big (by omega)]; simp
theorem bin_len (n : Nat) : ∀ k, n < 2 ^ (k + 1) → (bin n).length ≤ k + 1 := by
  induction n using Nat.strongRecOn with
  | _ n ih =>
    intro k hk
    by_cases h : n < 2
    · rw [bin_small h]
      simp
    · rw [bin_big (by omega), List.length_append]
      cases k with
      | zero => rw [Nat.zero_add, Nat.pow_one] at hk; omega
      | succ k =>
        rw [Nat.pow_succ] at hk
        have := ih (n / 2) (by omega) k (by omega)
        simp only [List.length_cons, List.length_nil]
        omega
theorem bin_count (n : Nat) : (bin n).count 49 = pop n := by
  induction n using Nat.strongRecOn with
  | _ n ih =>
    by_cases h : n < 2
    · rw [bin_small h]
      have : n = 0 ∨ n = 1 := by omega
      rcases this with rfl | rfl
      · rw [pop_zero]; rfl
      · rw [pop_eq]
        simp [pop_zero]
    · rw [bin_big (by omega), List.count_append, ih (n / 2) (by omega), pop_eq n]
      have : n % 2 = 0 ∨ n % 2 = 1 := by omega
      rcases this with e | e <;> rw [e] <;> simp <;> omega
/-- what signs of bits come to -/
def bitsNum (l : List Nat) : Nat := l.foldl (fun a c => a * 2 + (c - 48)) 0
theorem bitsNum_snoc (l : List Nat) (c : Nat) : bitsNum (l ++ [c]) = bitsNum l * 2 + (c - 48) := by
  unfold bitsNum
  rw [List.foldl_append]
  rfl
theorem bitsNum_bin (n : Nat) : bitsNum (bin n) = n := by
  induction n using Nat.strongRecOn with
  | _ n ih =>
    by_cases h : n < 2
    · rw [bin_small h]
      show 0 * 2 + (48 + n - 48) = n
      omega
    · rw [bin_big (by omega), bitsNum_snoc, ih (n / 2) (by omega)]
      omega
theorem bitsNum_zeros (k : Nat) (l : List Nat) : bitsNum (List.replicate k 48 ++ l) = bitsNum l := by
  induction k with
  | zero => rfl
  | succ k ih =>
    rw [List.replicate_succ, List.cons_append]
    show bitsNum (List.replicate k 48 ++ l) = _
    exact ih
theorem pop_le {n k : Nat} (h : n < 2 ^ k) : pop n ≤ k + 1 := by
  have h3 : 2 ^ k ≤ 2 ^ (k + 1) := Nat.pow_le_pow_right (by decide) (by omega)
  have h1 := bin_len n k (by omega)
  have h2 := List.count_le_length (a := 49) (l := bin n)
  rw [bin_count] at h2
  omega
theorem bit_lt {n k p : Nat} (h : n < 2 ^ k) (hp : n.testBit p = true) : p < k := by
  rcases Nat.lt_or_ge p k with g | g
  · exact g
  · rw [Nat.testBit_lt_two_pow (Nat.lt_of_lt_of_le h (Nat.pow_le_pow_right (by decide) g))] at hp
    cases hp
/-- figures in a base that is a power of 2 -/
theorem and_fig (w : Nat) : ∀ x y r s : Nat, x < 2 ^ w → y < 2 ^ w → (x + 2 ^ w * r) &&& (y + 2 ^ w * s) = (x &&& y) + 2 ^ w * (r &&& s) := by
  induction w with
  | zero =>
    intro x y r s hx hy
    rw [Nat.pow_zero] at hx hy
    have : x = 0 := by omega
    have : y = 0 := by omega
    subst x
    subst y
    rw [Nat.pow_zero, Nat.zero_add, Nat.one_mul, Nat.zero_add, Nat.one_mul, Nat.one_mul]
    show _ = 0 + _
    rw [Nat.zero_add]
  | succ w ih =>
    intro x y r s hx hy
    rw [Nat.pow_succ] at hx hy
    have e : ∀ z t : Nat, (z + 2 ^ (w + 1) * t) / 2 = z / 2 + 2 ^ w * t ∧ (z + 2 ^ (w + 1) * t) % 2 = z % 2 := by
      intro z t
      rw [Nat.pow_succ, Nat.mul_right_comm]
      generalize 2 ^ w * t = u
      omega
    have h1 := and_half (x + 2 ^ (w + 1) * r) (y + 2 ^ (w + 1) * s)
    have h2 := and_par (x + 2 ^ (w + 1) * r) (y + 2 ^ (w + 1) * s)
    rw [(e x r).1, (e y s).1, ih _ _ _ _ (by omega) (by omega), ← and_half] at h1
    rw [(e x r).2, (e y s).2, ← and_par] at h2
    have e3 := e (x &&& y) (r &&& s)
    generalize x + 2 ^ (w + 1) * r &&& y + 2 ^ (w + 1) * s = c at *
    omega
end RV

/-! the bits of a number as a text: {n:b} -/
namespace RV
open PySem PySem.Spec L2 Builtin Float
open PyProof.Rows hiding St
def binSpec : FormatSpec := { align := 62, type := some 98 }
/-- the bits as a text -/
def binText (a : Int) : Str := ⟨((Nat.toDigits 2 a.natAbs).map fun c => c.toNat).toArray⟩
section
variable {prog : Program} {w : World} {A : Around} {E : Value → Shared → Prop} {s : Shared}
theorem by_eq {α : Type} {Q : α → Shared → Prop} {m m' : Sem α} (h : wpAny (model prog w) A m' Q E s) (e : m = m') : wpAny (model prog w) A m Q E s := e ▸ h
theorem field_bin {a : Int} (h0 : 0 ≤ a) : intField' binSpec (decide (a < 0)) [] ((Nat.toDigits 2 a.natAbs).map fun c => (if ((98 : Nat) == 88) = true then c.toUpper else c).toNat) [] 4 = binText a := by
  have e0 : decide (a < 0) = false := decide_eq_false (by omega)
  have e1 : (fun c : Char => (if ((98 : Nat) == 88) = true then c.toUpper else c).toNat) = fun c => c.toNat := by
    funext c
    rw [if_neg (by decide)]
  rw [e0, e1]
  generalize hL : (Nat.toDigits 2 a.natAbs).map (fun c => c.toNat) = L
  have e2 : binText a = ⟨L.toArray⟩ := by rw [binText, hL]
  rw [e2]
  cases L with
  | nil => rfl
  | cons x r =>
    have e3 : intField' binSpec false [] (x :: r) [] 4 = ⟨(List.replicate ((-1 : Int) - ((([] : List Nat).length : Int) + (([] : List Nat).length : Int) + (([] : List Nat).length : Int)) - ((List.replicate ((0 : Int).toNat - (x :: r).length) 48 ++ (x :: r)).length : Int)).toNat 32 ++ [] ++ [] ++ List.replicate 0 32 ++ (List.replicate ((0 : Int).toNat - (x :: r).length) 48 ++ (x :: r)) ++ [] ++ List.replicate 0 32).toArray⟩ := rfl
    have hz : (0 : Int).toNat - (x :: r).length = 0 := by
      show 0 - _ = 0
      omega
    have hp : ((-1 : Int) - ((([] : List Nat).length : Int) + (([] : List Nat).length : Int) + (([] : List Nat).length : Int)) - ((x :: r).length : Int)).toNat = 0 := by
      have : (([] : List Nat).length : Int) = 0 := rfl
      omega
    rw [e3, hz, List.replicate_zero, List.nil_append, hp, List.replicate_zero]
    simp only [List.nil_append, List.append_nil]
theorem formatField_bin {a : Int} {t : Tok} {Q : Value → Shared → Prop} (h0 : 0 ≤ a) (hl : (binText a).length ≤ sizeLine)
    (h : Q (.str (binText a) (s.toks + 1)) { s with toks := s.toks + 1 + 1 }) :
    wpAny (model prog w) A (formatField (.int a t) (Str.ofString "b")) Q E s := by
  have hsz : (Str.ofString "b").length ≤ sizeLine := by size_fits
  have hne : ((Str.ofString "b").length == 0) = false := by decide +kernel
  have hasc : (((Str.ofString "b").cps.toList.drop 1).any (· ≥ 128) || ((Str.ofString "b").cps.getD 0 0 ≥ 128 && !([60, 62, 61, 94] : List Nat).contains ((Str.ofString "b").cps.getD 1 0))) = false := by decide +kernel
  have hp : parseFormatSpec (Str.ofString "b").cps.toList "int" 62 = .ok binSpec := by kernel_rfl
  have hty : binSpec.type = some 98 := by kernel_rfl
  have hpr : binSpec.precision = none := by kernel_rfl
  have hz : binSpec.noNeg0 = false := by kernel_rfl
  have hal : binSpec.alt = false := by kernel_rfl
  have hw : binSpec.width = none := by kernel_rfl
  have hgr : binSpec.grouping = none := by kernel_rfl
  have hsg : binSpec.sign = none := by kernel_rfl
  have hfi : binSpec.fill = 32 := by kernel_rfl
  have hli : binSpec.align = 62 := by kernel_rfl
  show wpAny _ _ (holding [.int a t] (pyFormat (.int a t) (Str.ofString "b"))) Q E s
  refine wpAny_holding ?_
  unfold pyFormat
  refine wpAny_bind (wpAny_mkStr ?_ hsz)
  refine wpAny_bind (m := callSpecial? (.int a t) (Str.ofString "__format__") [.str (Str.ofString "b") s.toks]) (wpAny_callSpecial?_slot (name := Str.ofString "__format__") (typeIs_int _ a t) F.slot_int_format ?_)
  refine wpAny_call (codeAny_call_builtin F.slot_int_format.plain F.entry_int_format (F.slot_int_format.check _ _ _ _ _ _ _ _ (typeIs_int _ a t) (F.args_int_format_2 _ _) ?_))
  unfold Builtin.«int.__format__»
  simp only [selfAndOne, noKeywords, Int.intOfSelf, asInt?, asStr?, List.isEmpty_nil, if_true, pure_bind, bind_pure, bind_assoc, hne, hasc, Bool.false_eq_true, if_false,
    show (Value.str (Str.ofString "b") s.toks == Value.none) = false from rfl]
  refine wpAny_bind (wpAny_typeNameOf (T := "str") (typeIs_str _ _ _) (by decide) fun _ => ?_)
  first | refine wpAny_bind (wpAny_typeNameOfCut_int ?_) | refine wpAny_bind (wpAny_typeNameOf_int ?_)
  simp only [hp, hty, Option.getD_some]
  rw [if_pos (by decide)]
  refine by_eq (m' := retStr (intField' binSpec (decide (a < 0)) [] ((Nat.toDigits 2 a.natAbs).map fun c => (if ((98 : Nat) == 88) = true then c.toUpper else c).toNat) [] 4)) ?_ (by with_unfolding_all rfl)
  rw [field_bin h0]
  unfold retStr
  refine wpAny_bind (wpAny_mkStr (wpAny_pure ?_) hl)
  dsimp only
  exact wpAny_bind (wpAny_isInstance (typeIs_str _ _ _) isSubtype_str_str (wpAny_pure h))
end
theorem binText_is {a : Int} (h : 0 ≤ a) : binText a = SX.S (bin a.toNat) := by
  have e : a.natAbs = a.toNat := by omega
  unfold binText
  rw [e, toDigits_bin]
section
variable {X : Cx}
/-- {n:b}: a number's bits -/
def tBin (te : TE) : TE := fun σ H Q => te σ H fun x H1 => ∃ i : Int, x = .int i ∧ 0 ≤ i ∧ (bin i.toNat).length ≤ sizeLine ∧ Q (.str (SX.S (bin i.toNat))) H1
theorem pe_bin {e spec : Expr} {te : TE} {pos : Pos} (he : PE X e te) (hs : PE X spec (tC (.str (Str.ofString "b")))) : PE X (.FormattedValue e (-1) (some spec) pos) (tBin te) := by
  refine ⟨fun pins s σ H Q I h => ?_⟩
  refine wpAny_FormattedValue_spec (thn (he.run pins s σ H _ I h) fun v s1 hv => ?_)
  obtain ⟨x, H1, I1, r1, i, rfl, h0, hz, q⟩ := hv
  obtain ⟨t, rfl⟩ := r1
  refine thn (hs.run pins s1 σ H1 (fun y H2 => y = .str (Str.ofString "b") ∧ H2 = H1) I1 ⟨rfl, rfl⟩) fun r s2 hr => ?_
  obtain ⟨y, H2, I2, r2, rfl, rfl⟩ := hr
  obtain ⟨t2, rfl⟩ := r2
  have e := binText_is h0
  exact ⟨_, _, rfl, formatField_bin h0 (by rw [e]; exact hz) (by rw [e]; exact ⟨.str (SX.S (bin i.toNat)), H2, I2.tok _, ⟨_, rfl⟩, q⟩)⟩
theorem r_bin {σ : St} {H : Hp} {Q : VK} {te : TE} (h : te σ H fun x H1 => ∃ i : Int, x = .int i ∧ 0 ≤ i ∧ (bin i.toNat).length ≤ sizeLine ∧ Q (.str (SX.S (bin i.toNat))) H1) : tBin te σ H Q := h
theorem bin_ok {i : Int} {k : Nat} {P : Prop} (h0 : 0 ≤ i) (h1 : i < 2 ^ k) (hk : k ≤ 900000) (q : P) : 0 ≤ i ∧ (bin i.toNat).length ≤ sizeLine ∧ P := by
  refine ⟨h0, ?_, q⟩
  have hl : (1000000 : Nat) ≤ sizeLine := by rw [sizeLine_eq]; decide
  have e : ((2 ^ k : Nat) : Int) = (2 : Int) ^ k := by rw [Int.natCast_pow]; rfl
  have h2 : i.toNat < 2 ^ k := Int.ofNat_lt.mp (by rw [e, Int.toNat_of_nonneg h0]; exact h1)
  have h3 : 2 ^ k ≤ 2 ^ (k + 1) := Nat.pow_le_pow_right (by decide) (by omega)
  have := bin_len i.toNat k (by omega)
  omega
end
/-! int(text, 2) -/
open PySem.NumText
structure Held (p : Prop) : Prop where
  get : p
def Bits (l : List Nat) : Prop := ∀ c ∈ l, c = 48 ∨ c = 49
theorem Bits.hex {l : List Nat} (h : Bits l) : ∀ c ∈ l, Hx.IsHex c := fun c hc => .inl (by rcases h c hc with rfl | rfl <;> decide)
theorem two_step {ds : Array Nat} {b : Bool} {c : Nat} (h : c = 48 ∨ c = 49) : PySem.NumText.step 2 (ds, b) c = some (ds.push (c - 48), true) := by
  rcases h with rfl | rfl <;> rfl
theorem two_fold : ∀ (l : List Nat) (ds : Array Nat), Bits l → l.foldlM (PySem.NumText.step 2) (ds, true) = some (l.foldl (fun d c => d.push (c - 48)) ds, true)
  | [], _, _ => rfl
  | c :: l, ds, h => by
    rw [List.foldlM_cons, two_step (h c (by simp))]
    exact two_fold l _ fun d hd => h d (by simp [hd])
theorem two_digits {l : List Nat} (h : Bits l) (hn : l ≠ []) : digits? 2 l = some (l.foldl (fun d c => d.push (c - 48)) #[]) := by
  cases l with
  | nil => exact absurd rfl hn
  | cons c l =>
    unfold digits?
    rw [List.foldlM_cons, two_step (h c (by simp))]
    show (l.foldlM (PySem.NumText.step 2) ((#[] : Array Nat).push (c - 48), true)).bind _ = _
    rw [two_fold l _ fun d hd => h d (by simp [hd])]
    rfl
theorem two_worth : ∀ (l : List Nat) (ds : Array Nat), (l.foldl (fun d c => d.push (c - 48)) ds).foldl (fun a d => a * 2 + d) 0 = l.foldl (fun a c => a * 2 + (c - 48)) (ds.foldl (fun a d => a * 2 + d) 0)
  | [], _ => rfl
  | c :: l, ds => by
    rw [List.foldl_cons, two_worth l, List.foldl_cons]
    congr 1
    simp
theorem two_based {l : List Nat} (h : Bits l) : based 2 l = (2, false, l) := by
  match l, h with
  | [], _ => rfl
  | [a], h =>
    rcases h a (by simp) with rfl | rfl <;> rfl
  | a :: c :: r, h =>
    rcases h a (by simp) with rfl | rfl
    · rcases h c (by simp) with rfl | rfl <;> rfl
    · rfl
theorem two_read {l : List Nat} (lim : Nat) (h : Bits l) (hn : l ≠ []) : (int_private% "readNumeral") lim 2 l = (int_private% "Numeral.value") ((bitsNum l : Nat) : Int) := by
  have hr : Bits l.reverse := fun c hc => h c (List.mem_reverse.mp hc)
  refine (readNumeral_eq lim 2 l).trans ?_
  rw [Hx.dropB h.hex, Hx.signH h.hex]
  show judge lim false (based 2 l).1 (based 2 l).2.1 (digits? (based 2 l).1 (((based 2 l).2.2.reverse.dropWhile blank).reverse)) = _
  rw [two_based h]
  show judge lim false 2 false (digits? 2 ((l.reverse.dropWhile blank).reverse)) = _
  rw [Hx.dropB hr.hex, List.reverse_reverse, two_digits h hn]
  show (int_private% "Numeral.value") (((l.foldl (fun d c => d.push (c - 48)) (#[] : Array Nat)).foldl (fun a d => a * 2 + d) 0 : Nat) : Int) = _
  rw [two_worth]
  rfl
theorem text_two {M : PySem.Model} {A : Around} {E : Value → Shared → Prop} {s : Shared} {Q : Value → Shared → Prop} {v : Value} {text : List Nat} {n : Int}
    (lk : ¬ (text.takeWhile (· != 0)).length ≤ 640 → PySem.W.Looks M s.heap Builtin.intMaxStrDigits 4300)
    (got : ∀ lim, (int_private% "readNumeral") lim 2 (text.takeWhile (· != 0)) = (int_private% "Numeral.value") n)
    (whole : ((text.takeWhile (· != 0)).length == text.length) = true) (k : Q (.int n s.toks) { s with toks := s.toks + 1 }) :
    wpAny M A ((int_private% "intFromText") v text 2) Q E s := by
  by_cases far : (text.takeWhile (· != 0)).length ≤ 640
  · exact Hx.wp_textB far (got 0) whole k
  · have lk1 := lk far
    clear lk
    obtain ⟨hp, g, d, tk, os⟩ := s
    have lk' : PySem.W.Looks M hp Builtin.intMaxStrDigits 4300 := lk1
    clear lk1
    repeat (any_goals (first
      | (with_reducible refine wpAny_ite_false (decide_eq_false far) ?_)
      | (with_reducible refine wpAny_ite_true (decide_eq_true whole) ?_)
      | ((with_reducible show wpAny _ _ Builtin.intMaxStrDigits _ _ _); refine PySem.W.Looks.here lk' ?_)
      | assumption
      | wp_step))
    all_goals (try rw [got])
    all_goals (try dsimp only)
    repeat (any_goals (first
      | (with_reducible refine wpAny_ite_true (decide_eq_true whole) ?_)
      | assumption
      | wp_step))
theorem meets_two {x : PySem.Str} {u t : Tok} (h : Bits x.cps.toList) (hn : x.cps.toList ≠ []) :
    Meets (Builtin.«int.__new__» ⟨[.type "int", .str x u, .int 2 t], []⟩) (fun A R s => (∀ M, PySem.W.Looks M s.heap Builtin.intMaxStrDigits 4300) ∧ R (.ok (.ret (.int ((bitsNum x.cps.toList : Nat) : Int) s.toks))) { s with toks := s.toks + 1 }) :=
  .of_wp fun prog w A R s hs => by
    obtain ⟨hp, g, d, tk, os⟩ := s
    obtain ⟨lk, fin⟩ := hs
    have a1 := F.conv_sub_int
    have a2 := F.madeHere_int
    have a6 : typeOf (.str x u) = pure (.type "str") := rfl
    obtain ⟨e1, e2⟩ := Hx.seen_hex (x := x) h.hex
    have got : ∀ lim, (int_private% "readNumeral") lim 2 (numSeenOf x) = (int_private% "Numeral.value") ((bitsNum x.cps.toList : Nat) : Int) := by
      intro lim
      rw [e2]
      exact two_read lim h hn
    have whole : ((numSeenOf x).length == (numTextOf x).length) = true := by
      rw [e1, e2]
      exact beq_self_eq_true _
    have kk := Held.mk (And.intro got whole)
    have lk' := Held.mk lk
    clear got whole e1 e2 hn h lk
    repeat (any_goals (first
      | assumption
      | ((with_reducible show wpAny _ _ ((int_private% "intFromText") _ _ _) _ _ _); refine text_two (fun _ => lk'.get _) kk.get.1 kk.get.2 ?_)
      | wp_step))
    all_goals first | exact ⟨_, rfl, fin⟩ | skip
theorem new_two (a b : Value) : checkBuiltinCall "int.__new__" ⟨[.type "int", a, b], []⟩ = pure () := by kernel_rfl
theorem ty_two (a b : Value) : checkTypeCall "int" ⟨[a, b], []⟩ = pure () := by kernel_rfl
section
variable {X : Cx} {K : PySem.W.Frag}
def rInt2 : List V → Hp → VK → Prop := fun xs H Q => ∃ l : List Nat, xs = [.str (SX.S l), .int 2] ∧ Bits l ∧ l ≠ [] ∧ Q (.int ((bitsNum l : Nat) : Int)) H
theorem int_two (e : X.K = K) (zs : PySem.W.nsIn K cStatics "sys.int_max_str_digits" = some none) : CallR X (.type "int") rInt2 := by
  intro pins s σ H xs us Q I r h
  obtain ⟨l, rfl, hb, hn, q⟩ := h
  obtain ⟨u, w', rfl, r1, r2⟩ := vals2 r
  obtain ⟨t1, rfl⟩ := r1
  obtain ⟨t2, rfl⟩ := r2
  subst e
  exact callType_new F.called_int F.newNe_int (ty_two _ _) (new_two _ _) (fun obj => F.initArgs_range_2 obj _ _) F.entry_int_new (meets_two (x := SX.S l) hb hn) ⟨fun M => looks_msd I.kIn zs, rfl, ⟨.int ((bitsNum l : Nat) : Int), H, I.tok _, ⟨_, rfl⟩, q⟩⟩
theorem r_int2 {l : List Nat} {H : Hp} {Q : VK} (hb : Bits l) (hn : l ≠ []) (k : Q (.int ((bitsNum l : Nat) : Int)) H) : rInt2 [.str (SX.S l), .int 2] H Q := ⟨l, rfl, hb, hn, k⟩
end
end RV

/-! enumerate over a text, over a tuple, over a list: one rule -/
namespace RV
open PySem PySem.Spec L2
open PyProof.Rows hiding St
/-- places and signs, in new pairs -/
def IteS (x : Str) : It :=
  ⟨fun i _ => i < x.cps.size, fun i H v H' => ∃ T c, v = .ref T ∧ H T = none ∧ H' = upd H T (.tup [.int (i : Nat), .str ⟨#[c]⟩]) ∧ x.cps[i]? = some c, fun i _ => i = x.cps.size⟩
/-- places and items of a tuple, in new pairs -/
def IteT (K : PySem.W.Frag) (a : Addr) : It :=
  ⟨fun i H => ∃ (xs : List V) (x : V), SqT K H a xs ∧ xs[i]? = some x, fun i H v H' => ∃ T x, v = .ref T ∧ H T = none ∧ H' = upd H T (.tup [.int (i : Nat), x]) ∧ ∀ xs, SqT K H a xs → xs[i]? = some x, fun i H => ∃ xs : List V, SqT K H a xs ∧ i = xs.length⟩
section
variable {P : Program} {w : World} {K : PySem.W.Frag} {elts : List Expr} {kk : Nat} {tpos : Pos}
theorem turn_enumS (x : Str) (t : Tok) (e it : Addr) :
    Turn P w K (.Tuple elts kk tpos) (IteS x) [e, it] e (fun i h => (∃ old, IsEnum h e it ((i : Nat) : Int) old) ∧ h.IsStrIter it (strIterType x) x t i ∧ e ≠ it) where
  mem := by simp
  obj := fun i h st b hb => by
    obtain ⟨⟨old, he⟩, ⟨o, ho, hc, hd⟩, _⟩ := st
    have e' : b = e ∨ b = it := by simpa using hb
    rcases e' with z | z
    · subst z
      exact ⟨_, he, fun v q => nomatch q⟩
    · subst z
      exact ⟨o, ho, fun v q => by rw [hd] at q; cases q⟩
  keep := fun i h h' st k => by
    obtain ⟨⟨old, he⟩, ⟨o, ho, r⟩, hne⟩ := st
    exact ⟨⟨old, k e (by simp) _ he⟩, ⟨o, k it (by simp) o ho, r⟩, hne⟩
  item := by
    intro X hP hw hK hc i pins s σ H E I hf st hg
    subst hP hw hK
    obtain ⟨⟨old, he⟩, hit, hne⟩ := st
    have hel : e < s.heap.objs.size := Heap.lt_size he
    have hil : it < s.heap.objs.size := by
      obtain ⟨_, q, _⟩ := hit
      exact Heap.lt_size q
    refine wpAny_pyNext_enum_itemD (Draws.text (A := X.A.in1) (show X.A.in1.handled = none from I.ok.hd hc) it x t) he hit hg hne (by simpa using hne) fun u h' tk hP ho hit' hT hsz hk => ?_
    obtain ⟨c, u', hcx, rfl⟩ := hP
    refine ⟨_, rfl, wpAny_letOwnedTupleGo_enum (s := { s with heap := h', toks := tk + 1 }) ho fun h'' he' sb => ?_⟩
    have hT2 : h''.get? s.heap.objs.size = some { cls := .type "tuple", data := .seq #[.int i tk, .str ⟨#[c]⟩ u'] } := (sb.2 _ (Nat.ne_of_gt hel)).trans hT
    have new : ObjOk X.prog X.w (upd H s.heap.objs.size (.tup [.int (i : Nat), .str ⟨#[c]⟩])) h'' s.heap.objs.size (.tup [.int (i : Nat), .str ⟨#[c]⟩]) :=
      ⟨by show 2 ≤ sizeLine; decide, _, .cons ⟨tk, rfl⟩ (.cons ⟨u', rfl⟩ .nil), ⟨_, hT2, rfl, _, rfl⟩⟩
    have I1 : Inv X pins σ (upd H s.heap.objs.size (.tup [.int (i : Nat), .str ⟨#[c]⟩])) { s with heap := h'', toks := tk + 1 } :=
      I.turnedNew (ch := [e, it]) (fun b ob hb q => (sb.2 b (fun z => hb (by simp [z]))).trans (hk b ob (fun z => hb (by simp [z])) (fun z => hb (by simp [z])) q)) hf (Nat.le_refl _) new
    refine ⟨.ref s.heap.objs.size, _, I1, rfl, ⟨_, c, rfl, I.hok.fresh (Nat.le_refl _), rfl, hcx⟩, ⟨⟨.str ⟨#[c]⟩ u', ?_⟩, ?_, hne⟩, fun b hb => ?_⟩
    · have e1 : ((i + 1 : Nat) : Int) = (i : Int) + 1 := by omega
      rw [e1]
      exact he'
    · obtain ⟨o, q, r⟩ := hit'
      exact ⟨o, (sb.2 it (Ne.symm hne)).trans q, r⟩
    · have hb' : b < s.heap.objs.size := by
        have e' : b = e ∨ b = it := by simpa using hb
        rcases e' with z | z
        · subst z
          exact hel
        · subst z
          exact hil
      rw [upd_ne (Nat.ne_of_lt hb')]
      exact (hf b hb).1
  done := by
    intro X hP hw hK hc i pins s σ H E I hf st hg
    subst hP hw hK
    obtain ⟨⟨old, he⟩, hit, hne⟩ := st
    obtain ⟨f0, f1, f2, f3, f4, f5⟩ := hf it (by simp)
    have hi : i = x.cps.size := hg
    subst hi
    exact wpAny_pyNext_enum_endD (Draws.text (A := X.A.in1) (show X.A.in1.handled = none from I.ok.hd hc) it x t) he hit fun h' eb => ⟨rfl, I.turned (t' := s.toks) (fun b o hb q => eb b o (by simpa using hb) q) f0 f1 f3 f4 f5⟩
  self := fun A i s Q E st h => by
    obtain ⟨⟨_, he⟩, _⟩ := st
    exact wpAny_pyIter_enum he h
theorem turn_enumT (a e it : Addr) :
    Turn P w K (.Tuple elts kk tpos) (IteT K a) [e, it] e (fun i h => (∃ old, IsEnum h e it ((i : Nat) : Int) old) ∧ h.IsTupleIter it a i ∧ e ≠ it) where
  mem := by simp
  obj := fun i h st b hb => by
    obtain ⟨⟨old, he⟩, ⟨o, ho, hc, hd⟩, _⟩ := st
    have e' : b = e ∨ b = it := by simpa using hb
    rcases e' with z | z
    · subst z
      exact ⟨_, he, fun v q => nomatch q⟩
    · subst z
      exact ⟨o, ho, fun v q => by rw [hd] at q; cases q⟩
  keep := fun i h h' st k => by
    obtain ⟨⟨old, he⟩, hi, hne⟩ := st
    exact ⟨⟨old, k e (by simp) _ he⟩, hi.at fun o q => k it (by simp) o q, hne⟩
  item := by
    intro X hP hw hK hc i pins s σ H E I hf st hg
    subst hP hw hK
    obtain ⟨⟨old, he⟩, hit, hne⟩ := st
    obtain ⟨xs, x, hq, hx⟩ := hg
    obtain ⟨its, rv, p, hz⟩ := I.tuple hq
    obtain ⟨u, hu, ru⟩ := rv.get hx
    have hel : e < s.heap.objs.size := Heap.lt_size he
    have hil : it < s.heap.objs.size := by
      obtain ⟨_, q, _⟩ := hit
      exact Heap.lt_size q
    have hil2 : i < its.length := (List.getElem?_eq_some_iff.mp hu).1
    have hai : a ≠ it := by
      intro z
      subst z
      obtain ⟨o1, q1, c1, _⟩ := hit
      obtain ⟨o2, q2, c2, _⟩ := p
      rw [q1] at q2
      cases q2
      rw [c1] at c2
      exact absurd (Value.type.inj c2) (by decide)
    have hae : e ≠ a := by
      intro z
      subst z
      obtain ⟨o2, q2, c2, _⟩ := p
      have q1 := he
      unfold IsEnum at q1
      rw [q1] at q2
      cases q2
      exact absurd (Value.type.inj c2) (by decide)
    have ht := p
    refine wpAny_pyNext_enum_itemD (Draws.tuple (A := X.A.in1) (show X.A.in1.handled = none from I.ok.hd hc) it a hai its.toArray) he ⟨hit, ht⟩ (by simpa using hil2) hne (by simp [hne, hae]) fun u1 h' tk hP ho hit' hT hsz hk => ?_
    have eu : u1 = u := by
      have h1 : its.toArray[i]? = some u1 := hP
      rw [List.getElem?_toArray, hu] at h1
      exact (Option.some.inj h1).symm
    subst eu
    refine ⟨_, rfl, wpAny_letOwnedTupleGo_enum (s := { s with heap := h', toks := tk + 1 }) ho fun h'' he' sb => ?_⟩
    have hT2 : h''.get? s.heap.objs.size = some { cls := .type "tuple", data := .seq #[.int i tk, u1] } := (sb.2 _ (Nat.ne_of_gt hel)).trans hT
    have new : ObjOk X.prog X.w (upd H s.heap.objs.size (.tup [.int (i : Nat), x])) h'' s.heap.objs.size (.tup [.int (i : Nat), x]) :=
      ⟨by show 2 ≤ sizeLine; decide, _, .cons ⟨tk, rfl⟩ (.cons ru .nil), ⟨_, hT2, rfl, _, rfl⟩⟩
    have I1 : Inv X pins σ (upd H s.heap.objs.size (.tup [.int (i : Nat), x])) { s with heap := h'', toks := tk + 1 } :=
      I.turnedNew (ch := [e, it]) (fun b ob hb q => (sb.2 b (fun z => hb (by simp [z]))).trans (hk b ob (fun z => hb (by simp [z])) (fun z => hb (by simp [z])) q)) hf (Nat.le_refl _) new
    refine ⟨.ref s.heap.objs.size, _, I1, rfl, ⟨_, x, rfl, I.hok.fresh (Nat.le_refl _), rfl, fun ys hy => by rw [I.tuple_inj hy hq]; exact hx⟩, ⟨⟨u1, ?_⟩, hit'.1.at fun o q => (sb.2 it (Ne.symm hne)).trans q, hne⟩, fun b hb => ?_⟩
    · have e1 : ((i + 1 : Nat) : Int) = (i : Int) + 1 := by omega
      rw [e1]
      exact he'
    · have hb' : b < s.heap.objs.size := by
        have e' : b = e ∨ b = it := by simpa using hb
        rcases e' with z | z
        · subst z
          exact hel
        · subst z
          exact hil
      rw [upd_ne (Nat.ne_of_lt hb')]
      exact (hf b hb).1
  done := by
    intro X hP hw hK hc i pins s σ H E I hf st hg
    subst hP hw hK
    obtain ⟨⟨old, he⟩, hit, hne⟩ := st
    obtain ⟨xs, hq, hx⟩ := hg
    obtain ⟨its, rv, p, hz⟩ := I.tuple hq
    obtain ⟨f0, f1, f2, f3, f4, f5⟩ := hf it (by simp)
    have hl := rv.length
    have hai : a ≠ it := by
      intro z
      subst z
      obtain ⟨o1, q1, c1, _⟩ := hit
      obtain ⟨o2, q2, c2, _⟩ := p
      rw [q1] at q2
      cases q2
      rw [c1] at c2
      exact absurd (Value.type.inj c2) (by decide)
    have e1 : i = its.toArray.size := by simp; omega
    subst e1
    exact wpAny_pyNext_enum_endD (Draws.tuple (A := X.A.in1) (show X.A.in1.handled = none from I.ok.hd hc) it a hai its.toArray) he ⟨hit, p⟩ fun h' eb => ⟨rfl, I.turned (t' := s.toks) (fun b o hb q => eb b o (by simpa using hb) q) f0 f1 f3 f4 f5⟩
  self := fun A i s Q E st h => by
    obtain ⟨⟨_, he⟩, _⟩ := st
    exact wpAny_pyIter_enum he h
end
section
variable {v : Value} {o : Obj} {Hc : Heap → Prop}
theorem meets_enum1 (B : Begins v o Hc) :
    Meets (Builtin.«enumerate.__new__» ⟨[.type "enumerate", v], []⟩) (fun _ R s => Hc s.heap ∧
      R (.ok (.ret (.ref (s.heap.push o).objs.size))) { s with heap := (s.heap.push o).push { cls := .type "enumerate", data := .fields #[.none, .bool false, .ref s.heap.objs.size, rawInt 0, .none, .none] } }) :=
  .of_wp fun prog w A R s h => by
    obtain ⟨hp, g, d, tk, os⟩ := s
    obtain ⟨h1, h⟩ := h
    have hsub := sub_enumerate
    have q1 : ∀ {A' : Around} {E : Value → Shared → Prop} {Q : Value → Shared → Prop}, Q (.ref hp.objs.size) ⟨hp.push o, g, d, tk, os⟩ → wpAny (model prog w) A' (pyIter v) Q E ⟨hp, g, d, tk, os⟩ :=
      fun q => B.iter prog w _ _ ⟨hp, g, d, tk, os⟩ _ h1 q
    wp_walk using q1
    refine wpAny_stack_any fun st => wpAny_pure ?_
    split
    · rename_i c _ _ _ _ _
      cases (c == Value.type "enumerate") <;> (wp_walk using q1; exact ⟨_, rfl, h⟩)
    · wp_walk using q1
      exact ⟨_, rfl, h⟩
theorem enum1 {prog : Program} {w : World} {A : Around} {E : Value → Shared → Prop} {s : Shared} {Q : Value → Shared → Prop} (B : Begins v o Hc) (h1 : Hc s.heap)
    (h : ∀ h', IsEnum h' (s.heap.objs.size + 1) s.heap.objs.size 0 .none → h'.get? s.heap.objs.size = some o → (∀ b o, s.heap.get? b = some o → h'.get? b = some o) → Q (.ref (s.heap.objs.size + 1)) { s with heap := h' }) :
    wpAny (model prog w) A (call (.type "enumerate") [v]) Q E s := by
  refine callType_new F.called_enumerate (by decide) (F.typeCall_enumerate_1 _) (F.newCall_enumerate_1 _) (fun obj => F.args_object_init_2 obj _) F.entry_enumerate_new (meets_enum1 B) ⟨h1, ?_⟩
  have hz : (s.heap.push o).objs.size = s.heap.objs.size + 1 := Heap.size_push ..
  show _ ∧ _
  rw [hz]
  have he : IsEnum ((s.heap.push o).push { cls := .type "enumerate", data := .fields #[.none, .bool false, .ref s.heap.objs.size, rawInt 0, .none, .none] }) (s.heap.objs.size + 1) s.heap.objs.size 0 .none := by
    have g := Heap.get?_push_size (s.heap.push o) (o := { cls := .type "enumerate", data := .fields #[.none, .bool false, .ref s.heap.objs.size, rawInt 0, .none, .none] }) rfl
    rw [hz] at g
    exact g
  exact ⟨⟨_, he, rfl⟩, h _ he (Heap.get?_push_of_some _ (Heap.get?_push_size _ B.free)) fun b o x => Heap.get?_push_of_some _ (Heap.get?_push_of_some _ x)⟩
end
section
variable {X : Cx} {e : Expr} {ta : TA} {p pos tpos : Pos} {elts : List Expr} {kk : Nat} {K : PySem.W.Frag}
def iEnumS (ta : TA) : TI := fun σ H R => ta σ H fun vs H1 => ∃ x, vs = [.str x] ∧ R (IteS x) H1
def iEnumT (K : PySem.W.Frag) (ta : TA) : TI := fun σ H R => ta σ H fun vs H1 => ∃ a xs, vs = [.ref a] ∧ SqT K H1 a xs ∧ R (IteT K a) H1
theorem pi_enumS (hg : Gl X "enumerate") (hm : X.mg "enumerate" = none) (ha : PA X [e] ta) (hs : starEach [e] X.env = [(false, eval e X.env)] := by rfl) :
    PI X (.Tuple elts kk tpos) (.Call (.Name "enumerate" p) [e] [] pos) (iEnumS ta) := by
  refine ⟨fun pins s σ H R I h => ?_⟩
  refine Call_ (ld_blt I hg hm boot_enumerate (PyProof.Rows.callWith_type1 (thn (ha.run pos pins s σ H _ I h) fun us s1 ⟨vs, H1, I1, r1, q1⟩ => ?_) hs rfl))
  obtain ⟨x, ex, q⟩ := q1
  subst ex
  cases r1 with
  | cons r rr =>
    cases rr
    obtain ⟨t, rfl⟩ := r
    refine enum1 (begins_text x t) trivial fun h' he hit hk => wpAny_pyIter_enum he ?_
    have I2 : Inv X pins σ H1 { s1 with heap := h' } := I1.kept (t' := s1.toks) hk
    refine ⟨s1.heap.objs.size + 1, [s1.heap.objs.size + 1, s1.heap.objs.size], _, _, H1, rfl, I2, turn_enumS x t (s1.heap.objs.size + 1) s1.heap.objs.size, ⟨⟨.none, he⟩, ⟨_, hit, rfl, rfl⟩, Nat.succ_ne_self _⟩, fun b hb => ?_, q⟩
    have e' : b = s1.heap.objs.size + 1 ∨ b = s1.heap.objs.size := by simpa using hb
    have hle : s1.heap.objs.size ≤ b := e'.elim (fun z => z ▸ Nat.le_succ _) (fun z => z ▸ Nat.le_refl _)
    exact I1.fpOk hle (I1.hok.fresh hle)
theorem pi_enumT (hg : Gl X "enumerate") (hm : X.mg "enumerate" = none) (ha : PA X [e] ta) (hs : starEach [e] X.env = [(false, eval e X.env)] := by rfl) :
    PI X (.Tuple elts kk tpos) (.Call (.Name "enumerate" p) [e] [] pos) (iEnumT X.K ta) := by
  refine ⟨fun pins s σ H R I h => ?_⟩
  refine Call_ (ld_blt I hg hm boot_enumerate (PyProof.Rows.callWith_type1 (thn (ha.run pos pins s σ H _ I h) fun us s1 ⟨vs, H1, I1, r1, q1⟩ => ?_) hs rfl))
  obtain ⟨a, xs, ex, hq, q⟩ := q1
  subst ex
  cases r1 with
  | cons r rr =>
    cases rr
    cases r
    obtain ⟨its, rv, p', hz⟩ := I1.tuple hq
    refine enum1 (begins_tuple a its.toArray) p' fun h' he hit hk => wpAny_pyIter_enum he ?_
    have I2 : Inv X pins σ H1 { s1 with heap := h' } := I1.kept (t' := s1.toks) hk
    refine ⟨s1.heap.objs.size + 1, [s1.heap.objs.size + 1, s1.heap.objs.size], _, _, H1, rfl, I2, turn_enumT a (s1.heap.objs.size + 1) s1.heap.objs.size, ⟨⟨.none, he⟩, ⟨_, hit, rfl, rfl⟩, Nat.succ_ne_self _⟩, fun b hb => ?_, q⟩
    have e' : b = s1.heap.objs.size + 1 ∨ b = s1.heap.objs.size := by simpa using hb
    have hle : s1.heap.objs.size ≤ b := e'.elim (fun z => z ▸ Nat.le_succ _) (fun z => z ▸ Nat.le_refl _)
    exact I1.fpOk hle (I1.hok.fresh hle)
end
section
variable {X : Cx} {e : Expr} {te : TE} {p pos tpos : Pos} {elts : List Expr} {kk : Nat} {K : PySem.W.Frag}
/-- enumerate of a list, a tuple or a text -/
def iEnumX (K : PySem.W.Frag) (ta : TA) : TI := fun σ H R => iEnum K ta σ H R ∨ iEnumT K ta σ H R ∨ iEnumS ta σ H R
theorem enum_k {ta : TA} (ek : X.K = K) (hg : Gl X "enumerate") (hm : X.mg "enumerate" = none) (ha : PA X [e] ta) (hs : starEach [e] X.env = [(false, eval e X.env)] := by rfl) :
    PI X (.Tuple elts kk tpos) (.Call (.Name "enumerate" p) [e] [] pos) (iEnumX K ta) := ek ▸ PI.or (pi_enum hg hm ha hs) (PI.or (pi_enumT hg hm ha hs) (pi_enumS hg hm ha hs))
end
section
variable {K : PySem.W.Frag} {a : Addr} {xs : List V}
theorem walk_enumT : Walk (IteT K a) xs.length (fun H => SqT K H a xs) (YPair (fun i => some (.int (i : Nat))) (fun i => xs[i]?)) := by
  refine ⟨fun i _ hi q => ⟨xs, xs[i], q, by simp [hi]⟩, fun _ q => ⟨xs, q, rfl⟩, fun i H v H' _ q y => ?_⟩
  obtain ⟨T, x, h1, h2, h3, h4⟩ := y
  exact ⟨T, .int (i : Nat), x, h1, h2, h3, rfl, h4 xs q⟩
theorem walk_enumS {z : Str} : Walk (IteS z) z.cps.size (fun _ => True) (fun i H v H' => ∃ T c, v = .ref T ∧ H T = none ∧ H' = upd H T (.tup [.int (i : Nat), .str ⟨#[c]⟩]) ∧ z.cps[i]? = some c) :=
  ⟨fun _ _ hi _ => hi, fun _ _ => rfl, fun _ _ _ _ _ _ y => y⟩
variable {ta : TA} {σ : St} {H : Hp} {R : It → Hp → Prop}
theorem r_enumL (h : ta σ H fun vs H1 => ∃ a xs, vs = [.ref a] ∧ SqL K H1 a xs ∧ R (Ite K a) H1) : iEnumX K ta σ H R := .inl h
theorem r_enumT (h : ta σ H fun vs H1 => ∃ a xs, vs = [.ref a] ∧ SqT K H1 a xs ∧ R (IteT K a) H1) : iEnumX K ta σ H R := .inr (.inl h)
theorem r_enumS (h : ta σ H fun vs H1 => ∃ x, vs = [.str x] ∧ R (IteS x) H1) : iEnumX K ta σ H R := .inr (.inr h)
end
end RV

/-! more of the own layer: raises that are never reached, lists that are gathered -/
namespace RV
open PySem PySem.Spec L2
open PyProof.Rows hiding St
section
variable {X : Cx} {K : PySem.W.Frag} {σ : St} {H : Hp} {Q : VK}
theorem r_tru_str {z : Str} {P : Bool → Prop} (h : z.length ≤ sizeLine) (k : P ((z.length : Int) != 0)) : ∃ b, TruV K (.str z) H b ∧ P b := ⟨_, ⟨h, rfl⟩, k⟩
theorem r_tru_lst {a : Addr} {xs : List V} {P : Bool → Prop} (h : SqL K H a xs) (k : P (!xs.isEmpty)) : ∃ b, TruV K (.ref a) H b ∧ P b := ⟨_, .inl ⟨xs, h, rfl⟩, k⟩
theorem r_tru_tup {a : Addr} {xs : List V} {P : Bool → Prop} (h : SqT K H a xs) (k : P (!xs.isEmpty)) : ∃ b, TruV K (.ref a) H b ∧ P b := ⟨_, .inr (.inl ⟨xs, h, rfl⟩), k⟩
theorem r_tru_non {P : Bool → Prop} (k : P false) : ∃ b, TruV K .non H b ∧ P b := ⟨_, rfl, k⟩
theorem r_par3 {D : Ends} {i j l : Nat} {ta : TA} (h : ta σ H fun vs H1 => ∃ u v w, vs = [u, v, w] ∧ D.nx (((σ.set i (some u)).set j (some v)).set l (some w)) H1) : tPar3 i j l ta D σ H := h
theorem r_uvw {u v w : V} {P : V → V → V → Prop} (h : P u v w) : ∃ u' v' w', [u, v, w] = [u', v', w'] ∧ P u' v' w' := ⟨u, v, w, rfl, h⟩
/-! f-strings -/
theorem r_fmtS {te : TE} (h : te σ H fun x H1 => (∃ y : Str, x = .str y ∧ y.length ≤ sizeLine ∧ Q (.str y) H1) ∨ ∃ i : Int, x = .int i ∧ i.natAbs.log2 < 1920 ∧ Q (.str (toString i)) H1) : tFmt te σ H Q := h
theorem r_fS {z : Str} {P : Str → Prop} {R : Prop} (h : z.length ≤ sizeLine) (k : P z) : (∃ y : Str, V.str z = .str y ∧ y.length ≤ sizeLine ∧ P y) ∨ R := .inl ⟨z, rfl, h, k⟩
theorem r_fI {i : Int} {P : Str → Prop} {R : Prop} (h : i.natAbs.log2 < 1920) (k : P (toString i)) : R ∨ (∃ j : Int, V.int i = .int j ∧ j.natAbs.log2 < 1920 ∧ P (toString j)) := .inr ⟨i, rfl, h, k⟩
def tJoined (ts : List TE) : TE := fun σ H Q => tJs ts Str.empty σ H fun out H1 => Q (.str out) H1
theorem pe_joinedN {v1 v2 : Expr} {rest : List Expr} {ts : List TE} {pos : Pos} (h : PJ X (v1 :: v2 :: rest) ts) : PE X (.JoinedStr (v1 :: v2 :: rest) pos) (tJoined ts) := pe_joined h
theorem r_joined {ts : List TE} (h : tJs ts Str.empty σ H fun out H1 => Q (.str out) H1) : tJoined ts σ H Q := h
theorem r_js0 {acc : Str} {R : Str → Hp → Prop} (h : R acc H) : tJs [] acc σ H R := h
theorem r_js1 {t : TE} {ts : List TE} {acc : Str} {R : Str → Hp → Prop} (h : t σ H fun x H1 => ∃ y : Str, x = .str y ∧ (acc ++ y).length ≤ sizeLine ∧ tJs ts (acc ++ y) σ H1 R) : tJs (t :: ts) acc σ H R := h
theorem r_jsS {z acc : Str} {P : Str → Prop} (h : (acc ++ z).length ≤ sizeLine) (k : P z) : ∃ y : Str, V.str z = .str y ∧ (acc ++ y).length ≤ sizeLine ∧ P y := ⟨z, rfl, h, k⟩
end
/-! lists that are gathered -/
structure Kp (P : Hp → V → Prop) : Prop where
  sm : ∀ {H H' : Hp} {x : V}, Sm H H' → P H x → P H' x
  up : ∀ {H : Hp} {A : Addr} {xs : List V} {o : HO} {x : V}, H A = some (.lst xs) → P H x → P (upd H A o) x
theorem Kp.add {P : Hp → V → Prop} (kp : Kp P) {Hi H4 : Hp} {A : Addr} {xs : List V} {y : V} (hA : Hi A = some (.lst xs)) (all : ∀ x ∈ xs, P Hi x) (s : Sm Hi H4) (py : P H4 y) :
    ∀ x ∈ xs ++ [y], P (upd H4 A (.lst (xs ++ [y]))) x := by
  intro x hx
  refine kp.up (s.to _ _ hA) ?_
  rcases List.mem_append.mp hx with hx | hx
  · exact kp.sm s (all x hx)
  · rw [List.mem_singleton.mp hx]
    exact py
theorem cat_mem {xs : List V} {lo hi : Option Int} {x : V} (h : x ∈ xs ++ cutV xs lo hi) : x ∈ xs := by
  rcases List.mem_append.mp h with h | h
  · exact h
  · exact cutV_mem h
theorem cat_len {xs : List V} {lo hi : Option Int} {n : Nat} (h : xs.length ≤ n) (hn : n ≤ 500000) : xs.length + (cutV xs lo hi).length ≤ sizeLine := by
  have := cutV_le xs lo hi
  exact len_le (by omega)
/-- a tuple with such items -/
def TupAt (F : List V → Prop) : Hp → V → Prop := fun H x => ∃ t vs, x = .ref t ∧ H t = some (.tup vs) ∧ F vs
theorem kp_tup (F : List V → Prop) : Kp (TupAt F) := by
  refine ⟨fun s h => ?_, fun hA h => ?_⟩
  · obtain ⟨t, vs, rfl, e, f⟩ := h
    exact ⟨t, vs, rfl, s.to _ _ e, f⟩
  · obtain ⟨t, vs, rfl, e, f⟩ := h
    refine ⟨t, vs, rfl, ?_, f⟩
    rw [upd_ne (ne_of e hA (by intro z; cases z))]
    exact e
/-- values alone -/
def ValAt (F : V → Prop) : Hp → V → Prop := fun _ x => F x
theorem kp_val (F : V → Prop) : Kp (ValAt F) := ⟨fun _ h => h, fun _ h => h⟩
theorem len_lt {n : Nat} (h : n ≤ 900000) : n < sizeLine := by
  have hl : (1000000 : Nat) ≤ sizeLine := by rw [sizeLine_eq]; decide
  omega
theorem cat1 (c : Nat) (l : List Nat) : (⟨#[c]⟩ : Str) ++ SX.S l = SX.S (c :: l) := SX.S_cat [c] l
theorem cat2 (c : Nat) (l : List Nat) : SX.S l ++ (⟨#[c]⟩ : Str) = SX.S (l ++ [c]) := SX.S_cat l [c]
theorem rep48 (n : Nat) (s : Str) (h : s.cps.toList = [48]) : (⟨((List.replicate n s.cps.toList).flatten).toArray⟩ : Str) = SX.S (List.replicate n 48) := by
  rw [h]
  have e : ∀ n : Nat, (List.replicate n [48]).flatten = List.replicate n 48 := fun n => by
    induction n with
    | zero => rfl
    | succ n ih => rw [List.replicate_succ, List.flatten_cons, ih]; rfl
  rw [e]
end RV


namespace K18

open PySem PySem.Spec L2 RV
open PyProof.Rows hiding St
def topS (i : Nat) : Stmt := PySem.Challenge.pw_runsums_k18_bits_written_and_read.main.body.getD i (.Pass ⟨0, 0, 0, 0⟩)
abbrev s_box : Stmt := topS 9
theorem sc_box : FnScope ["script", "k", "cell", "seed"] ["script", "k"] (defScope s_box) := ⟨rfl, rfl, rfl, by decide +kernel, rfl, by decide +kernel, by decide +kernel⟩
abbrev s_text : Stmt := topS 11
theorem sc_text : FnScope ["number", "text"] ["number"] (defScope s_text) := ⟨rfl, rfl, rfl, by decide +kernel, rfl, by decide +kernel, by decide +kernel⟩
abbrev s_p_bits_of : Stmt := topS 4
theorem sc_p_bits_of : FnScope ["number"] ["number"] (defScope s_p_bits_of) := ⟨rfl, rfl, rfl, by decide +kernel, rfl, by decide +kernel, by decide +kernel⟩
abbrev s_p_of_bits : Stmt := topS 5
theorem sc_p_of_bits : FnScope ["text", "at", "sign"] ["text"] (defScope s_p_of_bits) := ⟨rfl, rfl, rfl, by decide +kernel, rfl, by decide +kernel, by decide +kernel⟩
abbrev s_take : Stmt := topS 7
theorem sc_take : FnScope ["box", "wide", "digit", "one"] ["box", "wide"] (defScope s_take) := ⟨rfl, rfl, rfl, by decide +kernel, rfl, by decide +kernel, by decide +kernel⟩
abbrev s_number : Stmt := topS 8
theorem sc_number : FnScope ["box", "form"] ["box"] (defScope s_number) := ⟨rfl, rfl, rfl, by decide +kernel, rfl, by decide +kernel, by decide +kernel⟩
abbrev s_any : Stmt := topS 10
theorem sc_any : FnScope ["box", "form"] ["box"] (defScope s_any) := ⟨rfl, rfl, rfl, by decide +kernel, rfl, by decide +kernel, by decide +kernel⟩
abbrev s_law : Stmt := topS 12
theorem sc_law : FnScope ["script", "some", "k", "box", "number", "more", "text", "found", "one", "told"] ["script"] (defScope s_law) := ⟨rfl, rfl, rfl, by decide +kernel, rfl, by decide +kernel, by decide +kernel⟩
structure Txt (K : PySem.W.Frag) (mg : Str → Option Value) where
  f_box : Addr
  d_box : FuncData
  F_box : Fun K "_law_box" "_law_box" s_box f_box d_box
  g_box : mg "_law_box" = some (.ref f_box)
  b_box : Binds K d_box ["script", "k"] []
  f_text : Addr
  d_text : FuncData
  F_text : Fun K "_law_text" "_law_text" s_text f_text d_text
  g_text : mg "_law_text" = some (.ref f_text)
  b_text : Binds K d_text ["number"] []
  f_p_bits_of : Addr
  d_p_bits_of : FuncData
  F_p_bits_of : Fun K "bits_of" "bits_of" s_p_bits_of f_p_bits_of d_p_bits_of
  g_p_bits_of : mg "bits_of" = some (.ref f_p_bits_of)
  b_p_bits_of : Binds K d_p_bits_of ["number"] []
  f_p_of_bits : Addr
  d_p_of_bits : FuncData
  F_p_of_bits : Fun K "of_bits" "of_bits" s_p_of_bits f_p_of_bits d_p_of_bits
  g_p_of_bits : mg "of_bits" = some (.ref f_p_of_bits)
  b_p_of_bits : Binds K d_p_of_bits ["text"] []
  f_take : Addr
  d_take : FuncData
  F_take : Fun K "_law_take" "_law_take" s_take f_take d_take
  g_take : mg "_law_take" = some (.ref f_take)
  b_take : Binds K d_take ["box", "wide"] []
  f_number : Addr
  d_number : FuncData
  F_number : Fun K "_law_number" "_law_number" s_number f_number d_number
  g_number : mg "_law_number" = some (.ref f_number)
  b_number : Binds K d_number ["box"] []
  f_any : Addr
  d_any : FuncData
  F_any : Fun K "_law_any" "_law_any" s_any f_any d_any
  g_any : mg "_law_any" = some (.ref f_any)
  b_any : Binds K d_any ["box"] []
  f_law : Addr
  d_law : FuncData
  F_law : Fun K "law" "law" s_law f_law d_law
  g_law : mg "law" = some (.ref f_law)
  b_law : Binds K d_law ["script"] []
  k_BITS : Tok
  g_BITS : mg "BITS" = some (Value.str (Str.ofString "01") k_BITS)
  z_bool : mg "bool" = none
  z_enumerate : mg "enumerate" = none
  z_int : mg "int" = none
  z_isinstance : mg "isinstance" = none
  z_len : mg "len" = none
  z_max : mg "max" = none
  z_min : mg "min" = none
  z_range : mg "range" = none
  z_str : mg "str" = none
  s_msd : PySem.W.nsIn K cStatics "sys.int_max_str_digits" = some none
section
variable {P : Program} {w : World} {K : PySem.W.Frag} {mg : Str → Option Value} {base : Heap}
/-! the reading, step by step: own words, by strings -/
local macro_rules | `(tactic| tm_at "ne") => `(tactic| with_reducible first
  | assumption
  | exact Ne.symm (by assumption)
  | exact ne_fr (by assumption) (by tm_at "mv")
  | exact box_ne (by assumption) (by tm_at "mv")
  | exact (ne_fr (by assumption) (by tm_at "mv")).symm
  | exact (box_ne (by assumption) (by tm_at "mv")).symm)
local macro_rules | `(tactic| tm_at "mv") => `(tactic| with_reducible first
  | assumption
  | (show upd _ _ _ _ = some _; first
    | exact upd_same
    | exact (sm_upd (by assumption)).to _ _ (by tm_at "mv")
    | exact chg_upd.to _ _ (by tm_at "ne") (by tm_at "mv"))
  | (show _ = some _; first
    | exact Sm.to (by assumption) _ _ (by tm_at "mv")
    | exact Chg.to (by assumption) _ _ (by tm_at "ne") (by tm_at "mv"))
  | (show SqL _ (upd _ _ _) _ _; first
    | exact SqL.of (by assumption)
    | exact SqL.of upd_same
    | exact (sm_upd (by assumption)).seq (by tm_at "mv")
    | exact chg_upd.seq (by tm_at "ne") (by tm_at "mv"))
  | (show SqL _ _ _ _; first
    | exact SqL.of (by assumption)
    | exact Sm.seq (by assumption) (by tm_at "mv")
    | exact Chg.seq (by assumption) (by tm_at "ne") (by tm_at "mv"))
  | (show SqT _ (upd _ _ _) _ _; first
    | exact SqT.of (by assumption)
    | exact SqT.of upd_same
    | exact (sm_upd (by assumption)).seqT (by tm_at "mv")
    | exact chg_upd.seqT (by tm_at "ne") (by tm_at "mv"))
  | (show SqT _ _ _ _; first
    | exact SqT.of (by assumption)
    | exact Sm.seqT (by assumption) (by tm_at "mv")
    | exact Chg.seqT (by assumption) (by tm_at "ne") (by tm_at "mv"))
  | (show Dp _ (upd _ _ _) _ _; exact (sm_upd (by assumption)).dp (by tm_at "mv"))
  | (show Dp _ _ _ _; exact Sm.dp (by assumption) (by tm_at "mv"))
  | (show BoxAt (upd _ _ _) _; first
    | exact BoxAt.sm (sm_upd (by assumption)) (by tm_at "mv")
    | exact BoxAt.chg chg_upd (by tm_at "ne") (by tm_at "mv"))
  | (show BoxAt _ _; first
    | exact BoxAt.sm (by assumption) (by tm_at "mv")
    | exact BoxAt.chg (by assumption) (by tm_at "ne") (by tm_at "mv")))
local macro_rules | `(tactic| tm_at "sd") => `(tactic| first
  | assumption
  | exact cmul_l (by decide)
  | exact cmul_r (by decide)
  | exact cshl1 (by omega) (by omega)
  | exact cdiv_s (by omega) (by omega)
  | exact cmul_r (by omega)
  | exact cmul_l (by omega)
  | (show (0 : Int) < _; first | decide | omega)
  | omega
  | exact ⟨by decide, by decide, by decide⟩
  | exact sz_le (by simp only [List.length_cons, List.length_nil]; omega))
local macro_rules | `(tactic| tm_at "if") => `(tactic| with_reducible first
  | refine ite_y rfl ?_
  | refine ite_o rfl ?_
  | refine ite_y (decide_eq_true (by first | assumption | omega)) ?_
  | refine ite_o (decide_eq_false (by first | assumption | omega)) ?_)
local macro_rules | `(tactic| tm_at "1") => `(tactic| with_reducible first
  | refine r_seq ?_
  | refine r_nx ?_
  | refine r_rt ?_
  | refine r_next ?_
  | refine r_op ?_
  | refine r_var rfl ?_
  | refine r_C ?_
  | refine r_asg ?_
  | refine r_gN ?_
  | refine r_cons ?_
  | refine r_nil ?_
  | refine r_call ?_
  | refine r_CB ?_
  | refine r_ret ?_
  | refine r_if ?_
  | refine r_test ?_
  | refine r_bl ?_
  | refine r_addI ?_
  | refine r_I0 ?_
  | refine r_eqI ?_
  | refine r_neI ?_
  | refine r_eqS ?_
  | refine r_neS ?_
  | refine r_eqB ?_
  | refine r_neB ?_
  | refine r_un ?_
  | refine r_U ?_
  | refine r_drop ?_
  | refine r_lst ?_
  | refine r_tup ?_
  | refine r_par ?_
  | refine r_vw ?_
  | refine r_aug rfl ?_
  | refine r_ip ?_
  | refine r_and ?_
  | refine r_or ?_
  | refine r_not ?_
  | refine r_notT ?_
  | refine r_orT ?_
  | refine r_andT ?_
  | refine r_tru_bl ?_
  | refine r_tru_int ?_
  | refine r_ifE ?_
  | refine r_gS ?_
  | refine r_gC ?_
  | refine r_g0 ?_
  | refine r_retN ?_
  | refine r_sl ?_
  | refine r_noPart ?_
  | refine r_part ?_
  | refine r_exI ?_
  | refine r_callK ?_
  | refine r_bm ?_
  | refine r_chain ?_
  | refine r_isB ?_
  | refine r_isi_int rfl ?_
  | refine r_isi_bl rfl ?_
  | refine r_isi_str rfl ?_
  | refine r_inS ?_
  | refine r_notInS ?_
  | refine r_bmS ?_
  | refine r_lc ?_
  | refine r_for ?_
  | refine r_R1 ?_
  | refine r_yes ?_
  | refine r_aS ?_
  | refine r_intB ?_
  | refine r_intI ?_
  | refine r_strS ?_)
local macro_rules | `(tactic| tm_at "h") => `(tactic| first
  | ((with_reducible show rI _ _ (V.int _) (V.int _) _ _); refine r_I (by tm_at "sd") ?_)
  | ((with_reducible show rMulA _ (V.int _) (V.int _) _ _); refine r_mulS (by tm_at "sd") ?_)
  | ((with_reducible show rIx _ (V.ref _) (V.int _) _ _); first
    | ((with_reducible show rIx _ (V.ref _) (V.int 0) _ _); first | refine r_ixL0 (by tm_at "mv") ?_ | refine r_ixT0 (by tm_at "mv") ?_)
    | ((with_reducible show rIx _ (V.ref _) (V.int 1) _ _); first | refine r_ixL1 (by tm_at "mv") ?_ | refine r_ixT1 (by tm_at "mv") ?_)
    | ((with_reducible show rIx _ (V.ref _) (V.int 2) _ _); first | refine r_ixL2 (by tm_at "mv") ?_ | refine r_ixT2 (by tm_at "mv") ?_))
  | ((with_reducible show rLenA _ [V.ref _] _ _); first
    | refine r_lenL (by tm_at "mv") ?_
    | refine r_lenT (by tm_at "mv") ?_)
  | ((with_reducible show rSetL (V.ref _) (V.int _) _ _ _); first | refine r_setB0 (by tm_at "mv") ?_ | refine r_setB1 (by tm_at "mv") ?_)
  | ((with_reducible show gTup _ _ _ (V.ref _) _ _ _); refine r_gT (by tm_at "mv") (by exact rfl) ?_)
  | ((with_reducible show tyV _ "list" (V.ref _) _ ∧ _); refine r_bmL (by tm_at "mv") ?_)
  | ((with_reducible show tAug _ _ _ _ _ _); refine r_aug (by exact rfl) ?_)
  | ((with_reducible show rMaxA _ [V.int _, V.int _] _ _); refine r_maxF ?_; intro _ _ _ _)
  | ((with_reducible show rMinA _ [V.int _, V.int _] _ _); refine r_minF ?_; intro _ _ _ _)
  | ((with_reducible show wipe _ _ = wipe _ _ ∧ _); refine r_wipe (by exact rfl) ?_)
  | ((with_reducible show ∃ j, [V.int _] = [V.int j] ∧ _); refine r_rng (by omega) (by omega) ?_)
  | ((with_reducible show tVar _ _ _ _); refine r_var (by exact rfl) ?_))
local macro_rules | `(tactic| tm_at "sm") => `(tactic| with_reducible first
  | exact Sm.refl _
  | assumption
  | (show Sm _ (upd _ _ _); first
    | exact sm_tr (sm_upd (by assumption)) (by tm_at "sm")
    | exact sm_acc2 (by assumption) (by tm_at "sm"))
  | exact sm_tr (by assumption) (by tm_at "sm")
  | exact sm_hid (by assumption) (by assumption) (by tm_at "sm"))
local macro_rules | `(tactic| tm_at "fr") => `(tactic| with_reducible first
  | assumption
  | exact fr_of (by assumption) (by tm_at "sm"))
local macro_rules | `(tactic| tm_at "al") => `(tactic| (refine ⟨by tm_at "sd", fun p np => ?_⟩))
local macro_rules | `(tactic| tm_at "rv") => `(tactic| repeat (first | tm_at "1" | tm_at "h" | tm_at "if" | ((with_reducible show _ ≤ sizeLine ∧ ∀ _, _); refine ⟨by tm_at "sd", fun p np => ?_⟩)))
local macro_rules | `(tactic| tm_at "ch") => `(tactic| with_reducible first
  | exact Chg.refl _ _
  | assumption
  | (show Chg _ _ (upd _ _ _); first
    | exact chg_tr (sm_upd (by assumption)).chg (by tm_at "ch")
    | exact chg_acc2 (by assumption) (by tm_at "ch")
    | exact chg_tr chg_upd (by tm_at "ch"))
  | exact chg_tr (by assumption) (by tm_at "ch")
  | exact chg_tr (Sm.chg (by assumption)) (by tm_at "ch"))

local macro_rules | `(tactic| tm_at "1") => `(tactic| with_reducible first
  | refine x_intB ?_
  | refine x_intI ?_)

local macro_rules | `(tactic| tm_at "1") => `(tactic| with_reducible first
  | refine r_bin ?_
  | refine r_par3 ?_
  | refine r_uvw ?_
  | refine r_tru_non ?_
  | refine r_joined ?_
  | refine r_js0 ?_
  | refine r_js1 ?_
  | refine r_fmtS ?_)


/-! the drawer -/
def sp_take : Sp := fun vs H Q _ => ∃ (b : Addr) (wide : Int), vs = [.ref b, .int wide] ∧ BoxAt H b ∧ 0 < wide ∧ CDivW 0 wide ∧ ∀ d H', Chg b H H' → BoxAt H' b → 0 ≤ d → d < wide → Q (.int d) H'
theorem use_take {H : Hp} {Q : VK} {E : XK} {b : Addr} {wide : Int} (h : BoxAt H b) (h0 : 0 < wide) (h1 : CDivW 0 wide) (k : ∀ d H', Chg b H H' → BoxAt H' b → 0 ≤ d → d < wide → Q (.int d) H') : sp_take [.ref b, .int wide] H Q E := ⟨b, wide, rfl, h, h0, h1, k⟩
theorem ok_take (T : Txt K mg) : FnOk P w K mg base CX0 1 T.f_take T.d_take ["box", "wide"] sp_take := by
  refine T.F_take.ok sc_take (fun vs H Q E h => ?_) (fun cdv A outer s H vs Q E hr h => ?_)
  · obtain ⟨b, wide, rfl, _⟩ := h
    rfl
  · obtain ⟨b, wide, rfl, ⟨c, z, hb⟩, hw, hd, k⟩ := h
    refine ⟨_, (pss_cons (ps_if (pt_cmpR op_gt (pe_ix (ix_k (K := K) rfl) (pv 0) pe_int (fun _ _ => rfl)) pe_int (nomark _))
      (pss_cons (ps_set (i := 2) sc_take.nd rfl (Or.inl rfl) (pe_op op_mod (pe_ix (ix_k (K := K) rfl) (pv 0) pe_int (fun _ _ => rfl)) (pv 1)))
      (pss_cons (ps_asg (pe_op op_fdivW (pe_ix (ix_k (K := K) rfl) (pv 0) pe_int (fun _ _ => rfl)) (pv 1)) (pg_sub (pv 0) pe_int set_list))
      (pss_one (ps_ret (pv 2))))) pss_nil)
      (pss_cons (ps_set (i := 3) sc_take.nd rfl (Or.inl rfl) (pe_op op_mod (pe_op (mul_k (K := K) rfl) (pe_ix (ix_k (K := K) rfl) (pv 0) pe_int (fun _ _ => rfl)) pe_int) pe_int))
      (pss_cons (ps_asg (pe_op (add_k (K := K) rfl) (pe_op op_mod (pe_op (add_k (K := K) rfl) (pe_op (mul_k (K := K) rfl) (pv 3) pe_int) pe_int) pe_int) pe_int) (pg_sub (pv 0) pe_int set_list))
      (pss_one (ps_ret (pe_op op_mod (pe_op op_fdivW (pe_op (add_k (K := K) rfl) (pe_op (mul_k (K := K) rfl) (pv 3) pe_int) (pe_ix (ix_k (K := K) rfl) (pv 0) pe_int (fun _ _ => rfl))) pe_int) (pv 1))))))), ?_⟩
    tm_at "rv"
    refine ite_d (fun e => ?_) (fun e => ?_)
    · tm_at "rv"
      exact k _ _ chg_upd ⟨_, _, upd_same⟩ (Int.emod_nonneg _ (by omega)) (Int.emod_lt_of_pos _ hw)
    · tm_at "rv"
      exact k _ _ chg_upd ⟨_, _, upd_same⟩ (Int.emod_nonneg _ (by omega)) (Int.emod_lt_of_pos _ hw)

/-! the drawer made -/
def sp_box (K : PySem.W.Frag) : Sp := fun vs H Q _ => ∃ (a : Addr) (k : Int) (ns : List Int), vs = [.ref a, .int k] ∧ SqL K H a (ns.map V.int) ∧ 0 ≤ k ∧ ∀ b H', Sm H H' → H b = none → BoxAt H' b → Q (.ref b) H'
theorem use_box {H : Hp} {Q : VK} {E : XK} {a : Addr} {i : Int} {ns : List Int} (h : SqL K H a (ns.map V.int)) (h0 : 0 ≤ i) (k : ∀ b H', Sm H H' → H b = none → BoxAt H' b → Q (.ref b) H') : sp_box K [.ref a, .int i] H Q E := ⟨a, i, ns, rfl, h, h0, k⟩
theorem ok_box (T : Txt K mg) : FnOk P w K mg base CX0 1 T.f_box T.d_box ["script", "k"] (sp_box K) := by
  refine T.F_box.ok sc_box (fun vs H Q E h => ?_) (fun cdv A outer s H vs Q E hr h => ?_)
  · obtain ⟨a, k, ns, rfl, _⟩ := h
    rfl
  · obtain ⟨a, k, ns, rfl, hS, h0, q⟩ := h
    have item : ∀ i : Int, 0 ≤ i → i < ((ns.map V.int).length : Int) → ∃ n, atI (ns.map V.int) i = some (V.int n) := fun i a b => by
      obtain ⟨v, e, m⟩ := atI_mem a b
      obtain ⟨n, _, rfl⟩ := List.mem_map.mp m
      exact ⟨n, e⟩
    refine ⟨_, (pss_cons (ps_set (i := 2) sc_box.nd rfl (Or.inl rfl) (pe_op (add_k (K := K) rfl) (pe_op (mul_k (K := K) rfl) pe_int (pv 1)) pe_int))
      (pss_cons (ps_if (pt_cmpR op_lt (pv 1) (pe_callB (len_k (K := K) rfl) (by rfl) T.z_len (by decide +kernel) (pa_cons (pv 0) pa_nil)) (nomark _))
      (pss_one (ps_set (i := 2) sc_box.nd rfl (Or.inl rfl) (pe_ix (ix_k (K := K) rfl) (pv 0) (pv 1) (fun _ _ => rfl)))) (pss_one (ps_if (pt_cmpR op_gt (pe_callB (len_k (K := K) rfl) (by rfl) T.z_len (by decide +kernel) (pa_cons (pv 0) pa_nil)) pe_int (nomark _))
      (pss_one (ps_set (i := 2) sc_box.nd rfl (Or.inl rfl) (pe_op (add_k (K := K) rfl) (pv 2) (pe_op (mul_k (K := K) rfl) (pe_op op_mod (pe_ix (ix_k (K := K) rfl) (pv 0) (pe_op op_mod (pv 1) (pe_callB (len_k (K := K) rfl) (by rfl) T.z_len (by decide +kernel) (pa_cons (pv 0) pa_nil))) (fun _ _ => rfl)) pe_int) pe_int)))) pss_nil)))
      (pss_cons (ps_set (i := 3) sc_box.nd rfl (Or.inl rfl) (pe_op (add_k (K := K) rfl) (pe_op op_mod (pe_op (add_k (K := K) rfl) (pe_op (mul_k (K := K) rfl) (pe_op op_mod (pv 2) pe_int) pe_int) (pe_op (mul_k (K := K) rfl) pe_int (pv 1))) pe_int) pe_int))
      (pss_one (ps_ret (pe_lst (pa_cons (pe_ix (ix_k (K := K) rfl) (pe_lst (pa_cons pe_int (pa_cons (pv 2) pa_nil))) (pe_callTy (int_x (K := K) rfl T.s_msd) (by rfl) T.z_int (by decide +kernel) (pa_cons (pe_cmpR op_ge (pv 2) (pe_op op_pow pe_int pe_int) (nomark _)) pa_nil)) (fun _ _ => rfl)) (pa_cons (pv 3) pa_nil)))))))), ?_⟩
    tm_at "rv"
    have hlen : ((ns.map V.int).length : Int) = (ns.length : Int) := by rw [List.length_map]
    refine ite_d (fun e1 => ?_) (fun e1 => ?_)
    · tm_at "rv"
      obtain ⟨n, en⟩ := item k h0 e1
      refine r_ixL (by tm_at "mv") en ?_
      tm_at "rv"
      refine r_ixL (by tm_at "mv") ix2 ?_
      tm_at "rv"
      exact q _ _ (by tm_at "sm") (by tm_at "fr") ⟨_, _, upd_same⟩
    · tm_at "rv"
      refine ite_d (fun e2 => ?_) (fun e2 => ?_)
      · tm_at "rv"
        obtain ⟨n, en⟩ := item (k % ((ns.map V.int).length : Int)) (Int.emod_nonneg _ (by omega)) (Int.emod_lt_of_pos _ e2)
        refine r_ixL (by tm_at "mv") en ?_
        tm_at "rv"
        refine r_ixL (by tm_at "mv") ix2 ?_
        tm_at "rv"
        exact q _ _ (by tm_at "sm") (by tm_at "fr") ⟨_, _, upd_same⟩
      · tm_at "rv"
        refine r_ixL (by tm_at "mv") ix2 ?_
        tm_at "rv"
        exact q _ _ (by tm_at "sm") (by tm_at "fr") ⟨_, _, upd_same⟩

/-! numbers of up to eight hundred figures -/
theorem big_is : ∃ B : Int, (10 : Int) ^ 800 ≤ B ∧ B + 1000 < 2 ^ 3000 := ⟨10 ^ 800, Int.le_refl _, by decide +kernel⟩
noncomputable def big : Int := Classical.choose big_is
theorem big_div {j : Int} (h : 0 < j) (hb : j ≤ big + 1000) : CDivW 0 j := by
  have e : big + 1000 < 2 ^ 3000 := (Classical.choose_spec big_is).2
  exact cdiv_of (n := 3000) h (Int.lt_of_le_of_lt hb e) (by decide) (by decide)
theorem big_all : (10 : Int) ^ 800 ≤ big := (Classical.choose_spec big_is).1
theorem big_ge {x : Int} (h : x ≤ (10 : Int) ^ 800) : x ≤ big := Int.le_trans h big_all
theorem big_pos : (1000000000000000000000000000000 : Int) ≤ big := big_ge (by decide +kernel)
def sp_number : Sp := fun vs H Q _ => ∃ (b : Addr), vs = [.ref b] ∧ BoxAt H b ∧ ∀ n H', Chg b H H' → BoxAt H' b → 0 ≤ n → n < big → Q (.int n) H'
theorem use_number {H : Hp} {Q : VK} {E : XK} {b : Addr} (h : BoxAt H b) (k : ∀ n H', Chg b H H' → BoxAt H' b → 0 ≤ n → n < big → Q (.int n) H') : sp_number [.ref b] H Q E := ⟨b, rfl, h, k⟩
theorem nines {n : Nat} (m : Nat) (h : NumText.digitsVal ((List.replicate n (Str.ofString "9").cps.toList).flatten) = m) (hn : 0 < n) (h2 : n ≤ 4300) {H : Hp} {Q : VK} (k : Q (.int (m : Int)) H) : rIntX [.str ⟨((List.replicate n (Str.ofString "9").cps.toList).flatten).toArray⟩] H Q := by
  have e : (List.replicate n (Str.ofString "9").cps.toList).flatten = List.replicate n 57 := by
    show (List.replicate n [57]).flatten = _
    clear h hn h2
    induction n with
    | zero => rfl
    | succ n ih => rw [List.replicate_succ, List.flatten_cons, ih]; rfl
  rw [e] at h ⊢
  refine x_intS (cs := List.replicate n 57) ?_ ?_ ?_ h k
  · intro c hc
    rw [List.eq_of_mem_replicate hc]
    decide
  · intro z
    have := congrArg List.length z
    rw [List.length_replicate] at this
    simp at this
    omega
  · rw [List.length_replicate]
    exact h2
theorem mul9 {K : PySem.W.Frag} {H : Hp} {Q : VK} {m : Int} (hm : m = 400 ∨ m = 800) (k : ∀ n : Nat, n = 400 ∨ n = 800 → Q (.str ⟨((List.replicate n (Str.ofString "9").cps.toList).flatten).toArray⟩) H) : rMulA K (.str (Str.ofString "9")) (.int m) H Q := by
  have h1 : (Str.ofString "9").length = 1 := by decide +kernel
  rcases hm with rfl | rfl
  · exact r_mulStr (n := 400) rfl (by rw [h1]; decide) (by decide) (k 400 (.inl rfl))
  · exact r_mulStr (n := 800) rfl (by rw [h1]; decide) (by decide) (k 800 (.inr rfl))
theorem int9 {H : Hp} {Q : VK} {n : Nat} (hn : n = 400 ∨ n = 800) (k : ∀ N : Int, 1000000000000000000000000000000 ≤ N → N < big → Q (.int N) H) : rIntX [.str ⟨((List.replicate n (Str.ofString "9").cps.toList).flatten).toArray⟩] H Q := by
  rcases hn with rfl | rfl
  · exact nines (10 ^ 400 - 1) (by decide +kernel) (by decide) (by decide) (k _ (by decide +kernel) (Int.lt_of_lt_of_le (by decide +kernel : ((10 ^ 400 - 1 : Nat) : Int) < 10 ^ 800) big_all))
  · exact nines (10 ^ 800 - 1) (by decide +kernel) (by decide) (by decide) (k _ (by decide +kernel) (Int.lt_of_lt_of_le (by decide +kernel : ((10 ^ 800 - 1 : Nat) : Int) < 10 ^ 800) big_all))
theorem ok_number (T : Txt K mg) : FnOk P w K mg base CX0 2 T.f_number T.d_number ["box"] sp_number := by
  refine T.F_number.ok sc_number (fun vs H Q E h => ?_) (fun cdv A outer s H vs Q E hr h => ?_)
  · obtain ⟨b, rfl, _⟩ := h
    rfl
  · obtain ⟨b, rfl, hB, k⟩ := h
    refine ⟨_, (pss_cons (ps_set (i := 1) sc_number.nd rfl (Or.inl rfl) (pe_call (ok_take T) hr (by rfl) T.g_take T.F_take.kp T.b_take .nil pass0 (pa_cons (pv 0) (pa_cons pe_int pa_nil))))
      (pss_cons (ps_if (pt_cmpR op_lt (pv 1) pe_int (nomark _))
      (pss_one (ps_ret (pe_call (ok_take T) hr (by rfl) T.g_take T.F_take.kp T.b_take .nil pass0 (pa_cons (pv 0) (pa_cons (pe_ix (ix_k (K := K) rfl) (pe_lst (pa_cons pe_int (pa_cons pe_int (pa_cons pe_int (pa_cons pe_int (pa_cons pe_int (pa_cons (pe_op op_pow pe_int pe_int) pa_nil))))))) (pv 1) (fun _ _ => rfl)) pa_nil))))) pss_nil)
      (pss_one (ps_ret (pe_ix (ix_k (K := K) rfl) (pe_lst (pa_cons (pe_call (ok_take T) hr (by rfl) T.g_take T.F_take.kp T.b_take .nil pass0 (pa_cons (pv 0) (pa_cons (pe_op op_pow pe_int pe_int) pa_nil))) (pa_cons (pe_op op_sub (pe_callTy (int_x (K := K) rfl T.s_msd) (by rfl) T.z_int (by decide +kernel) (pa_cons (pe_op (mul_k (K := K) rfl) pe_str (pe_ix (ix_k (K := K) rfl) (pe_lst (pa_cons pe_int (pa_cons pe_int pa_nil))) (pe_call (ok_take T) hr (by rfl) T.g_take T.F_take.kp T.b_take .nil pass0 (pa_cons (pv 0) (pa_cons pe_int pa_nil))) (fun _ _ => rfl))) pa_nil)) (pe_call (ok_take T) hr (by rfl) T.g_take T.F_take.kp T.b_take .nil pass0 (pa_cons (pv 0) (pa_cons (pe_op op_pow pe_int pe_int) pa_nil)))) pa_nil))) (pe_op op_sub (pv 1) pe_int) (fun _ _ => rfl)))))), ?_⟩
    have g2 := big_pos
    tm_at "rv"
    refine use_take (by tm_at "mv") (by decide) (cdiv_s (by decide) (by decide)) fun form H1 c1 b1 l1 u1 => ?_
    tm_at "rv"
    refine ite_d (fun e1 => ?_) (fun e1 => ?_)
    · tm_at "rv"
      refine r_ixLi (ns := [2, 3, 10, 100, 1000, 10 ^ Int.toNat 6]) (by tm_at "mv") (by rfl) l1 e1 fun n hn => ?_
      have hb : 0 < n ∧ n ≤ 1000000 := by
        have z : ∀ n ∈ ([2, 3, 10, 100, 1000, 10 ^ Int.toNat 6] : List Int), 0 < n ∧ n ≤ 1000000 := by decide
        exact z n hn
      tm_at "rv"
      refine use_take (by tm_at "mv") hb.1 (cdiv_s hb.1 (by omega)) fun d H2 c2 b2 l2 u2 => ?_
      tm_at "rv"
      exact k _ _ (by tm_at "ch") b2 l2 (by omega)
    · tm_at "rv"
      refine use_take (by tm_at "mv") (by decide) (cdiv_of (n := 140) (by decide) (by decide) (by decide) (by decide)) fun d H2 c2 b2 l2 u2 => ?_
      tm_at "rv"
      refine use_take (by tm_at "mv") (by decide) (cdiv_s (by decide) (by decide)) fun d3 H3 c3 b3 l3 u3 => ?_
      tm_at "rv"
      refine r_ixLi (ns := [400, 800]) (by tm_at "mv") (by rfl) l3 u3 fun m hm => ?_
      refine mul9 (by simpa using hm) fun n hn => ?_
      tm_at "rv"
      refine int9 hn fun N n1 n2 => ?_
      tm_at "rv"
      refine use_take (by tm_at "mv") (by decide) (cdiv_of (n := 100) (by decide) (by decide) (by decide) (by decide)) fun d4 H4 c4 b4 l4 u4 => ?_
      have u4 : d4 < 1000000000000000000000000000000 := Int.lt_of_lt_of_le u4 (by decide)
      have u2 : d < big := Int.lt_of_lt_of_le u2 (big_ge (by decide +kernel))
      tm_at "rv"
      refine r_ixLi (ns := [d, N - d4]) (by tm_at "mv") (by rfl) (by omega) (by simp only [List.length_cons, List.length_nil]; omega) fun x hx => ?_
      have hx : 0 ≤ x ∧ x < big := by
        rcases List.mem_cons.mp hx with rfl | hx
        · exact ⟨l2, u2⟩
        · rw [List.mem_singleton.mp hx]
          omega
      tm_at "rv"
      exact k _ _ (by tm_at "ch") (by tm_at "mv") hx.1 hx.2

/-! bits of a number, written and read -/
def sp_p_bits_of : Sp := fun vs H Q _ => ∃ (n : Int) (k : Nat), vs = [.int n] ∧ 0 ≤ n ∧ n < 2 ^ k ∧ k ≤ 900000 ∧ Q (.str (SX.S (bin n.toNat))) H
theorem use_bits_of {H : Hp} {Q : VK} {E : XK} {n : Int} (k : Nat) (h0 : 0 ≤ n) (h1 : n < 2 ^ k) (hk : k ≤ 900000) (q : Q (.str (SX.S (bin n.toNat))) H) : sp_p_bits_of [.int n] H Q E := ⟨n, k, rfl, h0, h1, hk, q⟩
theorem ok_p_bits_of (T : Txt K mg) : FnOk P w K mg base CX0 1 T.f_p_bits_of T.d_p_bits_of ["number"] sp_p_bits_of := by
  refine T.F_p_bits_of.ok sc_p_bits_of (fun vs H Q E h => ?_) (fun cdv A outer s H vs Q E hr h => ?_)
  · obtain ⟨n, k, rfl, _⟩ := h
    rfl
  · obtain ⟨n, k, rfl, h0, h1, hk, q⟩ := h
    refine ⟨_, (pss_one (ps_ret (pe_joined1 (pe_bin (pv 0) (pe_joined1 pe_str))))), ?_⟩
    tm_at "rv"
    exact bin_ok h0 h1 hk q

theorem bits01 {c : Nat} (h : c = 48 ∨ c = 49) : (!decide (c ∈ (Str.ofString "01").cps.toList)) = false := by
  have e : (Str.ofString "01").cps.toList = [48, 49] := by decide +kernel
  rw [e]
  rcases h with rfl | rfl <;> decide
theorem s_empty {l : List Nat} (h : l ≠ []) : decide (SX.S l = (Str.ofString "")) = false := by
  refine decide_eq_false fun e => h ?_
  have e2 : (Str.ofString "") = SX.S [] := by decide +kernel
  rw [e2] at e
  exact SX.S_inj e
def sp_p_of_bits : Sp := fun vs H Q _ => ∃ l : List Nat, vs = [.str (SX.S l)] ∧ Bits l ∧ l ≠ [] ∧ ∀ H', Sm H H' → Q (.int ((bitsNum l : Nat) : Int)) H'
theorem use_of_bits {H : Hp} {Q : VK} {E : XK} {l : List Nat} (hb : Bits l) (hn : l ≠ []) (k : ∀ H', Sm H H' → Q (.int ((bitsNum l : Nat) : Int)) H') : sp_p_of_bits [.str (SX.S l)] H Q E := ⟨l, rfl, hb, hn, k⟩
theorem ok_p_of_bits (T : Txt K mg) : FnOk P w K mg base CX0 1 T.f_p_of_bits T.d_p_of_bits ["text"] sp_p_of_bits := by
  refine T.F_p_of_bits.ok sc_p_of_bits (fun vs H Q E h => ?_) (fun cdv A outer s H vs Q E hr h => ?_)
  · obtain ⟨l, rfl, _⟩ := h
    rfl
  · obtain ⟨l, rfl, hb, hn, k⟩ := h
    refine ⟨_, (pss_cons (ps_if (pt_cmpR (eq_k (K := K) rfl hr.units) (pv 0) pe_str (nomark _))
      (pss_one ps_never) pss_nil)
      (pss_cons (ps_for PassesOwn.never rfl (enum_k (K := K) rfl (by rfl) T.z_enumerate (pa_cons (pv 0) pa_nil)) (pg_tup rfl (pgs_cons (pg_name (i := 1) sc_p_of_bits.nd rfl (Or.inl rfl)) (pgs_cons (pg_name (i := 2) sc_p_of_bits.nd rfl (Or.inl rfl)) pgs_nil)))
      (pss_one (ps_if (pt_cmpR (notIn_k (K := K) rfl) (pv 2) (pe_glob (v := .str (Str.ofString "01")) (by rfl) T.g_BITS ⟨_, rfl⟩) (by rfl))
      (pss_one ps_never) pss_nil)))
      (pss_one (ps_ret (pe_callTy (int_two (K := K) rfl T.s_msd) (by rfl) T.z_int (by decide +kernel) (pa_cons (pv 0) (pa_cons pe_int pa_nil))))))), ?_⟩
    tm_at "rv"
    refine ite_o (s_empty hn) ?_
    tm_at "rv"
    refine r_enumS ?_
    tm_at "rv"
    refine ⟨_, rfl, ?_⟩
    refine for_it walk_enumS (fun i σ H' => (∃ x1 x2, σ = [some (.str (SX.S l)), x1, x2]) ∧ Sm H H') ⟨⟨_, _, rfl⟩, Sm.refl _⟩ (fun _ _ _ _ _ => trivial) ?_ ?_
    · rintro i x σ Hi H2 hi ⟨⟨x1, x2, rfl⟩, si⟩ ⟨t, c, rfl, nt, rfl, hc⟩
      tm_at "rv"
      have hm : c ∈ l := List.mem_of_getElem? (str_get hc)
      refine ite_o (bits01 (hb c hm)) ?_
      tm_at "rv"
      exact ⟨⟨_, _, rfl⟩, si.trans (sm_upd nt)⟩
    · rintro σ Hi ⟨⟨x1, x2, rfl⟩, si⟩
      tm_at "rv"
      refine r_int2 hb hn ?_
      tm_at "rv"
      exact k _ si

theorem big_bits {n : Int} (h : n < big) : n < 2 ^ 3000 := by
  have e : big + 1000 < 2 ^ 3000 := (Classical.choose_spec big_is).2
  generalize (2 : Int) ^ 3000 = z at *
  omega
/-! any number -/
def sp_any : Sp := fun vs H Q _ => ∃ (b : Addr), vs = [.ref b] ∧ BoxAt H b ∧ ∀ n H', Chg b H H' → BoxAt H' b → 0 ≤ n → n < big → Q (.int n) H'
theorem use_any {H : Hp} {Q : VK} {E : XK} {b : Addr} (h : BoxAt H b) (k : ∀ n H', Chg b H H' → BoxAt H' b → 0 ≤ n → n < big → Q (.int n) H') : sp_any [.ref b] H Q E := ⟨b, rfl, h, k⟩
theorem ok_any (T : Txt K mg) : FnOk P w K mg base CX0 3 T.f_any T.d_any ["box"] sp_any := by
  refine T.F_any.ok sc_any (fun vs H Q E h => ?_) (fun cdv A outer s H vs Q E hr h => ?_)
  · obtain ⟨b, rfl, _⟩ := h
    rfl
  · obtain ⟨b, rfl, hB, k⟩ := h
    refine ⟨_, (pss_cons (ps_set (i := 1) sc_any.nd rfl (Or.inl rfl) (pe_call (ok_take T) (hr.mono (by decide)) (by rfl) T.g_take T.F_take.kp T.b_take .nil pass0 (pa_cons (pv 0) (pa_cons pe_int pa_nil))))
      (pss_cons (ps_if (pt_cmpR (eq_k (K := K) rfl hr.units) (pv 1) pe_int (nomark _))
      (pss_one (ps_ret (pe_call (ok_number T) hr (by rfl) T.g_number T.F_number.kp T.b_number .nil pass0 (pa_cons (pv 0) pa_nil)))) pss_nil)
      (pss_cons (ps_if (pt_cmpR (eq_k (K := K) rfl hr.units) (pv 1) pe_int (nomark _))
      (pss_one (ps_ret (pe_callB (max_k (K := K) rfl rfl) (by rfl) T.z_max (by decide +kernel) (pa_cons pe_int (pa_cons (pe_op op_sub (pe_op (add_k (K := K) rfl) (pe_op op_shlW pe_int (pe_call (ok_take T) (hr.mono (by decide)) (by rfl) T.g_take T.F_take.kp T.b_take .nil pass0 (pa_cons (pv 0) (pa_cons pe_int pa_nil)))) (pe_call (ok_take T) (hr.mono (by decide)) (by rfl) T.g_take T.F_take.kp T.b_take .nil pass0 (pa_cons (pv 0) (pa_cons pe_int pa_nil)))) pe_int) pa_nil))))) pss_nil)
      (pss_one (ps_ret (pe_call (ok_take T) (hr.mono (by decide)) (by rfl) T.g_take T.F_take.kp T.b_take .nil pass0 (pa_cons (pv 0) (pa_cons pe_int pa_nil)))))))), ?_⟩
    have g2 := big_pos
    tm_at "rv"
    refine use_take (by tm_at "mv") (by decide) (cdiv_s (by decide) (by decide)) fun form H1 c1 b1 l1 u1 => ?_
    tm_at "rv"
    refine ite_d (fun e1 => ?_) (fun e1 => ?_)
    · tm_at "rv"
      refine use_number b1 fun n H2 c2 b2 l2 u2 => ?_
      tm_at "rv"
      exact k _ _ (by tm_at "ch") b2 l2 u2
    · tm_at "rv"
      refine ite_d (fun e2 => ?_) (fun e2 => ?_)
      · tm_at "rv"
        refine use_take (by tm_at "mv") (by decide) (cdiv_s (by decide) (by decide)) fun t H2 c2 b2 l2 u2 => ?_
        tm_at "rv"
        refine use_take (by tm_at "mv") (by decide) (cdiv_s (by decide) (by decide)) fun u H3 c3 b3 l3 u3 => ?_
        have p2 := pow2_le (show t.toNat ≤ 200 by omega)
        have q2 : (2 : Int) ^ 200 + 10 ≤ big := big_ge (by decide +kernel)
        tm_at "rv"
        rename_i m h1 h2 h3
        generalize (2 : Int) ^ 200 = z at p2 q2
        generalize (2 : Int) ^ t.toNat = y at *
        exact k _ _ (by tm_at "ch") b3 (by omega) (by omega)
      · tm_at "rv"
        refine use_take (by tm_at "mv") (by decide) (cdiv_s (by decide) (by decide)) fun t H2 c2 b2 l2 u2 => ?_
        tm_at "rv"
        exact k _ _ (by tm_at "ch") b2 l2 (by omega)
/-! the law's own text -/
/-- the bits without those of nought -/
def bits0 (n : Nat) : List Nat := if n = 0 then [] else bin n
theorem bits0_step {n : Nat} (h : n ≠ 0) : bits0 n = bits0 (n / 2) ++ [48 + n % 2] := by
  unfold bits0
  rw [if_neg h]
  by_cases e : n < 2
  · have : n = 1 := by omega
    subst this
    rw [bin_small (by decide)]
    rfl
  · rw [bin_big (by omega), if_neg (by omega)]
theorem bits0_len (n : Nat) {k : Nat} (h : n < 2 ^ k) (hk : k ≤ 900000) : (bits0 n).length ≤ 900001 := by
  unfold bits0
  split
  · exact Nat.zero_le _
  · have h3 : 2 ^ k ≤ 2 ^ (k + 1) := Nat.pow_le_pow_right (by decide) (by omega)
    have := bin_len n k (by omega)
    omega
def sp_text : Sp := fun vs H Q _ => ∃ (n : Int) (k : Nat), vs = [.int n] ∧ 0 ≤ n ∧ n < 2 ^ k ∧ k ≤ 900000 ∧ Q (.str (SX.S (bin n.toNat))) H
theorem use_text {H : Hp} {Q : VK} {E : XK} {n : Int} (k : Nat) (h0 : 0 ≤ n) (h1 : n < 2 ^ k) (hk : k ≤ 900000) (q : Q (.str (SX.S (bin n.toNat))) H) : sp_text [.int n] H Q E := ⟨n, k, rfl, h0, h1, hk, q⟩
theorem two_ix {r : Int} (h : r = 0 ∨ r = 1) : atI (Str.ofString "01").cps.toList r = some (48 + r.toNat) := by
  have e : (Str.ofString "01").cps.toList = [48, 49] := by decide +kernel
  rw [e]
  rcases h with rfl | rfl <;> rfl
theorem ok_text (T : Txt K mg) : FnOk P w K mg base CX0 1 T.f_text T.d_text ["number"] sp_text := by
  refine T.F_text.ok sc_text (fun vs H Q E h => ?_) (fun cdv A outer s H vs Q E hr h => ?_)
  · obtain ⟨n, k, rfl, _⟩ := h
    rfl
  · obtain ⟨n, k, rfl, h0, h1, hk, q⟩ := h
    refine ⟨_, (pss_cons (ps_set (i := 1) sc_text.nd rfl (Or.inl rfl) pe_str)
      (pss_cons (ps_while PassesOwn.never (pt_cmpR op_gt (pv 0) pe_int (nomark _))
      (pss_cons (ps_set (i := 1) sc_text.nd rfl (Or.inl rfl) (pe_op (add_k (K := K) rfl) (pe_ix (ix_k (K := K) rfl) pe_str (pe_op op_mod (pv 0) pe_int) (fun _ _ => rfl)) (pv 1)))
      (pss_one (ps_set (i := 0) sc_text.nd rfl (Or.inl rfl) (pe_op op_fdivW (pv 0) pe_int)))))
      (pss_one (ps_ret (orT_k (K := K) rfl (pv 1) (pe_one pe_str)))))), ?_⟩
    have hlen := bits0_len n.toNat (k := k) (Int.ofNat_lt.mp (by rw [Int.natCast_pow, Int.toNat_of_nonneg h0]; exact h1)) hk
    clear h1
    tm_at "rv"
    refine while_by (fun σ H' => (∃ m cs, σ = [some (.int m), some (.str (SX.S cs))] ∧ 0 ≤ m ∧ bits0 n.toNat = bits0 m.toNat ++ cs) ∧ H' = H) (fun σ _ => match (σ : List (Option V))[0]? with | some (some (V.int l)) => l.toNat | _ => 0) ⟨⟨n, [], by rw [show SX.S [] = Str.ofString "" from by decide +kernel]; rfl, h0, (List.append_nil _).symm⟩, rfl⟩ ?_ ?_
    · rintro σ Hj ⟨⟨m, cs, rfl, hm, hv⟩, rfl⟩
      tm_at "rv"
      refine ite_d (fun e1 => ?_) (fun e1 => ?_)
      · tm_at "rv"
        have hr : m % 2 = 0 ∨ m % 2 = 1 := by omega
        refine r_ixS (by decide +kernel) (two_ix hr) ?_
        tm_at "rv"
        have hc : cs.length ≤ 900001 := by
          have := congrArg List.length hv
          rw [List.length_append] at this
          omega
        refine r_addS (len_le (by rw [SX.S_len]; show 1 + cs.length ≤ 1000000; omega)) ?_
        rw [cat1]
        tm_at "rv"
        refine ⟨⟨⟨_, _, rfl, by omega, ?_⟩, rfl⟩, ?_⟩
        · rw [hv, bits0_step (by omega), List.append_assoc]
          have a1 : m.toNat / 2 = (m / 2).toNat := by omega
          have a2 : m.toNat % 2 = (m % 2).toNat := by omega
          rw [a1, a2]
          rfl
        · show (m / 2).toNat < m.toNat
          omega
      · tm_at "rv"
        have em : m = 0 := by omega
        subst em
        have hv : bits0 n.toNat = cs := hv
        refine r_tru_str (len_le (by rw [SX.S_len, ← hv]; omega)) ?_
        by_cases hz : n.toNat = 0
        · have ec : cs = [] := by
            rw [← hv, hz]
            rfl
          subst ec
          refine ite_o (by rfl) ?_
          tm_at "rv"
          have e1 : bin n.toNat = [48] := by
            rw [hz]
            exact bin_small (by decide)
          rw [e1] at q
          exact q
        · have ec : cs = bin n.toNat := by
            rw [← hv]
            unfold bits0
            rw [if_neg hz]
          subst ec
          refine ite_y ?_ ?_
          · have := bin_ne n.toNat
            have h2 : (bin n.toNat).length ≠ 0 := fun z => this (List.eq_nil_of_length_eq_zero z)
            rw [SX.S_len]
            have h3 : ((bin n.toNat).length : Int) ≠ 0 := by omega
            exact bne_iff_ne.mpr h3
          · exact q
    · rintro σ H Q Q' hq ⟨v, e, i, j, a1, a2, k, z, q⟩
      exact ⟨v, e, i, j, a1, a2, k, z, hq _ _ q⟩
def sp_law (K : PySem.W.Frag) : Sp := fun vs H Q _ => ∃ (a : Addr) (ns : List Int), vs = [.ref a] ∧ SqL K H a (ns.map V.int) ∧ ns.length ≤ 63 ∧ ∀ H', Q (.bl true) H'
theorem sp_law_of {K : PySem.W.Frag} {H : Hp} {a : Addr} {ns : List Int} (h1 : ns.length ≤ 63) (h : SqL K H a (ns.map V.int)) : sp_law K [.ref a] H (fun v _ => v = .bl true) fun _ _ _ => False := ⟨a, ns, rfl, h, h1, fun _ => rfl⟩

def Asked (vs : List V) : Prop := ∃ n m : Int, vs = [.int n, .int m] ∧ 0 ≤ n ∧ n < big ∧ 0 ≤ m ∧ m ≤ 2001
theorem ok_law (T : Txt K mg) : FnOk P w K mg base CX0 4 T.f_law T.d_law ["script"] (sp_law K) := by
  refine T.F_law.ok sc_law (fun vs H Q E h => ?_) (fun cdv A outer s H vs Q E hr h => ?_)
  · obtain ⟨a, ns, rfl, _⟩ := h
    rfl
  · obtain ⟨a, ns, rfl, hS, hn, k⟩ := h
    refine ⟨_, (pss_cons (ps_set (i := 1) sc_law.nd rfl (Or.inl rfl) (pe_lst pa_nil))
      (pss_cons (ps_for PassesOwn.never rfl (pi_range1 (by rfl) T.z_range (pa_cons (pe_callB (max_k (K := K) rfl rfl) (by rfl) T.z_max (by decide +kernel) (pa_cons pe_int (pa_cons (pe_callB (min_k (K := K) rfl rfl) (by rfl) T.z_min (by decide +kernel) (pa_cons pe_int (pa_cons (pe_callB (len_k (K := K) rfl) (by rfl) T.z_len (by decide +kernel) (pa_cons (pv 0) pa_nil)) pa_nil))) pa_nil))) pa_nil)) (pg_name (i := 2) sc_law.nd rfl (Or.inl rfl))
      (pss_cons (ps_set (i := 3) sc_law.nd rfl (Or.inl rfl) (pe_call (ok_box T) (hr.mono (by decide)) (by rfl) T.g_box T.F_box.kp T.b_box .nil pass0 (pa_cons (pv 0) (pa_cons (pv 2) pa_nil))))
      (pss_one (ps_expr (pe_bm PySem.F.plainAttrs_list PySem.F.slot_list_append PySem.F.type_list_append mt_append (pv 1) (pa_cons (pe_tup (pa_cons (pe_call (ok_any T) hr (by rfl) T.g_any T.F_any.kp T.b_any .nil pass0 (pa_cons (pv 3) pa_nil)) (pa_cons (pe_call (ok_take T) (hr.mono (by decide)) (by rfl) T.g_take T.F_take.kp T.b_take .nil pass0 (pa_cons (pv 3) (pa_cons (pe_ix (ix_k (K := K) rfl) (pe_lst (pa_cons pe_int (pa_cons pe_int (pa_cons pe_int (pa_cons pe_int (pa_cons pe_int (pa_cons pe_int (pa_cons pe_int (pa_cons pe_int pa_nil))))))))) (pe_call (ok_take T) (hr.mono (by decide)) (by rfl) T.g_take T.F_take.kp T.b_take .nil pass0 (pa_cons (pv 3) (pa_cons pe_int pa_nil))) (fun _ _ => rfl)) pa_nil))) pa_nil))) pa_nil))))))
      (pss_cons (ps_for PassesOwn.never rfl (any_pi (K := K) rfl (pe_op (add_k (K := K) rfl) (pv 1) (pe_slice (sl_k (K := K) rfl) (pv 1) po_none (po_some pe_int)))) (pg_tup rfl (pgs_cons (pg_name (i := 4) sc_law.nd rfl (Or.inl rfl)) (pgs_cons (pg_name (i := 5) sc_law.nd rfl (Or.inl rfl)) pgs_nil)))
      (pss_cons (ps_set (i := 6) sc_law.nd rfl (Or.inl rfl) (pe_call (ok_text T) (hr.mono (by decide)) (by rfl) T.g_text T.F_text.kp T.b_text .nil pass0 (pa_cons (pv 4) pa_nil)))
      (pss_cons (ps_set (i := 7) sc_law.nd rfl (Or.inl rfl) (pe_call (ok_p_bits_of T) (hr.mono (by decide)) (by rfl) T.g_p_bits_of T.F_p_bits_of.kp T.b_p_bits_of .nil pass0 (pa_cons (pv 4) pa_nil)))
      (pss_cons (ps_if (PW.pt (pw_or (pt_not (pt_truth (pe_callB (isi_k (K := K) rfl) (by rfl) T.z_isinstance (by decide +kernel) (pa_cons (pv 7) (pa_cons (pe_bltn (v := .ty "str") (by rfl) T.z_str (by decide +kernel) rfl) pa_nil))) (by intro _; rfl))) (pw_or1 (pt_cmpR (ne_k (K := K) rfl hr.units) (pv 7) (pv 6) (nomark _)))))
      (pss_one (ps_ret pe_bl)) pss_nil)
      (pss_one (ps_for PassesOwn.never rfl (any_pi (K := K) rfl (pe_tup (pa_cons (pv 6) (pa_cons (pe_op (add_k (K := K) rfl) (pe_op (mul_k (K := K) rfl) pe_str (pv 5)) (pv 6)) (pa_cons (pv 7) pa_nil))))) (pg_name (i := 8) sc_law.nd rfl (Or.inl rfl))
      (pss_cons (ps_set (i := 9) sc_law.nd rfl (Or.inl rfl) (pe_call (ok_p_of_bits T) (hr.mono (by decide)) (by rfl) T.g_p_of_bits T.F_p_of_bits.kp T.b_p_of_bits .nil pass0 (pa_cons (pv 8) pa_nil)))
      (pss_one (ps_if (PW.pt (pw_or (pt_truth (pe_callB (isi_k (K := K) rfl) (by rfl) T.z_isinstance (by decide +kernel) (pa_cons (pv 9) (pa_cons (pe_bltn (v := .ty "bool") (by rfl) T.z_bool (by decide +kernel) rfl) pa_nil))) (by intro _; rfl)) (pw_or (pt_not (pt_truth (pe_callB (isi_k (K := K) rfl) (by rfl) T.z_isinstance (by decide +kernel) (pa_cons (pv 9) (pa_cons (pe_bltn (v := .ty "int") (by rfl) T.z_int (by decide +kernel) rfl) pa_nil))) (by intro _; rfl))) (pw_or1 (pt_cmpR (ne_k (K := K) rfl hr.units) (pv 9) (pv 4) (nomark _))))))
      (pss_one (ps_ret pe_bl)) pss_nil)))))))))
      (pss_one (ps_ret pe_bl))))), ?_⟩
    have hlen : (ns.map V.int).length = ns.length := List.length_map _
    have g2 := big_pos
    tm_at "rv"
    rename_i A nA _ _ _ _ m2 _ _ _
    refine for_range (lo := 0) (n := m2.toNat) (fun i σ H' => (∃ x2 x3 x4 x5 x6 x7 x8 x9, σ = [some (.ref a), some (.ref A), x2, x3, x4, x5, x6, x7, x8, x9]) ∧ ∃ xs : List V, H' A = some (.lst xs) ∧ xs.length = i ∧ Sm H H' ∧ ∀ x ∈ xs, TupAt Asked H' x) ⟨⟨_, _, _, _, _, _, _, _, rfl⟩, [], upd_same, rfl, sm_upd nA, by simp⟩ ?_ ?_
    · rintro i σ Hi hi ⟨⟨x2, x3, x4, x5, x6, x7, x8, x9, rfl⟩, xs, hA, ht, si, ha⟩
      tm_at "rv"
      refine use_box (si.seq hS) (by omega) fun b H2 s2 n2 b2 => ?_
      tm_at "rv"
      refine use_any b2 fun n H3 c3 b3 l3 u3 => ?_
      tm_at "rv"
      refine use_take (by tm_at "mv") (by decide) (cdiv_s (by decide) (by decide)) fun d5 H5 c5 b5 l5 u5 => ?_
      refine r_ixLi (ns := [6, 6, 6, 6, 6, 6, 6, 2001]) (by tm_at "mv") (by rfl) l5 u5 fun m hm => ?_
      have hm : m = 6 ∨ m = 2001 := by
        simp only [List.mem_cons, List.not_mem_nil, or_false] at hm
        omega
      tm_at "rv"
      refine use_take (by tm_at "mv") (by omega) (cdiv_s (by omega) (by omega)) fun d6 H6 c6 b6 l6 u6 => ?_
      tm_at "rv"
      rename_i tn ntn
      have s3 : Sm Hi H6 := Chg.sm s2 n2 (by tm_at "ch")
      have s4 : Sm Hi (upd H6 tn (.tup [V.int n, V.int d6])) := s3.trans (sm_upd ntn)
      have hA4 := s4.to _ _ hA
      refine r_app hA4 (small1000 (by omega)) ?_
      tm_at "rv"
      exact ⟨⟨_, _, _, _, _, _, _, _, rfl⟩, xs ++ [.ref tn], upd_same, by rw [List.length_append, ht]; rfl, sm_acc (si.trans s4) nA, (kp_tup Asked).add hA ha s4 ⟨tn, _, rfl, upd_same, n, d6, rfl, l3, u3, l6, by omega⟩⟩
    · rintro σ Hi ⟨⟨x2, x3, x4, x5, x6, x7, x8, x9, rfl⟩, xs, hA, ht, si, ha⟩
      tm_at "rv"
      refine r_iL ?_
      tm_at "rv"
      refine r_slL (SqL.of hA) fun p np => ?_
      refine r_addL (by tm_at "mv") (by tm_at "mv") (cat_len (n := 63) (by omega) (by decide)) fun q H5 s5 nq eq => ?_
      refine r_aL (SqL.of eq) ?_
      refine for_list (K := K) (a := q) (xs := xs ++ cutV xs none (some 1)) (fun l σ H' => (∃ x2 x3 x4 x5 x6 x7 x8 x9, σ = [some (.ref a), some (.ref A), x2, x3, x4, x5, x6, x7, x8, x9]) ∧ Sm H5 H') ⟨⟨_, _, _, _, _, _, _, _, rfl⟩, Sm.refl _⟩ (fun l σ H' _ h => h.2.seq (SqL.of eq)) ?_ ?_
      · rintro l x σ H6 hx ⟨⟨x2, x3, x4, x5, x6, x7, x8, x9, rfl⟩, s6⟩
        obtain ⟨t, vs, rfl, et, n, m, rfl, r1, r2, r3, r4⟩ := ha x (cat_mem (List.mem_of_getElem? hx))
        have et : H6 t = some (.tup [.int n, .int m]) := s6.to _ _ (s5.to _ _ ((sm_upd np).to _ _ et))
        tm_at "rv"
        refine use_text 3000 r1 (big_bits r2) (by decide) ?_
        tm_at "rv"
        refine use_bits_of 3000 r1 (big_bits r2) (by decide) ?_
        tm_at "rv"
        refine ite_n (fun e => absurd rfl e) (fun _ => ?_)
        have hbl : (bin n.toNat).length ≤ 900001 := by
          have e : ((2 ^ 3000 : Nat) : Int) = (2 : Int) ^ 3000 := by rw [Int.natCast_pow]; rfl
          have h2 : n.toNat < 2 ^ 3000 := Int.ofNat_lt.mp (by rw [e, Int.toNat_of_nonneg r1]; exact big_bits r2)
          have h3 : 2 ^ 3000 < 2 ^ 3001 := Nat.pow_lt_pow_right (by decide) (by decide)
          have := bin_len n.toNat 3000 (Nat.lt_trans h2 h3)
          omega
        tm_at "rv"
        have h1 : (Str.ofString "0").length = 1 := by decide +kernel
        refine r_iT ?_
        tm_at "rv"
        refine r_mulStr (n := m.toNat) (by omega) (by rw [h1]; omega) (by omega) ?_
        rw [rep48 m.toNat (Str.ofString "0") (by decide +kernel)]
        tm_at "rv"
        refine r_addS (len_le (by rw [SX.S_len, SX.S_len, List.length_replicate]; omega)) ?_
        rw [SX.S_cat]
        tm_at "rv"
        rename_i tt ntt
        refine r_aT (SqT.of upd_same) ?_
        refine for_tup (K := K) (a := tt) (xs := [V.str (SX.S (bin n.toNat)), V.str (SX.S (List.replicate m.toNat 48 ++ bin n.toNat)), V.str (SX.S (bin n.toNat))]) (fun l σ H' => (∃ y2 y3 y4 y6 y8 y9 y10, σ = [some (.ref a), some (.ref A), y2, y3, some (.int n), y4, y6, y8, y9, y10]) ∧ Sm H6 H' ∧ SqT K H' tt [V.str (SX.S (bin n.toNat)), V.str (SX.S (List.replicate m.toNat 48 ++ bin n.toNat)), V.str (SX.S (bin n.toNat))]) ⟨⟨_, _, _, _, _, _, _, rfl⟩, sm_upd ntt, SqT.of upd_same⟩ (fun l σ H' _ h => h.2.2) ?_ ?_
        · rintro j x σ H7 hx2 ⟨⟨y2, y3, y4, y6, y8, y9, y10, rfl⟩, s7, q7⟩
          obtain ⟨l2, rfl, hb, hne, hv⟩ : ∃ l2, x = .str (SX.S l2) ∧ Bits l2 ∧ l2 ≠ [] ∧ bitsNum l2 = n.toNat := by
            have g1 : Bits (bin n.toNat) := bin_in n.toNat
            have hm := List.mem_of_getElem? hx2
            simp only [List.mem_cons, List.not_mem_nil, or_false] at hm
            rcases hm with rfl | rfl | rfl
            · exact ⟨_, rfl, g1, bin_ne _, bitsNum_bin _⟩
            · refine ⟨_, rfl, ?_, ?_, ?_⟩
              · intro c hc
                rcases List.mem_append.mp hc with hc | hc
                · exact .inl (List.eq_of_mem_replicate hc)
                · exact g1 c hc
              · intro z
                exact bin_ne n.toNat (List.append_eq_nil_iff.mp z).2
              · rw [bitsNum_zeros, bitsNum_bin]
            · exact ⟨_, rfl, g1, bin_ne _, bitsNum_bin _⟩
          tm_at "rv"
          refine use_of_bits hb hne fun H8 s8 => ?_
          rw [hv, Int.toNat_of_nonneg r1]
          tm_at "rv"
          refine ite_n (fun e => absurd rfl e) (fun _ => ?_)
          tm_at "rv"
          exact ⟨⟨_, _, _, _, _, _, _, rfl⟩, s7.trans s8, s8.seqT q7⟩
        · rintro σ H7 ⟨⟨y2, y3, y4, y6, y8, y9, y10, rfl⟩, s7, q7⟩
          tm_at "rv"
          exact ⟨⟨_, _, _, _, _, _, _, _, rfl⟩, s6.trans s7⟩
      · rintro σ H6 ⟨⟨x2, x3, x4, x5, x6, x7, x8, x9, rfl⟩, s6⟩
        tm_at "rv"
        exact k _
end
theorem all_mk {l : PySem.W.OpenLaw} {w : World} {K : PySem.W.Frag} {h : Heap} {mg : Str → Option Value} {fa : Addr} (X : K.In h) (G : h.Ns mainGlobals mg) (hfa : mg "law" = some (.ref fa))
    {f0 : Addr}
    {od0 an0 : Option Addr}
    {sl0 : Array (Option Value)}
    {oc0 kV0 dc0 pm0 cd0 ct0 : Value}
    {f1 : Addr}
    {od1 an1 : Option Addr}
    {sl1 : Array (Option Value)}
    {oc1 kV1 dc1 pm1 cd1 ct1 : Value}
    {f2 : Addr}
    {od2 an2 : Option Addr}
    {sl2 : Array (Option Value)}
    {oc2 kV2 dc2 pm2 cd2 ct2 : Value}
    {f3 : Addr}
    {od3 an3 : Option Addr}
    {sl3 : Array (Option Value)}
    {oc3 kV3 dc3 pm3 cd3 ct3 : Value}
    {f4 : Addr}
    {od4 an4 : Option Addr}
    {sl4 : Array (Option Value)}
    {oc4 kV4 dc4 pm4 cd4 ct4 : Value}
    {f5 : Addr}
    {od5 an5 : Option Addr}
    {sl5 : Array (Option Value)}
    {oc5 kV5 dc5 pm5 cd5 ct5 : Value}
    {f6 : Addr}
    {od6 an6 : Option Addr}
    {sl6 : Array (Option Value)}
    {oc6 kV6 dc6 pm6 cd6 ct6 : Value}
    {f7 : Addr}
    {od7 an7 : Option Addr}
    {sl7 : Array (Option Value)}
    {oc7 kV7 dc7 pm7 cd7 ct7 : Value}
    {tk0 : Tok}
    (a0 : PySem.W.nsIn K mainGlobals "_law_box" = some (some (.ref f0)))
    (l0 : K.lookup f0 = some ⟨oc0, od0, .func (PySem.W.fnOf "_law_box" "_law_box" (defArgs s_box) (defBody s_box) (defScope s_box) .none kV0 dc0 pm0 an0 cd0 ct0), sl0⟩)
    (c0 : PySem.W.codeIn K cd0 "_law_box" = true)
    (k0 : PySem.W.keepIn K (.ref f0) = true)
    (a1 : PySem.W.nsIn K mainGlobals "_law_text" = some (some (.ref f1)))
    (l1 : K.lookup f1 = some ⟨oc1, od1, .func (PySem.W.fnOf "_law_text" "_law_text" (defArgs s_text) (defBody s_text) (defScope s_text) .none kV1 dc1 pm1 an1 cd1 ct1), sl1⟩)
    (c1 : PySem.W.codeIn K cd1 "_law_text" = true)
    (k1 : PySem.W.keepIn K (.ref f1) = true)
    (a2 : PySem.W.nsIn K mainGlobals "bits_of" = some (some (.ref f2)))
    (l2 : K.lookup f2 = some ⟨oc2, od2, .func (PySem.W.fnOf "bits_of" "bits_of" (defArgs s_p_bits_of) (defBody s_p_bits_of) (defScope s_p_bits_of) .none kV2 dc2 pm2 an2 cd2 ct2), sl2⟩)
    (c2 : PySem.W.codeIn K cd2 "bits_of" = true)
    (k2 : PySem.W.keepIn K (.ref f2) = true)
    (a3 : PySem.W.nsIn K mainGlobals "of_bits" = some (some (.ref f3)))
    (l3 : K.lookup f3 = some ⟨oc3, od3, .func (PySem.W.fnOf "of_bits" "of_bits" (defArgs s_p_of_bits) (defBody s_p_of_bits) (defScope s_p_of_bits) .none kV3 dc3 pm3 an3 cd3 ct3), sl3⟩)
    (c3 : PySem.W.codeIn K cd3 "of_bits" = true)
    (k3 : PySem.W.keepIn K (.ref f3) = true)
    (a4 : PySem.W.nsIn K mainGlobals "_law_take" = some (some (.ref f4)))
    (l4 : K.lookup f4 = some ⟨oc4, od4, .func (PySem.W.fnOf "_law_take" "_law_take" (defArgs s_take) (defBody s_take) (defScope s_take) .none kV4 dc4 pm4 an4 cd4 ct4), sl4⟩)
    (c4 : PySem.W.codeIn K cd4 "_law_take" = true)
    (k4 : PySem.W.keepIn K (.ref f4) = true)
    (a5 : PySem.W.nsIn K mainGlobals "_law_number" = some (some (.ref f5)))
    (l5 : K.lookup f5 = some ⟨oc5, od5, .func (PySem.W.fnOf "_law_number" "_law_number" (defArgs s_number) (defBody s_number) (defScope s_number) .none kV5 dc5 pm5 an5 cd5 ct5), sl5⟩)
    (c5 : PySem.W.codeIn K cd5 "_law_number" = true)
    (k5 : PySem.W.keepIn K (.ref f5) = true)
    (a6 : PySem.W.nsIn K mainGlobals "_law_any" = some (some (.ref f6)))
    (l6 : K.lookup f6 = some ⟨oc6, od6, .func (PySem.W.fnOf "_law_any" "_law_any" (defArgs s_any) (defBody s_any) (defScope s_any) .none kV6 dc6 pm6 an6 cd6 ct6), sl6⟩)
    (c6 : PySem.W.codeIn K cd6 "_law_any" = true)
    (k6 : PySem.W.keepIn K (.ref f6) = true)
    (a7 : PySem.W.nsIn K mainGlobals "law" = some (some (.ref f7)))
    (l7 : K.lookup f7 = some ⟨oc7, od7, .func (PySem.W.fnOf "law" "law" (defArgs s_law) (defBody s_law) (defScope s_law) .none kV7 dc7 pm7 an7 cd7 ct7), sl7⟩)
    (c7 : PySem.W.codeIn K cd7 "law" = true)
    (k7 : PySem.W.keepIn K (.ref f7) = true)
    (q0 : PySem.W.nsIn K mainGlobals "BITS" = some (some (Value.str (Str.ofString "01") tk0)))
    (z0 : PySem.W.nsIn K mainGlobals "bool" = some none)
    (z1 : PySem.W.nsIn K mainGlobals "enumerate" = some none)
    (z2 : PySem.W.nsIn K mainGlobals "int" = some none)
    (z3 : PySem.W.nsIn K mainGlobals "isinstance" = some none)
    (z4 : PySem.W.nsIn K mainGlobals "len" = some none)
    (z5 : PySem.W.nsIn K mainGlobals "max" = some none)
    (z6 : PySem.W.nsIn K mainGlobals "min" = some none)
    (z7 : PySem.W.nsIn K mainGlobals "range" = some none)
    (z8 : PySem.W.nsIn K mainGlobals "str" = some none)
    (zm : PySem.W.nsIn K cStatics "sys.int_max_str_digits" = some none)
    : ∃ fd : FuncData, (∀ (s : Shared) (v : Value), BindsTo s fd ⟨[v], []⟩ [("script", v)]) ∧ ∀ base : Heap, K.In base → base.Ns mainGlobals mg → FnOk l.prog w K mg base CX0 4 fa fd ["script"] (sp_law K) := by
  have e := hfa.symm.trans (PySem.W.mg_of X G a7)
  cases e
  have F0 := fun_mk (st := s_box) l0 c0 k0
  have b0 := F0.binds (ps := ["script", "k"]) fun _ _ _ _ _ _ us hl => match us, hl with | [_, _], _ => rfl
  have F1 := fun_mk (st := s_text) l1 c1 k1
  have b1 := F1.binds (ps := ["number"]) fun _ _ _ _ _ _ us hl => match us, hl with | [_], _ => rfl
  have F2 := fun_mk (st := s_p_bits_of) l2 c2 k2
  have b2 := F2.binds (ps := ["number"]) fun _ _ _ _ _ _ us hl => match us, hl with | [_], _ => rfl
  have F3 := fun_mk (st := s_p_of_bits) l3 c3 k3
  have b3 := F3.binds (ps := ["text"]) fun _ _ _ _ _ _ us hl => match us, hl with | [_], _ => rfl
  have F4 := fun_mk (st := s_take) l4 c4 k4
  have b4 := F4.binds (ps := ["box", "wide"]) fun _ _ _ _ _ _ us hl => match us, hl with | [_, _], _ => rfl
  have F5 := fun_mk (st := s_number) l5 c5 k5
  have b5 := F5.binds (ps := ["box"]) fun _ _ _ _ _ _ us hl => match us, hl with | [_], _ => rfl
  have F6 := fun_mk (st := s_any) l6 c6 k6
  have b6 := F6.binds (ps := ["box"]) fun _ _ _ _ _ _ us hl => match us, hl with | [_], _ => rfl
  have F7 := fun_mk (st := s_law) l7 c7 k7
  have b7 := F7.binds (ps := ["script"]) fun _ _ _ _ _ _ us hl => match us, hl with | [_], _ => rfl
  exact ⟨PySem.W.fnOf "law" "law" (defArgs s_law) (defBody s_law) (defScope s_law) .none kV7 dc7 pm7 an7 cd7 ct7, fun s v => .of_eq rfl, fun base _ _ => ok_law (⟨_, _, F0, PySem.W.mg_of X G a0, b0, _, _, F1, PySem.W.mg_of X G a1, b1, _, _, F2, PySem.W.mg_of X G a2, b2, _, _, F3, PySem.W.mg_of X G a3, b3, _, _, F4, PySem.W.mg_of X G a4, b4, _, _, F5, PySem.W.mg_of X G a5, b5, _, _, F6, PySem.W.mg_of X G a6, b6, _, _, F7, PySem.W.mg_of X G a7, b7, tk0, PySem.W.mg_of X G q0, PySem.W.mg_none_of X G z0, PySem.W.mg_none_of X G z1, PySem.W.mg_none_of X G z2, PySem.W.mg_none_of X G z3, PySem.W.mg_none_of X G z4, PySem.W.mg_none_of X G z5, PySem.W.mg_none_of X G z6, PySem.W.mg_none_of X G z7, PySem.W.mg_none_of X G z8, zm⟩ : Txt K mg)⟩
end K18
open PySem PySem.W PyProof.Rows
set_option maxRecDepth 100000 in
set_option maxHeartbeats 0 in
theorem PySem.Challenge.cw_runsums_k18_bits_written_and_read_holds : PySem.Challenge.rw_runsums_k18_bits_written_and_read.Holds := by
  w_on; o_law; k_head; (case hw => w_witness2)
  k_fill
  refine L2.walk_of (l := PySem.Challenge.rw_runsums_k18_bits_written_and_read) (n := 63) (k := 4) (x := "script") (CX := fun _ => L2.CX0) (sp := fun w => K18.sp_law _) rfl (by decide) rfl ⟨rfl, by decide, by decide⟩ (fun w h Y => PySem.W.kIn_of Y) ?F (fun _ _ a ns hl _ hS => K18.sp_law_of hl hS) (fun _ _ _ _ _ h => h)
  case F =>
    intro w mg fa h KX G hmg
    refine' K18.all_mk KX G hmg ?a0 ?l0 ?c0 ?k0 ?a1 ?l1 ?c1 ?k1 ?a2 ?l2 ?c2 ?k2 ?a3 ?l3 ?c3 ?k3 ?a4 ?l4 ?c4 ?k4 ?a5 ?l5 ?c5 ?k5 ?a6 ?l6 ?c6 ?k6 ?a7 ?l7 ?c7 ?k7 ?q0 ?z0 ?z1 ?z2 ?z3 ?z4 ?z5 ?z6 ?z7 ?z8 ?zm
    (case a0 => k_is)
    (case l0 => k_is)
    (case c0 => k_is)
    (case k0 => k_is)
    (case a1 => k_is)
    (case l1 => k_is)
    (case c1 => k_is)
    (case k1 => k_is)
    (case a2 => k_is)
    (case l2 => k_is)
    (case c2 => k_is)
    (case k2 => k_is)
    (case a3 => k_is)
    (case l3 => k_is)
    (case c3 => k_is)
    (case k3 => k_is)
    (case a4 => k_is)
    (case l4 => k_is)
    (case c4 => k_is)
    (case k4 => k_is)
    (case a5 => k_is)
    (case l5 => k_is)
    (case c5 => k_is)
    (case k5 => k_is)
    (case a6 => k_is)
    (case l6 => k_is)
    (case c6 => k_is)
    (case k6 => k_is)
    (case a7 => k_is)
    (case l7 => k_is)
    (case c7 => k_is)
    (case k7 => k_is)
    (case q0 => k_is)
    (case z0 => k_is)
    (case z1 => k_is)
    (case z2 => k_is)
    (case z3 => k_is)
    (case z4 => k_is)
    (case z5 => k_is)
    (case z6 => k_is)
    (case z7 => k_is)
    (case z8 => k_is)
    (case zm => k_is)

