import PyProof.Rows.All
import Wide.All
import OpenK.AllK
import Wide.FinOn
import HandS.ForMost
import HandS.Wide
import HandS.WideBits
import HandS.WideMore
import HandS.Flow
import HandS.IsInst
import HandS.Style
import HandS.TupAny
import HandS.TupMul
import HandS.Deep
import HandS.RaiseMore
import HandS.Walk
import HandS.Codes
import HandS.Rev
import KE.KIntText
import PyProof.EnumMake
import KE.GoesEnum
import HandS.Iter
import HandS.FStr
import PyProof.Rows.BitMore
import PyProof.Rows.StrCountLaw
import KE.BitLaws
import KE.IntBitsLaws
import HandS.Dict
import PyProof.ReprRoads
import PyProof.CallFns
import HandS.Small
import HandS.SlotsOwn
import KE.KCallOwn
import OpenK.KOps
import HandS.Zip
import HandS.WrittenGet
import HandS.Defaults
import PyProof.InstNe
import HandS.NoneIn
import HandS.OwnEq
import PyProof.StrLawsRepr
import HandS.SetBool
import HandS.Strs
import PySem.Challenge.RW_runsums_k31_names_of_programs
set_option Elab.async false
set_option linter.all false
set_option maxRecDepth 100000
set_option maxHeartbeats 4000000
/-! own layer over the hand layer: heaps that grow, rules for values of any kind, readings step by step -/
namespace RV
open PySem PySem.Spec L2
open PyProof.Rows hiding St

/-! ### heaps -/
/-- all that was tracked is as it was -/
structure Sm (H H' : Hp) : Prop where
  to : ∀ a o, H a = some o → H' a = some o
/-- all but what stands at b is as it was -/
structure Chg (b : Addr) (H H' : Hp) : Prop where
  to : ∀ a o, a ≠ b → H a = some o → H' a = some o
theorem Sm.refl (H : Hp) : Sm H H := ⟨fun _ _ h => h⟩
theorem Sm.trans {H H1 H2 : Hp} (a : Sm H H1) (b : Sm H1 H2) : Sm H H2 := ⟨fun c o h => b.to c o (a.to c o h)⟩
theorem Sm.same {H H1 : Hp} (a : Sm H H1) : Same H H1 := a.to
theorem Same.sm {H H1 : Hp} (a : Same H H1) : Sm H H1 := ⟨a⟩
theorem Chg.refl (b : Addr) (H : Hp) : Chg b H H := ⟨fun _ _ _ h => h⟩
theorem Chg.trans {b : Addr} {H H1 H2 : Hp} (a : Chg b H H1) (c : Chg b H1 H2) : Chg b H H2 := ⟨fun d o n h => c.to d o n (a.to d o n h)⟩
theorem Sm.chg {b : Addr} {H H1 : Hp} (a : Sm H H1) : Chg b H H1 := ⟨fun d o _ h => a.to d o h⟩
theorem Chg.sm {b : Addr} {H H1 H2 : Hp} (c : Sm H H1) (n : H b = none) (a : Chg b H1 H2) : Sm H H2 := ⟨fun d o h => a.to d o (ne_of_none h n) (c.to d o h)⟩
theorem Sm.free {H H' : Hp} (e : Sm H H') {l : Addr} (h : H' l = none) : H l = none := by
  cases q : H l with
  | none => rfl
  | some o =>
    rw [e.to l o q] at h
    cases h
theorem sm_upd {H : Hp} {p : Addr} {o : HO} (h : H p = none) : Sm H (upd H p o) := ⟨fun b x e => by
  rw [upd_ne (ne_of_none e h)]
  exact e⟩
theorem chg_upd {H : Hp} {p : Addr} {o : HO} : Chg p H (upd H p o) := ⟨fun b x n e => by
  rw [upd_ne n]
  exact e⟩
/-- the heap without what stands at b -/
def hide (b : Addr) (H : Hp) : Hp := fun a => if a = b then none else H a
theorem hide_ne {b a : Addr} {H : Hp} (n : a ≠ b) : hide b H a = H a := by unfold hide; rw [if_neg n]
theorem hide_self {b : Addr} {H : Hp} : hide b H b = none := by unfold hide; rw [if_pos rfl]
theorem hide_some {b a : Addr} {H : Hp} {o : HO} (h : hide b H a = some o) : a ≠ b ∧ H a = some o := by
  by_cases e : a = b
  · subst e
    rw [hide_self] at h
    cases h
  · rw [hide_ne e] at h
    exact ⟨e, h⟩
theorem hide_sm {b : Addr} {H : Hp} : Sm (hide b H) H := ⟨fun _ _ h => (hide_some h).2⟩
theorem Chg.hide {b : Addr} {H H' : Hp} (c : Chg b H H') : Sm (RV.hide b H) (RV.hide b H') := ⟨fun a o h => by
  obtain ⟨n, e⟩ := hide_some h
  rw [hide_ne n]
  exact c.to a o n e⟩
theorem hide_new {b p : Addr} {H H' : Hp} {o u : HO} (hb : H b = some u) (np : H p = none) (hp : H' p = some o) : RV.hide b H' p = some o := by
  rw [hide_ne (ne_of_none hb np).symm]
  exact hp
theorem Sm.seq {K : PySem.W.Frag} {H H' : Hp} {a : Addr} {xs : List V} (e : Sm H H') (h : SqL K H a xs) : SqL K H' a xs := Same.seq e.to h
theorem Sm.seqT {K : PySem.W.Frag} {H H' : Hp} {a : Addr} {xs : List V} (e : Sm H H') (h : SqT K H a xs) : SqT K H' a xs := by
  rcases h with (h | ⟨o, h⟩) | h
  · exact .inl (.inl (e.to _ _ h))
  · exact .inl (.inr ⟨o, e.to _ _ h⟩)
  · exact .inr h
mutual
theorem Sm.dp {K : PySem.W.Frag} {H H' : Hp} (e : Sm H H') : ∀ {v : V} {d : PyData}, Dp K H v d → Dp K H' v d
  | _, _, .non => .non
  | _, _, .bl b => .bl b
  | _, _, .int i => .int i
  | _, _, .str x => .str x
  | _, _, .lst h t => .lst (e.seq h) (e.dps t)
  | _, _, .tup h t => .tup (e.seqT h) (e.dps t)
theorem Sm.dps {K : PySem.W.Frag} {H H' : Hp} (e : Sm H H') : ∀ {vs : List V} {ds : List PyData}, DpAll K H vs ds → DpAll K H' vs ds
  | _, _, .nil => .nil
  | _, _, .cons h t => .cons (e.dp h) (e.dps t)
end
theorem DpAll.length {K : PySem.W.Frag} {H : Hp} : ∀ {vs : List V} {ds : List PyData}, DpAll K H vs ds → vs.length = ds.length
  | _, _, .nil => rfl
  | _, _, .cons _ t => congrArg Nat.succ (DpAll.length t)
theorem DpAll.get {K : PySem.W.Frag} {H : Hp} : ∀ {vs : List V} {ds : List PyData} {i : Nat} {d : PyData}, DpAll K H vs ds → ds[i]? = some d → ∃ v, vs[i]? = some v ∧ Dp K H v d
  | _, _, _, _, .nil, e => by simp at e
  | _, _, 0, _, .cons r _, e => by
    simp at e
    subst e
    exact ⟨_, rfl, r⟩
  | _, _, i + 1, d, .cons _ t, e => by
    obtain ⟨v, h1, h2⟩ := DpAll.get (i := i) (d := d) t (by simpa using e)
    exact ⟨v, by simpa using h1, h2⟩
theorem DpAll.app {K : PySem.W.Frag} {H : Hp} : ∀ {vs us : List V} {ds es : List PyData}, DpAll K H vs ds → DpAll K H us es → DpAll K H (vs ++ us) (ds ++ es)
  | _, _, _, _, .nil, s => s
  | _, _, _, _, .cons r t, s => .cons r (DpAll.app t s)
theorem DpAll.snoc {K : PySem.W.Frag} {H : Hp} {vs : List V} {v : V} {ds : List PyData} {d : PyData} (h : DpAll K H vs ds) (r : Dp K H v d) : DpAll K H (vs ++ [v]) (ds ++ [d]) := DpAll.app h (.cons r .nil)
/-- a list of two ints, the drawer -/
def BoxAt (H : Hp) (b : Addr) : Prop := ∃ c s : Int, H b = some (.lst [.int c, .int s])
theorem BoxAt.sm {H H' : Hp} {b : Addr} (e : Sm H H') (h : BoxAt H b) : BoxAt H' b := by
  obtain ⟨c, s, h⟩ := h
  exact ⟨c, s, e.to _ _ h⟩

/-! ### rules for values of any kind -/
section
variable {X : Cx}
def rStrRep : R2 := fun x y H Q => ∃ (z : Str) (n : Nat), x = .str z ∧ y = .int (n : Int) ∧ z.length * n ≤ 16777216 ∧ n ≤ 16777216 ∧ Q (.str ⟨((List.replicate n z.cps.toList).flatten).toArray⟩) H
theorem flat_rep (c : Array Nat) : ∀ (n : Nat) (acc : Array Nat), (List.replicate n c).foldl (· ++ ·) acc = acc ++ ((List.replicate n c.toList).flatten).toArray
  | 0, acc => by simp
  | n + 1, acc => by
    rw [List.replicate_succ, List.foldl_cons, flat_rep c n, List.replicate_succ, List.flatten_cons]
    apply Array.toList_inj.mp
    simp
theorem line24 : (16777216 : Nat) ≤ sizeLine := by rw [sizeLine_eq]; decide
theorem op_strRep : OpR X (binaryOp .Mult) rStrRep := by
  intro pins s σ H x y v u Q I rx ry h
  obtain ⟨z, n, rfl, rfl, hz, hn, q⟩ := h
  obtain ⟨t, rfl⟩ := rx
  obtain ⟨t', rfl⟩ := ry
  have b63 : (2 : Int) ^ 63 = 9223372036854775808 := by decide
  refine PySem.P.mul_str ?_ (fun _ _ => ?_) (fun _ _ => ?_) ?_
  · rw [b63, decide_eq_false (by omega), decide_eq_false (by omega)]
    rfl
  · have h1 : (z.length : Int) * (n : Int) ≤ 2 ^ 63 - 1 := by
      rw [b63]
      have h := Int.ofNat_le.mpr hz
      rw [Int.natCast_mul] at h
      exact Int.le_trans h (by decide)
    intro h2
    by_cases h0 : n = 0
    · omega
    · have h3 : (0 : Int) < (n : Int) := by omega
      have h4 := Int.le_ediv_of_mul_le h3 h1
      omega
  · show Builtin.Str.tooLong (z.length * ((n : Int)).toNat) = false
    rw [Int.toNat_natCast]
    have := line24
    unfold Builtin.Str.tooLong
    exact decide_eq_false (by omega)
  · by_cases h1 : (n : Int) < 1
    · rw [if_pos h1]
      have e0 : n = 0 := by omega
      subst e0
      have q' : Q (.str Str.empty) H := q
      refine ⟨?_, ⟨.str Str.empty, H, I.tok _, ⟨_, rfl⟩, q'⟩⟩
      show Str.empty.length ≤ sizeLine
      exact Nat.zero_le _
    · rw [if_neg h1]
      by_cases h2 : ((n : Int) == 1 || z.length == 0) = true
      · rw [if_pos h2]
        have e : (⟨((List.replicate n z.cps.toList).flatten).toArray⟩ : Str) = z := by
          rw [Bool.or_eq_true] at h2
          rcases h2 with h2 | h2
          · have e1 : (n : Int) = 1 := by simpa using h2
            have e1 : n = 1 := by omega
            subst e1
            simp
          · have e1 : z.length = 0 := by simpa using h2
            have e2 : z.cps = #[] := Array.eq_empty_of_size_eq_zero e1
            cases z with
            | mk c =>
              simp only at e2
              subst e2
              simp
        rw [e] at q
        exact ⟨.str z, H, I, ⟨t, rfl⟩, q⟩
      · rw [if_neg h2]
        have e : (List.replicate ((n : Int)).toNat z.cps).foldl (· ++ ·) #[] = ((List.replicate n z.cps.toList).flatten).toArray := by
          rw [Int.toNat_natCast, flat_rep]
          simp
        refine ⟨?_, ?_⟩
        · rw [e]
          show (((List.replicate n z.cps.toList).flatten).toArray).size ≤ sizeLine
          rw [List.size_toArray, List.length_flatten, List.map_replicate, List.sum_replicate_nat, Array.length_toList]
          have hz' : z.cps.size * n ≤ 16777216 := hz
          have := line24
          rw [Nat.mul_comm] at hz'
          omega
        · rw [e]
          exact ⟨.str _, H, I.tok _, ⟨_, rfl⟩, q⟩
end

section
variable {X : Cx}
/-! sums, products, equality, in, len, slices, loops: the value's own kind chooses the rule -/
def rAddA (K : PySem.W.Frag) : R2 := fun x y H Q => rI0 (fun i j => .int (i + j)) x y H Q ∨ (∃ i j, x = .str i ∧ y = .str j ∧ i.length + j.length ≤ sizeLine ∧ Q (.str (i ++ j)) H) ∨ rCat x y H Q ∨ rCatA K x y H Q
theorem op_addA : OpR X (binaryOp .Add) (rAddA X.K) := op_add.or (op_add_str.or (op_cat.or op_catA))
def rMulA (K : PySem.W.Frag) : R2 := fun x y H Q => rI CMul (fun i j => .int (i * j)) x y H Q ∨ rI CMulW (fun i j => .int (i * j)) x y H Q ∨ rStrRep x y H Q ∨ rRep x y H Q ∨ rRepT K x y H Q
theorem op_mulA : OpR X (binaryOp .Mult) (rMulA X.K) := op_mul.or (op_mulW.or (op_strRep.or (op_rep.or op_repT)))
def rEqA (K : PySem.W.Frag) : R2 := fun x y H Q => rEq x y H Q ∨ rEqD K x y H Q
def rNeA (K : PySem.W.Frag) : R2 := fun x y H Q => rNe x y H Q ∨ rNeD K x y H Q
theorem op_eqA (hu : X.A.units + 64 < cLine) : OpR X (compareOp .Eq) (rEqA X.K) := op_eq.or (op_eqD hu)
theorem op_neA (hu : X.A.units + 64 < cLine) : OpR X (compareOp .NotEq) (rNeA X.K) := op_ne.or (op_neD hu)
def rInStr (neg : Bool) : R2 := fun x y H Q => ∃ (c : Nat) (z : Str), x = .str ⟨#[c]⟩ ∧ y = .str z ∧ Q (.bl (if neg then !decide (c ∈ z.cps.toList) else decide (c ∈ z.cps.toList))) H
def rInA (K : PySem.W.Frag) : R2 := fun x y H Q => rInStr false x y H Q ∨ rIn K false x y H Q
def rNotInA (K : PySem.W.Frag) : R2 := fun x y H Q => rInStr true x y H Q ∨ rIn K true x y H Q
theorem op_inA : OpR X (compareOp .In) (rInA X.K) := OpR.or op_in_sign op_in_seq
theorem op_notInA : OpR X (compareOp .NotIn) (rNotInA X.K) := OpR.or op_notIn_sign op_notIn_seq
def rSlAny (K : PySem.W.Frag) : V → Option Int → Option Int → Hp → VK → Prop := fun x lo hi H Q => rSlS x lo hi H Q ∨ rSlL K x lo hi H Q ∨ rSlA K x lo hi H Q
theorem sl_any : SlR X (rSlAny X.K) := sl_str.or (sl_list.or sl_tupA)
def rLenA (K : PySem.W.Frag) : List V → Hp → VK → Prop := fun xs H Q => (∃ x n, xs = [x] ∧ LenV K x H n ∧ Q (.int n) H) ∨ (∃ a kvs, xs = [V.ref a] ∧ H a = some (.dK kvs) ∧ Q (.int kvs.length) H)
theorem call_lenA : CallR X (.builtin "len") (rLenA X.K) := call_len.or call_lenD
def rMaxA (K : PySem.W.Frag) : List V → Hp → VK → Prop := fun xs H Q => (∃ i j, xs = [.int i, .int j] ∧ Q (.int (if j > i then j else i)) H) ∨ rMax K xs H Q
theorem call_maxA (hc : X.calm = true) : CallR X (.builtin "max") (rMaxA X.K) := (call_max2 hc).or (cr_max hc)
def rMinA (K : PySem.W.Frag) : List V → Hp → VK → Prop := fun xs H Q => (∃ i j, xs = [.int i, .int j] ∧ Q (.int (if j < i then j else i)) H) ∨ rMin K xs H Q
theorem call_minA (hc : X.calm = true) : CallR X (.builtin "min") (rMinA X.K) := (call_min2 hc).or (cr_min hc)
theorem call_strA : CallR X (.type "str") (fun xs H Q => (∃ i, xs = [.int i] ∧ i.natAbs.log2 < 1920 ∧ Q (.str (toString i)) H) ∨ (∃ a, xs = [.str a] ∧ Q (.str a) H)) := call_str_int.or SkE.call_str_str
theorem call_intA : CallR X (.type "int") (fun xs H Q => ((∃ i, xs = [.int i] ∧ Q (.int i) H) ∨ ∃ k, xs = [.bl k] ∧ Q (.int (if k then 1 else 0)) H) ∨ (∃ a n, xs = [.str a] ∧ PySem.intText? a = some n ∧ a.length ≤ 640 ∧ Q (.int n) H)) := call_int1.or call_int_str
theorem call_listA : CallR X (.type "list") (fun xs H Q => ∃ p ys, xs = [.ref p] ∧ (SqL X.K H p ys ∨ SqT X.K H p ys) ∧ ∀ l, H l = none → Q (.ref l) (upd H l (.lst ys))) := call_list_of
theorem call_tupleA : CallR X (.type "tuple") (fun xs H Q => ∃ p ys, xs = [.ref p] ∧ ((SqL X.K H p ys ∧ ∀ l, H l = none → Q (.ref l) (upd H l (.tup ys))) ∨ (SqT X.K H p ys ∧ Q (.ref p) H))) := call_tuple_of
theorem PI.or {tg l : Expr} {w1 w2 : TI} (h1 : PI X tg l w1) (h2 : PI X tg l w2) : PI X tg l (fun σ H R => w1 σ H R ∨ w2 σ H R) := ⟨fun pins s σ H R I h => h.elim (fun q => h1.run pins s σ H R I q) (fun q => h2.run pins s σ H R I q)⟩
def iAny (K : PySem.W.Frag) (tl : TE) : TI := fun σ H R => iList K tl σ H R ∨ iTup K tl σ H R ∨ iStr tl σ H R
theorem pi_any {tg l : Expr} {tl : TE} (hl : PE X l tl) : PI X tg l (iAny X.K tl) := PI.or (pi_list hl) (PI.or (pi_tup hl) (pi_str hl))
end

/-! ### readings, one construct a time -/
section
variable {σ : St} {H : Hp} {Q : VK} {D : Ends} {K : PySem.W.Frag}
theorem r_var {i : Nat} {v : V} (h : σ[i]? = some (some v)) (k : Q v H) : tVar i σ H Q := ⟨v, h, k⟩
theorem r_C {v : V} (k : Q v H) : tC v σ H Q := k
theorem r_op {r : R2} {ta tb : TE} (h : ta σ H fun x H1 => tb σ H1 fun y H2 => r x y H2 Q) : tOp r ta tb σ H Q := h
theorem r_un {r : V → Hp → VK → Prop} {ta : TE} (h : ta σ H fun x H1 => r x H1 Q) : tUn r ta σ H Q := h
theorem r_I {C : Int → Int → Prop} {g : Int → Int → V} {i j : Int} (c : C i j) (k : Q (g i j) H) : rI C g (.int i) (.int j) H Q := ⟨i, j, rfl, rfl, c, k⟩
theorem r_I0 {g : Int → Int → V} {i j : Int} (k : Q (g i j) H) : rI0 g (.int i) (.int j) H Q := ⟨i, j, rfl, rfl, k⟩
theorem r_U {g : Int → V} {i : Int} (k : Q (g i) H) : rU g (.int i) H Q := ⟨i, rfl, k⟩
theorem r_addI {i j : Int} (k : Q (.int (i + j)) H) : rAddA K (.int i) (.int j) H Q := .inl ⟨i, j, rfl, rfl, k⟩
theorem r_addS {i j : Str} (h : i.length + j.length ≤ sizeLine) (k : Q (.str (i ++ j)) H) : rAddA K (.str i) (.str j) H Q := .inr (.inl ⟨i, j, rfl, rfl, h, k⟩)
theorem r_addL {a b : Addr} {xs ys : List V} (ha : H a = some (.lst xs)) (hb : H b = some (.lst ys)) (hz : xs.length + ys.length ≤ sizeLine)
    (k : ∀ p H', Sm H H' → H p = none → H' p = some (.lst (xs ++ ys)) → Q (.ref p) H') : rAddA K (.ref a) (.ref b) H Q :=
  .inr (.inr (.inl ⟨a, b, xs, ys, rfl, rfl, ha, hb, hz, fun p np => k p _ (sm_upd np) np upd_same⟩))
theorem r_addT {a b : Addr} {xs ys : List V} (ha : SqT K H a xs) (hb : SqT K H b ys) (hz : xs.length + ys.length ≤ sizeLine)
    (k : ∀ p H', Sm H H' → SqT K H' p (xs ++ ys) → Q (.ref p) H') : rAddA K (.ref a) (.ref b) H Q :=
  .inr (.inr (.inr ⟨a, b, xs, ys, rfl, rfl, ha, hb, hz, fun e => k b H (Sm.refl H) (by rw [e, List.nil_append]; exact hb), fun _ e => k a H (Sm.refl H) (by rw [e, List.append_nil]; exact ha), fun _ _ p np => k p _ (sm_upd np) (SqT.of upd_same)⟩))
theorem r_mulS {i j : Int} (c : CMul i j) (k : Q (.int (i * j)) H) : rMulA K (.int i) (.int j) H Q := .inl ⟨i, j, rfl, rfl, c, k⟩
theorem r_mulW {i j : Int} (c : CMulW i j) (k : Q (.int (i * j)) H) : rMulA K (.int i) (.int j) H Q := .inr (.inl ⟨i, j, rfl, rfl, c, k⟩)
theorem r_mulStr {z : Str} {n : Nat} {i : Int} (e : i = (n : Int)) (hz : z.length * n ≤ 16777216) (hn : n ≤ 16777216) (k : Q (.str ⟨((List.replicate n z.cps.toList).flatten).toArray⟩) H) : rMulA K (.str z) (.int i) H Q := .inr (.inr (.inl ⟨z, n, rfl, by rw [e], hz, hn, k⟩))
theorem r_mulL {a : Addr} {i : Int} {xs : List V} (ha : H a = some (.lst xs)) (h0 : -(2 ^ 63) ≤ i) (h1 : i < 2 ^ 63) (hz : xs.length * i.toNat ≤ sizeLine)
    (k : ∀ p H', Sm H H' → H p = none → H' p = some (.lst (List.replicate i.toNat xs).flatten) → Q (.ref p) H') : rMulA K (.ref a) (.int i) H Q :=
  .inr (.inr (.inr (.inl ⟨a, i, xs, rfl, rfl, ha, h0, h1, hz, fun p np => k p _ (sm_upd np) np upd_same⟩)))
theorem dec_VI {i j : Int} : decide (V.int i = V.int j) = decide (i = j) := by
  by_cases e : i = j
  · subst e
    simp
  · rw [decide_eq_false e, decide_eq_false fun z => e (V.int.inj z)]
theorem dec_VS {i j : Str} : decide (V.str i = V.str j) = decide (i = j) := by
  by_cases e : i = j
  · subst e
    simp
  · rw [decide_eq_false e, decide_eq_false fun z => e (V.str.inj z)]
theorem dec_VB {i j : Bool} : decide (V.bl i = V.bl j) = decide (i = j) := by
  by_cases e : i = j
  · subst e
    simp
  · rw [decide_eq_false e, decide_eq_false fun z => e (V.bl.inj z)]
theorem r_eqI {i j : Int} (k : Q (.bl (decide (i = j))) H) : rEqA K (.int i) (.int j) H Q := .inl ⟨rfl, by rw [dec_VI]; exact k⟩
theorem r_eqS {i j : Str} (k : Q (.bl (decide (i = j))) H) : rEqA K (.str i) (.str j) H Q := .inl ⟨rfl, by rw [dec_VS]; exact k⟩
theorem r_eqB {i j : Bool} (k : Q (.bl (decide (i = j))) H) : rEqA K (.bl i) (.bl j) H Q := .inl ⟨rfl, by rw [dec_VB]; exact k⟩
theorem r_neI {i j : Int} (k : Q (.bl (!decide (i = j))) H) : rNeA K (.int i) (.int j) H Q := .inl ⟨rfl, by rw [dec_VI]; exact k⟩
theorem r_neS {i j : Str} (k : Q (.bl (!decide (i = j))) H) : rNeA K (.str i) (.str j) H Q := .inl ⟨rfl, by rw [dec_VS]; exact k⟩
theorem r_neB {i j : Bool} (k : Q (.bl (!decide (i = j))) H) : rNeA K (.bl i) (.bl j) H Q := .inl ⟨rfl, by rw [dec_VB]; exact k⟩
theorem r_eqD {x y : V} {d e : PyData} (hx : Dp K H x d) (hy : Dp K H y e) (sx : SeqAt.shaped d = true) (sy : SeqAt.shaped e = true) (k : Q (.bl (PyData.eqv d e)) H) : rEqA K x y H Q := .inr ⟨d, e, hx, hy, sx, sy, k⟩
theorem r_neD {x y : V} {d e : PyData} (hx : Dp K H x d) (hy : Dp K H y e) (sx : SeqAt.shaped d = true) (sy : SeqAt.shaped e = true) (k : Q (.bl (!PyData.eqv d e)) H) : rNeA K x y H Q := .inr ⟨d, e, hx, hy, sx, sy, k⟩
theorem r_inS {c : Nat} {z : Str} (k : Q (.bl (decide (c ∈ z.cps.toList))) H) : rInA K (.str ⟨#[c]⟩) (.str z) H Q := .inl ⟨c, z, rfl, rfl, k⟩
theorem r_notInS {c : Nat} {z : Str} (k : Q (.bl (!decide (c ∈ z.cps.toList))) H) : rNotInA K (.str ⟨#[c]⟩) (.str z) H Q := .inl ⟨c, z, rfl, rfl, k⟩
theorem r_test {t : TE} {Q : Bool → Hp → Prop} (h : t σ H fun x H' => ∃ k, x = .bl k ∧ Q k H') : tTest t σ H Q := h
theorem r_tB {t : TE} {Q : Bool → Hp → Prop} (h : t σ H fun x H' => ∃ k, x = .bl k ∧ Q k H') : tB t σ H Q := h
theorem r_bl {b : Bool} {Q : Bool → Prop} (h : Q b) : ∃ k, V.bl b = .bl k ∧ Q k := ⟨b, rfl, h⟩
theorem r_tru_bl {b : Bool} {Q : Bool → Prop} (h : Q b) : ∃ k, TruV K (.bl b) H k ∧ Q k := ⟨b, rfl, h⟩
theorem r_tru_int {i : Int} {Q : Bool → Prop} (h : Q (i != 0)) : ∃ k, TruV K (.int i) H k ∧ Q k := ⟨_, rfl, h⟩
theorem r_and {t u : TT} {Q : Bool → Hp → Prop} (h : t σ H fun c H1 => if c = true then u σ H1 Q else Q false H1) : tAnd t u σ H Q := h
theorem r_or {t u : TT} {Q : Bool → Hp → Prop} (h : t σ H fun c H1 => if c = true then Q true H1 else u σ H1 Q) : tOr t u σ H Q := h
theorem r_not {t : TT} {Q : Bool → Hp → Prop} (h : t σ H fun c H1 => Q (!c) H1) : tNot t σ H Q := h
theorem r_notT {ta : TE} (h : ta σ H fun x H1 => ∃ k, TruV K x H1 k ∧ Q (.bl (!k)) H1) : tNotT K ta σ H Q := h
theorem r_orT {ta tb : TE} (h : ta σ H fun x H1 => ∃ k, TruV K x H1 k ∧ if k = true then Q x H1 else tb σ H1 Q) : tOrT K ta tb σ H Q := h
theorem r_andT {ta tb : TE} (h : ta σ H fun x H1 => ∃ k, TruV K x H1 k ∧ if k = true then tb σ H1 Q else Q x H1) : tAndT K ta tb σ H Q := h
theorem r_ifE {t : TT} {ta tb : TE} (h : t σ H fun c H1 => if c = true then ta σ H1 Q else tb σ H1 Q) : tIf t ta tb σ H Q := h
theorem r_nil {Q : List V → Hp → Prop} (k : Q [] H) : tNil σ H Q := k
theorem r_cons {ta : TE} {tr : TA} {Q : List V → Hp → Prop} (h : ta σ H fun x H1 => tr σ H1 fun xs H2 => Q (x :: xs) H2) : tCons ta tr σ H Q := h
theorem r_tup {t : TA} (h : t σ H fun xs H1 => xs.length ≤ sizeLine ∧ ∀ p, H1 p = none → Q (.ref p) (upd H1 p (.tup xs))) : tTup t σ H Q := h
theorem r_lst {t : TA} (h : t σ H fun xs H1 => xs.length ≤ sizeLine ∧ ∀ p, H1 p = none → Q (.ref p) (upd H1 p (.lst xs))) : tLst t σ H Q := h
theorem sz_le {n : Nat} (h : n ≤ 1000 := by decide) : n ≤ sizeLine := Nat.le_of_lt (small1000 h)
theorem r_call {sp : Sp} {E : XK} {t : TA} (h : t σ H fun vs H1 => sp vs H1 Q E) : tCall sp [] E t σ H Q := by
  unfold tCall
  have e : (fun (vs : List V) (H1 : Hp) => sp (vs ++ []) H1 Q E) = fun vs H1 => sp vs H1 Q E := by
    funext vs H1
    rw [List.append_nil]
  rw [e]
  exact h
theorem r_callK {sp : Sp} {E : XK} {t tk : TA} {gV : List V → List V → List V} (h : t σ H fun vs H1 => tk σ H1 fun zs H2 => sp (gV vs zs) H2 Q E) : tCallK sp gV E t tk σ H Q := h
theorem r_CB {r : List V → Hp → VK → Prop} {t : TA} (h : t σ H fun vs H1 => r vs H1 Q) : tCB r t σ H Q := h
/-! calls of built-ins -/
theorem r_lenS {z : Str} (h : z.length ≤ sizeLine) (k : Q (.int z.length) H) : rLenA K [.str z] H Q := .inl ⟨_, _, rfl, ⟨h, rfl⟩, k⟩
theorem r_lenL {a : Addr} {xs : List V} (h : SqL K H a xs) (k : Q (.int xs.length) H) : rLenA K [.ref a] H Q := .inl ⟨_, _, rfl, .inl ⟨xs, h, rfl⟩, k⟩
theorem r_lenT {a : Addr} {xs : List V} (h : SqT K H a xs) (k : Q (.int xs.length) H) : rLenA K [.ref a] H Q := .inl ⟨_, _, rfl, .inr ⟨xs, h, rfl⟩, k⟩
theorem r_max {i j : Int} (k : Q (.int (if j > i then j else i)) H) : rMaxA K [.int i, .int j] H Q := .inl ⟨i, j, rfl, k⟩
theorem r_min {i j : Int} (k : Q (.int (if j < i then j else i)) H) : rMinA K [.int i, .int j] H Q := .inl ⟨i, j, rfl, k⟩
theorem r_isi {x c : V} {t u : Value} {b : Bool} (hc : ClsV c u) (ht : TyX K H x t) (e : PySem.W.kitOne K t u = some b) (k : Q (.bl b) H) : rIsi K [x, c] H Q := ⟨x, c, t, u, b, rfl, hc, ht, e, k⟩
theorem r_isi_int {i : Int} {n : String} {b : Bool} (e : kitB "int" n = some b) (k : Q (.bl b) H) : rIsi K [.int i, .ty n] H Q := r_isi (.ty n) (.base (.int i)) (kit_ty e) k
theorem r_isi_bl {i : Bool} {n : String} {b : Bool} (e : kitB "bool" n = some b) (k : Q (.bl b) H) : rIsi K [.bl i, .ty n] H Q := r_isi (.ty n) (.base (.bl i)) (kit_ty e) k
theorem r_isi_str {i : Str} {n : String} {b : Bool} (e : kitB "str" n = some b) (k : Q (.bl b) H) : rIsi K [.str i, .ty n] H Q := r_isi (.ty n) (.base (.str i)) (kit_ty e) k
/-! items and slices -/
theorem r_ixL {a : Addr} {xs : List V} {i : Int} {v : V} (h : SqL K H a xs) (e : atI xs i = some v) (k : Q v H) : rIx K (.ref a) (.int i) H Q := .inl ⟨a, xs, i, v, rfl, rfl, h, e, k⟩
theorem r_ixT {a : Addr} {xs : List V} {i : Int} {v : V} (h : SqT K H a xs) (e : atI xs i = some v) (k : Q v H) : rIx K (.ref a) (.int i) H Q := .inr (.inl ⟨a, xs, i, v, rfl, rfl, h, e, k⟩)
theorem r_ixS {z : Str} {i : Int} {c : Nat} (h : z.length ≤ sizeLine) (e : atI z.cps.toList i = some c) (k : Q (.str ⟨#[c]⟩) H) : rIx K (.str z) (.int i) H Q := .inr (.inr ⟨z, i, c, rfl, rfl, h, e, k⟩)
theorem r_setL {a : Addr} {xs : List V} {i : Int} {j : Nat} {v : V} {Q : Hp → Prop} (h : H a = some (.lst xs)) (e : ixN xs.length i = some j) (k : Q (upd H a (.lst (xs.set j v)))) : rSetL (.ref a) (.int i) v H Q := ⟨a, xs, i, j, rfl, rfl, h, e, k⟩
theorem r_sl {r : V → Option Int → Option Int → Hp → VK → Prop} {te : TE} {tl th : TO} (h : te σ H fun x H1 => tl σ H1 fun l H2 => th σ H2 fun u H3 => r x l u H3 Q) : tSl r te tl th σ H Q := h
theorem r_noPart {Q : Option Int → Hp → Prop} (h : Q none H) : tNoPart σ H Q := h
theorem r_part {t : TE} {Q : Option Int → Hp → Prop} (h : t σ H fun x H1 => ∃ i, x = .int i ∧ Q (some i) H1) : tPart t σ H Q := h
theorem r_exI {i : Int} {Q : Int → Prop} (h : Q i) : ∃ j, V.int i = .int j ∧ Q j := ⟨i, rfl, h⟩
theorem r_slS {z : Str} {lo hi : Option Int} (h : z.length ≤ sizeLine) (k : Q (.str (cutS z lo hi)) H) : rSlAny K (.str z) lo hi H Q := .inl ⟨z, rfl, h, k⟩
theorem r_slL {a : Addr} {xs : List V} {lo hi : Option Int} (h : SqL K H a xs) (k : ∀ p, H p = none → Q (.ref p) (upd H p (.lst (cutV xs lo hi)))) : rSlAny K (.ref a) lo hi H Q := .inr (.inl ⟨a, xs, rfl, h, k⟩)
theorem cutV_whole {xs : List V} {lo hi : Option Int} (h : HT.sIx xs.length 0 lo = 0 ∧ HT.sIx xs.length xs.length hi = xs.length) : cutV xs lo hi = xs := by
  unfold cutV
  rw [h.1, h.2]
  simp
theorem r_slT {a : Addr} {xs : List V} {lo hi : Option Int} (h : SqT K H a xs) (k : ∀ p H', Sm H H' → SqT K H' p (cutV xs lo hi) → Q (.ref p) H') : rSlAny K (.ref a) lo hi H Q :=
  .inr (.inr ⟨a, xs, rfl, h, fun e => k a H (Sm.refl H) (by rw [cutV_whole e]; exact h), fun _ p np => k p _ (sm_upd np) (SqT.of upd_same)⟩)
/-! statements -/
theorem r_seq {t u : TS} (h : t { D with nx := u D } σ H) : tSeq t u D σ H := h
theorem r_nx {n b c : St → Hp → Prop} {r : VK} (h : n σ H) : Ends.nx ⟨n, r, b, c⟩ σ H := h
theorem r_rt {n b c : St → Hp → Prop} {r : VK} {v : V} (h : r v H) : Ends.rt ⟨n, r, b, c⟩ v H := h
theorem r_next (h : D.nx σ H) : tNext D σ H := h
theorem r_asg {te : TE} {g : TG} (h : te σ H fun x H1 => g x σ H1 D.nx) : tAsg te g D σ H := h
theorem r_gN {i : Nat} {v : V} {Q : St → Hp → Prop} (h : Q (σ.set i (some v)) H) : gName i v σ H Q := h
theorem r_gT {n : Nat} {t : TGs} {a : Addr} {xs : List V} {Q : St → Hp → Prop} (hT : SqT K H a xs) (hn : xs.length = n) (h : t xs σ H Q) : gTup K n t (.ref a) σ H Q := ⟨a, xs, rfl, hT, hn, h⟩
theorem r_gC {t : TG} {u : TGs} {v : V} {r : List V} {Q : St → Hp → Prop} (h : t v σ H fun σ' H' => u r σ' H' Q) : gCons t u (v :: r) σ H Q := ⟨v, r, rfl, h⟩
theorem r_g0 {Q : St → Hp → Prop} (h : Q σ H) : gNil [] σ H Q := ⟨rfl, h⟩
theorem r_gS {to ti : TE} {t : TSet} {v : V} {Q : St → Hp → Prop} (h : to σ H fun o H1 => ti σ H1 fun i H2 => t o i v H2 fun H3 => Q σ H3) : gSub to ti t v σ H Q := h
theorem r_par {i j : Nat} {ta : TA} (h : ta σ H fun vs H1 => ∃ v w, vs = [v, w] ∧ D.nx ((σ.set i (some v)).set j (some w)) H1) : tPar i j ta D σ H := h
theorem r_vw {v w : V} {Q : V → V → Prop} (h : Q v w) : ∃ v' w', [v, w] = [v', w'] ∧ Q v' w' := ⟨v, w, rfl, h⟩
theorem r_aug {i : Nat} {te : TE} {ti : TIp} {x : V} (e : σ[i]? = some (some x)) (h : te σ H fun y H1 => ti x y H1 fun z H2 => D.nx (σ.set i (some z)) H2) : tAug i te ti D σ H := ⟨x, e, h⟩
theorem r_ip {f : Int → Int → Int} {i j : Int} (k : Q (.int (f i j)) H) : ipI f (.int i) (.int j) H Q := ⟨i, j, rfl, rfl, k⟩
theorem r_ret {te : TE} (h : te σ H D.rt) : tRet te D σ H := h
theorem r_retN (h : D.rt .non H) : tRetN D σ H := h
theorem r_drop {te : TE} (h : te σ H fun _ H1 => D.nx σ H1) : tDrop te D σ H := h
theorem r_if {c : TT} {t u : TS} (h : c σ H fun b H1 => if b = true then t D σ H1 else u D σ H1) : tIfS c t u D σ H := h
theorem ite_d {p A B : Prop} [Decidable p] (h1 : p → A) (h2 : ¬ p → B) : if decide p = true then A else B := by
  by_cases h : p
  · rw [if_pos (decide_eq_true h)]
    exact h1 h
  · rw [if_neg (by rw [decide_eq_false h]; exact Bool.false_ne_true)]
    exact h2 h
theorem ite_n {p A B : Prop} [Decidable p] (h1 : ¬ p → A) (h2 : p → B) : if (!decide p) = true then A else B := by
  by_cases h : p
  · rw [if_neg (by rw [decide_eq_true h]; exact Bool.false_ne_true)]
    exact h2 h
  · rw [if_pos (by rw [decide_eq_false h]; rfl)]
    exact h1 h
theorem ite_y {b : Bool} {A B : Prop} (e : b = true) (h : A) : if b = true then A else B := by
  rw [if_pos e]
  exact h
theorem ite_o {b : Bool} {A B : Prop} (e : b = false) (h : B) : if b = true then A else B := by
  rw [if_neg (by rw [e]; exact Bool.false_ne_true)]
  exact h
/-! lists' methods -/
theorem r_bm {T : String} {r : V → List V → Hp → VK → Prop} {to : TE} {t : TA} (h : to σ H fun x H1 => tyV K T x H1 ∧ t σ H1 fun xs H2 => r x xs H2 Q) : tBM K T r to t σ H Q := h
theorem r_bmL {a : Addr} {xs : List V} {P : Prop} (h : SqL K H a xs) (k : P) : tyV K "list" (.ref a) H ∧ P := ⟨Or.inl ⟨rfl, _, h⟩, k⟩
theorem r_app {a : Addr} {xs : List V} {y : V} (h : H a = some (.lst xs)) (z : xs.length < sizeLine) (k : Q .non (upd H a (.lst (xs ++ [y])))) : rAppend (.ref a) [y] H Q := ⟨a, xs, y, rfl, rfl, h, z, k⟩
/-! indexes -/
theorem atI_of {α : Type} {xs : List α} {i : Int} (h0 : 0 ≤ i) (h1 : i < (xs.length : Int)) : ∃ v, atI xs i = some v ∧ xs[i.toNat]? = some v := by
  obtain ⟨n, rfl⟩ := Int.eq_ofNat_of_zero_le h0
  have h2 : n < xs.length := by omega
  refine ⟨xs[n], ?_, ?_⟩
  · exact atI_nat (List.getElem?_eq_getElem h2)
  · show xs[n]? = some xs[n]
    exact List.getElem?_eq_getElem h2
theorem atI_mem {α : Type} {xs : List α} {i : Int} (h0 : 0 ≤ i) (h1 : i < (xs.length : Int)) : ∃ v, atI xs i = some v ∧ v ∈ xs := by
  obtain ⟨v, e, q⟩ := atI_of h0 h1
  exact ⟨v, e, List.mem_of_getElem? q⟩
/-! // and % -/
theorem cdiv_of {i j : Int} {n : Nat} (h : 0 < j) (hb : j < 2 ^ n) (h0 : 0 < n) (h9 : n ≤ 9000) : CDivW i j := wide_div h (by
  have e : ((2 ^ n : Nat) : Int) = (2 : Int) ^ n := by rw [Int.natCast_pow]; rfl
  omega) h0 h9
theorem cdiv_s {i j : Int} (h : 0 < j) (hb : j < 18446744073709551616) : CDivW i j := cdiv_of (n := 64) h (by simpa using hb) (by decide) (by decide)
theorem cmul_r {i j : Int} (h : -18446744073709551616 < j ∧ j < 18446744073709551616) : CMul i j := .inr (by simpa using h)
theorem cmul_l {i j : Int} (h : -18446744073709551616 < i ∧ i < 18446744073709551616) : CMul i j := .inl (by simpa using h)
end

/-! arguments by names -/
def kgen (n m : Nat) (idx : List Nat) {α : Type} (us ws : List α) : List α := if us.length = n ∧ ws.length = m then idx.filterMap fun i => (us ++ ws)[i]? else []
theorem vals_pick {vs : List V} {us : List Value} (r : Vals vs us) : ∀ idx : List Nat, Vals (idx.filterMap fun i => vs[i]?) (idx.filterMap fun i => us[i]?)
  | [] => .nil
  | i :: idx => by
    rw [List.filterMap_cons, List.filterMap_cons]
    cases e : vs[i]? with
    | none =>
      rw [r.none_of e]
      exact vals_pick r idx
    | some v =>
      obtain ⟨u, h1, h2⟩ := r.get e
      rw [h1]
      exact .cons h2 (vals_pick r idx)
theorem kb_gen {K : PySem.W.Frag} {fd : FuncData} {ps ks : List Str} {n m : Nat} {idx : List Nat} (hp : ps.length ≠ 0)
    (h : ∀ us ws : List Value, us.length = n → ws.length = m → bindArgs fd ⟨us, ks.zip ws⟩ = pure (ps.zip (kgen n m idx us ws))) : KBinds K fd ps ks (kgen n m idx) (kgen n m idx) := by
  refine ⟨fun s us ws _ hl => ?_, fun {vs us zs ws} r rz => ?_⟩
  · by_cases c : us.length = n ∧ ws.length = m
    · exact .of_eq (h us ws c.1 c.2)
    · unfold kgen at hl
      rw [if_neg c] at hl
      exact absurd hl.symm hp
  · unfold kgen
    rw [r.length, rz.length]
    by_cases c : us.length = n ∧ ws.length = m
    · rw [if_pos c, if_pos c]
      exact vals_pick (r.append rz) idx
    · rw [if_neg c, if_neg c]
      exact .nil
section
variable {X : Cx} {CX : CXT} {k : Nat} {f : Addr} {fd : FuncData} {ps ks : List Str} {sp : Sp} {E : XK} {x : Str} {p pos : Pos} {kws : List Keyword} {tk : TA} {g : List Value → List Value → List Value} {gV : List V → List V → List V}
theorem pe_callK0 (F : FnOk X.prog X.w X.K X.mg X.base CX k f fd ps sp) (hr : Room k X.A) (hg : Gl X x) (hm : X.mg x = some (.ref f)) (hk : PySem.W.keepIn X.K (.ref f) = true) (hb : KBinds X.K fd ps ks g gV) (hx : Passes CX X E)
    (hkw : PK X kws tk) (hall : (backToKw pos (keywordEach kws X.env)).all (·.1.isSome) = true := by rfl) (hks : (backToKw pos (keywordEach kws X.env)).filterMap (·.1) = ks := by rfl)
    (hdb : (x == ("__debug__" : Str)) = false := by decide)
    (hpl : ((backTo pos (starEach [] X.env)).any (·.1) || (backToKw pos (keywordEach kws X.env)).any (·.1.isNone)) = false := by rfl) :
    PE X (.Call (.Name x p) [] kws pos) (tCallK sp gV E tNil tk) := by
  refine ⟨fun pins s σ H Q I h => ?_⟩
  refine wpAny_Call_Name_kw (ld_glob I hg hm ?_ hdb)
  refine PySem.W.callWith_KW0 (h₀ := X.base) I.ok.mod.kin hk hall ?_ hpl
  refine thn (hkw.run pos pins s σ H _ I h) fun ws s2 ⟨zs, H2, I2, rz, q2⟩ => ⟨I2.kIn, ?_⟩
  rw [hks]
  exact run_fnk (us := []) (vs := []) F hr hb hx I2 .nil rz q2
end
/-! built-in classes as calls, named -/
section
variable {σ : St} {H : Hp} {Q : VK} {D : Ends} {K : PySem.W.Frag} {X : Cx}
def rIntA : List V → Hp → VK → Prop := fun xs H Q => ((∃ i, xs = [.int i] ∧ Q (.int i) H) ∨ ∃ k, xs = [.bl k] ∧ Q (.int (if k then 1 else 0)) H) ∨ (∃ a n, xs = [.str a] ∧ PySem.intText? a = some n ∧ a.length ≤ 640 ∧ Q (.int n) H)
theorem cl_int : CallR X (.type "int") rIntA := call_intA
theorem r_intI {i : Int} (k : Q (.int i) H) : rIntA [.int i] H Q := .inl (.inl ⟨i, rfl, k⟩)
theorem r_intB {i : Bool} (k : Q (.int (if i then 1 else 0)) H) : rIntA [.bl i] H Q := .inl (.inr ⟨i, rfl, k⟩)
theorem r_intS {a : Str} {n : Int} (e : PySem.intText? a = some n) (l : a.length ≤ 640) (k : Q (.int n) H) : rIntA [.str a] H Q := .inr ⟨a, n, rfl, e, l, k⟩
def rStrA : List V → Hp → VK → Prop := fun xs H Q => (∃ i, xs = [.int i] ∧ i.natAbs.log2 < 1920 ∧ Q (.str (toString i)) H) ∨ (∃ a, xs = [.str a] ∧ Q (.str a) H)
theorem cl_str : CallR X (.type "str") rStrA := call_strA
theorem r_strI {i : Int} (l : i.natAbs.log2 < 1920) (k : Q (.str (toString i)) H) : rStrA [.int i] H Q := .inl ⟨i, rfl, l, k⟩
theorem r_strS {i : Str} (k : Q (.str i) H) : rStrA [.str i] H Q := .inr ⟨i, rfl, k⟩
def rListA (K : PySem.W.Frag) : List V → Hp → VK → Prop := fun xs H Q => ∃ p ys, xs = [.ref p] ∧ (SqL K H p ys ∨ SqT K H p ys) ∧ ∀ l, H l = none → Q (.ref l) (upd H l (.lst ys))
theorem cl_list : CallR X (.type "list") (rListA X.K) := call_listA
theorem r_listL {a : Addr} {ys : List V} (h : SqL K H a ys) (k : ∀ l, H l = none → Q (.ref l) (upd H l (.lst ys))) : rListA K [.ref a] H Q := ⟨a, ys, rfl, .inl h, k⟩
theorem r_listT {a : Addr} {ys : List V} (h : SqT K H a ys) (k : ∀ l, H l = none → Q (.ref l) (upd H l (.lst ys))) : rListA K [.ref a] H Q := ⟨a, ys, rfl, .inr h, k⟩
def rTupleA (K : PySem.W.Frag) : List V → Hp → VK → Prop := fun xs H Q => ∃ p ys, xs = [.ref p] ∧ ((SqL K H p ys ∧ ∀ l, H l = none → Q (.ref l) (upd H l (.tup ys))) ∨ (SqT K H p ys ∧ Q (.ref p) H))
theorem cl_tuple : CallR X (.type "tuple") (rTupleA X.K) := call_tupleA
theorem r_tupleL {a : Addr} {ys : List V} (h : SqL K H a ys) (k : ∀ l, H l = none → Q (.ref l) (upd H l (.tup ys))) : rTupleA K [.ref a] H Q := ⟨a, ys, rfl, .inl ⟨h, k⟩⟩
theorem r_tupleT {a : Addr} {ys : List V} (h : SqT K H a ys) (k : Q (.ref a) H) : rTupleA K [.ref a] H Q := ⟨a, ys, rfl, .inr ⟨h, k⟩⟩
/-! joins, all, any -/
def rJoin (K : PySem.W.Frag) : V → List V → Hp → VK → Prop := fun x xs H Q => ∃ a p, ∃ ys : List Str, x = .str a ∧ xs = [.ref p] ∧ (SqL K H p (ys.map V.str) ∨ SqT K H p (ys.map V.str)) ∧ (ys.map (·.length)).sum + ys.length * a.length ≤ 16777216 ∧ Q (.str (Txt.join a ys)) H
theorem mj_join : MtR X "str.join" (rJoin X.K) := mt_join
theorem r_join {a : Str} {p : Addr} {ys : List Str} (h : SqL K H p (ys.map V.str)) (z : (ys.map (·.length)).sum + ys.length * a.length ≤ 16777216) (k : Q (.str (Txt.join a ys)) H) : rJoin K (.str a) [.ref p] H Q := ⟨a, p, ys, rfl, rfl, .inl h, z, k⟩
theorem r_bmS {a : Str} {P : Prop} (k : P) : tyV K "str" (.str a) H ∧ P := ⟨rfl, k⟩
theorem r_all {a : Addr} {bs : List Bool} (h : SqL K H a (bs.map V.bl)) (k : Q (.bl (bs.all id)) H) : rAll K [.ref a] H Q := ⟨a, bs, rfl, h, k⟩
/-! loops -/
theorem r_for {wi : TI} {g : TG} {tb : TS} (h : wi σ H fun J H1 => ∃ W : Nat → Nat → St → Hp → Prop, (∃ m, W 0 m σ H1) ∧ ∀ i m σ H, W i m σ H →
  (J.stop i H ∧ D.nx σ H) ∨ (J.go i H ∧ ∃ N : St → Hp → Prop, (∀ σ' H', N σ' H' → ∃ m', m' < m ∧ W (i + 1) m' σ' H') ∧ ∀ x H', J.yld i H x H' → g x σ H' fun σ2 H2 => tb { D with nx := N, ct := N, bk := D.nx } σ2 H2)) : tFor wi g tb D σ H := h
theorem r_lc {wi : TI} {g : TG} {tt : TT} {te : TE} {vs : List Nat} (h : wi σ H fun J H1 => ∀ D, H1 D = none → ∃ W : Nat → Nat → Hp → Prop, (∃ m, W 0 m (upd H1 D (.lst []))) ∧ ∀ i m H, W i m H →
  (J.stop i H ∧ Q (.ref D) H) ∨ (J.go i H ∧ ∃ Nx : Hp → Prop, (∀ H', Nx H' → ∃ m', m' < m ∧ W (i + 1) m' H') ∧ ∀ x H', J.yld i H x H' → g x (wipe σ vs) H' fun σ2 H2 => wipe σ2 vs = wipe σ vs ∧ tt σ2 H2 fun b H3 =>
    if b = true then te σ2 H3 fun y H4 => ∃ acc, H4 D = some (.lst acc) ∧ acc.length < sizeLine ∧ Nx (upd H4 D (.lst (acc ++ [y]))) else Nx H3)) : tLc wi g tt te vs σ H Q := h
theorem r_R1 {ta : TA} {R : It → Hp → Prop} (h : ta σ H fun vs H1 => ∃ j : Int, vs = [.int j] ∧ -(2 ^ 62) ≤ j ∧ j < 2 ^ 62 ∧ R (Itr 0 j.toNat) H1) : iRng1 ta σ H R := h
theorem r_rng {n : Int} {P : Int → Prop} (h0 : -4611686018427387904 ≤ n) (h1 : n < 4611686018427387904) (h : P n) : ∃ j : Int, [V.int n] = [.int j] ∧ -(2 ^ 62) ≤ j ∧ j < 2 ^ 62 ∧ P j := ⟨n, rfl, by simpa using h0, by simpa using h1, h⟩
theorem r_iL {tl : TE} {R : It → Hp → Prop} (h : tl σ H fun x H1 => ∃ a, x = .ref a ∧ (∃ xs, SqL K H1 a xs) ∧ R (Itl K a) H1) : iAny K tl σ H R := .inl h
theorem r_iT {tl : TE} {R : It → Hp → Prop} (h : tl σ H fun x H1 => ∃ a, x = .ref a ∧ (∃ xs, SqT K H1 a xs) ∧ R (Itt K a) H1) : iAny K tl σ H R := .inr (.inl h)
theorem r_iS {tl : TE} {R : It → Hp → Prop} (h : tl σ H fun v H1 => ∃ x, v = .str x ∧ R (Its x) H1) : iAny K tl σ H R := .inr (.inr h)
theorem r_aL {a : Addr} {xs : List V} {P : Addr → Prop} (h : SqL K H a xs) (k : P a) : ∃ b, V.ref a = .ref b ∧ (∃ xs, SqL K H b xs) ∧ P b := ⟨a, rfl, ⟨xs, h⟩, k⟩
theorem r_aT {a : Addr} {xs : List V} {P : Addr → Prop} (h : SqT K H a xs) (k : P a) : ∃ b, V.ref a = .ref b ∧ (∃ xs, SqT K H b xs) ∧ P b := ⟨a, rfl, ⟨xs, h⟩, k⟩
theorem r_aS {z : Str} {P : Str → Prop} (k : P z) : ∃ x, V.str z = .str x ∧ P x := ⟨z, rfl, k⟩
theorem r_yes {Q : Bool → Hp → Prop} (h : Q true H) : tYes σ H Q := h
theorem r_wipe {σ' : St} {vs : List Nat} {P : Prop} (e : wipe σ' vs = wipe σ vs) (h : P) : wipe σ' vs = wipe σ vs ∧ P := ⟨e, h⟩
theorem r_acc {D : Addr} {acc : List V} {P : List V → Prop} (h : H D = some (.lst acc)) (z : acc.length < sizeLine) (k : P acc) : ∃ acc, H D = some (.lst acc) ∧ acc.length < sizeLine ∧ P acc := ⟨acc, h, z, k⟩
end

/-! what a loop or a comprehension appends to stands apart -/
theorem chg_acc {b D : Addr} {H1 H4 : Hp} {o : HO} (c : Chg b H1 H4) (n : H1 D = none) : Chg b H1 (upd H4 D o) := ⟨fun a x na e => by
  rw [upd_ne (ne_of_none e n)]
  exact c.to a x na e⟩
theorem sm_acc {D : Addr} {H1 H4 : Hp} {o : HO} (c : Sm H1 H4) (n : H1 D = none) : Sm H1 (upd H4 D o) := ⟨fun a x e => by
  rw [upd_ne (ne_of_none e n)]
  exact c.to a x e⟩
theorem sm_chg {b : Addr} {H H1 H2 : Hp} (a : Sm H H1) (c : Chg b H1 H2) : Chg b H H2 := a.chg.trans c
theorem chg_sm {b : Addr} {H H1 H2 : Hp} (a : Chg b H H1) (c : Sm H1 H2) : Chg b H H2 := a.trans c.chg
/-! texts -/
theorem str_len (z : Str) : z.length = z.cps.toList.length := (Array.length_toList).symm
theorem str_get {z : Str} {i c : Nat} (h : z.cps[i]? = some c) : z.cps.toList[i]? = some c := by
  rw [Array.getElem?_toList]
  exact h
theorem strs_sum : ∀ (ys : List Str) (n : Nat), (∀ y ∈ ys, y.length ≤ n) → (ys.map (·.length)).sum ≤ n * ys.length
  | [], n, _ => by simp
  | y :: ys, n, h => by
    have h1 := h y (by simp)
    have h2 := strs_sum ys n fun z hz => h z (by simp [hz])
    rw [List.map_cons, List.sum_cons, List.length_cons, Nat.mul_succ]
    omega
theorem ne_fr {H : Hp} {a b : Addr} {o : HO} (n : H b = none) (h : H a = some o) : a ≠ b := ne_of_none h n
theorem fr_of {H H' : Hp} {l : Addr} (n : H' l = none) (e : Sm H H') : H l = none := e.free n
theorem ix2 {b : Bool} {x y : Int} : atI [V.int x, V.int y] (if b = true then 1 else 0) = some (V.int (if b = true then y else x)) := by
  cases b <;> rfl
section
variable {H : Hp} {Q : VK} {K : PySem.W.Frag} {a : Addr} {x0 x1 x2 x3 v : V} {xs : List V}
theorem r_ixL0 (h : SqL K H a (x0 :: xs)) (k : Q x0 H) : rIx K (.ref a) (.int 0) H Q := r_ixL h (atI_nat (j := 0) rfl) k
theorem r_ixL1 (h : SqL K H a (x0 :: x1 :: xs)) (k : Q x1 H) : rIx K (.ref a) (.int 1) H Q := r_ixL h (atI_nat (j := 1) rfl) k
theorem r_ixL2 (h : SqL K H a (x0 :: x1 :: x2 :: xs)) (k : Q x2 H) : rIx K (.ref a) (.int 2) H Q := r_ixL h (atI_nat (j := 2) rfl) k
theorem r_ixT0 (h : SqT K H a (x0 :: xs)) (k : Q x0 H) : rIx K (.ref a) (.int 0) H Q := r_ixT h (atI_nat (j := 0) rfl) k
theorem r_ixT1 (h : SqT K H a (x0 :: x1 :: xs)) (k : Q x1 H) : rIx K (.ref a) (.int 1) H Q := r_ixT h (atI_nat (j := 1) rfl) k
theorem r_ixT2 (h : SqT K H a (x0 :: x1 :: x2 :: xs)) (k : Q x2 H) : rIx K (.ref a) (.int 2) H Q := r_ixT h (atI_nat (j := 2) rfl) k
theorem r_setB0 {Q : Hp → Prop} (h : H a = some (.lst [x0, x1])) (k : Q (upd H a (.lst [v, x1]))) : rSetL (.ref a) (.int 0) v H Q := r_setL h rfl k
theorem r_setB1 {Q : Hp → Prop} (h : H a = some (.lst [x0, x1])) (k : Q (upd H a (.lst [x0, v]))) : rSetL (.ref a) (.int 1) v H Q := r_setL h (j := 1) rfl k
end
/-! texts by their signs -/
theorem joinL_nil : ∀ ps : List (List Nat), TL.joinL [] ps = ps.flatten
  | [] => rfl
  | [p] => by
    show p = [p].flatten
    simp
  | p :: q :: r => by
    show p ++ ([] ++ TL.joinL [] (q :: r)) = (p :: q :: r).flatten
    rw [joinL_nil (q :: r)]
    simp
theorem join_parts (ps : List (List Nat)) : Txt.join (SX.S []) (ps.map SX.S) = SX.S ps.flatten := by rw [SX.join_S, joinL_nil]
theorem flat_ones (cs : List Nat) : (cs.map fun c => [c]).flatten = cs := by
  induction cs with
  | nil => rfl
  | cons c cs ih => rw [List.map_cons, List.flatten_cons, ih]; rfl
section
variable {H : Hp} {Q : VK} {K : PySem.W.Frag}
/-- a sign of a text at a place within -/
theorem r_ixSn {z : Str} {i : Int} {n : Nat} (hz : z.length = n) (hn : n ≤ 1000000) (h0 : 0 ≤ i) (h1 : i < (n : Int)) (k : ∀ c, z.cps.toList[i.toNat]? = some c → Q (.str ⟨#[c]⟩) H) : rIx K (.str z) (.int i) H Q := by
  obtain ⟨c, e, g⟩ := atI_of (xs := z.cps.toList) h0 (by rw [← str_len, hz]; exact h1)
  have hl : (1000000 : Nat) ≤ sizeLine := by rw [sizeLine_eq]; decide
  exact r_ixS (by rw [hz]; omega) e (k c g)
/-- a text joined of single signs -/
theorem r_join1 {p : Addr} {cs : List Nat} (h : H p = some (.lst (cs.map fun c => V.str ⟨#[c]⟩))) (z : cs.length ≤ 16777216) (k : Q (.str (SX.S cs)) H) : rJoin K (.str (SX.S [])) [.ref p] H Q := by
  have e : (cs.map fun c => V.str ⟨#[c]⟩) = ((cs.map fun c => [c]).map SX.S).map V.str := by
    rw [List.map_map, List.map_map]
    rfl
  rw [e] at h
  refine r_join (ys := (cs.map fun c => [c]).map SX.S) (SqL.of h) ?_ ?_
  · rw [SX.lens, List.map_map]
    have : ((fun c : List Nat => c.length) ∘ fun c => [c]) = fun _ : Nat => 1 := rfl
    rw [this]
    have e0 : (SX.S []).length = 0 := rfl
    rw [e0, Nat.mul_zero, Nat.add_zero]
    have : ∀ l : List Nat, (l.map fun _ => 1).sum = l.length := fun l => by
      induction l with
      | nil => rfl
      | cons c l ih => rw [List.map_cons, List.sum_cons, ih, List.length_cons]; omega
    rw [this]
    exact z
  · rw [join_parts, flat_ones]
    exact k
end
/-! the same rules, the written part by its own name -/
section
variable {X : Cx} {K : PySem.W.Frag}
theorem ix_k (e : X.K = K) : IxR X (rIx K) := e ▸ ix_seq
theorem add_k (e : X.K = K) : OpR X (binaryOp .Add) (rAddA K) := e ▸ op_addA
theorem mul_k (e : X.K = K) : OpR X (binaryOp .Mult) (rMulA K) := e ▸ op_mulA
theorem eq_k (e : X.K = K) (hu : X.A.units + 64 < cLine) : OpR X (compareOp .Eq) (rEqA K) := e ▸ op_eqA hu
theorem ne_k (e : X.K = K) (hu : X.A.units + 64 < cLine) : OpR X (compareOp .NotEq) (rNeA K) := e ▸ op_neA hu
theorem in_k (e : X.K = K) : OpR X (compareOp .In) (rInA K) := e ▸ op_inA
theorem notIn_k (e : X.K = K) : OpR X (compareOp .NotIn) (rNotInA K) := e ▸ op_notInA
theorem sl_k (e : X.K = K) : SlR X (rSlAny K) := e ▸ sl_any
theorem len_k (e : X.K = K) : CallR X (.builtin "len") (rLenA K) := e ▸ call_lenA
theorem max_k (e : X.K = K) (hc : X.calm = true) : CallR X (.builtin "max") (rMaxA K) := e ▸ call_maxA hc
theorem min_k (e : X.K = K) (hc : X.calm = true) : CallR X (.builtin "min") (rMinA K) := e ▸ call_minA hc
theorem sum_k (e : X.K = K) (hc : X.calm = true) : CallR X (.builtin "sum") (rSum K) := e ▸ cr_sum hc
theorem all_k (e : X.K = K) (hc : X.calm = true) : CallR X (.builtin "all") (rAll K) := e ▸ cr_all hc
theorem any_k (e : X.K = K) (hc : X.calm = true) : CallR X (.builtin "any") (rAny K) := e ▸ cr_any hc
theorem isi_k (e : X.K = K) : CallR X (.builtin "isinstance") (rIsi K) := e ▸ call_isi
theorem list_k (e : X.K = K) : CallR X (.type "list") (rListA K) := e ▸ cl_list
theorem tuple_k (e : X.K = K) : CallR X (.type "tuple") (rTupleA K) := e ▸ cl_tuple
theorem join_k (e : X.K = K) : MtR X "str.join" (rJoin K) := e ▸ mj_join
theorem any_pi {tg l : Expr} {tl : TE} (e : X.K = K) (hl : PE X l tl) : PI X tg l (iAny K tl) := e ▸ pi_any hl
variable {a b : Expr} {ta tb : TE} {rest : List Expr} {pos : Pos}
theorem orT_k (e : X.K = K) (ha : PE X a ta) (hb : PE X (.BoolOp .Or (b :: rest) pos) tb) : PE X (.BoolOp .Or (a :: b :: rest) pos) (tOrT K ta tb) := e ▸ pe_orT ha hb
theorem andT_k (e : X.K = K) (ha : PE X a ta) (hb : PE X (.BoolOp .And (b :: rest) pos) tb) : PE X (.BoolOp .And (a :: b :: rest) pos) (tAndT K ta tb) := e ▸ pe_andT ha hb
theorem notT_k (e : X.K = K) (ha : PE X a ta) : PE X (.UnaryOp .Not a pos) (tNotT K ta) := e ▸ pe_notT ha
end
theorem ne_fr' {H : Hp} {b D : Addr} (h : BoxAt H b) (n : H D = none) : D ≠ b := by
  obtain ⟨c, s, h⟩ := h
  exact (ne_of_none h n).symm
theorem chg_tr {b : Addr} {H H1 H2 : Hp} (c : Chg b H1 H2) (a : Chg b H H1) : Chg b H H2 := a.trans c
theorem sm_tr {H H1 H2 : Hp} (c : Sm H1 H2) (a : Sm H H1) : Sm H H2 := a.trans c
theorem sm_hid {b : Addr} {H H1 H2 : Hp} (c : Chg b H1 H2) (n : H b = none) (a : Sm H H1) : Sm H H2 := c.sm a n
theorem len_le {n : Nat} (h : n ≤ 1000000) : n ≤ sizeLine := by
  have hl : (1000000 : Nat) ≤ sizeLine := by rw [sizeLine_eq]; decide
  omega
section
variable {σ : St} {H : Hp} {Q : VK} {K : PySem.W.Frag}
theorem r_chain {r r' : R2} {ta tb tc : TE} (h : ta σ H fun x H1 => tb σ H1 fun y H2 => r x y H2 fun z H3 => ∃ k, z = .bl k ∧ (if k = true then tc σ H3 fun w' H4 => r' y w' H4 Q else Q (.bl false) H3)) : tChain r r' ta tb tc σ H Q := h
theorem r_maxF {i j : Int} (k : ∀ m, i ≤ m → j ≤ m → (m = i ∨ m = j) → Q (.int m) H) : rMaxA K [.int i, .int j] H Q := by
  refine r_max (k _ ?_ ?_ ?_) <;> split <;> omega
theorem r_minF {i j : Int} (k : ∀ m, m ≤ i → m ≤ j → (m = i ∨ m = j) → Q (.int m) H) : rMinA K [.int i, .int j] H Q := by
  refine r_min (k _ ?_ ?_ ?_) <;> split <;> omega
theorem r_isB {a b : Bool} (k : Q (.bl (decide (a = b))) H) : rIsB (.bl a) (.bl b) H Q := ⟨a, b, rfl, rfl, k⟩
theorem r_inSt {t : Str} {c : Nat} {z : Str} (e : t = ⟨#[c]⟩) (k : Q (.bl (decide (c ∈ z.cps.toList))) H) : rInA K (.str t) (.str z) H Q := by
  subst e
  exact r_inS k
end
section
variable {σ : St} {H : Hp} {Q : VK} {K : PySem.W.Frag}
/-- an item of a list of ints at a place within -/
theorem r_ixLi {a : Addr} {xs : List V} {i : Int} {ns : List Int} (h : SqL K H a xs) (e : xs = ns.map V.int) (h0 : 0 ≤ i) (h1 : i < (ns.length : Int)) (k : ∀ n, n ∈ ns → Q (.int n) H) : rIx K (.ref a) (.int i) H Q := by
  subst e
  obtain ⟨v, ev, hv⟩ := atI_mem (xs := ns.map V.int) h0 (by rw [List.length_map]; exact h1)
  obtain ⟨n, hn, rfl⟩ := List.mem_map.mp hv
  exact r_ixL h ev (k n hn)
theorem cshl1 {j : Int} (h0 : 0 ≤ j) (h1 : j ≤ 100000) : CShl 1 j := by
  refine ⟨h0, ?_⟩
  have e1 : (Builtin.Int.intBits 1 : Int) = 1 := by decide
  have e2 : (2 : Int) ^ 27 = 134217728 := by decide
  rw [e1, e2]
  omega
theorem pow2_le {a b : Nat} (h : a ≤ b) : (2 : Int) ^ a ≤ 2 ^ b := by
  have := Nat.pow_le_pow_right (show 0 < 2 by decide) h
  have e : ∀ n : Nat, ((2 ^ n : Nat) : Int) = (2 : Int) ^ n := fun n => by rw [Int.natCast_pow]; rfl
  rw [← e, ← e]
  exact Int.ofNat_le.mpr this
theorem ediv_down {l b : Int} (hl : 0 < l) (hb : 2 ≤ b) : 0 ≤ l / b ∧ l / b < l := by
  refine ⟨Int.ediv_nonneg (by omega) (by omega), ?_⟩
  have h1 : l / b * b ≤ l := Int.ediv_mul_le l (by omega)
  have h2 : 0 ≤ l / b := Int.ediv_nonneg (by omega) (by omega)
  rcases Int.lt_or_le (l / b) l with h | h
  · exact h
  · have h3 : l * 2 ≤ l / b * b := Int.mul_le_mul h hb (by omega) h2
    omega
end
theorem Chg.seq {K : PySem.W.Frag} {b : Addr} {H H' : Hp} {a : Addr} {xs : List V} (e : Chg b H H') (n : a ≠ b) (h : SqL K H a xs) : SqL K H' a xs := by
  rcases h with (h | ⟨o, h⟩) | h
  · exact .inl (.inl (e.to _ _ n h))
  · exact .inl (.inr ⟨o, e.to _ _ n h⟩)
  · exact .inr h
theorem Chg.seqT {K : PySem.W.Frag} {b : Addr} {H H' : Hp} {a : Addr} {xs : List V} (e : Chg b H H') (n : a ≠ b) (h : SqT K H a xs) : SqT K H' a xs := by
  rcases h with (h | ⟨o, h⟩) | h
  · exact .inl (.inl (e.to _ _ n h))
  · exact .inl (.inr ⟨o, e.to _ _ n h⟩)
  · exact .inr h
theorem BoxAt.chg {b D : Addr} {H H' : Hp} (e : Chg D H H') (n : b ≠ D) (h : BoxAt H b) : BoxAt H' b := by
  obtain ⟨x, y, h⟩ := h
  exact ⟨x, y, e.to _ _ n h⟩
theorem box_ne {H : Hp} {b D : Addr} (n : H D = none) (h : BoxAt H b) : b ≠ D := (ne_fr' h n).symm
theorem chg_fr {b t : Addr} {H H' : Hp} (n : H' t = none) (hb : BoxAt H' b) (c : Chg b H H') : H t = none := by
  cases q : H t with
  | none => rfl
  | some o =>
    have := c.to t o (ne_fr' hb n) q
    rw [n] at this
    cases this
theorem cutV_mem {xs : List V} {lo hi : Option Int} {v : V} (h : v ∈ cutV xs lo hi) : v ∈ xs := List.mem_of_mem_drop (List.mem_of_mem_take h)
theorem cutV_le (xs : List V) (lo hi : Option Int) : (cutV xs lo hi).length ≤ xs.length := by
  unfold cutV
  rw [List.length_take, List.length_drop]
  omega
section
variable {σ : St} {H : Hp} {Q : VK} {K : PySem.W.Frag} {X : Cx}
theorem rev_pi {tg e : Expr} {te : TE} {p pos : Pos} (ek : X.K = K) (hg : Gl X "reversed") (hm : X.mg "reversed" = none) (he : PE X e te) (hs : starEach [e] X.env = (false, eval e X.env) :: starEach [] X.env := by rfl) : PI X tg (.Call (.Name "reversed" p) [e] [] pos) (RT.iRevA K te) := ek ▸ RT.pi_revA hg hm he hs
theorem r_rev {te : TE} {R : It → Hp → Prop} (h : te σ H fun v H1 => ∃ (a : Addr) (xs : List V), v = .ref a ∧ ((SqL K H1 a xs ∧ R (Itv K a xs.length) H1) ∨ (SqT K H1 a xs ∧ R (RT.ItvT K a xs.length) H1))) : RT.iRevA K te σ H R := h
theorem r_revL {a : Addr} {xs : List V} {P : Addr → List V → Prop} {P' : Addr → List V → Prop} (h : SqL K H a xs) (k : P a xs) : ∃ (b : Addr) (ys : List V), V.ref a = .ref b ∧ ((SqL K H b ys ∧ P b ys) ∨ (SqT K H b ys ∧ P' b ys)) := ⟨a, xs, rfl, .inl ⟨h, k⟩⟩
theorem r_revT {a : Addr} {xs : List V} {P : Addr → List V → Prop} {P' : Addr → List V → Prop} (h : SqT K H a xs) (k : P' a xs) : ∃ (b : Addr) (ys : List V), V.ref a = .ref b ∧ ((SqL K H b ys ∧ P b ys) ∨ (SqT K H b ys ∧ P' b ys)) := ⟨a, xs, rfl, .inr ⟨h, k⟩⟩
/-- an item of a list of ints, by its place -/
theorem r_ixLg {a : Addr} {xs : List V} {i : Int} {ns : List Int} (h : SqL K H a xs) (e : xs = ns.map V.int) (h0 : 0 ≤ i) (h1 : i < (ns.length : Int)) (k : ∀ n, ns[i.toNat]? = some n → Q (.int n) H) : rIx K (.ref a) (.int i) H Q := by
  subst e
  obtain ⟨v, ev, hv⟩ := atI_of (xs := ns.map V.int) h0 (by rw [List.length_map]; exact h1)
  rw [List.getElem?_map] at hv
  cases hn : ns[i.toNat]? with
  | none =>
    rw [hn] at hv
    cases hv
  | some n =>
    rw [hn] at hv
    have e : V.int n = v := Option.some.inj hv
    subst e
    exact r_ixL h ev (k n hn)
end
theorem rep_ints (n : Nat) (x : Int) : (List.replicate n [V.int x]).flatten = (List.replicate n x).map V.int := by
  induction n with
  | zero => rfl
  | succ n ih => rw [List.replicate_succ, List.flatten_cons, ih, List.replicate_succ, List.map_cons]; rfl
/-- lists of ints are equal as data just where they are -/
theorem dps_ints {K : PySem.W.Frag} {H : Hp} : ∀ ns : List Int, DpAll K H (ns.map V.int) (ns.map PyData.int)
  | [] => .nil
  | n :: ns => .cons (.int n) (dps_ints ns)
theorem dp_ints {K : PySem.W.Frag} {H : Hp} {a : Addr} {ns : List Int} (h : SqL K H a (ns.map V.int)) : Dp K H (.ref a) (.list (ns.map PyData.int)) := .lst h (dps_ints ns)
theorem pow_lim {b : Int} {n : Nat} (h0 : 0 ≤ b) (h1 : b ≤ 1099511627776) : (b ^ n).natAbs < 2 ^ (40 * n + 1) := by
  rw [Int.natAbs_pow]
  have h2 : b.natAbs ≤ 2 ^ 40 := by
    have e : (2 : Nat) ^ 40 = 1099511627776 := by decide
    omega
  have h3 := Nat.pow_le_pow_left h2 n
  rw [← Nat.pow_mul] at h3
  have h4 : 2 ^ (40 * n) < 2 ^ (40 * n + 1) := Nat.pow_lt_pow_right (by decide) (by omega)
  omega
theorem lay_ints (ns : List Int) : PyData.canLayAll0 (ns.map PyData.int) = true := by
  induction ns with
  | nil => rfl
  | cons n ns ih => simpa [PyData.canLayAll0, PyData.canLay0] using ih
theorem deep_ints (ns : List Int) : PyData.depthAll (ns.map PyData.int) ≤ 1 := by
  induction ns with
  | nil => decide
  | cons n ns ih => simpa [PyData.depthAll, PyData.depth] using ih
theorem shaped_ints (ns : List Int) : SeqAt.shaped (.list (ns.map PyData.int)) = true := by
  have h := lay_ints ns
  have h2 := deep_ints ns
  simp [SeqAt.shaped, PyData.canLay0, PyData.depth, h]
  omega
theorem eqv_ints (ns : List Int) : PyData.eqv (.list (ns.map PyData.int)) (.list (ns.map PyData.int)) = true := SeqAt.eqv_refl _ (by simpa [PyData.canLay0] using lay_ints ns)
section
variable {H : Hp} {Q : VK} {K : PySem.W.Frag}
/-- two lists of the same ints -/
theorem r_neLL {a b : Addr} {ns : List Int} (ha : SqL K H a (ns.map V.int)) (hb : SqL K H b (ns.map V.int)) (k : Q (.bl false) H) : rNeA K (.ref a) (.ref b) H Q := r_neD (dp_ints ha) (dp_ints hb) (shaped_ints ns) (shaped_ints ns) (by rw [eqv_ints]; exact k)
theorem r_eqLL {a b : Addr} {ns : List Int} (ha : SqL K H a (ns.map V.int)) (hb : SqL K H b (ns.map V.int)) (k : Q (.bl true) H) : rEqA K (.ref a) (.ref b) H Q := r_eqD (dp_ints ha) (dp_ints hb) (shaped_ints ns) (shaped_ints ns) (by rw [eqv_ints]; exact k)
end
section
variable {H : Hp} {Q : VK} {K : PySem.W.Frag}
/-- [x] * n -/
theorem r_repI {a : Addr} {x i : Int} (ha : H a = some (.lst [V.int x])) (h0 : 0 ≤ i) (h1 : i ≤ 1000) (k : ∀ p H', Sm H H' → H p = none → H' p = some (.lst ((List.replicate i.toNat x).map V.int)) → Q (.ref p) H') : rMulA K (.ref a) (.int i) H Q :=
  r_mulL ha (by omega) (by omega) (len_le (by
    show 1 * i.toNat ≤ 1000000
    omega)) fun p H' s n e => k p H' s n (by rw [← rep_ints]; exact e)
/-- two lists of ints, one behind the other -/
theorem r_addLI {a b : Addr} {xs ys : List Int} (ha : H a = some (.lst (xs.map V.int))) (hb : H b = some (.lst (ys.map V.int))) (hz : xs.length + ys.length ≤ 1000000)
    (k : ∀ p H', Sm H H' → H p = none → H' p = some (.lst ((xs ++ ys).map V.int)) → Q (.ref p) H') : rAddA K (.ref a) (.ref b) H Q :=
  r_addL ha hb (len_le (by rw [List.length_map, List.length_map]; exact hz)) fun p H' s n e => k p H' s n (by rw [List.map_append]; exact e)
end
theorem r_ixLm {K : PySem.W.Frag} {H : Hp} {Q : VK} {a : Addr} {xs : List V} {i : Int} (h : SqL K H a xs) (h0 : 0 ≤ i) (h1 : i < (xs.length : Int)) (k : ∀ v, v ∈ xs → Q v H) : rIx K (.ref a) (.int i) H Q := by
  obtain ⟨v, ev, hv⟩ := atI_mem h0 h1
  exact r_ixL h ev (k v hv)
theorem chg_acc2 {b D : Addr} {H1 H4 : Hp} {o : HO} (n : H1 D = none) (c : Chg b H1 H4) : Chg b H1 (upd H4 D o) := chg_acc c n
theorem sm_acc2 {D : Addr} {H1 H4 : Hp} {o : HO} (n : H1 D = none) (c : Sm H1 H4) : Sm H1 (upd H4 D o) := sm_acc c n
end RV

namespace RV
open PySem PySem.Spec L2 PySem.NumText PySem.W
open PyProof.Rows hiding St
/-- the limit on an int's signs is what it was at the start -/
theorem looks_msd {K : PySem.W.Frag} {M : Model} {h : Heap} (X : K.In h) (e : PySem.W.nsIn K cStatics "sys.int_max_str_digits" = some none) : PySem.W.Looks M h Builtin.intMaxStrDigits 4300 :=
  (PySem.W.looks_nsIn X e).andThen .now
theorem from_text {M : Model} {A : Around} {E : Value → Shared → Prop} {s : Shared} {Q : Value → Shared → Prop} {v : Value} {text : List Nat} {n : Int}
    (lk : PySem.W.Looks M s.heap Builtin.intMaxStrDigits 4300) (far : ¬ (text.takeWhile (· != 0)).length ≤ 640)
    (got : (int_private% "readNumeral") 4300 10 (text.takeWhile (· != 0)) = (int_private% "Numeral.value") n)
    (whole : ((text.takeWhile (· != 0)).length == text.length) = true) (k : Q (.int n s.toks) { s with toks := s.toks + 1 }) :
    wpAny M A ((int_private% "intFromText") v text 10) Q E s := by
  obtain ⟨hp, g, d, tk, os⟩ := s
  have lk' : PySem.W.Looks M hp Builtin.intMaxStrDigits 4300 := lk
  clear lk
  repeat (any_goals (first
    | (with_reducible refine wpAny_ite_false (decide_eq_false far) ?_)
    | (with_reducible refine wpAny_ite_true (decide_eq_true whole) ?_)
    | ((with_reducible show wpAny _ _ Builtin.intMaxStrDigits _ _ _); refine PySem.W.Looks.here lk' ?_)
    | assumption
    | wp_step))
  all_goals (try rw [got])
  all_goals (try dsimp only)
  repeat (any_goals (first
    | (with_reducible refine wpAny_ite_true (decide_eq_true whole) ?_)
    | assumption
    | wp_step))
structure Kept (p : Prop) : Prop where
  get : p
theorem whole_text {x : PySem.Str} {u : Tok} {n : Int} (hl : x.length ≤ 16777216) (far : ¬ (numSeenOf x).length ≤ 640) (hn : PySem.intText? x = some n) :
    Meets (Builtin.«int.__new__» ⟨[.type "int", .str x u], []⟩) (fun A R s => (∀ M, PySem.W.Looks M s.heap Builtin.intMaxStrDigits 4300) ∧ R (.ok (.ret (.int n s.toks))) { s with toks := s.toks + 1 }) :=
  .of_wp fun prog w A R s hs => by
    obtain ⟨hp, g, d, tk, os⟩ := s
    obtain ⟨lk, fin⟩ := hs
    have a1 := F.conv_sub_int
    have a2 := F.madeHere_int
    have a3 := PySem.W.KIN.str_int
    have a4 := PySem.W.KIN.str_idx
    have a5 := PySem.W.KIN.str_trunc
    have a6 : typeOf (.str x u) = pure (.type "str") := rfl
    have got : (int_private% "readNumeral") 4300 10 (numSeenOf x) = (int_private% "Numeral.value") n ∧ ((numSeenOf x).length == (numTextOf x).length) = true := by
      have hs : (16777216 : Nat) = sizeLine := by rw [sizeLine_eq]
      rcases read4300 x (by rw [← hs]; exact hl) with ⟨m, h1, h2, h3⟩ | ⟨h1, _⟩
      · rw [hn] at h1
        cases h1
        exact ⟨h3, h2⟩
      · rw [hn] at h1
        cases h1
    have kk := Kept.mk (And.intro far got)
    have lk' := Kept.mk lk
    clear far got hl hn lk
    repeat (any_goals (first
      | assumption
      | ((with_reducible show wpAny _ _ ((int_private% "intFromText") _ _ _) _ _ _); refine from_text (lk'.get _) kk.get.1 kk.get.2.1 kk.get.2.2 ?_)
      | wp_step))
    all_goals first | exact ⟨_, rfl, fin⟩ | skip
section
variable {X : Cx} {K : PySem.W.Frag}
def rIntL : List V → Hp → VK → Prop := fun xs H Q => ∃ a n, xs = [.str a] ∧ PySem.intText? a = some n ∧ ¬ (numSeenOf a).length ≤ 640 ∧ a.length ≤ 16777216 ∧ Q (.int n) H
theorem long_int (e : X.K = K) (zs : PySem.W.nsIn K cStatics "sys.int_max_str_digits" = some none) : CallR X (.type "int") rIntL := by
  intro pins s σ H xs us Q I r h
  obtain ⟨a, n, rfl, hn, far, hl, q⟩ := h
  obtain ⟨u, rfl, t, rfl⟩ := vals1 r
  subst e
  exact call_int_1 (whole_text hl far hn) ⟨fun M => looks_msd I.kIn zs, rfl, ⟨.int n, H, I.tok _, ⟨_, rfl⟩, q⟩⟩
/-- int(..) of an int, a truth, a text of any length -/
def rIntX : List V → Hp → VK → Prop := fun xs H Q => rIntA xs H Q ∨ rIntL xs H Q
theorem int_x (e : X.K = K) (zs : PySem.W.nsIn K cStatics "sys.int_max_str_digits" = some none) : CallR X (.type "int") rIntX := cl_int.or (long_int e zs)
variable {H : Hp} {Q : VK}
theorem x_intI {i : Int} (k : Q (.int i) H) : rIntX [.int i] H Q := .inl (r_intI k)
theorem x_intB {i : Bool} (k : Q (.int (if i then 1 else 0)) H) : rIntX [.bl i] H Q := .inl (r_intB k)
/-- a text of figures alone -/
theorem x_intS {cs : List Nat} {n : Nat} (h : AllDigits cs) (h1 : cs ≠ []) (h2 : cs.length ≤ 4300) (hv : digitsVal cs = n) (k : Q (.int (n : Int)) H) : rIntX [.str (SX.S cs)] H Q := by
  have hl : (SX.S cs).length = cs.length := SX.S_len cs
  have hn : PySem.intText? (SX.S cs) = some (n : Int) := by
    rw [← hv]
    exact intText_digits (x := SX.S cs) h h1 (by rw [hl]; exact h2)
  by_cases far : (SX.S cs).length ≤ 640
  · exact .inl (r_intS hn far k)
  · refine .inr ⟨_, _, rfl, hn, ?_, by omega, k⟩
    rw [(numText_signs (x := SX.S cs) fun c hc => Or.inr (h c hc)).2]
    show ¬ (SX.S cs).cps.toList.length ≤ 640
    rw [← str_len]
    exact far
end
end RV

/-! enumerate over a text, over a tuple, over a list: one rule -/
namespace RV
open PySem PySem.Spec L2
open PyProof.Rows hiding St
/-- places and signs, in new pairs -/
def IteS (x : Str) : It :=
  ⟨fun i _ => i < x.cps.size, fun i H v H' => ∃ T c, v = .ref T ∧ H T = none ∧ H' = upd H T (.tup [.int (i : Nat), .str ⟨#[c]⟩]) ∧ x.cps[i]? = some c, fun i _ => i = x.cps.size⟩
/-- places and items of a tuple, in new pairs -/
def IteT (K : PySem.W.Frag) (a : Addr) : It :=
  ⟨fun i H => ∃ (xs : List V) (x : V), SqT K H a xs ∧ xs[i]? = some x, fun i H v H' => ∃ T x, v = .ref T ∧ H T = none ∧ H' = upd H T (.tup [.int (i : Nat), x]) ∧ ∀ xs, SqT K H a xs → xs[i]? = some x, fun i H => ∃ xs : List V, SqT K H a xs ∧ i = xs.length⟩
section
variable {P : Program} {w : World} {K : PySem.W.Frag} {elts : List Expr} {kk : Nat} {tpos : Pos}
theorem turn_enumS (x : Str) (t : Tok) (e it : Addr) :
    Turn P w K (.Tuple elts kk tpos) (IteS x) [e, it] e (fun i h => (∃ old, IsEnum h e it ((i : Nat) : Int) old) ∧ h.IsStrIter it (strIterType x) x t i ∧ e ≠ it) where
  mem := by simp
  obj := fun i h st b hb => by
    obtain ⟨⟨old, he⟩, ⟨o, ho, hc, hd⟩, _⟩ := st
    have e' : b = e ∨ b = it := by simpa using hb
    rcases e' with z | z
    · subst z
      exact ⟨_, he, fun v q => nomatch q⟩
    · subst z
      exact ⟨o, ho, fun v q => by rw [hd] at q; cases q⟩
  keep := fun i h h' st k => by
    obtain ⟨⟨old, he⟩, ⟨o, ho, r⟩, hne⟩ := st
    exact ⟨⟨old, k e (by simp) _ he⟩, ⟨o, k it (by simp) o ho, r⟩, hne⟩
  item := by
    intro X hP hw hK hc i pins s σ H E I hf st hg
    subst hP hw hK
    obtain ⟨⟨old, he⟩, hit, hne⟩ := st
    have hel : e < s.heap.objs.size := Heap.lt_size he
    have hil : it < s.heap.objs.size := by
      obtain ⟨_, q, _⟩ := hit
      exact Heap.lt_size q
    refine wpAny_pyNext_enum_itemD (Draws.text (A := X.A.in1) (show X.A.in1.handled = none from I.ok.hd hc) it x t) he hit hg hne (by simpa using hne) fun u h' tk hP ho hit' hT hsz hk => ?_
    obtain ⟨c, u', hcx, rfl⟩ := hP
    refine ⟨_, rfl, wpAny_letOwnedTupleGo_enum (s := { s with heap := h', toks := tk + 1 }) ho fun h'' he' sb => ?_⟩
    have hT2 : h''.get? s.heap.objs.size = some { cls := .type "tuple", data := .seq #[.int i tk, .str ⟨#[c]⟩ u'] } := (sb.2 _ (Nat.ne_of_gt hel)).trans hT
    have new : ObjOk X.prog X.w (upd H s.heap.objs.size (.tup [.int (i : Nat), .str ⟨#[c]⟩])) h'' s.heap.objs.size (.tup [.int (i : Nat), .str ⟨#[c]⟩]) :=
      ⟨by show 2 ≤ sizeLine; decide, _, .cons ⟨tk, rfl⟩ (.cons ⟨u', rfl⟩ .nil), ⟨_, hT2, rfl, _, rfl⟩⟩
    have I1 : Inv X pins σ (upd H s.heap.objs.size (.tup [.int (i : Nat), .str ⟨#[c]⟩])) { s with heap := h'', toks := tk + 1 } :=
      I.turnedNew (ch := [e, it]) (fun b ob hb q => (sb.2 b (fun z => hb (by simp [z]))).trans (hk b ob (fun z => hb (by simp [z])) (fun z => hb (by simp [z])) q)) hf (Nat.le_refl _) new
    refine ⟨.ref s.heap.objs.size, _, I1, rfl, ⟨_, c, rfl, I.hok.fresh (Nat.le_refl _), rfl, hcx⟩, ⟨⟨.str ⟨#[c]⟩ u', ?_⟩, ?_, hne⟩, fun b hb => ?_⟩
    · have e1 : ((i + 1 : Nat) : Int) = (i : Int) + 1 := by omega
      rw [e1]
      exact he'
    · obtain ⟨o, q, r⟩ := hit'
      exact ⟨o, (sb.2 it (Ne.symm hne)).trans q, r⟩
    · have hb' : b < s.heap.objs.size := by
        have e' : b = e ∨ b = it := by simpa using hb
        rcases e' with z | z
        · subst z
          exact hel
        · subst z
          exact hil
      rw [upd_ne (Nat.ne_of_lt hb')]
      exact (hf b hb).1
  done := by
    intro X hP hw hK hc i pins s σ H E I hf st hg
    subst hP hw hK
    obtain ⟨⟨old, he⟩, hit, hne⟩ := st
    obtain ⟨f0, f1, f2, f3, f4, f5⟩ := hf it (by simp)
    have hi : i = x.cps.size := hg
    subst hi
    exact wpAny_pyNext_enum_endD (Draws.text (A := X.A.in1) (show X.A.in1.handled = none from I.ok.hd hc) it x t) he hit fun h' eb => ⟨rfl, I.turned (t' := s.toks) (fun b o hb q => eb b o (by simpa using hb) q) f0 f1 f3 f4 f5⟩
  self := fun A i s Q E st h => by
    obtain ⟨⟨_, he⟩, _⟩ := st
    exact wpAny_pyIter_enum he h
theorem turn_enumT (a e it : Addr) :
    Turn P w K (.Tuple elts kk tpos) (IteT K a) [e, it] e (fun i h => (∃ old, IsEnum h e it ((i : Nat) : Int) old) ∧ h.IsTupleIter it a i ∧ e ≠ it) where
  mem := by simp
  obj := fun i h st b hb => by
    obtain ⟨⟨old, he⟩, ⟨o, ho, hc, hd⟩, _⟩ := st
    have e' : b = e ∨ b = it := by simpa using hb
    rcases e' with z | z
    · subst z
      exact ⟨_, he, fun v q => nomatch q⟩
    · subst z
      exact ⟨o, ho, fun v q => by rw [hd] at q; cases q⟩
  keep := fun i h h' st k => by
    obtain ⟨⟨old, he⟩, hi, hne⟩ := st
    exact ⟨⟨old, k e (by simp) _ he⟩, hi.at fun o q => k it (by simp) o q, hne⟩
  item := by
    intro X hP hw hK hc i pins s σ H E I hf st hg
    subst hP hw hK
    obtain ⟨⟨old, he⟩, hit, hne⟩ := st
    obtain ⟨xs, x, hq, hx⟩ := hg
    obtain ⟨its, rv, p, hz⟩ := I.tuple hq
    obtain ⟨u, hu, ru⟩ := rv.get hx
    have hel : e < s.heap.objs.size := Heap.lt_size he
    have hil : it < s.heap.objs.size := by
      obtain ⟨_, q, _⟩ := hit
      exact Heap.lt_size q
    have hil2 : i < its.length := (List.getElem?_eq_some_iff.mp hu).1
    have hai : a ≠ it := by
      intro z
      subst z
      obtain ⟨o1, q1, c1, _⟩ := hit
      obtain ⟨o2, q2, c2, _⟩ := p
      rw [q1] at q2
      cases q2
      rw [c1] at c2
      exact absurd (Value.type.inj c2) (by decide)
    have hae : e ≠ a := by
      intro z
      subst z
      obtain ⟨o2, q2, c2, _⟩ := p
      have q1 := he
      unfold IsEnum at q1
      rw [q1] at q2
      cases q2
      exact absurd (Value.type.inj c2) (by decide)
    have ht := p
    refine wpAny_pyNext_enum_itemD (Draws.tuple (A := X.A.in1) (show X.A.in1.handled = none from I.ok.hd hc) it a hai its.toArray) he ⟨hit, ht⟩ (by simpa using hil2) hne (by simp [hne, hae]) fun u1 h' tk hP ho hit' hT hsz hk => ?_
    have eu : u1 = u := by
      have h1 : its.toArray[i]? = some u1 := hP
      rw [List.getElem?_toArray, hu] at h1
      exact (Option.some.inj h1).symm
    subst eu
    refine ⟨_, rfl, wpAny_letOwnedTupleGo_enum (s := { s with heap := h', toks := tk + 1 }) ho fun h'' he' sb => ?_⟩
    have hT2 : h''.get? s.heap.objs.size = some { cls := .type "tuple", data := .seq #[.int i tk, u1] } := (sb.2 _ (Nat.ne_of_gt hel)).trans hT
    have new : ObjOk X.prog X.w (upd H s.heap.objs.size (.tup [.int (i : Nat), x])) h'' s.heap.objs.size (.tup [.int (i : Nat), x]) :=
      ⟨by show 2 ≤ sizeLine; decide, _, .cons ⟨tk, rfl⟩ (.cons ru .nil), ⟨_, hT2, rfl, _, rfl⟩⟩
    have I1 : Inv X pins σ (upd H s.heap.objs.size (.tup [.int (i : Nat), x])) { s with heap := h'', toks := tk + 1 } :=
      I.turnedNew (ch := [e, it]) (fun b ob hb q => (sb.2 b (fun z => hb (by simp [z]))).trans (hk b ob (fun z => hb (by simp [z])) (fun z => hb (by simp [z])) q)) hf (Nat.le_refl _) new
    refine ⟨.ref s.heap.objs.size, _, I1, rfl, ⟨_, x, rfl, I.hok.fresh (Nat.le_refl _), rfl, fun ys hy => by rw [I.tuple_inj hy hq]; exact hx⟩, ⟨⟨u1, ?_⟩, hit'.1.at fun o q => (sb.2 it (Ne.symm hne)).trans q, hne⟩, fun b hb => ?_⟩
    · have e1 : ((i + 1 : Nat) : Int) = (i : Int) + 1 := by omega
      rw [e1]
      exact he'
    · have hb' : b < s.heap.objs.size := by
        have e' : b = e ∨ b = it := by simpa using hb
        rcases e' with z | z
        · subst z
          exact hel
        · subst z
          exact hil
      rw [upd_ne (Nat.ne_of_lt hb')]
      exact (hf b hb).1
  done := by
    intro X hP hw hK hc i pins s σ H E I hf st hg
    subst hP hw hK
    obtain ⟨⟨old, he⟩, hit, hne⟩ := st
    obtain ⟨xs, hq, hx⟩ := hg
    obtain ⟨its, rv, p, hz⟩ := I.tuple hq
    obtain ⟨f0, f1, f2, f3, f4, f5⟩ := hf it (by simp)
    have hl := rv.length
    have hai : a ≠ it := by
      intro z
      subst z
      obtain ⟨o1, q1, c1, _⟩ := hit
      obtain ⟨o2, q2, c2, _⟩ := p
      rw [q1] at q2
      cases q2
      rw [c1] at c2
      exact absurd (Value.type.inj c2) (by decide)
    have e1 : i = its.toArray.size := by simp; omega
    subst e1
    exact wpAny_pyNext_enum_endD (Draws.tuple (A := X.A.in1) (show X.A.in1.handled = none from I.ok.hd hc) it a hai its.toArray) he ⟨hit, p⟩ fun h' eb => ⟨rfl, I.turned (t' := s.toks) (fun b o hb q => eb b o (by simpa using hb) q) f0 f1 f3 f4 f5⟩
  self := fun A i s Q E st h => by
    obtain ⟨⟨_, he⟩, _⟩ := st
    exact wpAny_pyIter_enum he h
end
section
variable {v : Value} {o : Obj} {Hc : Heap → Prop}
theorem meets_enum1 (B : Begins v o Hc) :
    Meets (Builtin.«enumerate.__new__» ⟨[.type "enumerate", v], []⟩) (fun _ R s => Hc s.heap ∧
      R (.ok (.ret (.ref (s.heap.push o).objs.size))) { s with heap := (s.heap.push o).push { cls := .type "enumerate", data := .fields #[.none, .bool false, .ref s.heap.objs.size, rawInt 0, .none, .none] } }) :=
  .of_wp fun prog w A R s h => by
    obtain ⟨hp, g, d, tk, os⟩ := s
    obtain ⟨h1, h⟩ := h
    have hsub := sub_enumerate
    have q1 : ∀ {A' : Around} {E : Value → Shared → Prop} {Q : Value → Shared → Prop}, Q (.ref hp.objs.size) ⟨hp.push o, g, d, tk, os⟩ → wpAny (model prog w) A' (pyIter v) Q E ⟨hp, g, d, tk, os⟩ :=
      fun q => B.iter prog w _ _ ⟨hp, g, d, tk, os⟩ _ h1 q
    wp_walk using q1
    refine wpAny_stack_any fun st => wpAny_pure ?_
    split
    · rename_i c _ _ _ _ _
      cases (c == Value.type "enumerate") <;> (wp_walk using q1; exact ⟨_, rfl, h⟩)
    · wp_walk using q1
      exact ⟨_, rfl, h⟩
theorem enum1 {prog : Program} {w : World} {A : Around} {E : Value → Shared → Prop} {s : Shared} {Q : Value → Shared → Prop} (B : Begins v o Hc) (h1 : Hc s.heap)
    (h : ∀ h', IsEnum h' (s.heap.objs.size + 1) s.heap.objs.size 0 .none → h'.get? s.heap.objs.size = some o → (∀ b o, s.heap.get? b = some o → h'.get? b = some o) → Q (.ref (s.heap.objs.size + 1)) { s with heap := h' }) :
    wpAny (model prog w) A (call (.type "enumerate") [v]) Q E s := by
  refine callType_new F.called_enumerate (by decide) (F.typeCall_enumerate_1 _) (F.newCall_enumerate_1 _) (fun obj => F.args_object_init_2 obj _) F.entry_enumerate_new (meets_enum1 B) ⟨h1, ?_⟩
  have hz : (s.heap.push o).objs.size = s.heap.objs.size + 1 := Heap.size_push ..
  show _ ∧ _
  rw [hz]
  have he : IsEnum ((s.heap.push o).push { cls := .type "enumerate", data := .fields #[.none, .bool false, .ref s.heap.objs.size, rawInt 0, .none, .none] }) (s.heap.objs.size + 1) s.heap.objs.size 0 .none := by
    have g := Heap.get?_push_size (s.heap.push o) (o := { cls := .type "enumerate", data := .fields #[.none, .bool false, .ref s.heap.objs.size, rawInt 0, .none, .none] }) rfl
    rw [hz] at g
    exact g
  exact ⟨⟨_, he, rfl⟩, h _ he (Heap.get?_push_of_some _ (Heap.get?_push_size _ B.free)) fun b o x => Heap.get?_push_of_some _ (Heap.get?_push_of_some _ x)⟩
end
section
variable {X : Cx} {e : Expr} {ta : TA} {p pos tpos : Pos} {elts : List Expr} {kk : Nat} {K : PySem.W.Frag}
def iEnumS (ta : TA) : TI := fun σ H R => ta σ H fun vs H1 => ∃ x, vs = [.str x] ∧ R (IteS x) H1
def iEnumT (K : PySem.W.Frag) (ta : TA) : TI := fun σ H R => ta σ H fun vs H1 => ∃ a xs, vs = [.ref a] ∧ SqT K H1 a xs ∧ R (IteT K a) H1
theorem pi_enumS (hg : Gl X "enumerate") (hm : X.mg "enumerate" = none) (ha : PA X [e] ta) (hs : starEach [e] X.env = [(false, eval e X.env)] := by rfl) :
    PI X (.Tuple elts kk tpos) (.Call (.Name "enumerate" p) [e] [] pos) (iEnumS ta) := by
  refine ⟨fun pins s σ H R I h => ?_⟩
  refine Call_ (ld_blt I hg hm boot_enumerate (PyProof.Rows.callWith_type1 (thn (ha.run pos pins s σ H _ I h) fun us s1 ⟨vs, H1, I1, r1, q1⟩ => ?_) hs rfl))
  obtain ⟨x, ex, q⟩ := q1
  subst ex
  cases r1 with
  | cons r rr =>
    cases rr
    obtain ⟨t, rfl⟩ := r
    refine enum1 (begins_text x t) trivial fun h' he hit hk => wpAny_pyIter_enum he ?_
    have I2 : Inv X pins σ H1 { s1 with heap := h' } := I1.kept (t' := s1.toks) hk
    refine ⟨s1.heap.objs.size + 1, [s1.heap.objs.size + 1, s1.heap.objs.size], _, _, H1, rfl, I2, turn_enumS x t (s1.heap.objs.size + 1) s1.heap.objs.size, ⟨⟨.none, he⟩, ⟨_, hit, rfl, rfl⟩, Nat.succ_ne_self _⟩, fun b hb => ?_, q⟩
    have e' : b = s1.heap.objs.size + 1 ∨ b = s1.heap.objs.size := by simpa using hb
    have hle : s1.heap.objs.size ≤ b := e'.elim (fun z => z ▸ Nat.le_succ _) (fun z => z ▸ Nat.le_refl _)
    exact I1.fpOk hle (I1.hok.fresh hle)
theorem pi_enumT (hg : Gl X "enumerate") (hm : X.mg "enumerate" = none) (ha : PA X [e] ta) (hs : starEach [e] X.env = [(false, eval e X.env)] := by rfl) :
    PI X (.Tuple elts kk tpos) (.Call (.Name "enumerate" p) [e] [] pos) (iEnumT X.K ta) := by
  refine ⟨fun pins s σ H R I h => ?_⟩
  refine Call_ (ld_blt I hg hm boot_enumerate (PyProof.Rows.callWith_type1 (thn (ha.run pos pins s σ H _ I h) fun us s1 ⟨vs, H1, I1, r1, q1⟩ => ?_) hs rfl))
  obtain ⟨a, xs, ex, hq, q⟩ := q1
  subst ex
  cases r1 with
  | cons r rr =>
    cases rr
    cases r
    obtain ⟨its, rv, p', hz⟩ := I1.tuple hq
    refine enum1 (begins_tuple a its.toArray) p' fun h' he hit hk => wpAny_pyIter_enum he ?_
    have I2 : Inv X pins σ H1 { s1 with heap := h' } := I1.kept (t' := s1.toks) hk
    refine ⟨s1.heap.objs.size + 1, [s1.heap.objs.size + 1, s1.heap.objs.size], _, _, H1, rfl, I2, turn_enumT a (s1.heap.objs.size + 1) s1.heap.objs.size, ⟨⟨.none, he⟩, ⟨_, hit, rfl, rfl⟩, Nat.succ_ne_self _⟩, fun b hb => ?_, q⟩
    have e' : b = s1.heap.objs.size + 1 ∨ b = s1.heap.objs.size := by simpa using hb
    have hle : s1.heap.objs.size ≤ b := e'.elim (fun z => z ▸ Nat.le_succ _) (fun z => z ▸ Nat.le_refl _)
    exact I1.fpOk hle (I1.hok.fresh hle)
end
section
variable {X : Cx} {e : Expr} {te : TE} {p pos tpos : Pos} {elts : List Expr} {kk : Nat} {K : PySem.W.Frag}
/-- enumerate of a list, a tuple or a text -/
def iEnumX (K : PySem.W.Frag) (ta : TA) : TI := fun σ H R => iEnum K ta σ H R ∨ iEnumT K ta σ H R ∨ iEnumS ta σ H R
theorem enum_k {ta : TA} (ek : X.K = K) (hg : Gl X "enumerate") (hm : X.mg "enumerate" = none) (ha : PA X [e] ta) (hs : starEach [e] X.env = [(false, eval e X.env)] := by rfl) :
    PI X (.Tuple elts kk tpos) (.Call (.Name "enumerate" p) [e] [] pos) (iEnumX K ta) := ek ▸ PI.or (pi_enum hg hm ha hs) (PI.or (pi_enumT hg hm ha hs) (pi_enumS hg hm ha hs))
end
section
variable {K : PySem.W.Frag} {a : Addr} {xs : List V}
theorem walk_enumT : Walk (IteT K a) xs.length (fun H => SqT K H a xs) (YPair (fun i => some (.int (i : Nat))) (fun i => xs[i]?)) := by
  refine ⟨fun i _ hi q => ⟨xs, xs[i], q, by simp [hi]⟩, fun _ q => ⟨xs, q, rfl⟩, fun i H v H' _ q y => ?_⟩
  obtain ⟨T, x, h1, h2, h3, h4⟩ := y
  exact ⟨T, .int (i : Nat), x, h1, h2, h3, rfl, h4 xs q⟩
theorem walk_enumS {z : Str} : Walk (IteS z) z.cps.size (fun _ => True) (fun i H v H' => ∃ T c, v = .ref T ∧ H T = none ∧ H' = upd H T (.tup [.int (i : Nat), .str ⟨#[c]⟩]) ∧ z.cps[i]? = some c) :=
  ⟨fun _ _ hi _ => hi, fun _ _ => rfl, fun _ _ _ _ _ _ y => y⟩
variable {ta : TA} {σ : St} {H : Hp} {R : It → Hp → Prop}
theorem r_enumL (h : ta σ H fun vs H1 => ∃ a xs, vs = [.ref a] ∧ SqL K H1 a xs ∧ R (Ite K a) H1) : iEnumX K ta σ H R := .inl h
theorem r_enumT (h : ta σ H fun vs H1 => ∃ a xs, vs = [.ref a] ∧ SqT K H1 a xs ∧ R (IteT K a) H1) : iEnumX K ta σ H R := .inr (.inl h)
theorem r_enumS (h : ta σ H fun vs H1 => ∃ x, vs = [.str x] ∧ R (IteS x) H1) : iEnumX K ta σ H R := .inr (.inr h)
end
end RV

/-! more of the own layer: raises that are never reached, lists that are gathered -/
namespace RV
open PySem PySem.Spec L2
open PyProof.Rows hiding St
section
variable {X : Cx} {K : PySem.W.Frag} {σ : St} {H : Hp} {Q : VK}
theorem r_tru_str {z : Str} {P : Bool → Prop} (h : z.length ≤ sizeLine) (k : P ((z.length : Int) != 0)) : ∃ b, TruV K (.str z) H b ∧ P b := ⟨_, ⟨h, rfl⟩, k⟩
theorem r_tru_lst {a : Addr} {xs : List V} {P : Bool → Prop} (h : SqL K H a xs) (k : P (!xs.isEmpty)) : ∃ b, TruV K (.ref a) H b ∧ P b := ⟨_, .inl ⟨xs, h, rfl⟩, k⟩
theorem r_tru_tup {a : Addr} {xs : List V} {P : Bool → Prop} (h : SqT K H a xs) (k : P (!xs.isEmpty)) : ∃ b, TruV K (.ref a) H b ∧ P b := ⟨_, .inr (.inl ⟨xs, h, rfl⟩), k⟩
theorem r_tru_non {P : Bool → Prop} (k : P false) : ∃ b, TruV K .non H b ∧ P b := ⟨_, rfl, k⟩
theorem r_par3 {D : Ends} {i j l : Nat} {ta : TA} (h : ta σ H fun vs H1 => ∃ u v w, vs = [u, v, w] ∧ D.nx (((σ.set i (some u)).set j (some v)).set l (some w)) H1) : tPar3 i j l ta D σ H := h
theorem r_uvw {u v w : V} {P : V → V → V → Prop} (h : P u v w) : ∃ u' v' w', [u, v, w] = [u', v', w'] ∧ P u' v' w' := ⟨u, v, w, rfl, h⟩
/-! f-strings -/
theorem r_fmtS {te : TE} (h : te σ H fun x H1 => (∃ y : Str, x = .str y ∧ y.length ≤ sizeLine ∧ Q (.str y) H1) ∨ ∃ i : Int, x = .int i ∧ i.natAbs.log2 < 1920 ∧ Q (.str (toString i)) H1) : tFmt te σ H Q := h
theorem r_fS {z : Str} {P : Str → Prop} {R : Prop} (h : z.length ≤ sizeLine) (k : P z) : (∃ y : Str, V.str z = .str y ∧ y.length ≤ sizeLine ∧ P y) ∨ R := .inl ⟨z, rfl, h, k⟩
theorem r_fI {i : Int} {P : Str → Prop} {R : Prop} (h : i.natAbs.log2 < 1920) (k : P (toString i)) : R ∨ (∃ j : Int, V.int i = .int j ∧ j.natAbs.log2 < 1920 ∧ P (toString j)) := .inr ⟨i, rfl, h, k⟩
def tJoined (ts : List TE) : TE := fun σ H Q => tJs ts Str.empty σ H fun out H1 => Q (.str out) H1
theorem pe_joinedN {v1 v2 : Expr} {rest : List Expr} {ts : List TE} {pos : Pos} (h : PJ X (v1 :: v2 :: rest) ts) : PE X (.JoinedStr (v1 :: v2 :: rest) pos) (tJoined ts) := pe_joined h
theorem r_joined {ts : List TE} (h : tJs ts Str.empty σ H fun out H1 => Q (.str out) H1) : tJoined ts σ H Q := h
theorem r_js0 {acc : Str} {R : Str → Hp → Prop} (h : R acc H) : tJs [] acc σ H R := h
theorem r_js1 {t : TE} {ts : List TE} {acc : Str} {R : Str → Hp → Prop} (h : t σ H fun x H1 => ∃ y : Str, x = .str y ∧ (acc ++ y).length ≤ sizeLine ∧ tJs ts (acc ++ y) σ H1 R) : tJs (t :: ts) acc σ H R := h
theorem r_jsS {z acc : Str} {P : Str → Prop} (h : (acc ++ z).length ≤ sizeLine) (k : P z) : ∃ y : Str, V.str z = .str y ∧ (acc ++ y).length ≤ sizeLine ∧ P y := ⟨z, rfl, h, k⟩
end
/-! lists that are gathered -/
structure Kp (P : Hp → V → Prop) : Prop where
  sm : ∀ {H H' : Hp} {x : V}, Sm H H' → P H x → P H' x
  up : ∀ {H : Hp} {A : Addr} {xs : List V} {o : HO} {x : V}, H A = some (.lst xs) → P H x → P (upd H A o) x
theorem Kp.add {P : Hp → V → Prop} (kp : Kp P) {Hi H4 : Hp} {A : Addr} {xs : List V} {y : V} (hA : Hi A = some (.lst xs)) (all : ∀ x ∈ xs, P Hi x) (s : Sm Hi H4) (py : P H4 y) :
    ∀ x ∈ xs ++ [y], P (upd H4 A (.lst (xs ++ [y]))) x := by
  intro x hx
  refine kp.up (s.to _ _ hA) ?_
  rcases List.mem_append.mp hx with hx | hx
  · exact kp.sm s (all x hx)
  · rw [List.mem_singleton.mp hx]
    exact py
theorem cat_mem {xs : List V} {lo hi : Option Int} {x : V} (h : x ∈ xs ++ cutV xs lo hi) : x ∈ xs := by
  rcases List.mem_append.mp h with h | h
  · exact h
  · exact cutV_mem h
theorem cat_len {xs : List V} {lo hi : Option Int} {n : Nat} (h : xs.length ≤ n) (hn : n ≤ 500000) : xs.length + (cutV xs lo hi).length ≤ sizeLine := by
  have := cutV_le xs lo hi
  exact len_le (by omega)
/-- a tuple with such items -/
def TupAt (F : List V → Prop) : Hp → V → Prop := fun H x => ∃ t vs, x = .ref t ∧ H t = some (.tup vs) ∧ F vs
theorem kp_tup (F : List V → Prop) : Kp (TupAt F) := by
  refine ⟨fun s h => ?_, fun hA h => ?_⟩
  · obtain ⟨t, vs, rfl, e, f⟩ := h
    exact ⟨t, vs, rfl, s.to _ _ e, f⟩
  · obtain ⟨t, vs, rfl, e, f⟩ := h
    refine ⟨t, vs, rfl, ?_, f⟩
    rw [upd_ne (ne_of e hA (by intro z; cases z))]
    exact e
/-- values alone -/
def ValAt (F : V → Prop) : Hp → V → Prop := fun _ x => F x
theorem kp_val (F : V → Prop) : Kp (ValAt F) := ⟨fun _ h => h, fun _ h => h⟩
theorem len_lt {n : Nat} (h : n ≤ 900000) : n < sizeLine := by
  have hl : (1000000 : Nat) ≤ sizeLine := by rw [sizeLine_eq]; decide
  omega
theorem cat1 (c : Nat) (l : List Nat) : (⟨#[c]⟩ : Str) ++ SX.S l = SX.S (c :: l) := SX.S_cat [c] l
theorem cat2 (c : Nat) (l : List Nat) : SX.S l ++ (⟨#[c]⟩ : Str) = SX.S (l ++ [c]) := SX.S_cat l [c]
theorem rep48 (n : Nat) (s : Str) (h : s.cps.toList = [48]) : (⟨((List.replicate n s.cps.toList).flatten).toArray⟩ : Str) = SX.S (List.replicate n 48) := by
  rw [h]
  have e : ∀ n : Nat, (List.replicate n [48]).flatten = List.replicate n 48 := fun n => by
    induction n with
    | zero => rfl
    | succ n ih => rw [List.replicate_succ, List.flatten_cons, ih]; rfl
  rw [e]
end RV

namespace RV
/-! bits of whole numbers, by halves -/
theorem and_par (a b : Nat) : (a &&& b) % 2 = a % 2 * (b % 2) := by
  have h := Nat.testBit_and a b 0
  rw [Nat.testBit_zero, Nat.testBit_zero, Nat.testBit_zero] at h
  have ha : a % 2 = 0 ∨ a % 2 = 1 := by omega
  have hb : b % 2 = 0 ∨ b % 2 = 1 := by omega
  have hc : (a &&& b) % 2 = 0 ∨ (a &&& b) % 2 = 1 := by omega
  rcases ha with ha | ha <;> rcases hb with hb | hb <;> rcases hc with hc | hc <;> simp_all
theorem and_half (a b : Nat) : (a &&& b) / 2 = (a / 2) &&& (b / 2) := Nat.and_div_two
/-- what the one has and the other has not -/
def out (a b : Nat) : Nat := a - (a &&& b)
theorem out_le (a b : Nat) : out a b ≤ a := Nat.sub_le _ _
theorem out_half (a b : Nat) : out a b / 2 = out (a / 2) (b / 2) ∧ out a b % 2 = a % 2 * (1 - b % 2) := by
  unfold out
  have h1 := and_half a b
  have h2 := and_par a b
  have h3 : (a &&& b) ≤ a := Nat.and_le_left
  have h4 : (a / 2 &&& b / 2) ≤ a / 2 := Nat.and_le_left
  have ha : a % 2 = 0 ∨ a % 2 = 1 := by omega
  have hb : b % 2 = 0 ∨ b % 2 = 1 := by omega
  generalize a &&& b = c at *
  generalize a / 2 &&& b / 2 = d at *
  rcases ha with ha | ha <;> rcases hb with hb | hb <;> rw [ha, hb] at h2 ⊢ <;> simp only [Nat.mul_zero, Nat.zero_mul, Nat.mul_one, Nat.one_mul, Nat.sub_zero, Nat.sub_self] at h2 ⊢ <;> constructor <;> omega
/-- how many bits are 1 -/
def pop (n : Nat) : Nat := if h : n = 0 then 0 else n % 2 + pop (n / 2)
termination_by n
decreasing_by omega
theorem pop_zero : pop 0 = 0 := by unfold pop; rfl
theorem pop_eq (n : Nat) : pop n = n % 2 + pop (n / 2) := by
  by_cases h : n = 0
  · subst h
    rw [pop_zero]
  · rw [pop, dif_neg h]
/-- where the ones stand, from a place on -/
def onesAt (n k : Nat) : List Nat := if h : n = 0 then [] else (if n % 2 = 1 then [k] else []) ++ onesAt (n / 2) (k + 1)
termination_by n
decreasing_by omega
theorem onesAt_zero (k : Nat) : onesAt 0 k = [] := by unfold onesAt; rfl
theorem onesAt_eq (n k : Nat) : onesAt n k = (if n % 2 = 1 then [k] else []) ++ onesAt (n / 2) (k + 1) := by
  by_cases h : n = 0
  · subst h
    simp [onesAt_zero]
  · rw [onesAt, dif_neg h]
theorem onesAt_len (n : Nat) : ∀ k, (onesAt n k).length = pop n := by
  induction n using Nat.strongRecOn with
  | _ n ih =>
    intro k
    by_cases h : n = 0
    · subst h
      rw [onesAt_zero, pop_zero]
      rfl
    · rw [onesAt_eq, pop_eq, List.length_append, ih (n / 2) (by omega)]
      split <;> simp only [List.length_cons, List.length_nil] <;> omega
theorem onesAt_mem (n : Nat) : ∀ k p, p ∈ onesAt n k ↔ k ≤ p ∧ n.testBit (p - k) = true := by
  induction n using Nat.strongRecOn with
  | _ n ih =>
    intro k p
    by_cases h : n = 0
    · subst h
      rw [onesAt_zero]
      simp
    · rw [onesAt_eq, List.mem_append, ih (n / 2) (by omega)]
      by_cases hp : p = k
      · subst hp
        rw [Nat.sub_self, Nat.testBit_zero]
        by_cases h1 : n % 2 = 1
        · simp [h1]
        · simp only [h1, if_false, List.not_mem_nil, false_or, decide_false]
          constructor
          · rintro ⟨h2, _⟩
            omega
          · rintro ⟨_, h2⟩
            exact absurd h2 Bool.false_ne_true
      · have e : p ∈ (if n % 2 = 1 then [k] else []) ↔ False := by
          split <;> simp [hp]
        rw [e, false_or]
        constructor
        · rintro ⟨h1, h2⟩
          refine ⟨by omega, ?_⟩
          have e2 : p - k = (p - (k + 1)) + 1 := by omega
          rw [e2, Nat.testBit_succ]
          exact h2
        · rintro ⟨h1, h2⟩
          refine ⟨by omega, ?_⟩
          have e2 : p - k = (p - (k + 1)) + 1 := by omega
          rw [e2, Nat.testBit_succ] at h2
          exact h2
/-- the ones that the other has not: how many, and what they come to -/
theorem lone_len (n : Nat) : ∀ m k (M : Nat), (∀ j, M.testBit (j + k) = m.testBit j) → ((onesAt n k).filter fun p => !M.testBit p).length = pop (out n m) := by
  induction n using Nat.strongRecOn with
  | _ n ih =>
    intro m k M hM
    by_cases h : n = 0
    · subst h
      have e : out 0 m = 0 := Nat.le_zero.mp (out_le 0 m)
      rw [onesAt_zero, e, pop_zero]
      rfl
    · have hM2 : ∀ j, M.testBit (j + (k + 1)) = (m / 2).testBit j := fun j => by
        rw [← Nat.testBit_succ, ← hM]
        congr 1
        all_goals omega
      rw [onesAt_eq, List.filter_append, List.length_append, ih (n / 2) (by omega) (m / 2) (k + 1) M hM2, pop_eq (out n m), (out_half n m).1, (out_half n m).2]
      congr 1
      have h0 := hM 0
      rw [Nat.zero_add, Nat.testBit_zero] at h0
      have hb : m % 2 = 0 ∨ m % 2 = 1 := by omega
      have ha : n % 2 = 0 ∨ n % 2 = 1 := by omega
      rcases ha with ha | ha <;> rcases hb with hb | hb <;> simp [ha, hb, h0]
theorem lone_sum (n : Nat) : ∀ m k (M : Nat), (∀ j, M.testBit (j + k) = m.testBit j) → (((onesAt n k).filter fun p => !M.testBit p).map fun p => 2 ^ p).sum = 2 ^ k * out n m := by
  induction n using Nat.strongRecOn with
  | _ n ih =>
    intro m k M hM
    by_cases h : n = 0
    · subst h
      have e : out 0 m = 0 := Nat.le_zero.mp (out_le 0 m)
      rw [onesAt_zero, e]
      rfl
    · have hM2 : ∀ j, M.testBit (j + (k + 1)) = (m / 2).testBit j := fun j => by
        rw [← Nat.testBit_succ, ← hM]
        congr 1
        all_goals omega
      rw [onesAt_eq, List.filter_append, List.map_append, List.sum_append, ih (n / 2) (by omega) (m / 2) (k + 1) M hM2]
      have h0 := hM 0
      rw [Nat.zero_add, Nat.testBit_zero] at h0
      obtain ⟨o1, o2⟩ := out_half n m
      have e : out n m = 2 * out (n / 2) (m / 2) + n % 2 * (1 - m % 2) := by omega
      rw [e, Nat.mul_add, Nat.pow_succ, Nat.mul_assoc, Nat.add_comm]
      congr 1
      have hb : m % 2 = 0 ∨ m % 2 = 1 := by omega
      have ha : n % 2 = 0 ∨ n % 2 = 1 := by omega
      rcases ha with ha | ha <;> rcases hb with hb | hb <;> simp [ha, hb, h0]
theorem out_and (a b : Nat) : out a b &&& a = out a b := by
  induction a using Nat.strongRecOn generalizing b with
  | _ a ih =>
    by_cases h : a = 0
    · subst h
      have e : out 0 b = 0 := Nat.le_zero.mp (out_le 0 b)
      rw [e]
      rfl
    · have h1 := and_half (out a b) a
      have h2 := and_par (out a b) a
      obtain ⟨o1, o2⟩ := out_half a b
      rw [o1, ih (a / 2) (by omega)] at h1
      have ha : a % 2 = 0 ∨ a % 2 = 1 := by omega
      have hb : b % 2 = 0 ∨ b % 2 = 1 := by omega
      generalize out a b &&& a = c at *
      generalize out (a / 2) (b / 2) = d at *
      generalize out a b = f at *
      rcases ha with ha | ha <;> rcases hb with hb | hb <;> rw [ha, hb] at o2 <;> rw [ha] at h2 <;> simp only [Nat.mul_zero, Nat.zero_mul, Nat.mul_one, Nat.one_mul, Nat.sub_zero, Nat.sub_self] at o2 h2 <;> omega
theorem out_zero {a b : Nat} (h : a &&& b = a) : out a b = 0 := by unfold out; rw [h]; omega
theorem out_self_zero {a b : Nat} : out a b = 0 ↔ pop (out a b) = 0 := by
  constructor
  · intro h; rw [h, pop_zero]
  · intro h
    generalize out a b = n at h
    induction n using Nat.strongRecOn with
    | _ n ih =>
      by_cases h0 : n = 0
      · exact h0
      · rw [pop_eq] at h
        have := ih (n / 2) (by omega) (by omega)
        omega
/-- the bits as signs, the greatest first -/
def bin (n : Nat) : List Nat := if h : n < 2 then [48 + n] else bin (n / 2) ++ [48 + n % 2]
termination_by n
decreasing_by omega
theorem bin_small {n : Nat} (h : n < 2) : bin n = [48 + n] := by rw [bin, dif_pos h]
theorem bin_big {n : Nat} (h : 2 ≤ n) : bin n = bin (n / 2) ++ [48 + n % 2] := by rw [bin, dif_neg (by omega)]
theorem dig_bit {d : Nat} (h : d < 2) : (Nat.digitChar d).toNat = 48 + d := by
  have : d = 0 ∨ d = 1 := by omega
  rcases this with rfl | rfl <;> rfl
theorem toDigits_bin (n : Nat) : (Nat.toDigits 2 n).map (fun c => c.toNat) = bin n := by
  induction n using Nat.strongRecOn with
  | _ n ih =>
    by_cases h : n < 2
    · rw [Nat.toDigits_of_lt_base h, bin_small h]
      show [(Nat.digitChar n).toNat] = _
      rw [dig_bit h]
    · rw [Nat.toDigits_of_base_le (by decide) (by omega), bin_big (by omega), List.map_append, ih (n / 2) (by omega)]
      show _ ++ [(Nat.digitChar (n % 2)).toNat] = _
      rw [dig_bit (by omega)]
theorem bin_in (n : Nat) : ∀ c ∈ bin n, c = 48 ∨ c = 49 := by
  induction n using Nat.strongRecOn with
  | _ n ih =>
    intro c hc
    by_cases h : n < 2
    · rw [bin_small h, List.mem_singleton] at hc
      omega
    · rw [bin_big (by omega), List.mem_append, List.mem_singleton] at hc
      rcases hc with hc | hc
      · exact ih (n / 2) (by omega) c hc
      · omega
theorem bin_ne (n : Nat) : bin n ≠ [] := by
  by_cases h : n < 2
  · rw [bin_small h]; simp
  · rw [bin_big (by omega)]; simp
theorem bin_len (n : Nat) : ∀ k, n < 2 ^ (k + 1) → (bin n).length ≤ k + 1 := by
  induction n using Nat.strongRecOn with
  | _ n ih =>
    intro k hk
    by_cases h : n < 2
    · rw [bin_small h]
      simp
    · rw [bin_big (by omega), List.length_append]
      cases k with
      | zero => rw [Nat.zero_add, Nat.pow_one] at hk; omega
      | succ k =>
        rw [Nat.pow_succ] at hk
        have := ih (n / 2) (by omega) k (by omega)
        simp only [List.length_cons, List.length_nil]
        omega
theorem bin_count (n : Nat) : (bin n).count 49 = pop n := by
  induction n using Nat.strongRecOn with
  | _ n ih =>
    by_cases h : n < 2
    · rw [bin_small h]
      have : n = 0 ∨ n = 1 := by omega
      rcases this with rfl | rfl
      · rw [pop_zero]; rfl
      · rw [pop_eq]
        simp [pop_zero]
    · rw [bin_big (by omega), List.count_append, ih (n / 2) (by omega), pop_eq n]
      have : n % 2 = 0 ∨ n % 2 = 1 := by omega
      rcases this with e | e <;> rw [e] <;> simp <;> omega
/-- what signs of bits come to -/
def bitsNum (l : List Nat) : Nat := l.foldl (fun a c => a * 2 + (c - 48)) 0
theorem bitsNum_snoc (l : List Nat) (c : Nat) : bitsNum (l ++ [c]) = bitsNum l * 2 + (c - 48) := by
  unfold bitsNum
  rw [List.foldl_append]
  rfl
theorem bitsNum_bin (n : Nat) : bitsNum (bin n) = n := by
  induction n using Nat.strongRecOn with
  | _ n ih =>
    by_cases h : n < 2
    · rw [bin_small h]
      show 0 * 2 + (48 + n - 48) = n
      omega
    · rw [bin_big (by omega), bitsNum_snoc, ih (n / 2) (by omega)]
      omega
theorem bitsNum_zeros (k : Nat) (l : List Nat) : bitsNum (List.replicate k 48 ++ l) = bitsNum l := by
  induction k with
  | zero => rfl
  | succ k ih =>
    rw [List.replicate_succ, List.cons_append]
    show bitsNum (List.replicate k 48 ++ l) = _
    exact ih
theorem pop_le {n k : Nat} (h : n < 2 ^ k) : pop n ≤ k + 1 := by
  have h3 : 2 ^ k ≤ 2 ^ (k + 1) := Nat.pow_le_pow_right (by decide) (by omega)
  have h1 := bin_len n k (by omega)
  have h2 := List.count_le_length (a := 49) (l := bin n)
  rw [bin_count] at h2
  omega
theorem bit_lt {n k p : Nat} (h : n < 2 ^ k) (hp : n.testBit p = true) : p < k := by
  rcases Nat.lt_or_ge p k with g | g
  · exact g
  · rw [Nat.testBit_lt_two_pow (Nat.lt_of_lt_of_le h (Nat.pow_le_pow_right (by decide) g))] at hp
    cases hp
/-- figures in a base that is a power of 2 -/
theorem and_fig (w : Nat) : ∀ x y r s : Nat, x < 2 ^ w → y < 2 ^ w → (x + 2 ^ w * r) &&& (y + 2 ^ w * s) = (x &&& y) + 2 ^ w * (r &&& s) := by
  induction w with
  | zero =>
    intro x y r s hx hy
    rw [Nat.pow_zero] at hx hy
    have : x = 0 := by omega
    have : y = 0 := by omega
    subst x
    subst y
    rw [Nat.pow_zero, Nat.zero_add, Nat.one_mul, Nat.zero_add, Nat.one_mul, Nat.one_mul]
    show _ = 0 + _
    rw [Nat.zero_add]
  | succ w ih =>
    intro x y r s hx hy
    rw [Nat.pow_succ] at hx hy
    have e : ∀ z t : Nat, (z + 2 ^ (w + 1) * t) / 2 = z / 2 + 2 ^ w * t ∧ (z + 2 ^ (w + 1) * t) % 2 = z % 2 := by
      intro z t
      rw [Nat.pow_succ, Nat.mul_right_comm]
      generalize 2 ^ w * t = u
      omega
    have h1 := and_half (x + 2 ^ (w + 1) * r) (y + 2 ^ (w + 1) * s)
    have h2 := and_par (x + 2 ^ (w + 1) * r) (y + 2 ^ (w + 1) * s)
    rw [(e x r).1, (e y s).1, ih _ _ _ _ (by omega) (by omega), ← and_half] at h1
    rw [(e x r).2, (e y s).2, ← and_par] at h2
    have e3 := e (x &&& y) (r &&& s)
    generalize x + 2 ^ (w + 1) * r &&& y + 2 ^ (w + 1) * s = c at *
    omega
end RV

/-! masks of ints, counts of signs, dicts made of pairs, equal lists of ints -/
namespace RV
open PySem PySem.Spec L2
open PyProof.Rows hiding St
theorem iand {a b : Int} (ha : 0 ≤ a) (hb : 0 ≤ b) : Builtin.bitAnd a b = ((a.toNat &&& b.toNat : Nat) : Int) := bitAnd_pp ha hb
theorem iout {a b : Int} (ha : 0 ≤ a) (hb : 0 ≤ b) : Builtin.bitXor a (Builtin.bitAnd a b) = ((out a.toNat b.toNat : Nat) : Int) := by
  rw [bitXor_and, iand ha hb, iand ha (Int.natCast_nonneg _), Int.toNat_natCast]
  have e : a.toNat &&& (a.toNat &&& b.toNat) = a.toNat &&& b.toNat := by rw [← Nat.and_assoc, Nat.and_self]
  rw [e]
  unfold out
  have := Nat.and_le_left (n := a.toNat) (m := b.toNat)
  omega
theorem iand_le {a b : Int} (ha : 0 ≤ a) (hb : 0 ≤ b) : 0 ≤ Builtin.bitAnd a b ∧ Builtin.bitAnd a b ≤ a ∧ Builtin.bitAnd a b ≤ b := by
  rw [iand ha hb]
  have := Nat.and_le_left (n := a.toNat) (m := b.toNat)
  have := Nat.and_le_right (n := a.toNat) (m := b.toNat)
  omega
theorem ior_le {a b : Int} (ha : 0 ≤ a) (hb : 0 ≤ b) : 0 ≤ Builtin.bitOr a b ∧ Builtin.bitOr a b ≤ a + b := by
  have h := iand_le ha hb
  rw [bitOr_and]
  omega
theorem bits_le {x : Int} {k : Nat} (h0 : 0 ≤ x) (h : x < 2 ^ k) : Builtin.Int.intBits x ≤ k := by
  refine PySem.intBits_le_iff.mpr ?_
  have e : ((2 ^ k : Nat) : Int) = (2 : Int) ^ k := by rw [Int.natCast_pow]; rfl
  have h2 : x.toNat < 2 ^ k := Int.ofNat_lt.mp (by rw [e, Int.toNat_of_nonneg h0]; exact h)
  have h3 : x.natAbs = x.toNat := by omega
  omega
theorem cnt49 : ∀ l : List Nat, cnt 49 l = ((l.count 49 : Nat) : Int)
  | [] => rfl
  | c :: l => by
    rw [cnt_cons, cnt49 l, List.count_cons]
    by_cases h : c = 49
    · subst h
      simp
      omega
    · simp [h]
theorem count_bin (n : Nat) : Txt.count (SX.S (bin n)) (Str.ofString "1") = ((pop n : Nat) : Int) := by
  have e : (Str.ofString "1") = (⟨#[49]⟩ : Str) := by decide +kernel
  rw [e]
  have h := count_is (SX.S (bin n)) 49
  have h2 : countIn (.str ⟨#[49]⟩) ((SX.S (bin n)).cps.toList.map fun n => PyData.str ⟨#[n]⟩) = cnt 49 (bin n) := rfl
  rw [h, h2, cnt49, bin_count]
/-- a dict made of numbers -/
theorem merge_some (n : Int) (v : V) : ∀ (l : List Int) (kvs : List (Key × V)), (valV (mergeK kvs (l.map fun x => ((Sum.inl x : Key), v))) (Sum.inl n : Key)).isSome = ((valV kvs (Sum.inl n : Key)).isSome || decide (n ∈ l))
  | [], kvs => by
    show (valV kvs (Sum.inl n : Key)).isSome = _
    simp
  | x :: l, kvs => by
    show (valV (mergeK (putK kvs (Sum.inl x : Key) v) (l.map fun x => ((Sum.inl x : Key), v))) (Sum.inl n : Key)).isSome = _
    rw [merge_some n v l, valV_put]
    by_cases h : n = x
    · subst h
      simp
    · have h2 : ¬ ((Sum.inl n : Key) = Sum.inl x) := fun z => h (Sum.inl.inj z)
      rw [if_neg h2]
      simp [h]
theorem eqv_lists : ∀ ns ms : List Int, PyData.eqvAll (ns.map PyData.int) (ms.map PyData.int) = decide (ns = ms)
  | [], [] => rfl
  | [], _ :: _ => rfl
  | _ :: _, [] => rfl
  | n :: ns, m :: ms => by
    show ((n == m) && PyData.eqvAll (ns.map PyData.int) (ms.map PyData.int)) = _
    rw [eqv_lists ns ms]
    by_cases h : n = m
    · subst h
      by_cases h2 : ns = ms
      · subst h2
        simp
      · simp [h2]
    · simp [h]
section
variable {H : Hp} {Q : VK} {K : PySem.W.Frag}
/-- two lists of ints -/
theorem r_eqLI {a b : Addr} {ns ms : List Int} (ha : SqL K H a (ns.map V.int)) (hb : SqL K H b (ms.map V.int)) (k : Q (.bl (decide (ns = ms))) H) : rEqA K (.ref a) (.ref b) H Q := r_eqD (dp_ints ha) (dp_ints hb) (shaped_ints ns) (shaped_ints ms) (by
  have e : PyData.eqv (.list (ns.map PyData.int)) (.list (ms.map PyData.int)) = decide (ns = ms) := eqv_lists ns ms
  rw [e]
  exact k)
theorem r_neLI {a b : Addr} {ns ms : List Int} (ha : SqL K H a (ns.map V.int)) (hb : SqL K H b (ms.map V.int)) (k : Q (.bl (!decide (ns = ms))) H) : rNeA K (.ref a) (.ref b) H Q := r_neD (dp_ints ha) (dp_ints hb) (shaped_ints ns) (shaped_ints ms) (by
  have e : PyData.eqv (.list (ns.map PyData.int)) (.list (ms.map PyData.int)) = decide (ns = ms) := eqv_lists ns ms
  rw [e]
  exact k)
theorem r_sum {a : Addr} {ns : List Int} (h : SqL K H a (ns.map V.int)) (k : Q (.int ns.sum) H) : rSum K [.ref a] H Q := ⟨a, ns, rfl, h, k⟩
theorem r_dnotin {σ : St} {ty td : TE} (h : ty σ H fun y H1 => td σ H1 fun x H2 => ∃ a o, x = .ref a ∧ DGet H2 a y o ∧ Q (.bl (!o.isSome)) H2) : tDNotIn ty td σ H Q := h
theorem r_din {σ : St} {ty td : TE} (h : ty σ H fun y H1 => td σ H1 fun x H2 => ∃ a o, x = .ref a ∧ DGet H2 a y o ∧ Q (.bl o.isSome) H2) : tDIn ty td σ H Q := h
theorem r_dgetI {d : Addr} {kvs : List (Key × V)} {n : Int} {P : Option V → Prop} (h : H d = some (.dK kvs)) (k : P (valV kvs (Sum.inl n : Key))) : ∃ a o, V.ref d = .ref a ∧ DGet H a (.int n) o ∧ P o := ⟨d, _, rfl, DGet.k (k := Sum.inl n) h, k⟩
theorem r_dgetS {d : Addr} {kvs : List (Key × V)} {n : Str} {P : Option V → Prop} (h : H d = some (.dK kvs)) (k : P (valV kvs (Sum.inr n : Key))) : ∃ a o, V.ref d = .ref a ∧ DGet H a (.str n) o ∧ P o := ⟨d, _, rfl, DGet.k (k := Sum.inr n) h, k⟩
def rDictP (K : PySem.W.Frag) : List V → Hp → VK → Prop := fun xs H Q => ∃ (a : Addr) (ps : List Addr) (kvs : List (Key × V)), xs = [.ref a] ∧ SqL K H a (ps.map V.ref) ∧ Paired (fun p kv => SqT K H p [kV kv.1, kv.2]) ps kvs ∧ ∀ p, H p = none → Q (.ref p) (upd H p (.dK (mergeK [] kvs)))
theorem dict_k {X : Cx} (e : X.K = K) (hc : X.calm = true) : CallR X (.type "dict") (rDictP K) := e ▸ call_dictP hc
/-- dict(pairs), the pairs numbers with one value -/
theorem r_dictP {a : Addr} {ps : List Addr} {l : List Int} {v : V} (h : SqL K H a (ps.map V.ref)) (hp : Paired (fun p kv => SqT K H p [kV kv.1, kv.2]) ps (l.map fun x => ((Sum.inl x : Key), v)))
    (k : ∀ p, H p = none → Q (.ref p) (upd H p (.dK (mergeK [] (l.map fun x => ((Sum.inl x : Key), v)))))) : rDictP K [.ref a] H Q := ⟨a, ps, _, rfl, h, hp, k⟩
theorem r_bits {σ : St} {to : TE} (h : to σ H fun x H1 => ∃ i, x = .int i ∧ Q (.int (Builtin.Int.intBits i : Nat)) H1) : tBits to σ H Q := h
end
theorem nat_lt {i : Int} {k : Nat} (h0 : 0 ≤ i) (h : i < 2 ^ k) : i.toNat < 2 ^ k := by
  have e : ((2 ^ k : Nat) : Int) = (2 : Int) ^ k := by rw [Int.natCast_pow]; rfl
  exact Int.ofNat_lt.mp (by rw [e, Int.toNat_of_nonneg h0]; exact h)
theorem sum_cast : ∀ l : List Nat, (l.map fun p => (1 * 2 ^ ((p : Nat) : Int).toNat : Int)).sum = (((l.map fun p => 2 ^ p).sum : Nat) : Int)
  | [] => rfl
  | p :: l => by
    rw [List.map_cons, List.sum_cons, sum_cast l, List.map_cons, List.sum_cons, Int.natCast_add, Int.natCast_pow, Int.one_mul, Int.toNat_natCast]
    rfl
theorem mem_cast {l : List Nat} {p : Nat} : ((p : Nat) : Int) ∈ l.map (fun q => ((q : Nat) : Int)) ↔ p ∈ l := by
  rw [List.mem_map]
  constructor
  · rintro ⟨q, hq, e⟩
    have : q = p := by omega
    exact this ▸ hq
  · intro h
    exact ⟨p, h, rfl⟩
end RV

/-! promises of defs that show lists and tuples (repr): kept where nothing is being shown -/
namespace RV
open PySem PySem.Spec L2
open PyProof.Rows hiding St
section
variable {P : Program} {w : World} {K : PySem.W.Frag} {mg : Str → Option Value} {base : Heap} {CX : CXT} {k : Nat} {f : Addr} {fd : FuncData} {ps N : List Str} {sp : Sp}
structure FnG (P : Program) (w : World) (K : PySem.W.Frag) (mg : Str → Option Value) (base : Heap) (CX : CXT) (k : Nat) (f : Addr) (fd : FuncData) (ps : List Str) (sp : Sp) : Prop where
  many : ∀ vs H Q E, sp vs H Q E → vs.length = ps.length
  go : ∀ (A : Around) (outer : List Env) (s : Shared) (H : Hp) (args : Args) (us : List Value) (vs : List V) (Q : VK) (E : XK), A.guards = some [] → Room k A → Env0 P w K mg base A outer s H → BindsTo s fd args (ps.zip us) → Vals vs us → sp vs H Q E →
    codeAny (model P w) A (.call (.ref f) args) (CR CX outer P w H s Q E) s
theorem deeper_guards {A : Around} {env : Env} (h : A.guards = some []) : (A.deeper env).guards = some [] := by
  first
    | exact h
    | simpa [Around.deeper] using h
/-- one entry of a def, by its body -/
theorem entered {name qual : Str} {params : Arguments} {body : List Stmt} {scope : Scope} {dV kV doc pm cdv ct oc : Value} {an od : Option Addr} {osl : Array (Option Value)} {A : Around} {outer : List Env} {s : Shared} {H : Hp} {args : Args} {us : List Value} {vs : List V} {Q : VK} {E : XK}
    (there : K.lookup f = some ⟨oc, od, .func (PySem.W.fnOf name qual params body scope dV kV doc pm an cdv ct), osl⟩) (code : PySem.W.codeIn K cdv qual = true) (S : FnScope N ps scope) (hl : vs.length = ps.length)
    (hr : Room (k + 1) A) (e0 : Env0 P w K mg base A outer s H) (hb : BindsTo s (PySem.W.fnOf name qual params body scope dV kV doc pm an cdv ct) args (ps.zip us)) (r : Vals vs us)
    (t : TS) (ht : PSs (cxOf CX P w K mg base N qual scope f cdv A outer s H E) body t) (hq : t { nx := fun _ H' => Q .non H', rt := Q } (start N vs) H) :
    codeAny (model P w) A (.call (.ref f) args) (CR CX outer P w H s Q E) s := by
  have inK : K.In s.heap := e0.mod.kin.keeps fun b o e => (e0.bs b o e).1
  have free : s.heap.NoLimit := e0.mod.nolimit.keeps fun b o e => (e0.bs b o e).1
  have kinds : ∀ y ∈ ps.zip us, scope.names.lookup y.1 = some .local ∨ (scope.names.lookup y.1 = some .cell ∧ ((cellsFrom (s.heap.objs.size + 1) scope.names []).lookup y.1).isSome = true) := fun y hy =>
    (S.par y.1 (List.of_mem_zip (show (y.1, y.2) ∈ ps.zip us from hy)).1).imp _root_.id fun q => ⟨q, PySem.W.cellsFrom_some _ _ _ (.inl q)⟩
  refine codeAny_call_function hr.depth (inK _ _ there) rfl S.co S.gen rfl (PySem.W.codeRec_of inK code) (hb _ _ _ _ ?_)
  refine wpAny_newFunctionEnv_cells S.kind kinds fun env he s1 x => ?_
  subst he
  refine ⟨free.keeps x.toInCall.keep, codeAny_func ?_⟩
  refine wpAny_mono (ht.run [] s1 (start N vs) H _ (inv_start S hr.hd e0 hl r x) hq) (fun fl s' hs => ?_) fun e s' hs => hs
  cases fl with
  | ret u =>
    obtain ⟨v, σ', H', J, rv, q⟩ := hs
    exact ⟨v, H', J.os, J.bare, J.base, J.hok, rv, q⟩
  | next =>
    obtain ⟨σ', H', J, q⟩ := hs
    exact ⟨.non, H', J.os, J.bare, J.base, J.hok, rfl, q⟩
  | brk => exact hs.elim fun _ z => z.elim fun _ z => z.2.elim
  | cont => exact hs.elim fun _ z => z.elim fun _ z => z.2.elim
theorem okG {x qual : Str} {st : Stmt} (F : Fun K x qual st f fd) (S : FnScope N ps (defScope st)) (many : ∀ vs H Q E, sp vs H Q E → vs.length = ps.length)
    (hbody : ∀ (cdv : Value) (A : Around) (outer : List Env) (s : Shared) (H : Hp) (vs : List V) (Q : VK) (E : XK), Room k (A.deeper (envOfC qual (defScope st) s.heap.objs.size f cdv)) → (A.deeper (envOfC qual (defScope st) s.heap.objs.size f cdv)).guards = some [] → sp vs H Q E →
      ∃ t, PSs (cxOf CX0 P w K mg base N qual (defScope st) f cdv A outer s H E).nox (defBody st) t ∧ t { nx := fun _ H' => Q .non H', rt := Q } (start N vs) H) : FnG P w K mg base CX0 (k + 1) f fd ps sp := by
  obtain ⟨oc, od, kV, doc, pm, an, cdv, ct, osl, rfl, lk, hcd⟩ := F.ex
  refine ⟨many, fun A outer s H args us vs Q E hg hr e0 hb r hsp => ?_⟩
  obtain ⟨t, h, q⟩ := hbody cdv A outer s H vs Q E (hr.deeper _) (deeper_guards hg) hsp
  exact entered lk hcd S (many _ _ _ _ hsp) hr e0 hb r t h.nox q
end
section
variable {X : Cx} {CX : CXT} {k : Nat} {f : Addr} {fd : FuncData} {ps : List Str} {sp : Sp} {E : XK} {x : Str} {p pos : Pos} {e : Expr} {es : List Expr} {t : TA} {K : PySem.W.Frag}
/-- f(a, ..) of such a def -/
theorem pe_callG (F : FnG X.prog X.w X.K X.mg X.base CX k f fd ps sp) (hg0 : X.A.guards = some []) (hr : Room k X.A) (hg : Gl X x) (hm : X.mg x = some (.ref f)) (hk : PySem.W.keepIn X.K (.ref f) = true) (hb : Binds X.K fd ps []) (hx : Passes CX X E)
    (ha : PA X (e :: es) t) (hdb : (x == ("__debug__" : Str)) = false := by decide) (he : starEach (e :: es) X.env = (false, eval e X.env) :: starEach es X.env := by rfl) (hpl : (backTo pos (starEach es X.env)).any (·.1) = false := by rfl) :
    PE X (.Call (.Name x p) (e :: es) [] pos) (tCall sp [] E t) := by
  refine ⟨fun pins s σ H Q I h => wpAny_Call_Name_kw (ld_glob I hg hm ?_ hdb)⟩
  refine PySem.W.callWith_K (h₀ := X.base) I.ok.mod.kin hk (thn (ha.run pos pins s σ H _ I h) fun us s1 ⟨vs, H1, I1, r, q⟩ => ⟨I1.kIn, ?_⟩) he hpl
  have r2 : Vals (vs ++ []) (us ++ []) := r.append .nil
  refine wpAny_call (codeAny_mono (F.go X.A X.stack s1 H1 ⟨us, []⟩ (us ++ []) (vs ++ []) Q E hg0 hr I1.env0 (hb s1 us I1.kIn (by rw [← r2.length]; exact F.many _ _ _ _ q)) r2 q) fun z s' hq => ?_)
  cases z with
  | error er => exact hx pins σ H1 s1 er s' I1 hq
  | ok fl =>
    cases fl with
    | ret u => exact I1.after hq
    | next => exact hq.elim
    | brk => exact hq.elim
    | cont => exact hq.elim
/-! repr of data -/
def rReprD (K : PySem.W.Frag) : List V → Hp → VK → Prop := fun xs H Q => ∃ (a : Addr) (d : PyData), xs = [.ref a] ∧ Dp K H (.ref a) d ∧ d.showable = true ∧ d.hasDict = false ∧ d.depth ≤ 20 ∧ d.shown.length ≤ sizeLine ∧ Q (.str d.shown) H
theorem repr_k (e : X.K = K) (hg : X.A.guards = some []) (hu : X.A.units + 64 < cLine) : CallR X (.builtin "repr") (rReprD K) := by
  intro pins s σ H xs us Q I r h
  obtain ⟨a, d, rfl, hd, h1, h2, h3, h4, q⟩ := h
  obtain ⟨u, rfl, ru⟩ := vals1 r
  subst e
  obtain ⟨as, hr⟩ := Dp.reads I d _ _ hd ru
  obtain rfl : u = Value.ref a := ru
  refine repr_of_reads' hr h1 (PyData.noDict_hsm h2) hg (by omega) (fun b o e => e) (fun h' u tk hk => ?_) h4
  exact ⟨.str d.shown, H, I.kept (t' := tk) hk, ⟨u, rfl⟩, q⟩
end
/-! the law's head for such a def -/
theorem headG {P : Program} {w : World} {K : PySem.W.Frag} {mg mb : Str → Option Value} {CX : CXT} {k : Nat} {fa a : Addr} {fd : FuncData} {x : Str} {sp : Sp} {s1 : Shared} {vs : List Value} {ns : List Int}
    (inK : K.In s1.heap) (gn : s1.heap.Ns mainGlobals mg) (bn : s1.heap.Ns builtinsNs mb) (bb : ∀ y : Str, y ≠ "__name__" → mb y = bootBuiltins y) (free : s1.heap.NoLimit) (g0 : s1.gens = #[])
    (at0 : s1.heap.get? a = some { cls := .type "list", data := .seq vs.toArray }) (nums : IntsAre vs ns) (short : ns.length ≤ sizeLine) (room : Room k callerA)
    (F : ∀ b : Heap, K.In b → b.Ns mainGlobals mg → FnG P w K mg b CX k fa fd [x] sp) (bind : ∀ (s : Shared) (u : Value), BindsTo s fd ⟨[u], []⟩ [(x, u)])
    (asked : ∀ H : Hp, Only H → SqL K H a (ns.map V.int) → sp [.ref a] H (fun v _ => v = .bl true) fun _ _ _ => False)
    (none_out : ∀ H e s', CX [] H s1 (fun _ _ _ => False) e s' → False) :
    codeAny (model P w) callerA (.call (.ref fa) ⟨[.ref a], []⟩) (fun r s' => r = .ok (.ret (.bool true)) ∧ OldK s1.heap s'.heap ∧ s'.os = s1.os ∧ AllBare s'.gens) s1 := by
  have rv := vals_ints nums
  have main : ∀ H : Hp, Only H → SqL K H a (ns.map V.int) → HOk P w H s1.heap → (∀ b u, H b = some u → b = a ∧ K.lookup a = none) →
      codeAny (model P w) callerA (.call (.ref fa) ⟨[.ref a], []⟩) (fun r s' => r = .ok (.ret (.bool true)) ∧ OldK s1.heap s'.heap ∧ s'.os = s1.os ∧ AllBare s'.gens) s1 := by
    intro H only sq hok lone
    have noDict : ∀ {b : Addr} {m : Str → Option Value}, s1.heap.Ns b m → (hidT s1.heap H).Ns b m := fun {b m} ⟨o, es, ep, e, d, z⟩ => ⟨o, es, ep, hidT_get e (by
      cases q : H b with
      | none => rfl
      | some u =>
        obtain ⟨rfl, _⟩ := lone b u q
        rw [at0] at e
        cases e
        cases d), d, z⟩
    have inB : K.In (hidT s1.heap H) := fun b o e => hidT_get (inK b o e) (by
      cases q : H b with
      | none => rfl
      | some u =>
        obtain ⟨rfl, z⟩ := lone b u q
        rw [z] at e
        cases e)
    have mod : Mod K mg (hidT s1.heap H) := ⟨inB, noDict gn, ⟨mb, noDict bn, bb⟩, free.elim fun mc z => ⟨mc, noDict z.1, z.2⟩⟩
    have e0 : Env0 P w K mg (hidT s1.heap H) callerA [] s1 H := ⟨rfl, mod, fun b o e => of_hidT e, Nat.le_of_eq (hidT_size _ _), trivial, (fun b hb => absurd (show b ∈ ([] : List Addr) from hb) List.not_mem_nil), hok, .of_eq g0⟩
    refine codeAny_mono ((F _ inB (noDict gn)).go callerA [] s1 H ⟨[.ref a], []⟩ [.ref a] [.ref a] _ _ rfl room e0 (bind s1 (.ref a)) (.cons rfl .nil) (asked H only sq)) fun r s' z => ?_
    cases r with
    | error e => exact (none_out H e s' z).elim
    | ok fl =>
      cases fl with
      | next => exact z.elim
      | brk => exact z.elim
      | cont => exact z.elim
      | ret u =>
        obtain ⟨v, H', os, bare, un, hok', r', q⟩ := z
        obtain rfl : v = V.bl true := q
        obtain rfl : u = Value.bool true := r'
        refine ⟨rfl, OldK.of_keep fun b o e => ?_, os, bare⟩
        cases q : H b with
        | none => exact un.keep b o e q (fun z => absurd (show b ∈ ([] : List Addr) from z) List.not_mem_nil) List.not_mem_nil
        | some u =>
          rcases only b with z | ⟨ob, xs, z⟩
          · rw [q] at z
            cases z
          · obtain ⟨e1, _⟩ := hok b _ z
            obtain ⟨e2, _⟩ := hok' b _ (un.frzs b ob _ z)
            rw [e] at e1
            cases e1
            exact e2
  cases own : K.lookup a with
  | some o =>
    have e := inK a o own
    rw [at0] at e
    cases e
    exact main (fun _ => none) (fun _ => .inl rfl) (.inr ⟨_, vs.toArray, _, own, rfl, rfl, rfl, by rw [List.size_toArray, nums.length]; exact short, by simpa using rv⟩) (fun b u z => nomatch (show (none : Option HO) = some u from z)) fun b u z => nomatch (show (none : Option HO) = some u from z)
  | none =>
    have tracked : ∀ b u, (fun c => if c = a then some (HO.frz { cls := .type "list", data := .seq vs.toArray } (.lst (ns.map V.int))) else none) b = some u → b = a ∧ u = HO.frz { cls := .type "list", data := .seq vs.toArray } (.lst (ns.map V.int)) := fun b u z => by
      by_cases hb : b = a
      · exact ⟨hb, (Option.some.inj ((if_pos hb).symm.trans z)).symm⟩
      · exact nomatch (if_neg hb).symm.trans z
    refine main (fun c => if c = a then some (.frz { cls := .type "list", data := .seq vs.toArray } (.lst (ns.map V.int))) else none) (fun b => ?_) (.inl (.inr ⟨_, if_pos rfl⟩)) (fun b u z => ?_) fun b u z => ⟨(tracked b u z).1, own⟩
    · by_cases hb : b = a
      · exact .inr ⟨_, _, if_pos hb⟩
      · exact .inl (if_neg hb)
    · obtain ⟨rfl, rfl⟩ := tracked b u z
      exact ⟨at0, by rw [List.length_map]; exact short, vs, _, rv, at0⟩
theorem walkG {l : PySem.W.OpenLaw} {n k : Nat} {q : Program} {loose : List Str} {XP : (Str → Option Value) → Heap → Prop} {YP : World → Heap → Prop} {d : DefRec} {K : Params → PySem.W.Frag} {CX : World → CXT} {sp : World → Sp} {x : Str}
    (hn : l.most = some n) (hn2 : n ≤ sizeLine) (hdf : d.params.defaults = []) (room : Room k callerA) (hY : ∀ (w : World) (h : Heap), YP w h → (K w.params).In h)
    (F : ∀ (w : World) (mg : Str → Option Value) (fa : Addr) (h : Heap), (K w.params).In h → h.Ns mainGlobals mg → mg d.name = some (.ref fa) →
      ∃ fd : FuncData, (∀ (s : Shared) (u : Value), BindsTo s fd ⟨[u], []⟩ [(x, u)]) ∧ ∀ b : Heap, (K w.params).In b → b.Ns mainGlobals mg → FnG l.prog w (K w.params) mg b (CX w) k fa fd [x] (sp w))
    (asked : ∀ (w : World) (H : Hp) (a : Addr) (ns : List Int), ns.length ≤ n → Only H → SqL (K w.params) H a (ns.map V.int) → sp w [.ref a] H (fun v _ => v = .bl true) fun _ _ _ => False)
    (none_out : ∀ (w : World) (H : Hp) (s : Shared) (e : Value) (s' : Shared), CX w [] H s (fun _ _ _ => False) e s' → False) :
    PySem.W.WalkO q loose XP YP l.row.toRowW d [] (fun f vs => PySem.call f vs) := by
  refine Att.attach_call hn hdf fun w s0 s1 mg mb fa o pm cd doc a vs ns G Y _ _ _ named obj nums len g0 => ?_
  have inK := hY w _ Y
  obtain ⟨fd, bind, got⟩ := F w mg fa _ inK G.T.g named
  exact headG inK G.T.g G.T.b G.T.builtins G.T.nolimit g0 obj nums (Nat.le_trans len hn2) room got bind (fun H only sq => asked w H a ns len only sq) fun H e s' => none_out w H s1 e s'
end RV
/-! repr of lists of numbers -/
namespace RV
open PySem PySem.Spec L2
open PyProof.Rows hiding St
theorem showable_ints : ∀ {ns : List Int}, (∀ n ∈ ns, n.natAbs < 2 ^ 64) → PyData.showableAll (ns.map PyData.int) = true
  | [], _ => by simp [PyData.showableAll]
  | n :: ns, h => by
    have h1 := h n List.mem_cons_self
    have h2 : n.natAbs.log2 < 1920 := by
      by_cases z : n.natAbs = 0
      · rw [z]; decide
      · exact Nat.lt_of_lt_of_le ((Nat.log2_lt z).mpr h1) (by decide)
    have h3 := showable_ints fun m hm => h m (List.mem_cons_of_mem _ hm)
    simp only [List.map_cons, PyData.showableAll, PyData.showable, h3, Bool.and_true, decide_eq_true_eq]
    exact h2
theorem noDict_ints (ns : List Int) : (PyData.list (ns.map PyData.int)).hasDict = false := PyData.hasDict_of_canLay _ (by simpa [PyData.canLay0] using lay_ints ns)
theorem sum_ints : ∀ {ns : List Int}, (∀ n ∈ ns, n.natAbs < 2 ^ 64) → ((PyData.shownAll (ns.map PyData.int)).map (·.length)).sum ≤ 65 * ns.length ∧ (PyData.shownAll (ns.map PyData.int)).length = ns.length
  | [], _ => by simp [PyData.shownAll]
  | n :: ns, h => by
    have h1 := h n List.mem_cons_self
    have h2 : n.natAbs.log2 < 64 := by
      by_cases z : n.natAbs = 0
      · rw [z]; decide
      · exact (Nat.log2_lt z).mpr h1
    have h3 := sum_ints fun m hm => h m (List.mem_cons_of_mem _ hm)
    have h4 := int_text_length_le (k := 64) (by decide) h2
    have h5 : (Str.ofString (toString n)).length ≤ 65 := by rw [PySem.ofString_length]; exact h4
    simp only [List.map_cons, PyData.shownAll, PyData.shown, List.sum_cons, List.length_cons]
    refine ⟨?_, by omega⟩
    have h6 : (Str.ofString (toString n)).length + ((PyData.shownAll (ns.map PyData.int)).map (·.length)).sum ≤ 65 * (ns.length + 1) := by omega
    exact h6
theorem shown_ints {ns : List Int} (h : ∀ n ∈ ns, n.natAbs < 2 ^ 64) (hl : ns.length ≤ 1000) : (PyData.list (ns.map PyData.int)).shown.length ≤ sizeLine := by
  have e := sum_ints h
  have e1 := listText_len_le (PyData.shownAll (ns.map PyData.int))
  have e2 : (PyData.list (ns.map PyData.int)).shown.length ≤ 65 * 1000 + 2 * 1000 + 3 := by
    simp only [PyData.shown]
    rw [e.2] at e1
    omega
  exact Nat.le_trans e2 (by rw [sizeLine_eq]; decide)
theorem r_reprL {K : PySem.W.Frag} {H : Hp} {Q : VK} {a : Addr} {ns : List Int} (h : SqL K H a (ns.map V.int)) (hn : ∀ n ∈ ns, n.natAbs < 2 ^ 64) (hl : ns.length ≤ 1000) (k : Q (.str (PyData.list (ns.map PyData.int)).shown) H) : rReprD K [.ref a] H Q :=
  ⟨a, _, rfl, dp_ints h, by simp only [PyData.showable]; exact showable_ints hn, noDict_ints ns, by
    have := deep_ints ns
    simp only [PyData.depth]
    omega, shown_ints hn hl, k⟩
section
variable {X : Cx} {pos : Pos} {K : PySem.W.Frag}
/-- a tuple of targets where the fragment is said by its name: goes in a comprehension's block -/
theorem pgT_k (e : X.K = K) {es : List Expr} {k : Nat} {t : TGs} {n : Nat} (hc : X.calm = true) (h : PGs X es t)
    (hn : (assignEach es X.env).length = n := by rfl) (hst : (assignEach es X.env).findIdx? (·.1) = none := by rfl) : PG X (.Tuple es k pos) (gTup K n t) := e ▸ pg_tup hc h hn hst
end
end RV

/-! repr of nested data and of None -/
namespace RV
open PySem PySem.Spec L2
open PyProof.Rows hiding St
def rReprN (K : PySem.W.Frag) : List V → Hp → VK → Prop := fun xs H Q => rReprD K xs H Q ∨ (xs = [.non] ∧ Q (.str (Str.ofString "None")) H)
theorem repr_n {X : Cx} {K : PySem.W.Frag} (e : X.K = K) (hg : X.A.guards = some []) (hu : X.A.units + 64 < cLine) : CallR X (.builtin "repr") (rReprN K) := by
  refine CallR.or (repr_k e hg hu) ?_
  intro pins s σ H xs us Q I r h
  obtain ⟨rfl, q⟩ := h
  obtain ⟨u, rfl, ru⟩ := vals1 r
  cases (show u = Value.none from ru)
  exact PySem.P.repr_of_none ⟨.str (Str.ofString "None"), H, I.tok _, ⟨_, rfl⟩, q⟩
/-- data that may be shown: at most so many signs, so deep -/
structure Shw (n k : Nat) (d : PyData) : Prop where
  s : d.showable = true
  h : d.hasDict = false
  dp : d.depth ≤ k
  l : d.shown.length ≤ n
theorem Shw.up {n m k j : Nat} {d : PyData} (x : Shw n k d) (h1 : n ≤ m) (h2 : k ≤ j) : Shw m j d := ⟨x.s, x.h, Nat.le_trans x.dp h2, Nat.le_trans x.l h1⟩
theorem shw_int {i : Int} (h : i.natAbs < 2 ^ 64) : Shw 66 0 (.int i) := by
  have h2 : i.natAbs.log2 < 64 := by
    by_cases z : i.natAbs = 0
    · rw [z]; decide
    · exact (Nat.log2_lt z).mpr h
  refine ⟨?_, by simp only [PyData.hasDict], by simp only [PyData.depth]; exact Nat.le_refl _, ?_⟩
  · simp only [PyData.showable]
    exact decide_eq_true (Nat.lt_of_lt_of_le h2 (by decide))
  · have h4 := int_text_length_le (k := 64) (by decide) h2
    have h5 : (Str.ofString (toString i)).length ≤ 65 := by rw [PySem.ofString_length]; exact h4
    simp only [PyData.shown]
    exact Nat.le_succ_of_le h5
theorem shw_str {x : Str} {n : Nat} (h : (reprText x).length ≤ n) : Shw n 0 (.str x) := ⟨by simp only [PyData.showable], by simp only [PyData.hasDict], by simp only [PyData.depth]; exact Nat.le_refl _, by simp only [PyData.shown]; exact h⟩
theorem shw_all {n k : Nat} : ∀ {ds : List PyData}, (∀ d ∈ ds, Shw n k d) → PyData.showableAll ds = true ∧ PyData.hasDictAll ds = false ∧ PyData.depthAll ds ≤ k ∧ ((PyData.shownAll ds).map (·.length)).sum ≤ n * ds.length ∧ (PyData.shownAll ds).length = ds.length
  | [], _ => by
    refine ⟨by simp only [PyData.showableAll], by simp only [PyData.hasDictAll], by simp only [PyData.depthAll]; exact Nat.zero_le _, by simp [PyData.shownAll], by simp [PyData.shownAll]⟩
  | d :: ds, h => by
    have h1 := h d (by simp)
    obtain ⟨a1, a2, a3, a4, a5⟩ := shw_all (ds := ds) fun e he => h e (by simp [he])
    refine ⟨?_, ?_, ?_, ?_, ?_⟩
    · simp only [PyData.showableAll, h1.s, a1, Bool.and_true]
    · simp only [PyData.hasDictAll, h1.h, a2, Bool.or_false]
    · simp only [PyData.depthAll]
      have := h1.dp
      omega
    · simp only [PyData.shownAll, List.map_cons, List.sum_cons, List.length_cons, Nat.mul_succ]
      have := h1.l
      omega
    · simp only [PyData.shownAll, List.length_cons, a5]
theorem shw_tup {n k : Nat} {ds : List PyData} (h : ∀ d ∈ ds, Shw n k d) : Shw (n * ds.length + 2 * ds.length + 3) (k + 1) (.tuple ds) := by
  obtain ⟨a1, a2, a3, a4, a5⟩ := shw_all h
  refine ⟨by simp only [PyData.showable]; exact a1, by simp only [PyData.hasDict]; exact a2, by simp only [PyData.depth]; omega, ?_⟩
  have e := tupleText_len_le (PyData.shownAll ds)
  simp only [PyData.shown]
  rw [a5] at e
  omega
theorem shw_lst {n k : Nat} {ds : List PyData} (h : ∀ d ∈ ds, Shw n k d) : Shw (n * ds.length + 2 * ds.length + 3) (k + 1) (.list ds) := by
  obtain ⟨a1, a2, a3, a4, a5⟩ := shw_all h
  refine ⟨by simp only [PyData.showable]; exact a1, by simp only [PyData.hasDict]; exact a2, by simp only [PyData.depth]; omega, ?_⟩
  have e := listText_len_le (PyData.shownAll ds)
  simp only [PyData.shown]
  rw [a5] at e
  omega
theorem r_reprX {K : PySem.W.Frag} {H : Hp} {Q : VK} {a : Addr} {d : PyData} {n k : Nat} (h : Dp K H (.ref a) d) (x : Shw n k d) (hn : n ≤ 900000) (hk : k ≤ 20) (q : Q (.str d.shown) H) : rReprN K [.ref a] H Q :=
  .inl ⟨a, d, rfl, h, x.s, x.h, Nat.le_trans x.dp hk, len_le (Nat.le_trans x.l (Nat.le_trans hn (by decide))), q⟩
theorem r_reprNone {K : PySem.W.Frag} {H : Hp} {Q : VK} (q : Q (.str (Str.ofString "None")) H) : rReprN K [.non] H Q := .inr ⟨rfl, q⟩
end RV

/-! objects of own classes: len, str, repr, truth, == by their own defs -/
namespace RV
open PySem PySem.Spec L2
open PyProof.Rows hiding St
section
variable {X : Cx} {CX : CXT} {k : Nat} {f C : Addr} {fd : FuncData} {ps : List Str} {sp : Sp} {E : XK} {pins : List (Addr × Obj)} {σ : St} {H : Hp} {s : Shared}
/-- a def called from inside a built-in -/
theorem run_in {A : Around} {Q : VK} {us : List Value} {vs : List V} (F : FnOk X.prog X.w X.K X.mg X.base CX k f fd ps sp) (hr : Room k A) (e0 : Env0 X.prog X.w X.K X.mg X.base A X.stack s H)
    (hb : Binds X.K fd ps []) (hx : Passes CX X E) (I : Inv X pins σ H s) (r : Vals vs us) (h : sp vs H Q E) : wpAny (model X.prog X.w) A (call (.ref f) us) (EP X pins σ Q) X.xe s := by
  have hl : us.length = ps.length := by rw [← r.length]; exact F.len _ _ _ _ h
  refine wpAny_call (codeAny_mono (F.run A X.stack s H ⟨us, []⟩ us vs Q E hr e0 (by
    have z := hb s us I.kIn (by rw [List.append_nil]; exact hl)
    rw [List.append_nil] at z
    exact z) r h) fun r s' hq => ?_)
  cases r with
  | error e => exact hx pins σ H s e s' I hq
  | ok fl =>
    cases fl with
    | ret u => exact I.after hq
    | next => exact False.elim hq
    | brk => exact False.elim hq
    | cont => exact False.elim hq
theorem ins_inst {a dx : Addr} {fs : List (Str × V)} (I : Inv X pins σ H s) (e : H a = some (.ins C dx fs)) : ∃ ox od, PySem.W.InstAt s.heap a ox C od := by
  obtain ⟨mA, O, _⟩ := ins_get I.hok e
  obtain ⟨od, J, _⟩ := O.look
  exact ⟨_, _, J⟩
def rLenOwn (C : Addr) (sp : Sp) (E : XK) : List V → Hp → VK → Prop := fun xs H Q => ∃ a dx fs, xs = [V.ref a] ∧ H a = some (.ins C dx fs) ∧ sp [.ref a] H (fun z H' => ∃ n : Int, z = .int n ∧ (0 ≤ n ∧ n < 2 ^ 63) ∧ Q z H') E
theorem call_lenOwn (hm : Meth X.K C "__len__" f) (F : FnOk X.prog X.w X.K X.mg X.base CX k f fd ps sp) (hr : Room (k + 2) X.A) (hb : Binds X.K fd ps []) (hx : Passes CX X E) : CallR X (.builtin "len") (rLenOwn C sp E) := by
  intro pins s σ H xs us Q I r h
  obtain ⟨a, dx, fs, rfl, e, q⟩ := h
  obtain ⟨u, rfl, ru⟩ := r.one
  cases (show u = Value.ref a from ru)
  obtain ⟨ox, od, J⟩ := ins_inst I e
  obtain ⟨m, hF⟩ := I.fr
  have hr1 : Room k X.A.in1 := (show Room (k + 1) X.A.in1 from Room.in1 hr).mono (Nat.le_succ _)
  refine PySem.W.len_K hF I.ok.mod.kin J hm.at_ hm.fn (wpAny_mono (run_in (us := [.ref a]) (vs := [.ref a]) F hr1 I.env0.in1 hb hx I (.cons rfl .nil) q) (fun w s' z => ?_) fun _ _ x => x)
  obtain ⟨z', H', I', rz, n, en, b, qz⟩ := z
  subst en
  obtain ⟨t, et⟩ := (show ∃ t, w = Value.int n t from rz)
  cases et
  exact ⟨b, .int n, H', I'.tok _, ⟨_, rfl⟩, qz⟩
def rStrOwn (C : Addr) (sp : Sp) (E : XK) : List V → Hp → VK → Prop := fun xs H Q => ∃ a dx fs, xs = [V.ref a] ∧ H a = some (.ins C dx fs) ∧ sp [.ref a] H (fun z H' => ∃ y : Str, z = .str y ∧ Q z H') E
theorem call_reprOwn (hm : Meth X.K C "__repr__" f) (F : FnOk X.prog X.w X.K X.mg X.base CX k f fd ps sp) (hr : Room (k + 2) X.A) (hb : Binds X.K fd ps []) (hx : Passes CX X E) : CallR X (.builtin "repr") (rStrOwn C sp E) := by
  intro pins s σ H xs us Q I r h
  obtain ⟨a, dx, fs, rfl, e, q⟩ := h
  obtain ⟨u, rfl, ru⟩ := r.one
  cases (show u = Value.ref a from ru)
  obtain ⟨ox, od, J⟩ := ins_inst I e
  obtain ⟨m, hF⟩ := I.fr
  have hr0 : Room (k + 1) X.A.in1 := Room.in1 hr
  have hr1 : Room k X.A.in1 := hr0.mono (Nat.le_succ _)
  refine PySem.W.repr_K hr1.units0 hF I.ok.mod.kin J hm.at_ hm.fn (wpAny_mono (run_in (us := [.ref a]) (vs := [.ref a]) F hr1 I.env0.in1 hb hx I (.cons rfl .nil) q) (fun w s' z => ?_) fun _ _ x => x)
  obtain ⟨z', H', I', rz, n, en, qz⟩ := z
  subst en
  obtain ⟨t, et⟩ := (show ∃ t, w = Value.str n t from rz)
  cases et
  exact ⟨.str n, H', I', ⟨_, rfl⟩, qz⟩
theorem call_strOwn (hm : Meth X.K C "__str__" f) (F : FnOk X.prog X.w X.K X.mg X.base CX k f fd ps sp) (hr : Room (k + 2) X.A) (hb : Binds X.K fd ps []) (hx : Passes CX X E) : CallR X (.type "str") (rStrOwn C sp E) := by
  intro pins s σ H xs us Q I r h
  obtain ⟨a, dx, fs, rfl, e, q⟩ := h
  obtain ⟨u, rfl, ru⟩ := r.one
  cases (show u = Value.ref a from ru)
  obtain ⟨ox, od, J⟩ := ins_inst I e
  have hr1 : Room k X.A.in1.in1 := (show Room (k + 1) X.A.in1 from Room.in1 hr).in1
  refine PySem.W.kso_call hr1.units0 I.kIn J hm.at_ hm.fn (wpAny_mono (run_in (us := [.ref a]) (vs := [.ref a]) F hr1 I.env0.in1.in1 hb hx I (.cons rfl .nil) q) (fun w s' z => ?_) fun _ _ x => x)
  obtain ⟨z', H', I', rz, n, en, qz⟩ := z
  subst en
  obtain ⟨t, et⟩ := (show ∃ t, w = Value.str n t from rz)
  cases et
  exact ⟨.str n, H', I', ⟨_, rfl⟩, qz⟩
/-- x == y: x an object with its own def, y anything that is no instance of a class below -/
def rEqOwn (K : PySem.W.Frag) (C : Addr) (sp : Sp) (E : XK) : R2 := fun x y H Q => ∃ a dx fs t, x = .ref a ∧ H a = some (.ins C dx fs) ∧ TyX K H y t ∧ PySem.W.notFirst K C t = true ∧ sp [x, y] H Q E
/-- truth by __len__ -/
theorem truthy_len {prog : Program} {w : World} {A : Around} {E : Value → Shared → Prop} {s : Shared} {K : PySem.W.Frag} {x C f : Addr} {ox : Obj} {od : Option Obj} {Q : Bool → Shared → Prop} (Xk : K.In s.heap) (J : PySem.W.InstAt s.heap x ox C od)
    (hb : PySem.W.findIn K (.ref C) "__bool__" = some none) (hl : PySem.W.findIn K (.ref C) "__len__" = some (some (.ref f))) (hf : PySem.W.isFn K (.ref f) = true)
    (h : wpAny (model prog w) A.in1 (call (.ref f) [.ref x]) (PySem.W.LenBack fun v s' => ∃ n t, v = .int n t ∧ Q (n != 0) s') E s) : wpAny (model prog w) A (truthy (.ref x)) Q E s := by
  have key : wpAny (model prog w) A (runValue (.builtin "len" ⟨[.ref x], []⟩)) (fun r s' => ∃ n t, r = .int n t ∧ Q (n != 0) s') E s := by
    refine wpAny_runValue (codeAny_builtin PySem.entry_len ?_)
    rw [Around.under_plainId PySem.plain_len _]
    refine wpAny_mono (Q := fun fin s' => ∃ r, fin = .done (.ret r) ∧ ∃ n t, r = .int n t ∧ Q (n != 0) s') ?_ (fun fin s' h' => by obtain ⟨r, rfl, hq⟩ := h'; exact hq) fun _ _ e => e
    unfold Builtin.«len»
    refine wpAny_bind (m := oneArg "len" _) (wpAny_pure ?_)
    refine wpAny_bind (m := callSpecial? (.ref x) (Str.ofString "__len__")) (PySem.W.special_fn Xk J hl (beq_iff_eq.mp hf) (wpAny_mono h (fun r s' hr => ?_) fun _ _ y => y))
    cases r <;> first | exact hr.elim | skip
    rename_i n u
    obtain ⟨⟨h0, h1⟩, hq⟩ := hr
    refine wpAny_bind (wpAny_holding (wpAny_pure ?_))
    refine wpAny_bind (wpAny_letGo ?_)
    show wpAny _ _ (if n < 0 then _ else _) _ _ _
    rw [if_neg (by omega)]
    show wpAny _ _ (if n ≥ 2 ^ 63 then _ else _) _ _ _
    rw [if_neg (by omega)]
    exact wpAny_bind (wpAny_mkInt (wpAny_pure ⟨_, rfl, hq⟩))
  unfold truthy
  refine wpAny_bind (m := callSpecial? (.ref x) (Str.ofString "__bool__")) (wpAny_bind (wpAny_bind (J.type.here ((PySem.W.looks_findIn Xk hb).here (wpAny_pure ?_)))))
  refine wpAny_bind (wpAny_bind (J.type.here ((PySem.W.looks_findIn Xk hl).here ?_)))
  show wpAny _ _ (if (some (Value.ref f)).isNone = true then _ else _) _ _ _
  rw [if_neg (by simp)]
  refine wpAny_bind (wpAny_mono key (fun r s' h' => ?_) fun _ _ e => e)
  obtain ⟨n, t, rfl, hq⟩ := h'
  exact wpAny_pure hq
def rBoolOwn (C : Addr) (sp : Sp) (E : XK) : List V → Hp → VK → Prop := fun xs H Q => ∃ a dx fs, xs = [V.ref a] ∧ H a = some (.ins C dx fs) ∧ sp [.ref a] H (fun z H' => ∃ n : Int, z = .int n ∧ (0 ≤ n ∧ n < 2 ^ 63) ∧ Q (.bl (n != 0)) H') E
theorem call_boolOwn (hm : Meth X.K C "__len__" f) (hnb : PySem.W.findIn X.K (.ref C) "__bool__" = some none) (F : FnOk X.prog X.w X.K X.mg X.base CX k f fd ps sp) (hr : Room (k + 3) X.A) (hb : Binds X.K fd ps []) (hx : Passes CX X E) : CallR X (.type "bool") (rBoolOwn C sp E) := by
  intro pins s σ H xs us Q I r h
  obtain ⟨a, dx, fs, rfl, e, q⟩ := h
  obtain ⟨u, rfl, ru⟩ := r.one
  cases (show u = Value.ref a from ru)
  obtain ⟨ox, od, J⟩ := ins_inst I e
  have hr1 : Room k X.A.in1.in1.in1 := (show Room (k + 1) X.A.in1.in1 from (show Room (k + 2) X.A.in1 from Room.in1 hr).in1).in1
  have T : wpAny (model X.prog X.w) X.A.in1.in1 (truthy (.ref a)) (fun b s' => EP X pins σ Q (.bool b) s') X.xe s := by
    refine truthy_len I.kIn J hnb hm.at_ hm.fn (wpAny_mono (run_in (us := [.ref a]) (vs := [.ref a]) F hr1 I.env0.in1.in1.in1 hb hx I (.cons rfl .nil) q) (fun w s' z => ?_) fun _ _ x => x)
    obtain ⟨z', H', I', rz, n, en, b, qz⟩ := z
    subst en
    obtain ⟨t, et⟩ := (show ∃ t, w = Value.int n t from rz)
    cases et
    exact ⟨b, n, _, rfl, .bl (n != 0), H', I'.tok _, rfl, qz⟩
  refine callType_codes (T := "bool") (Bi := Builtin.«object.__init__») (Q₁ := fun r s₁ => ∃ b, r = .bool b ∧ EP X pins σ Q r s₁) PySem.F.called_bool (PySem.F.typeCall_bool_1 _) PySem.F.entry_object_init ?_ ?_
  · refine codeAny_of_tree ?_
    show wpAny _ X.A.in1.in1 (do checkBuiltinCall "bool.__new__" ⟨[.type "bool", .ref a], []⟩; again (.builtin "bool.__new__" ⟨[.type "bool", .ref a], []⟩)) _ _ s
    refine wpAny_bind (wpAny_of_eq (PySem.F.newCall_bool_1 _) (wpAny_pure ⟨plainId_quiet (by decide +kernel) _, codeAny_builtin PySem.F.entry_bool_new ?_⟩))
    rw [Around.under_plainId (by decide +kernel) _]
    unfold Builtin.«bool.__new__»
    refine wpAny_bind (m := isType (.type "bool")) (wpAny_pure ?_)
    refine wpAny_bind (wpAny_of_eq PySem.F.conv_sub_bool ?_)
    refine wpAny_bind (wpAny_pure ?_)
    refine wpAny_bind (wpAny_mono T (fun b s' hb => wpAny_pure ?_) fun _ _ y => y)
    exact ⟨b, rfl, hb⟩
  · rintro obj s₁ ⟨b, rfl, hq⟩
    exact ⟨rfl, PySem.F.args_object_init_2 _ _, object_init_meets PySem.F.called_bool.init.lookup PySem.F.called_bool.made (by decide) X.prog X.w X.A.in1 _ s₁ ⟨rfl, rfl, hq⟩⟩
end
end RV

/-! objects, defaults, written dicts, zip of tuples, dict displays: readings -/
namespace RV
open PySem PySem.Spec L2
open PyProof.Rows hiding St
section
variable {X : Cx} {K : PySem.W.Frag} {w : World}
def rIsC (C : Addr) : List V → Hp → VK → Prop := fun xs H Q => ∃ a dx fs, xs = [V.ref a, V.ref C] ∧ H a = some (.ins C dx fs) ∧ Q (.bl true) H
theorem isC_k {C : Addr} (e : X.K = K) (c : C8.InsC K C) : CallR X (.builtin "isinstance") (rIsC C) := C8.call_isC (e ▸ c)
theorem kdix_k (e : X.K = K) (ew : X.w = w) : IxR X (rIxD K w) := e ▸ ew ▸ ix_kdict
theorem zip_k {elts : List Expr} {kk : Nat} {tpos p pos : Pos} {x y : Expr} {ta : TA} (e : X.K = K) (hg : Gl X "zip") (hm : X.mg "zip" = none) (ha : PA X [x, y] ta) (hs : starEach [x, y] X.env = (false, eval x X.env) :: starEach [y] X.env := by rfl) (hpl : ((backTo pos (starEach [y] X.env)).any fun x => x.1) = false := by rfl) :
    PI X (.Tuple elts kk tpos) (.Call (.Name "zip" p) [x, y] [] pos) (RZ.iZipA K ta) := e ▸ RZ.pi_zipA hg hm ha hs hpl
end
section
variable {X : Cx} {K : PySem.W.Frag} {e : Expr} {te : TE} {k p1 p2 p3 pos}
theorem revL_k (ek : X.K = K) (he : PE X e te) : PE X (.Subscript e (.Slice none none (some (.UnaryOp .USub (.Constant (.int 1) k p1) p2)) p3) pos) (tRevL K te) := ek ▸ pe_revL he
theorem r_revX {σ : St} {H : Hp} {Q : VK} (h : te σ H fun x H1 => ∃ a xs, x = .ref a ∧ SqL K H1 a xs ∧ ∀ p, H1 p = none → Q (.ref p) (upd H1 p (.lst xs.reverse))) : tRevL K te σ H Q := h
end
section
variable {σ : St} {H : Hp} {Q : VK} {D : Ends} {K : PySem.W.Frag} {w : World}
theorem r_fld {te : TE} {f : Str} (h : te σ H fun x H1 => ∃ a C dx fs v, x = .ref a ∧ H1 a = some (.ins C dx fs) ∧ Cls K C ∧ NoAttr K C f ∧ fs.lookup f = some v ∧ Q v H1) : tFld K te f σ H Q := h
theorem r_fldO {a C dx : Addr} {fs : List (Str × V)} {f : Str} {v : V} {P : V → Prop} (e : H a = some (.ins C dx fs)) (c : Cls K C) (n : NoAttr K C f) (l : fs.lookup f = some v) (k : P v) :
    ∃ b C dx fs v, V.ref a = .ref b ∧ H b = some (.ins C dx fs) ∧ Cls K C ∧ NoAttr K C f ∧ fs.lookup f = some v ∧ P v := ⟨a, C, dx, fs, v, rfl, e, c, n, l, k⟩
theorem r_setF {ta tv : TE} {f : Str} (h : tv σ H fun y H1 => ta σ H1 fun x H2 => ∃ a C dx fs, x = .ref a ∧ H2 a = some (.ins C dx fs) ∧ Cls K C ∧ NoAttr K C f ∧ fs.length < 1000 ∧ D.nx σ (upd H2 a (.ins C dx (putF f y fs)))) : sFld K ta tv f D σ H := h
theorem r_setO {a C dx : Addr} {fs : List (Str × V)} {f : Str} {P : Addr → Addr → Addr → List (Str × V) → Prop} (e : H a = some (.ins C dx fs)) (c : Cls K C) (n : NoAttr K C f) (l : fs.length < 1000) (k : P a C dx fs) :
    ∃ b C dx fs, V.ref a = .ref b ∧ H b = some (.ins C dx fs) ∧ Cls K C ∧ NoAttr K C f ∧ fs.length < 1000 ∧ P b C dx fs := ⟨a, C, dx, fs, rfl, e, c, n, l, k⟩
theorem r_make {C : Addr} {sp : Sp} {E : XK} {t : TA} (h : t σ H fun vs H1 => ∀ x dx, H1 x = none → H1 dx = none → dx ≠ x → sp (.ref x :: vs) (upd (upd H1 dx (.own x)) x (.ins C dx [])) (fun v H2 => v = .non ∧ Q (.ref x) H2) E) : tMake C sp [] E t σ H Q := by
  unfold tMake
  have e : (fun (vs : List V) (H1 : Hp) => ∀ x dx, H1 x = none → H1 dx = none → dx ≠ x → sp (.ref x :: (vs ++ [])) (upd (upd H1 dx (.own x)) x (.ins C dx [])) (fun v H2 => v = .non ∧ Q (.ref x) H2) E) = fun vs H1 => ∀ x dx, H1 x = none → H1 dx = none → dx ≠ x → sp (.ref x :: vs) (upd (upd H1 dx (.own x)) x (.ins C dx [])) (fun v H2 => v = .non ∧ Q (.ref x) H2) E := by
    funext vs H1
    rw [List.append_nil]
  rw [e]
  exact h
/-- what an __init__ leaves of the heap that its caller knew -/
theorem made_sm {C x dx : Addr} {H H' : Hp} (nx : H x = none) (nd : H dx = none) (c : Chg x (upd (upd H dx (.own x)) x (.ins C dx [])) H') : Sm H H' := ⟨fun a o e => by
  have h1 : a ≠ x := ne_of_none e nx
  have h2 : a ≠ dx := ne_of_none e nd
  refine c.to a o h1 ?_
  rw [upd_ne h1, upd_ne h2]
  exact e⟩
theorem made_keep {C x dx : Addr} {H : Hp} {a : Addr} {o : HO} (nx : H x = none) (nd : H dx = none) (e : H a = some o) : upd (upd H dx (.own x)) x (.ins C dx []) a = some o := by
  rw [upd_ne (ne_of_none e nx), upd_ne (ne_of_none e nd)]
  exact e
/-! dict displays, d[k] -/
theorem r_disp {trs : List (TE × TE)} (h : ∀ p, H p = none → tPairs trs σ (upd H p (.dK [])) fun ps H2 => H2 p = some (.dK []) ∧ ∃ kvs : List (Key × V), ps = kvs.map (fun kv => (kV kv.1, kv.2)) ∧ kvs.length ≤ 15 ∧ Q (.ref p) (upd H2 p (.dK (mergeK [] kvs)))) : tDisp trs σ H Q := h
theorem r_pairs0 {R : List (V × V) → Hp → Prop} (h : R [] H) : tPairs [] σ H R := h
theorem r_pairs1 {tk tv : TE} {r : List (TE × TE)} {R : List (V × V) → Hp → Prop} (h : tk σ H fun x H1 => tv σ H1 fun y H2 => tPairs r σ H2 fun ps H3 => R ((x, y) :: ps) H3) : tPairs ((tk, tv) :: r) σ H R := h
theorem r_kdix {p : Addr} {es : Array DictEntry} {n : Nat} {z : Str} {u : Value} {v : V} (D : KDict K w p es n) (e : PySem.W.nsIn K p z = some (some u)) (r : RelV v u) (k : Q v H) : rIxD K w (.ref p) (.str z) H Q := ⟨p, z, v, rfl, rfl, ⟨es, n, u, D.at_, D.lit, e, r⟩, k⟩
theorem r_kdnot {p : Addr} {z : Str} {u : Option Value} {P : Bool → Prop} (e : PySem.W.nsIn K p z = some u) (k : P (!u.isSome)) : ∃ (y : Str) (r : Option Value), V.str z = .str y ∧ V.ref p = .ref p ∧ PySem.W.nsIn K p y = some r ∧ P (!r.isSome) := ⟨z, u, rfl, rfl, e, k⟩
theorem r_kdin {p : Addr} {z : Str} {u : Option Value} {P : Bool → Prop} (e : PySem.W.nsIn K p z = some u) (k : P u.isSome) : ∃ (y : Str) (r : Option Value), V.str z = .str y ∧ V.ref p = .ref p ∧ PySem.W.nsIn K p y = some r ∧ P r.isSome := ⟨z, u, rfl, rfl, e, k⟩
theorem r_zip {ta : TA} {R : It → Hp → Prop} (h : ta σ H fun vs H1 => ∃ a b xs ys, vs = [V.ref a, V.ref b] ∧ ((SqL K H1 a xs ∧ SqL K H1 b ys ∧ R (Itz K a b) H1) ∨ (SqT K H1 a xs ∧ SqT K H1 b ys ∧ R (RZ.ItzT K a b) H1))) : RZ.iZipA K ta σ H R := h
theorem r_zT {a b : Addr} {xs ys : List V} {R : Addr → Addr → Prop} {S : Addr → Addr → List V → List V → Prop} (h1 : SqT K H a xs) (h2 : SqT K H b ys) (k : R a b) : ∃ a' b' xs' ys', [V.ref a, V.ref b] = [V.ref a', V.ref b'] ∧ (S a' b' xs' ys' ∨ (SqT K H a' xs' ∧ SqT K H b' ys' ∧ R a' b')) := ⟨a, b, xs, ys, rfl, .inr ⟨h1, h2, k⟩⟩
theorem cut_tail (x : V) (xs : List V) : cutV (x :: xs) (some 1) none = xs := by
  have e1 : HT.sIx (x :: xs).length 0 (some ((1 : Nat) : Int)) = min 1 (x :: xs).length := HT.sIx_nat _ _ _
  have e3 : (some (1 : Int)) = some ((1 : Nat) : Int) := rfl
  unfold cutV
  rw [e3, e1, HT.sIx_none, List.length_cons]
  have e2 : min 1 (xs.length + 1) = 1 := by omega
  rw [e2]
  show xs.take (xs.length + 1 - 1) = xs
  rw [Nat.add_sub_cancel, List.take_length]
theorem r_dg {td ty : TE} (h : td σ H fun x H1 => ty σ H1 fun y H2 => ∃ a v, x = .ref a ∧ DGet H2 a y (some v) ∧ Q v H2) : tDGet td ty σ H Q := h
theorem r_dgS {d : Addr} {kvs : List (Key × V)} {n : Str} {v : V} {P : V → Prop} (h : H d = some (.dK kvs)) (e : valV kvs (Sum.inr n : Key) = some v) (k : P v) : ∃ a u, V.ref d = .ref a ∧ DGet H a (.str n) (some u) ∧ P u := ⟨d, v, rfl, by rw [← e]; exact DGet.k (k := Sum.inr n) h, k⟩
theorem r_notIn {x : V} {p : Addr} {xs : List V} (h : SqL K H p xs ∨ SqT K H p xs) (fx : flatV x = true) (fs : xs.all flatV = true) (k : Q (.bl (!inV x xs)) H) : rNotInA K x (.ref p) H Q := .inr ⟨p, xs, rfl, h, fx, fs, k⟩
theorem r_inV {x : V} {p : Addr} {xs : List V} (h : SqL K H p xs ∨ SqT K H p xs) (fx : flatV x = true) (fs : xs.all flatV = true) (k : Q (.bl (inV x xs)) H) : rInA K x (.ref p) H Q := .inr ⟨p, xs, rfl, h, fx, fs, k⟩
theorem atI_end {xs : List V} {v : V} (h : xs[xs.length - 1]? = some v) : atI xs (-1) = some v := by
  have hl : 0 < xs.length := by
    rcases Nat.eq_zero_or_pos xs.length with e | e
    · rw [e] at h
      have := (List.getElem?_eq_some_iff.mp h).1
      omega
    · exact e
  have e : ixN xs.length (-1) = some (xs.length - 1) := by
    unfold ixN
    rw [if_neg (by decide), if_pos (by omega)]
    congr 1
    omega
  unfold atI
  rw [e]
  exact h
theorem r_addB {a b : Nat} {x y : Str} (ha : x.length ≤ a) (hz : y.length ≤ b) (hab : a + b ≤ 900000) (k : (x ++ y).length ≤ a + b → Q (.str (x ++ y)) H) : rAddA K (.str x) (.str y) H Q := by
  have e : (x ++ y).length = x.length + y.length := by
    show (x.cps ++ y.cps).size = x.cps.size + y.cps.size
    exact Array.size_append
  exact r_addS (len_le (by omega)) (k (by omega))
theorem r_jsB {a b : Nat} {z acc : Str} {P : Prop} (ha : acc.length ≤ a) (hz : z.length ≤ b) (hab : a + b ≤ 900000) (k : (acc ++ z).length ≤ a + b → P) : (acc ++ z).length ≤ sizeLine ∧ P := by
  have e : (acc ++ z).length = acc.length + z.length := by
    show (acc.cps ++ z.cps).size = acc.cps.size + z.cps.size
    exact Array.size_append
  exact ⟨len_le (by omega), k (by omega)⟩
end
/-- gathered in the list at A -/
structure KpA (A : Addr) (P : Hp → V → Prop) : Prop where
  sm : ∀ {H H' : Hp} {x : V}, Sm H H' → P H x → P H' x
  up : ∀ {H : Hp} {xs ys : List V} {x : V}, H A = some (.lst xs) → P H x → P (upd H A (.lst ys)) x
theorem KpA.add {A : Addr} {P : Hp → V → Prop} (kp : KpA A P) {Hi H4 : Hp} {xs : List V} {y : V} (hA : Hi A = some (.lst xs)) (all : ∀ x ∈ xs, P Hi x) (s : Sm Hi H4) (py : P H4 y) :
    ∀ x ∈ xs ++ [y], P (upd H4 A (.lst (xs ++ [y]))) x := by
  intro x hx
  refine kp.up (s.to _ _ hA) ?_
  rcases List.mem_append.mp hx with hx | hx
  · exact kp.sm s (all x hx)
  · rw [List.mem_singleton.mp hx]
    exact py
theorem ixN_zero {n : Nat} (h : 0 < n) : ixN n 0 = some 0 := by
  unfold ixN
  rw [if_pos (Int.le_refl 0), if_pos (by omega)]
  rfl
theorem joinL_len (a : List Nat) : ∀ l : List (List Nat), (TL.joinL a l).length ≤ (l.map (·.length)).sum + l.length * a.length
  | [] => Nat.zero_le _
  | [p] => by
    show p.length ≤ p.length + 0 + 1 * a.length
    omega
  | p :: q :: r => by
    have ih := joinL_len a (q :: r)
    show (p ++ (a ++ TL.joinL a (q :: r))).length ≤ _
    rw [List.length_append, List.length_append]
    simp only [List.map_cons, List.sum_cons, List.length_cons, Nat.add_mul, Nat.one_mul] at ih ⊢
    omega
theorem len_join (sep : Str) (ys : List Str) : (PySem.Txt.join sep ys).length ≤ (ys.map (·.length)).sum + ys.length * sep.length := by
  have h1 : ys = (ys.map fun y => y.cps.toList).map SX.S := by
    rw [List.map_map]
    have : (SX.S ∘ fun y : Str => y.cps.toList) = id := by
      funext y
      exact SX.S_tl y
    rw [this, List.map_id]
  have h2 : sep = SX.S sep.cps.toList := (SX.S_tl sep).symm
  have h3 := joinL_len sep.cps.toList (ys.map fun y => y.cps.toList)
  have h4 : (PySem.Txt.join sep ys).length = (TL.joinL sep.cps.toList (ys.map fun y => y.cps.toList)).length := by
    rw [h1, h2, SX.join_S, SX.S_len, List.map_map, List.map_map]
    rfl
  rw [h4]
  rw [List.map_map, List.length_map] at h3
  have h5 : ((fun l : List Nat => l.length) ∘ fun y : Str => y.cps.toList) = fun y : Str => y.length := by
    funext y
    exact (str_len y).symm
  rw [h5, ← str_len] at h3
  exact h3
theorem not_o {p : Prop} [Decidable p] (h : p) : (!decide p) = false := by rw [decide_eq_true h]; rfl
theorem not_y {p : Prop} [Decidable p] (h : ¬ p) : (!decide p) = true := by rw [decide_eq_false h]; rfl
theorem empty_add (z : Str) : Str.empty ++ z = z := by
  cases z with
  | mk c =>
    show (⟨#[] ++ c⟩ : Str) = ⟨c⟩
    rw [Array.empty_append]
theorem small_text {i : Int} (h0 : 0 ≤ i) (h1 : i < 20) : (toString i : Str).length ≤ 2 := by
  have h : ∀ n : Fin 20, (toString ((n.val : Nat) : Int) : Str).length ≤ 2 := by decide +kernel
  have e := h ⟨i.toNat, by omega⟩
  have e2 : ((i.toNat : Nat) : Int) = i := Int.toNat_of_nonneg h0
  rw [show (((⟨i.toNat, by omega⟩ : Fin 20).val : Nat) : Int) = i from e2] at e
  exact e
theorem small_log {i : Int} (h0 : 0 ≤ i) (h1 : i < 1000) : i.natAbs.log2 < 1920 := by
  have : i.natAbs < 2 ^ 10 := by omega
  by_cases e : i.natAbs = 0
  · rw [e]; decide
  · have := (Nat.log2_lt e).mpr this
    omega
theorem sum_le : ∀ (ys : List Str) (n : Nat), (∀ y ∈ ys, y.length ≤ n) → (ys.map (·.length)).sum ≤ ys.length * n
  | [], n, _ => Nat.zero_le _
  | y :: ys, n, h => by
    have h1 := h y (by simp)
    have h2 := sum_le ys n fun z hz => h z (by simp [hz])
    rw [List.map_cons, List.sum_cons, List.length_cons, Nat.succ_mul]
    omega
theorem noDs {K : PySem.W.Frag} {fd : FuncData} {ps : List Str} (h : ∃ ds, Vals [] ds ∧ Binds K fd ps ds) : Binds K fd ps [] := by
  obtain ⟨ds, r, b⟩ := h
  cases r
  exact b
theorem okD {P : Program} {w : World} {K : PySem.W.Frag} {mg : Str → Option Value} {base : Heap} {x qual : Str} {params : Arguments} {body : List Stmt} {scope : Scope} {dvs : List V} {kws : List (Str × V)} {f : Addr} {fd : FuncData} {N ps : List Str} {k : Nat} {sp : Sp}
    (F : FunD K x qual params body scope dvs kws f fd) (S : FnScope N ps scope) (len : ∀ vs H Q E, sp vs H Q E → vs.length = ps.length)
    (hbody : ∀ (cdv : Value) (A : Around) (outer : List Env) (s : Shared) (H : Hp) (vs : List V) (Q : VK) (E : XK), Room k (A.deeper (envOfC qual scope s.heap.objs.size f cdv)) → sp vs H Q E →
      ∃ t, PSs (cxOf CX0 P w K mg base N qual scope f cdv A outer s H E).nox body t ∧ t { nx := fun _ H' => Q .non H', rt := Q } (start N vs) H) : FnOk P w K mg base CX0 (k + 1) f fd ps sp :=
  F.ok S len fun cdv A outer s H vs Q E hr h => by
    obtain ⟨t, h1, h2⟩ := hbody cdv A outer s H vs Q E hr h
    exact ⟨t, h1.nox, h2⟩
end RV

/-! == and != of objects of own classes, by their own __eq__ -/
namespace RV
open PySem PySem.Spec L2
open PyProof.Rows hiding St
section
open PySem.W PySem.Builtin
variable {prog : PySem.Program} {w : World} {A : Around} {E : Value → Shared → Prop} {s : Shared} {K : PySem.W.Frag} {x C L f : Addr} {h₀ : Heap} {m : Str → Option Value} {ox : Obj} {od : Option Obj} {b tb : Value}
theorem ifBound_B {M : Model} {name : Str} {id : String} {args : List Value} {Q : Option Value → Shared → Prop} (X : K.In s.heap) (I : PySem.W.InstAt s.heap x ox C od) (hs : PySem.W.findIn K (.ref C) name = some (some (.builtin id))) (S : Slot "object" name id)
    (h : wpAny M A (call (.builtin id) (.ref x :: args)) (fun v => Q (some v)) E s) : wpAny M A (callSpecialIfBound? (.ref x) name args) Q E s := by
  simp only [callSpecialIfBound?, bindSpecialIfBound?]
  refine wpAny_holding (wpAny_bind (wpAny_bind (wpAny_bind (I.type.here ((PySem.W.looks_findIn X hs).here ?_)))))
  simp only [S.bind]
  refine wpAny_bind (wpAny_askSetting (wpAny_ite ?_))
  have fin : wpAny M A (call (.builtin id) ([.ref x] ++ args) >>= fun v => pure (some v)) Q E s := wpAny_bind (wpAny_mono h (fun v s' h' => wpAny_pure h') fun _ _ h' => h')
  split
  · exact wpAny_bind (wpAny_pure (wpAny_pure (by exact fin)))
  · exact wpAny_tryCatch (wpAny_bind (wpAny_pure (wpAny_pure (by exact fin))))
theorem ne_entry {Q : Fin → Shared → Prop} (hu : A.units < cLine) (X : K.In s.heap) (I : PySem.W.InstAt s.heap x ox C od)
    (hs : PySem.W.findIn K (.ref C) "__eq__" = some (some (.ref f))) (hf : PySem.W.isFn K (.ref f) = true)
    (h : wpAny (model prog w) A (call (.ref f) [.ref x, b]) (fun v s' => ∃ r, v = .bool r ∧ Q (.done (.ret (.bool (!r)))) s') E s) :
    wpAny (model prog w) A (Builtin.«object.__ne__» ⟨[.ref x, b], []⟩) Q E s := by
  unfold Builtin.«object.__ne__»
  repeat (first
    | with_reducible refine wpAny_cRoomFor hu ?_
    | (refine wpAny_bind (m := callSpecialIfBound? (.ref x) (Str.ofString "__eq__") [b])
        (PySem.W.ifBound_K X I hs hf (wpAny_mono h (fun r s' hr => by
          obtain ⟨b, rfl, hq⟩ := hr
          repeat (first | exact hq | exact wpAny_pure hq | exact wpAny_truthy_bool hq | (refine wpAny_bind (m := truthy (.bool _)) (wpAny_truthy_bool ?_)) | wp_step)) fun _ _ e => e)))
    | wp_step)
theorem ne_try {Q : Option Value → Shared → Prop} (hu : A.units + 1 < cLine) (X : K.In s.heap) (I : PySem.W.InstAt s.heap x ox C od)
    (hne : PySem.W.findIn K (.ref C) "__ne__" = some (some (.builtin "object.__ne__"))) (hob : PySem.W.mroIn K C (.type "object") = some true)
    (hs : PySem.W.findIn K (.ref C) "__eq__" = some (some (.ref f))) (hf : PySem.W.isFn K (.ref f) = true)
    (h : wpAny (model prog w) A.in1 (call (.ref f) [.ref x, b]) (fun v s' => ∃ r, v = .bool r ∧ Q (some (.bool (!r))) s') E s) :
    wpAny (model prog w) A (tryCompare (.ref x) "__ne__" b) Q E s := by
  have FB := F.cmp_object
  have sub : PySem.W.Looks (model prog w) s.heap (isInstance (.ref x) (.type "object")) true := I.type.andThen (PySem.W.looks_mroIn X hob)
  unfold tryCompare
  refine wpAny_bind (ifBound_B X I hne FB.ne (wpAny_call (codeAny_call_builtin FB.ne.plain F.cmpEntry_ne
    (@PySem.W.check_slot (model prog w) _ _ s "object.__ne__" "object" "__ne__" (.ref x) [b] [] _ F.cmpKind_ne F.cmpSplit_ne sub (F.cmpArgs_ne _ _)
      (ne_entry (A := A.in1) hu X I hs hf (wpAny_mono h (fun v s' hv => ?_) fun _ _ e => e))))))
  obtain ⟨b, rfl, hq⟩ := hv
  first | exact ⟨b, rfl, wpAny_pure hq⟩ | exact ⟨b, rfl, wpAny_pure (wpAny_pure hq)⟩ | exact ⟨b, rfl, hq⟩
theorem ne_K {Q : Value → Shared → Prop} (hu : A.units + 1 < cLine) (F : PyProof.Rows.Fr h₀ L s.heap m) (X₀ : K.In h₀) (I : PySem.W.InstAt s.heap x ox C od) (hb : PySem.W.Looks (model prog w) s.heap (typeOf b) tb) (hn : PySem.W.notFirst K C tb = true)
    (hne : PySem.W.findIn K (.ref C) "__ne__" = some (some (.builtin "object.__ne__"))) (hob : PySem.W.mroIn K C (.type "object") = some true)
    (hs : PySem.W.findIn K (.ref C) "__eq__" = some (some (.ref f))) (hf : PySem.W.isFn K (.ref f) = true)
    (h : wpAny (model prog w) A.in1 (call (.ref f) [.ref x, b]) (fun v s' => ∃ r, v = .bool r ∧ Q (.bool (!r)) s') E s) : wpAny (model prog w) A (richCompare .NotEq (.ref x) b) Q E s := by
  have X := X₀.keeps F.keep
  have one : wpAny (model prog w) A (tryCompare (.ref x) (cmpInfo .NotEq).2.1 b) (fun r s' => ∃ v, r = some v ∧ Q v s') E s :=
    ne_try hu X I hne hob hs hf (wpAny_mono h (fun v s' hv => by
      obtain ⟨r, rfl, q⟩ := hv
      exact ⟨r, rfl, _, rfl, q⟩) fun _ _ e => e)
  unfold richCompare
  simp only [oneThing_ref]
  refine wpAny_holding (wpAny_bind (wpAny_cRoomFor (Nat.lt_of_succ_lt hu) ?_))
  refine wpAny_bind (I.type.here (wpAny_bind (hb.here ?_)))
  split
  · rename_i q
    have e : PySem.W.subIn K tb (.ref C) = some false := by
      rcases Bool.or_eq_true_iff.mp hn with e | e
      · rw [beq_iff_eq.mp e] at q; simp at q
      · exact beq_iff_eq.mp e
    refine wpAny_bind ((PySem.W.looks_subIn X e).here ?_)
    simp only [Bool.false_eq_true, if_false]
    refine wpAny_bind (wpAny_mono one (fun r s' z => ?_) fun _ _ e => e)
    obtain ⟨v, rfl, hq⟩ := z
    exact wpAny_pure hq
  · refine wpAny_bind (wpAny_pure ?_)
    simp only [Bool.false_eq_true, if_false]
    refine wpAny_bind (wpAny_mono one (fun r s' z => ?_) fun _ _ e => e)
    obtain ⟨v, rfl, hq⟩ := z
    exact wpAny_pure hq
end
section
variable {X : Cx} {CX : CXT} {k : Nat} {f C : Addr} {fd : FuncData} {ps : List Str} {sp : Sp} {E : XK} {pins : List (Addr × Obj)} {σ : St} {H : Hp} {s : Shared}
/-- what a class with an own __eq__ and no __ne__ says -/
structure EqC (K : PySem.W.Frag) (C f : Addr) : Prop where
  eq : Meth K C "__eq__" f
  ne : PySem.W.findIn K (.ref C) "__ne__" = some (some (.builtin "object.__ne__"))
  ob : PySem.W.mroIn K C (.type "object") = some true
/-- a == b, both of the class at C -/
def rEqI (C : Addr) (sp : Sp) (E : XK) : R2 := fun x y H Q => ∃ a dx fs b dy gs, x = .ref a ∧ y = .ref b ∧ H a = some (.ins C dx fs) ∧ H b = some (.ins C dy gs) ∧ sp [x, y] H (fun z H' => ∃ t : Bool, z = .bl t ∧ Q (.bl t) H') E
def rNeI (C : Addr) (sp : Sp) (E : XK) : R2 := fun x y H Q => ∃ a dx fs b dy gs, x = .ref a ∧ y = .ref b ∧ H a = some (.ins C dx fs) ∧ H b = some (.ins C dy gs) ∧ sp [x, y] H (fun z H' => ∃ t : Bool, z = .bl t ∧ Q (.bl (!t)) H') E
theorem op_eqI (hm : EqC X.K C f) (F : FnOk X.prog X.w X.K X.mg X.base CX k f fd ps sp) (hr : Room (k + 2) X.A) (hb : Binds X.K fd ps []) (hx : Passes CX X E) : OpR X (compareOp .Eq) (rEqI C sp E) := by
  intro pins s σ H x y v u Q I rx ry h
  obtain ⟨a, dx, fs, b, dy, gs, rfl, rfl, ea, eb, q⟩ := h
  cases (show v = Value.ref a from rx)
  cases (show u = Value.ref b from ry)
  obtain ⟨ox, od, J⟩ := ins_inst I ea
  obtain ⟨oy, od2, J2⟩ := ins_inst I eb
  obtain ⟨m, hF⟩ := I.fr
  have hr0 : Room k X.A := hr.mono (by omega)
  show wpAny (model X.prog X.w) X.A (richCompare .Eq (.ref a) (.ref b)) (EP X pins σ Q) X.xe s
  refine PySem.W.cmp_K (op := .Eq) (tb := .ref C) hr0.units0 hF I.ok.mod.kin J J2.type (by simp [PySem.W.notFirst]) hm.eq.at_ hm.eq.fn ?_
  refine wpAny_mono (run_in (us := [.ref a, .ref b]) (vs := [.ref a, .ref b]) F hr0 I.env0 hb hx I (.cons rfl (.cons rfl .nil)) q) (fun w s' z => ?_) fun _ _ x => x
  obtain ⟨z', H', I', rz, t, et, qz⟩ := z
  subst et
  cases (show w = Value.bool t from rz)
  exact ⟨.bl t, H', I', rfl, qz⟩
theorem op_neI (hm : EqC X.K C f) (F : FnOk X.prog X.w X.K X.mg X.base CX k f fd ps sp) (hr : Room (k + 2) X.A) (hb : Binds X.K fd ps []) (hx : Passes CX X E) : OpR X (compareOp .NotEq) (rNeI C sp E) := by
  intro pins s σ H x y v u Q I rx ry h
  obtain ⟨a, dx, fs, b, dy, gs, rfl, rfl, ea, eb, q⟩ := h
  cases (show v = Value.ref a from rx)
  cases (show u = Value.ref b from ry)
  obtain ⟨ox, od, J⟩ := ins_inst I ea
  obtain ⟨oy, od2, J2⟩ := ins_inst I eb
  obtain ⟨m, hF⟩ := I.fr
  have hr1 : Room (k + 1) X.A.in1 := Room.in1 hr
  have hr2 : Room k X.A.in1 := hr1.mono (Nat.le_succ _)
  have hu : X.A.units + 1 < cLine := hr2.units0
  show wpAny (model X.prog X.w) X.A (richCompare .NotEq (.ref a) (.ref b)) (EP X pins σ Q) X.xe s
  refine ne_K (tb := .ref C) hu hF I.ok.mod.kin J J2.type (by simp [PySem.W.notFirst]) hm.ne hm.ob hm.eq.at_ hm.eq.fn ?_
  refine wpAny_mono (run_in (us := [.ref a, .ref b]) (vs := [.ref a, .ref b]) F hr2 I.env0.in1 hb hx I (.cons rfl (.cons rfl .nil)) q) (fun w s' z => ?_) fun _ _ x => x
  obtain ⟨z', H', I', rz, t, et, qz⟩ := z
  subst et
  cases (show w = Value.bool t from rz)
  exact ⟨t, rfl, .bl (!t), H', I', rfl, qz⟩
theorem r_eqIn {Q : VK} {a b dx dy : Addr} {fs gs : List (Str × V)} (ea : H a = some (.ins C dx fs)) (eb : H b = some (.ins C dy gs)) (h : sp [.ref a, .ref b] H (fun z H' => ∃ t : Bool, z = .bl t ∧ Q (.bl t) H') E) : rEqI C sp E (.ref a) (.ref b) H Q := ⟨a, dx, fs, b, dy, gs, rfl, rfl, ea, eb, h⟩
theorem r_neIn {Q : VK} {a b dx dy : Addr} {fs gs : List (Str × V)} (ea : H a = some (.ins C dx fs)) (eb : H b = some (.ins C dy gs)) (h : sp [.ref a, .ref b] H (fun z H' => ∃ t : Bool, z = .bl t ∧ Q (.bl (!t)) H') E) : rNeI C sp E (.ref a) (.ref b) H Q := ⟨a, dx, fs, b, dy, gs, rfl, rfl, ea, eb, h⟩
end
end RV

/-! lists that grow by a tuple's items; items of two lists side by side; terms: nested tuples -/
namespace RV
open PySem PySem.Spec L2
open PyProof.Rows hiding St
section
theorem grow_by_tup (D : Addr) (us : Array Value) (n : Nat) (T : Addr) (ws : Array Value) (m : Nat) (dt : Option Addr) (st : Array (Option Value))
    (room : ¬ (!us.isEmpty && Builtin.List.listTooLong (us.size + ws.size)) = true) (r1 : us.size ≤ sizeLine) (r2 : us.size + ws.size ≤ sizeLine + 1) :
    Meets (Builtin.«list.extend» ⟨[.ref D, .ref T], []⟩)
      (fun _ R s => s.heap.get? D = some { cls := .type "list", dict := none, data := .seq us n, slots := #[] } ∧
        s.heap.get? T = some { cls := .type "tuple", dict := dt, data := .seq ws m, slots := st } ∧
        R (.ok (.ret Value.none)) { s with heap := s.heap.update D (Obj.mapSeq fun x => x ++ ws), toks := s.toks }) :=
  .of_wp fun prog w A R s q => by
    obtain ⟨hp, g, d, tk, os⟩ := s
    obtain ⟨eD, eT, q⟩ := q
    have k1 := AutoSeq1.sub_tuple_tuple
    have k2 := AutoSeq1.sub_tuple_list
    have k3 := AutoSeq1.sub_list_list
    have k4 := AutoSeq1.sub_list_tuple
    have r3 : (us ++ ws).size ≤ sizeLine + 1 := by
      rw [Array.size_append]
      exact r2
    wp_walk using (wpAny_updateSeq eD rfl (hz := r1) (_hz' := r3)), AutoSeq1.wpAny_loadPart' eD, AutoSeq1.wpAny_loadPart' eT
    exact ⟨_, rfl, q⟩
variable {X : Cx}
def rExtT (K : PySem.W.Frag) : V → List V → Hp → VK → Prop := fun x vs H Q => ∃ l b xs zs, x = .ref l ∧ vs = [.ref b] ∧ H l = some (.lst xs) ∧ SqT K H b zs ∧ xs.length + zs.length ≤ sizeLine ∧ Q .non (upd H l (.lst (xs ++ zs)))
theorem mt_extT : MtR X "list.extend" (rExtT X.K) := by
  intro pins s σ H x vs v us Q I rx rv h
  obtain ⟨l, b, xs, zs, rfl, rfl, hH, hB, hz, q⟩ := h
  cases rx
  obtain ⟨u, rfl, ru⟩ := rv.one
  cases ru
  obtain ⟨z, its, n, r, hl, e⟩ := I.lstM hH
  obtain ⟨its2, r2, ⟨⟨cl, dt, da, st⟩, ho, hc, m, hd⟩, hl2⟩ := I.tuple hB
  simp only at hc hd
  subst hc hd
  have h2 := r2.length
  have hsz : its.toArray.size + its2.toArray.size ≤ sizeLine := by rw [List.size_toArray, List.size_toArray]; omega
  have hlong : ¬ (!its.toArray.isEmpty && Builtin.List.listTooLong (its.toArray.size + its2.toArray.size)) = true := by
    rw [notLongL hsz, Bool.and_false]
    exact Bool.false_ne_true
  refine call_meets F.slot_list_extend ⟨_, e, rfl⟩ F.entry_list_extend (F.args_list_extend_2 _ _)
    (grow_by_tup l its.toArray n b its2.toArray m dt st hlong (by rw [List.size_toArray]; omega) (by omega)) ⟨e, ho, ?_⟩
  refine ⟨.non, _, I.lset (its' := its ++ its2) hH e (by simp) (r.append r2) ?_, rfl, q⟩
  rw [List.length_append]
  omega
def rExtA (K : PySem.W.Frag) : V → List V → Hp → VK → Prop := fun x vs H Q => rExtend x vs H Q ∨ rExtT K x vs H Q
theorem mt_extA : MtR X "list.extend" (rExtA X.K) := MtR.or mt_extend mt_extT
theorem ext_k {K : PySem.W.Frag} (e : X.K = K) : MtR X "list.extend" (rExtA K) := e ▸ mt_extA
end
section
variable {H : Hp} {Q : VK} {K : PySem.W.Frag} {σ : St}
theorem r_extT {l b : Addr} {xs zs : List V} (h : H l = some (.lst xs)) (g : SqT K H b zs) (z : xs.length + zs.length ≤ sizeLine) (k : Q .non (upd H l (.lst (xs ++ zs)))) : rExtA K (.ref l) [.ref b] H Q := .inr ⟨l, b, xs, zs, rfl, rfl, h, g, z, k⟩
theorem r_extL {l b : Addr} {xs zs : List V} (h : H l = some (.lst xs)) (g : H b = some (.lst zs)) (z : xs.length + zs.length ≤ sizeLine) (k : Q .non (upd H l (.lst (xs ++ zs)))) : rExtA K (.ref l) [.ref b] H Q := .inl ⟨l, b, xs, zs, rfl, rfl, h, g, z, k⟩
theorem r_pop {l : Addr} {xs : List V} {y : V} (h : H l = some (.lst (xs ++ [y]))) (k : Q y (upd H l (.lst xs))) : rPop (.ref l) [] H Q := by
  refine ⟨l, xs ++ [y], y, rfl, rfl, h, by simp, ?_⟩
  rw [List.dropLast_concat]
  exact k
theorem r_meth0 {T : String} {r : V → List V → Hp → VK → Prop} {to : TE} (h : to σ H fun x H1 => tyV K T x H1 ∧ r x [] H1 Q) : tBM0 K T r to σ H Q := h
theorem r_R2 {ta : TA} {R : It → Hp → Prop} (h : ta σ H fun vs H1 => ∃ i j : Int, vs = [.int i, .int j] ∧ (-(2 ^ 62) ≤ i ∧ i < 2 ^ 62 ∧ -(2 ^ 62) ≤ j ∧ j < 2 ^ 62) ∧ R (Itr i (j - i).toNat) H1) : iRng2 ta σ H R := h
theorem r_rng2 {n m : Int} {P : Int → Int → Prop} (h0 : -4611686018427387904 ≤ n) (h1 : n < 4611686018427387904) (h2 : -4611686018427387904 ≤ m) (h3 : m < 4611686018427387904) (h : P n m) : ∃ i j : Int, [V.int n, V.int m] = [.int i, .int j] ∧ (-(2 ^ 62) ≤ i ∧ i < 2 ^ 62 ∧ -(2 ^ 62) ≤ j ∧ j < 2 ^ 62) ∧ P i j := ⟨n, m, rfl, ⟨by simpa using h0, by simpa using h1, by simpa using h2, by simpa using h3⟩, h⟩
theorem cut_to (xs : List V) (n : Nat) : cutV xs none (some (n : Int)) = xs.take n := by
  unfold cutV
  rw [HT.sIx_none, HT.sIx_nat, List.drop_zero, Nat.sub_zero]
  rcases Nat.le_total n xs.length with h | h
  · rw [Nat.min_eq_left h]
  · rw [Nat.min_eq_right h, List.take_length, List.take_of_length_le h]
theorem all_true (n : Nat) : (List.replicate n true).all id = true := by
  induction n with
  | zero => rfl
  | succ n ih => rw [List.replicate_succ, List.all_cons, ih]; rfl
theorem r_unl {n : Nat} {t : TGs} {a : Addr} {xs : List V} {Q : St → Hp → Prop} (hT : SqL K H a xs) (hn : xs.length = n) (h : t xs σ H Q) : gUnl K n t (.ref a) σ H Q := ⟨a, xs, rfl, hT, hn, h⟩
theorem r_truL {Q : Bool → Prop} {a : Addr} {xs : List V} (h : SqL K H a xs) (k : Q (!xs.isEmpty)) : ∃ k, TruV K (.ref a) H k ∧ Q k := ⟨_, .inl ⟨xs, h, rfl⟩, k⟩
end
theorem ix2V {b : Bool} {x y : V} : atI [x, y] (if b = true then 1 else 0) = some (if b = true then y else x) := by
  cases b <;> rfl
theorem r_ixLz {K : PySem.W.Frag} {H : Hp} {Q : VK} {a : Addr} {xs : List V} {i : Int} {ns : List Str} (h : SqL K H a xs) (e : xs = ns.map V.str) (h0 : 0 ≤ i) (h1 : i < (ns.length : Int)) (k : ∀ n, n ∈ ns → Q (.str n) H) : rIx K (.ref a) (.int i) H Q := by
  subst e
  obtain ⟨v, ev, hv⟩ := atI_mem (xs := ns.map V.str) h0 (by rw [List.length_map]; exact h1)
  obtain ⟨n, hn, rfl⟩ := List.mem_map.mp hv
  exact r_ixL h ev (k n hn)
/-! two lists, item by item -/
def All2 {α : Type} (R : V → α → Prop) : List V → List α → Prop
  | [], [] => True
  | x :: xs, y :: ys => R x y ∧ All2 R xs ys
  | _, _ => False
namespace All2
variable {α : Type} {R S : V → α → Prop}
theorem len : ∀ {xs : List V} {ys : List α}, All2 R xs ys → xs.length = ys.length
  | [], [], _ => rfl
  | _ :: _, _ :: _, h => congrArg Nat.succ (len h.2)
theorem imp (f : ∀ x y, R x y → S x y) : ∀ {xs : List V} {ys : List α}, All2 R xs ys → All2 S xs ys
  | [], [], _ => trivial
  | _ :: _, _ :: _, h => ⟨f _ _ h.1, imp f h.2⟩
theorem app : ∀ {xs us : List V} {ys vs : List α}, All2 R xs ys → All2 R us vs → All2 R (xs ++ us) (ys ++ vs)
  | [], _, [], _, _, h => h
  | _ :: _, _, _ :: _, _, g, h => ⟨g.1, app g.2 h⟩
theorem snoc {xs : List V} {ys : List α} {x : V} {y : α} (h : All2 R xs ys) (r : R x y) : All2 R (xs ++ [x]) (ys ++ [y]) := app h ⟨r, trivial⟩
theorem last : ∀ {xs : List V} {x : V} {ys : List α}, All2 R (xs ++ [x]) ys → ∃ us u, ys = us ++ [u] ∧ All2 R xs us ∧ R x u
  | [], _, [y], h => ⟨[], y, rfl, trivial, h.1⟩
  | [], _, _ :: _ :: _, h => h.2.elim
  | [], _, [], h => h.elim
  | _ :: xs, x, [], h => by
    cases xs <;> exact h.elim
  | a :: xs, x, y :: ys, h => by
    obtain ⟨us, u, e, h1, h2⟩ := last (xs := xs) (x := x) (ys := ys) h.2
    exact ⟨y :: us, u, by rw [e]; rfl, ⟨h.1, h1⟩, h2⟩
theorem get : ∀ {xs : List V} {ys : List α} {i : Nat} {x : V}, All2 R xs ys → xs[i]? = some x → ∃ y, ys[i]? = some y ∧ R x y
  | [], [], _, _, _, e => by simp at e
  | x :: xs, y :: ys, 0, _, h, e => by
    simp at e
    subst e
    exact ⟨y, rfl, h.1⟩
  | x :: xs, y :: ys, i + 1, v, h, e => by
    obtain ⟨z, h1, h2⟩ := get (i := i) h.2 (by simpa using e)
    exact ⟨z, by simpa using h1, h2⟩
theorem take : ∀ {xs : List V} {ys : List α} (n : Nat), All2 R xs ys → All2 R (xs.take n) (ys.take n)
  | [], [], n, _ => by simp [All2]
  | _ :: _, _ :: _, 0, _ => trivial
  | _ :: _, _ :: _, n + 1, h => ⟨h.1, take n h.2⟩
theorem drop : ∀ {xs : List V} {ys : List α} (n : Nat), All2 R xs ys → All2 R (xs.drop n) (ys.drop n)
  | [], [], n, _ => by simp [All2]
  | _ :: _, _ :: _, 0, h => h
  | _ :: _, _ :: _, n + 1, h => drop n h.2
theorem cut {xs : List V} {ys : List α} (lo hi : Option Int) (h : All2 R xs ys) : ∃ zs : List α, All2 R (cutV xs lo hi) zs ∧ (∀ z ∈ zs, z ∈ ys) ∧ zs.length ≤ ys.length := by
  unfold cutV
  refine ⟨_, (h.drop _).take _, fun z hz => List.mem_of_mem_drop (List.mem_of_mem_take hz), ?_⟩
  rw [List.length_take, List.length_drop]
  omega
theorem rep {xs : List V} {ys : List α} (h : All2 R xs ys) : ∀ n : Nat, All2 R (List.replicate n xs).flatten (List.replicate n ys).flatten
  | 0 => trivial
  | n + 1 => by
    rw [List.replicate_succ, List.flatten_cons, List.replicate_succ, List.flatten_cons]
    exact app h (rep h n)
end All2
theorem in_two (z a b : Str) : inV (V.str z) [V.str a, V.str b] = decide (z = a ∨ z = b) := by
  show ((a == z) || ((b == z) || false)) = _
  rw [Bool.or_false]
  by_cases h1 : z = a
  · rw [beq_iff_eq.mpr h1.symm, decide_eq_true (.inl h1)]
    rfl
  · rw [beq_eq_false_iff_ne.mpr (Ne.symm h1), Bool.false_or]
    by_cases h2 : z = b
    · rw [beq_iff_eq.mpr h2.symm, decide_eq_true (.inr h2)]
    · rw [beq_eq_false_iff_ne.mpr (Ne.symm h2), decide_eq_false fun q => q.elim h1 h2]
/-! tuples stay -/
structure TK (H H' : Hp) : Prop where
  to : ∀ t xs, H t = some (.tup xs) → H' t = some (.tup xs)
theorem Sm.tk {H H' : Hp} (e : Sm H H') : TK H H' := ⟨fun t xs h => e.to _ _ h⟩
theorem box_tuple {H : Hp} {b t : Addr} {xs : List V} (hb : BoxAt H b) (h : H t = some (.tup xs)) : t ≠ b := by
  obtain ⟨c, s, e⟩ := hb
  exact ne_of h e (by intro z; cases z)
theorem Chg.tk {b : Addr} {H H' : Hp} (hb : BoxAt H b) (e : Chg b H H') : TK H H' := ⟨fun t xs h => e.to _ _ (box_tuple hb h) h⟩
theorem TK.trans {H H1 H2 : Hp} (a : TK H H1) (b : TK H1 H2) : TK H H2 := ⟨fun t xs h => b.to _ _ (a.to _ _ h)⟩
theorem lst_tk {H : Hp} {D : Addr} {xs ys : List V} (h : H D = some (.lst xs)) : TK H (upd H D (.lst ys)) := ⟨fun t zs e => by
  rw [upd_ne (ne_of e h (by intro z; cases z))]
  exact e⟩
/-- a tuple stays where a list alone is changed -/
theorem Chg.tupL {K : PySem.W.Frag} {A q : Addr} {H H' : Hp} {ys its : List V} (e : Chg A H H') (hA : H A = some (.lst ys)) (h : SqT K H q its) : SqT K H' q its := by
  rcases h with (z | ⟨o, z⟩) | z
  · exact .inl (.inl (e.to _ _ (ne_of z hA (by intro y; cases y)) z))
  · exact .inl (.inr ⟨o, e.to _ _ (ne_of z hA (by intro y; cases y)) z⟩)
  · exact .inr z
/-! terms -/
inductive Op3 where
  | plus | times | power
  deriving DecidableEq
def Op3.word : Op3 → Str
  | .plus => Str.ofString "plus"
  | .times => Str.ofString "times"
  | .power => Str.ofString "power"
inductive Trm where
  | num (i : Int) | name (z : Str) | op (o : Op3) (a b : Trm)
  deriving DecidableEq
namespace Trm
def size : Trm → Nat
  | .num _ => 1
  | .name _ => 1
  | .op _ a b => 1 + a.size + b.size
def deep : Trm → Nat
  | .num _ => 0
  | .name _ => 0
  | .op _ a b => 1 + max a.deep b.deep
def kids : Trm → List Trm
  | .op _ a b => [a, b]
  | _ => []
def data : Trm → PyData
  | .num i => .tuple [.str (Str.ofString "num"), .int i]
  | .name z => .tuple [.str (Str.ofString "name"), .str z]
  | .op o a b => .tuple [.str o.word, a.data, b.data]
/-- its names can be written -/
def okN : Trm → Prop
  | .num _ => True
  | .name z => PyData.strOk z = true
  | .op _ a b => a.okN ∧ b.okN
theorem size_pos : ∀ t : Trm, 1 ≤ t.size
  | .num _ => Nat.le_refl 1
  | .name _ => Nat.le_refl 1
  | .op _ a b => by
    show 1 ≤ 1 + a.size + b.size
    omega
end Trm
def TmAt (H : Hp) : Trm → V → Prop
  | .num i, v => ∃ a, v = .ref a ∧ H a = some (.tup [.str (Str.ofString "num"), .int i])
  | .name z, v => ∃ a, v = .ref a ∧ H a = some (.tup [.str (Str.ofString "name"), .str z])
  | .op o s t, v => ∃ a x y, v = .ref a ∧ H a = some (.tup [.str o.word, x, y]) ∧ TmAt H s x ∧ TmAt H t y
abbrev TmsAt (H : Hp) : List V → List Trm → Prop := All2 fun v t => TmAt H t v
theorem TmAt.tk {H H' : Hp} (e : TK H H') : ∀ {t : Trm} {v : V}, TmAt H t v → TmAt H' t v
  | .num i, v, h => by
    obtain ⟨a, h1, h2⟩ := h
    exact ⟨a, h1, e.to _ _ h2⟩
  | .name z, v, h => by
    obtain ⟨a, h1, h2⟩ := h
    exact ⟨a, h1, e.to _ _ h2⟩
  | .op o s t, v, h => by
    obtain ⟨a, x, y, h1, h2, h3, h4⟩ := h
    exact ⟨a, x, y, h1, e.to _ _ h2, TmAt.tk e h3, TmAt.tk e h4⟩
theorem TmAt.sm {H H' : Hp} (e : Sm H H') {t : Trm} {v : V} (h : TmAt H t v) : TmAt H' t v := h.tk e.tk
theorem TmsAt.tk {H H' : Hp} {xs : List V} {ts : List Trm} (e : TK H H') (h : TmsAt H xs ts) : TmsAt H' xs ts := h.imp fun _ _ z => z.tk e
theorem TmsAt.sm {H H' : Hp} {xs : List V} {ts : List Trm} (e : Sm H H') (h : TmsAt H xs ts) : TmsAt H' xs ts := h.tk e.tk
/-- a term is a tuple of a word and something -/
theorem TmAt.tuple {H : Hp} {t : Trm} {v : V} (h : TmAt H t v) : ∃ a z xs, v = .ref a ∧ H a = some (.tup (.str z :: xs)) ∧ xs.length ≤ 2 ∧ (z = Str.ofString "num" ∨ z = Str.ofString "name" → t.kids = []) ∧ (¬ (z = Str.ofString "num" ∨ z = Str.ofString "name") → TmsAt H xs t.kids) := by
  cases t with
  | num i =>
    obtain ⟨a, h1, h2⟩ := h
    exact ⟨a, _, _, h1, h2, Nat.le_succ 1, fun _ => rfl, fun n => absurd (.inl rfl) n⟩
  | name z =>
    obtain ⟨a, h1, h2⟩ := h
    exact ⟨a, _, _, h1, h2, Nat.le_succ 1, fun _ => rfl, fun n => absurd (.inr rfl) n⟩
  | op o s t =>
    obtain ⟨a, x, y, h1, h2, h3, h4⟩ := h
    refine ⟨a, _, _, h1, h2, Nat.le_refl 2, fun n => ?_, fun _ => ⟨h3, h4, trivial⟩⟩
    exfalso
    cases o <;> rcases n with n | n <;> exact absurd n (by decide +kernel)
theorem TmAt.items {H : Hp} {t : Trm} {v : V} (h : TmAt H t v) : ∃ a z xs, v = .ref a ∧ H a = some (.tup (.str z :: xs)) ∧ xs.length ≤ 2 ∧ ((t.kids = [] ∧ ∀ x ∈ xs, (∃ i, x = .int i) ∨ ∃ z, x = .str z) ∨ TmsAt H xs t.kids) := by
  cases t with
  | num i =>
    obtain ⟨a, h1, h2⟩ := h
    exact ⟨a, _, _, h1, h2, Nat.le_succ 1, .inl ⟨rfl, fun x hx => .inl ⟨i, List.mem_singleton.mp hx⟩⟩⟩
  | name z =>
    obtain ⟨a, h1, h2⟩ := h
    exact ⟨a, _, _, h1, h2, Nat.le_succ 1, .inl ⟨rfl, fun x hx => .inr ⟨z, List.mem_singleton.mp hx⟩⟩⟩
  | op o s t =>
    obtain ⟨a, x, y, h1, h2, h3, h4⟩ := h
    exact ⟨a, _, _, h1, h2, Nat.le_refl 2, .inr ⟨h3, h4, trivial⟩⟩
theorem TmAt.dp {K : PySem.W.Frag} {H : Hp} : ∀ {t : Trm} {v : V}, TmAt H t v → Dp K H v t.data
  | .num i, v, h => by
    obtain ⟨a, rfl, h2⟩ := h
    exact .tup (SqT.of h2) (.cons (.str _) (.cons (.int _) .nil))
  | .name z, v, h => by
    obtain ⟨a, rfl, h2⟩ := h
    exact .tup (SqT.of h2) (.cons (.str _) (.cons (.str _) .nil))
  | .op o s t, v, h => by
    obtain ⟨a, x, y, rfl, h2, h3, h4⟩ := h
    exact .tup (SqT.of h2) (.cons (.str _) (.cons (TmAt.dp h3) (.cons (TmAt.dp h4) .nil)))
theorem TmsAt.dps {K : PySem.W.Frag} {H : Hp} : ∀ {xs : List V} {ts : List Trm}, TmsAt H xs ts → DpAll K H xs (ts.map Trm.data)
  | [], [], _ => .nil
  | _ :: _, _ :: _, h => .cons (TmAt.dp h.1) (TmsAt.dps h.2)
theorem Op3.lay (o : Op3) : PyData.strOk o.word = true := by
  cases o
  · show PyData.strOk (Str.ofString "plus") = true
    decide +kernel
  · show PyData.strOk (Str.ofString "times") = true
    decide +kernel
  · show PyData.strOk (Str.ofString "power") = true
    decide +kernel
theorem Trm.lay : ∀ {t : Trm}, t.okN → PyData.canLay0 t.data = true
  | .num i, _ => by
    show (PyData.strOk (Str.ofString "num") && true) = true
    decide +kernel
  | .name z, h => by
    have h : PyData.strOk z = true := h
    show (PyData.strOk (Str.ofString "name") && (PyData.strOk z && true)) = true
    rw [h]
    decide +kernel
  | .op o a b, h => by
    show (PyData.strOk o.word && (PyData.canLay0 a.data && (PyData.canLay0 b.data && true))) = true
    rw [Op3.lay, Trm.lay h.1, Trm.lay h.2]
    rfl
theorem Trm.low : ∀ t : Trm, PyData.depth t.data ≤ t.deep + 1
  | .num i => Nat.le_refl 1
  | .name z => Nat.le_refl 1
  | .op o a b => by
    have h1 := Trm.low a
    have h2 := Trm.low b
    show max 0 (max (PyData.depth a.data) (max (PyData.depth b.data) 0)) + 1 ≤ 1 + max a.deep b.deep + 1
    omega
theorem Trm.shaped {t : Trm} (h : t.okN) (d : t.deep ≤ 63) : SeqAt.shaped t.data = true := by
  have h1 := Trm.lay h
  have h2 := Trm.low t
  have h3 : PyData.depth t.data ≤ 64 := by omega
  cases t with
  | num i => exact Bool.and_eq_true_iff.mpr ⟨h1, decide_eq_true h3⟩
  | name z => exact Bool.and_eq_true_iff.mpr ⟨h1, decide_eq_true h3⟩
  | op o a b => exact Bool.and_eq_true_iff.mpr ⟨h1, decide_eq_true h3⟩
theorem tms_lay : ∀ {ts : List Trm}, (∀ t ∈ ts, t.okN) → PyData.canLayAll0 (ts.map Trm.data) = true
  | [], _ => rfl
  | t :: ts, h => by
    show (PyData.canLay0 t.data && PyData.canLayAll0 (ts.map Trm.data)) = true
    rw [Trm.lay (h t (by simp)), tms_lay fun s hs => h s (by simp [hs])]
    rfl
theorem tms_low : ∀ {ts : List Trm} {n : Nat}, (∀ t ∈ ts, t.deep ≤ n) → PyData.depthAll (ts.map Trm.data) ≤ n + 1
  | [], _, _ => Nat.zero_le _
  | t :: ts, n, h => by
    have h1 := Trm.low t
    have h2 := h t (by simp)
    have h3 := tms_low (ts := ts) (n := n) fun s hs => h s (by simp [hs])
    show max (PyData.depth t.data) (PyData.depthAll (ts.map Trm.data)) ≤ n + 1
    omega
theorem tms_shaped {ts : List Trm} (h : ∀ t ∈ ts, t.okN) (d : ∀ t ∈ ts, t.deep ≤ 62) : SeqAt.shaped (.list (ts.map Trm.data)) = true := by
  have h3 : PyData.depth (.list (ts.map Trm.data)) ≤ 64 := by
    have := tms_low d
    show PyData.depthAll (ts.map Trm.data) + 1 ≤ 64
    omega
  exact Bool.and_eq_true_iff.mpr ⟨tms_lay h, decide_eq_true h3⟩
section
variable {K : PySem.W.Frag} {H : Hp} {Q : VK}
theorem r_eqTm {t : Trm} {x y : V} (hx : TmAt H t x) (hy : TmAt H t y) (h : t.okN) (d : t.deep ≤ 63) (k : Q (.bl true) H) : rEqA K x y H Q :=
  r_eqD hx.dp hy.dp (Trm.shaped h d) (Trm.shaped h d) (by rw [SeqAt.eqv_refl _ (Trm.lay h)]; exact k)
theorem r_neTm {t : Trm} {x y : V} (hx : TmAt H t x) (hy : TmAt H t y) (h : t.okN) (d : t.deep ≤ 63) (k : Q (.bl false) H) : rNeA K x y H Q :=
  r_neD hx.dp hy.dp (Trm.shaped h d) (Trm.shaped h d) (by rw [SeqAt.eqv_refl _ (Trm.lay h)]; exact k)
theorem r_neTms {ts : List Trm} {a b : Addr} {xs ys : List V} (ha : H a = some (.lst xs)) (hb : H b = some (.lst ys)) (hx : TmsAt H xs ts) (hy : TmsAt H ys ts) (h : ∀ t ∈ ts, t.okN) (d : ∀ t ∈ ts, t.deep ≤ 62) (k : Q (.bl false) H) : rNeA K (.ref a) (.ref b) H Q :=
  r_neD (.lst (SqL.of ha) hx.dps) (.lst (SqL.of hb) hy.dps) (tms_shaped h d) (tms_shaped h d) (by
    have e : PyData.eqv (.list (ts.map Trm.data)) (.list (ts.map Trm.data)) = true := SeqAt.eqv_refl _ (tms_lay h)
    rw [e]
    exact k)
/-- tuples of ints -/
theorem r_neTI {a b : Addr} {ns : List Int} (ha : SqT K H a (ns.map V.int)) (hb : SqT K H b (ns.map V.int)) (k : Q (.bl false) H) : rNeA K (.ref a) (.ref b) H Q := by
  have h1 := lay_ints ns
  have h2 := deep_ints ns
  have h3 : PyData.depth (.tuple (ns.map PyData.int)) ≤ 64 := by
    show PyData.depthAll (ns.map PyData.int) + 1 ≤ 64
    omega
  have h4 : SeqAt.shaped (.tuple (ns.map PyData.int)) = true := Bool.and_eq_true_iff.mpr ⟨h1, decide_eq_true h3⟩
  have e : PyData.eqv (.tuple (ns.map PyData.int)) (.tuple (ns.map PyData.int)) = true := SeqAt.eqv_refl _ h1
  exact r_neD (.tup ha (dps_ints ns)) (.tup hb (dps_ints ns)) h4 h4 (by rw [e]; exact k)
end
/-! what is left to look at: terms, each so far down -/
abbrev DmsAt (H : Hp) : List V → List (Trm × Nat) → Prop := All2 fun v t => ∃ p x, v = .ref p ∧ H p = some (.tup [x, .int (t.2 : Int)]) ∧ TmAt H t.1 x
theorem DmsAt.tk {H H' : Hp} {xs : List V} {ts : List (Trm × Nat)} (e : TK H H') (h : DmsAt H xs ts) : DmsAt H' xs ts := h.imp fun _ _ ⟨p, x, a, b, c⟩ => ⟨p, x, a, e.to _ _ b, c.tk e⟩
def sizes : List Trm → Nat
  | [] => 0
  | t :: ts => t.size + sizes ts
theorem sizes_app : ∀ s t : List Trm, sizes (s ++ t) = sizes s + sizes t
  | [], t => by simp [sizes]
  | a :: s, t => by
    show a.size + sizes (s ++ t) = a.size + sizes s + sizes t
    rw [sizes_app s t]
    omega
theorem sizes_len : ∀ s : List Trm, s.length ≤ sizes s
  | [] => Nat.le_refl 0
  | a :: s => by
    have h1 := a.size_pos
    have h2 := sizes_len s
    show s.length + 1 ≤ a.size + sizes s
    omega
theorem size_kids (t : Trm) : t.size = 1 + sizes t.kids := by
  cases t with
  | num i => rfl
  | name z => rfl
  | op o a b =>
    show 1 + a.size + b.size = 1 + (a.size + (b.size + 0))
    omega
theorem kids_len (t : Trm) : t.kids.length ≤ 2 := by cases t <;> simp [Trm.kids]
/-- the farthest step down of all that is left, and of what was found -/
structure Far (D : Nat) (m : Nat) (ts : List (Trm × Nat)) : Prop where
  le : m ≤ D
  all : ∀ t ∈ ts, t.2 + t.1.deep ≤ D
  some : m = D ∨ ∃ t ∈ ts, t.2 + t.1.deep = D
theorem Far.one (t : Trm) : Far t.deep 0 [(t, 0)] := ⟨Nat.zero_le _, fun s h => by
  rw [List.mem_singleton.mp h]
  show 0 + t.deep ≤ t.deep
  omega, .inr ⟨(t, 0), List.mem_singleton.mpr rfl, Nat.zero_add _⟩⟩
theorem Far.none {D m : Nat} (h : Far D m []) : m = D := by
  rcases h.some with e | ⟨t, ht, _⟩
  · exact e
  · cases ht
theorem Far.step {D m d k : Nat} {t : Trm} {ts : List (Trm × Nat)} (h : Far D m (ts ++ [(t, d)])) (h1 : m ≤ k) (h2 : d ≤ k) (h3 : k = m ∨ k = d) : Far D k (ts ++ t.kids.map fun s => (s, d + 1)) := by
  have ht : d + t.deep ≤ D := h.all (t, d) (by simp)
  have hk : ∀ s ∈ t.kids, d + 1 + s.deep ≤ d + t.deep := by
    intro s hs
    cases t with
    | num i => cases hs
    | name z => cases hs
    | op o a b =>
      have e : (Trm.op o a b).deep = 1 + max a.deep b.deep := rfl
      rw [e]
      rcases List.mem_cons.mp hs with rfl | hs
      · omega
      · rw [List.mem_singleton.mp hs]
        omega
  refine ⟨?_, ?_, ?_⟩
  · have := h.le
    rcases h3 with e | e <;> omega
  · intro s hs
    rcases List.mem_append.mp hs with hs | hs
    · exact h.all s (by simp [hs])
    · obtain ⟨u, hu, rfl⟩ := List.mem_map.mp hs
      have := hk u hu
      show d + 1 + u.deep ≤ D
      omega
  · rcases h.some with e | ⟨s, hs, e⟩
    · have := h.le
      left
      rcases h3 with e | e <;> omega
    · rcases List.mem_append.mp hs with hs | hs
      · exact .inr ⟨s, by simp [hs], e⟩
      · have es : s = (t, d) := List.mem_singleton.mp hs
        subst es
        have e : d + t.deep = D := e
        cases t with
        | num i =>
          left
          have e2 : (Trm.num i).deep = 0 := rfl
          have := h.le
          rcases h3 with e | e <;> omega
        | name z =>
          left
          have e2 : (Trm.name z).deep = 0 := rfl
          have := h.le
          rcases h3 with e | e <;> omega
        | op o a b =>
          have e2 : (Trm.op o a b).deep = 1 + max a.deep b.deep := rfl
          rcases Nat.le_total a.deep b.deep with g | g
          · exact .inr ⟨(b, d + 1), by simp [Trm.kids], by show d + 1 + b.deep = D; omega⟩
          · exact .inr ⟨(a, d + 1), by simp [Trm.kids], by show d + 1 + a.deep = D; omega⟩
theorem Trm.size_le : ∀ t : Trm, t.size + 1 ≤ 2 ^ (t.deep + 1)
  | .num _ => Nat.le_refl 2
  | .name _ => Nat.le_refl 2
  | .op _ a b => by
    have h1 := Trm.size_le a
    have h2 := Trm.size_le b
    have h3 : 2 ^ (a.deep + 1) ≤ 2 ^ (1 + max a.deep b.deep) := Nat.pow_le_pow_right (by decide) (by omega)
    have h4 : 2 ^ (b.deep + 1) ≤ 2 ^ (1 + max a.deep b.deep) := Nat.pow_le_pow_right (by decide) (by omega)
    show 1 + a.size + b.size + 1 ≤ 2 ^ (1 + max a.deep b.deep + 1)
    rw [Nat.pow_succ]
    omega
theorem rep_one (c n : Nat) : (⟨((List.replicate n (SX.S [c]).cps.toList).flatten).toArray⟩ : Str) = SX.S (List.replicate n c) := by
  have e : (SX.S [c]).cps.toList = [c] := rfl
  have h : ∀ n : Nat, (List.replicate n [c]).flatten = List.replicate n c := fun n => by
    induction n with
    | zero => rfl
    | succ n ih => rw [List.replicate_succ, List.flatten_cons, ih]; rfl
  rw [e, h]
theorem sizes_pos {s : List Trm} (h : s ≠ []) : 1 ≤ sizes s := by
  cases s with
  | nil => exact absurd rfl h
  | cons a s =>
    have := a.size_pos
    show 1 ≤ a.size + sizes s
    omega
theorem deep_lt_size : ∀ t : Trm, t.deep < t.size
  | .num _ => Nat.lt_succ_self 0
  | .name _ => Nat.lt_succ_self 0
  | .op _ a b => by
    have h1 := deep_lt_size a
    have h2 := deep_lt_size b
    show 1 + max a.deep b.deep < 1 + a.size + b.size
    omega
def dsz (ts : List (Trm × Nat)) : Nat := sizes (ts.map Prod.fst)
theorem dsz_app (a b : List (Trm × Nat)) : dsz (a ++ b) = dsz a + dsz b := by
  unfold dsz
  rw [List.map_append, sizes_app]
theorem dsz_kids (t : Trm) (d : Nat) : dsz (t.kids.map fun s => (s, d)) = sizes t.kids := by
  unfold dsz
  rw [List.map_map]
  have e : (Prod.fst ∘ fun s : Trm => (s, d)) = id := rfl
  rw [e, List.map_id]
theorem dsz_len (a : List (Trm × Nat)) : a.length ≤ dsz a := by
  have := sizes_len (a.map Prod.fst)
  rw [List.length_map] at this
  exact this
/-! sums from the left -/
def sumT : List Trm → Trm
  | [] => .num 0
  | t :: ts => ts.foldl (fun a b => .op .plus a b) t
theorem fold_take {ts : List Trm} {t u : Trm} {i : Nat} (h : ts[i]? = some u) : (ts.take (i + 1)).foldl (fun a b => Trm.op .plus a b) t = .op .plus ((ts.take i).foldl (fun a b => Trm.op .plus a b) t) u := by
  rw [List.take_add_one, h, List.foldl_append]
  rfl
theorem sumT_take {ts : List Trm} {u : Trm} {i : Nat} (h : ts[i + 1]? = some u) : sumT (ts.take (i + 2)) = .op .plus (sumT (ts.take (i + 1))) u := by
  cases ts with
  | nil => simp at h
  | cons t ts => exact fold_take (by simpa using h)
theorem sumT_one {ts : List Trm} {u : Trm} (h : ts[0]? = some u) : sumT (ts.take 1) = u := by
  cases ts with
  | nil => simp at h
  | cons t ts => exact Option.some.inj h
theorem fold_okN : ∀ {ts : List Trm} {t : Trm}, t.okN → (∀ u ∈ ts, u.okN) → (ts.foldl (fun a b => Trm.op .plus a b) t).okN
  | [], _, h, _ => h
  | u :: ts, t, h, g => fold_okN (ts := ts) (t := .op .plus t u) ⟨h, g u (by simp)⟩ fun v hv => g v (by simp [hv])
theorem sumT_okN {ts : List Trm} (h : ∀ u ∈ ts, u.okN) : (sumT ts).okN := by
  cases ts with
  | nil => trivial
  | cons t ts => exact fold_okN (h t (by simp)) fun u hu => h u (by simp [hu])
theorem fold_deep {d : Nat} : ∀ {ts : List Trm} {t : Trm} {n : Nat}, t.deep ≤ d + n → (∀ u ∈ ts, u.deep ≤ d) → (ts.foldl (fun a b => Trm.op .plus a b) t).deep ≤ d + n + ts.length
  | [], _, _, h, _ => h
  | u :: ts, t, n, h, g => by
    have h1 := g u (by simp)
    have h2 : (Trm.op .plus t u).deep ≤ d + (n + 1) := by
      show 1 + max t.deep u.deep ≤ _
      omega
    have h3 := fold_deep (ts := ts) (t := .op .plus t u) (n := n + 1) h2 fun v hv => g v (by simp [hv])
    rw [List.foldl_cons, List.length_cons]
    omega
theorem sumT_deep {d : Nat} {ts : List Trm} (h : ∀ u ∈ ts, u.deep ≤ d) : (sumT ts).deep ≤ d + ts.length := by
  cases ts with
  | nil => exact Nat.zero_le _
  | cons t ts =>
    have := fold_deep (d := d) (n := 0) (ts := ts) (t := t) (h t (by simp)) fun u hu => h u (by simp [hu])
    rw [List.length_cons]
    show (ts.foldl (fun a b => Trm.op .plus a b) t).deep ≤ _
    omega
/-- a full term -/
def fullT (z : Str) : Nat → Trm
  | 0 => .name z
  | n + 1 => .op .plus (fullT z n) (fullT z n)
theorem fullT_deep (z : Str) : ∀ n, (fullT z n).deep = n
  | 0 => rfl
  | n + 1 => by
    show 1 + max (fullT z n).deep (fullT z n).deep = n + 1
    rw [fullT_deep z n]
    omega
/-! texts of written signs -/
theorem digits_fold : ∀ (cs : List Nat) (m : Nat), NumText.AllDigits cs → cs.foldl (fun n c => n * 10 + (c - 48)) m + 1 ≤ (m + 1) * 10 ^ cs.length
  | [], m, _ => by simp
  | c :: cs, m, h => by
    have h1 := digits_fold cs (m * 10 + (c - 48)) (fun d hd => h d (by simp [hd]))
    have h2 : 48 ≤ c ∧ c ≤ 57 := h c (by simp)
    have h3 : m * 10 + (c - 48) + 1 ≤ (m + 1) * 10 := by omega
    have h4 : (m * 10 + (c - 48) + 1) * 10 ^ cs.length ≤ (m + 1) * 10 * 10 ^ cs.length := Nat.mul_le_mul_right _ h3
    rw [List.foldl_cons, List.length_cons, Nat.pow_succ, Nat.mul_comm (10 ^ cs.length) 10, ← Nat.mul_assoc]
    exact Nat.le_trans h1 h4
theorem digits_lt {cs : List Nat} (h : NumText.AllDigits cs) : NumText.digitsVal cs < 10 ^ cs.length := by
  have := digits_fold cs 0 h
  rw [Nat.zero_add, Nat.one_mul] at this
  exact this
/-- one figure -/
theorem fig_text {i : Int} (h0 : 0 ≤ i) (h1 : i < 10) : Str.ofString (toString i) = SX.S [48 + i.toNat] := by
  obtain ⟨n, rfl⟩ := Int.eq_ofNat_of_zero_le h0
  have h : ∀ n : Fin 10, Str.ofString (toString ((n.val : Nat) : Int)) = SX.S [48 + n.val] := by decide +kernel
  exact h ⟨n, by omega⟩
theorem S_app (a b : List Nat) : (SX.S a ++ SX.S b : Str) = SX.S (a ++ b) := SX.S_cat a b
theorem cutS_to (l : List Nat) {i : Int} (h0 : 0 ≤ i) : cutS (SX.S l) none (some i) = SX.S (l.take i.toNat) := by
  obtain ⟨n, rfl⟩ := Int.eq_ofNat_of_zero_le h0
  have e1 : (SX.S l).cps.toList = l := by show l.toArray.toList = l; simp
  unfold cutS
  rw [HT.sIx_none, HT.sIx_nat, e1, SX.S_len, Int.toNat_natCast, List.drop_zero, Nat.sub_zero]
  show (⟨(l.take (min n l.length)).toArray⟩ : Str) = ⟨(l.take n).toArray⟩
  rcases Nat.le_total n l.length with h | h
  · rw [Nat.min_eq_left h]
  · rw [Nat.min_eq_right h, List.take_length, List.take_of_length_le h]
theorem cutS_from (l : List Nat) {i : Int} (h0 : 0 ≤ i) : cutS (SX.S l) (some i) none = SX.S (l.drop i.toNat) := by
  obtain ⟨n, rfl⟩ := Int.eq_ofNat_of_zero_le h0
  have e1 : (SX.S l).cps.toList = l := by show l.toArray.toList = l; simp
  unfold cutS
  rw [HT.sIx_none, HT.sIx_nat, e1, SX.S_len, Int.toNat_natCast]
  show (⟨((l.drop (min n l.length)).take (l.length - min n l.length)).toArray⟩ : Str) = ⟨(l.drop n).toArray⟩
  rcases Nat.le_total n l.length with h | h
  · rw [Nat.min_eq_left h, List.take_of_length_le (by rw [List.length_drop]; exact Nat.le_refl _)]
  · rw [Nat.min_eq_right h, Nat.sub_self, List.take_zero, List.drop_eq_nil_of_le h]
/-- signs of the written ones -/
def Low (l : List Nat) : Prop := ∀ c ∈ l, c < 128
theorem Low.ok {l : List Nat} (h : Low l) : PyData.strOk (SX.S l) = true := by
  show l.toArray.all (· < 0x110000) = true
  rw [List.all_toArray, List.all_eq_true]
  intro c hc
  have := h c hc
  exact decide_eq_true (by omega)
theorem Low.app {a b : List Nat} (h : Low a) (g : Low b) : Low (a ++ b) := fun c hc => (List.mem_append.mp hc).elim (h c) (g c)
theorem Low.take {a : List Nat} (h : Low a) (n : Nat) : Low (a.take n) := fun c hc => h c (List.mem_of_mem_take hc)
theorem Low.drop {a : List Nat} (h : Low a) (n : Nat) : Low (a.drop n) := fun c hc => h c (List.mem_of_mem_drop hc)
theorem Low.one {c : Nat} (h : c < 128) : Low [c] := fun d hd => by
  rw [List.mem_singleton.mp hd]
  exact h
end RV

/-! lists of own objects, item by item equal: == is True, != is False -/
namespace RV
open PySem PySem.Spec L2
open PyProof.Rows hiding St
section
open PySem.SeqAt AutoSeq1 MeetsSeq MeetsSeq2 MeetsSeq3 SeqRoads2
variable {prog : PySem.Program} {w : World} {A : Around} {R : Result → Shared → Prop}
theorem unlike_loop (l b : Addr) (N : Nat) (I : Nat → Shared → Prop) (hl : GQ.ListI prog w A (fun e s' => R (.error e) s') l b N I)
    (fin : ∀ s, I N s → R (.ok (.ret (.bool false))) s) : ∀ (k i : Nat), N - i = k → i ≤ N → ∀ s, I i s →
      wpAny (model prog w) A.in1 (Builtin.«list.__eq__.loop» ⟨[.ref l, .ref b, rawInt i, rawInt 3], []⟩) (GQ.FinOf prog w A R) (fun e s' => R (.error e) s') s := by
  intro k
  induction k with
  | zero =>
    intro i hk hi s hI
    obtain ⟨us, vs, n1, n2, e1, e2, z1, z2, _⟩ := hl i s hI
    have hR : R (.ok (.ret (.bool false))) s := by
      refine fin s ?_
      rw [show N = i by omega]
      exact hI
    cases s with
    | mk hp g d tk os =>
      wp_walk using wpAny_loadPart' e1, wpAny_loadPart' e2
      have g1 : us[((i : Nat) : Int).toNat]? = none := by
        simp
        omega
      have g2 : vs[((i : Nat) : Int).toNat]? = none := by
        simp
        omega
      rw [g1, g2]
      wp_walk using wpAny_loadPart' e1, wpAny_loadPart' e2
      show R (.ok (.ret (.bool (us.size != vs.size)))) _
      rw [z1, z2]
      simpa using hR
  | succ k ih =>
    intro i hk hi s hI
    obtain ⟨us, vs, n1, n2, e1, e2, z1, z2, one⟩ := hl i s hI
    have y1 : i < us.size := by omega
    have y2 : i < vs.size := by omega
    have it := one y1 y2
    cases s with
    | mk hp g d tk os =>
      wp_walk using wpAny_loadPart' e1, wpAny_loadPart' e2
      have g1 : us[((i : Nat) : Int).toNat]? = some us[i] := by simp [y1]
      have g2 : vs[((i : Nat) : Int).toNat]? = some vs[i] := by simp [y2]
      have up : ((i : Int) + 1) = ((i + 1 : Nat) : Int) := by omega
      rw [g1, g2]
      refine wpAny_bind (wpAny_mono it (fun r s2 q2 => ?_) fun _ _ x => x)
      obtain ⟨hr, q2⟩ := q2
      subst hr
      have on := ih (i + 1) (by omega) (by omega) s2 q2
      cases s2 with
      | mk hp2 g2 d2 tk2 os2 =>
        wp_walk
        rw [up]
        refine ⟨plainId_quiet plain_eq_loop _, codeAny_builtin entry_eq_loop ?_⟩
        rw [Around.under_plainId plain_eq_loop _]
        exact on
theorem unlike_list (l b : Addr) (N : Nat) (I : Nat → Shared → Prop) (hl : GQ.ListI prog w A (fun e s' => R (.error e) s') l b N I)
    (fin : ∀ s, I N s → R (.ok (.ret (.bool false))) s) {s : Shared} (h0 : I 0 s) :
    wpAny (model prog w) A.in1 (Builtin.«list.__ne__» ⟨[.ref l, .ref b], []⟩) (GQ.FinOf prog w A R) (fun e s' => R (.error e) s') s := by
  obtain ⟨us, vs, n1, n2, e1, e2, z1, z2, _⟩ := hl 0 s h0
  have on := unlike_loop (A := A) (R := R) l b N I hl fin N 0 rfl (Nat.zero_le _) s h0
  cases s with
  | mk hp g d tk os =>
    have k1 := AutoSeq1.sub_list_list
    have same : ¬ (us.size != vs.size) = true := by simp [z1, z2]
    wp_walk using wpAny_loadPart' e1, wpAny_loadPart' e2
    refine ⟨plainId_quiet plain_eq_loop _, codeAny_builtin entry_eq_loop ?_⟩
    rw [Around.under_plainId plain_eq_loop _]
    exact on
theorem unlike_rc {E : Value → Shared → Prop} {s : Shared} {l b : Addr} {N : Nat} {Q : Value → Shared → Prop} (hu : A.units < cLine) (I : Nat → Shared → Prop) (hl : GQ.ListI prog w A E l b N I)
    (fin : ∀ s, I N s → Q (.bool false) s) (h : I 0 s) : wpAny (model prog w) A (richCompare .NotEq (.ref l) (.ref b)) Q E s := by
  obtain ⟨us, vs, n1, n2, e1, e2, _, _, _⟩ := hl 0 s h
  refine wpAny_richCompare_same_room (op := .NotEq) ⟨_, e1, rfl⟩ ⟨_, e2, rfl⟩ F.slot_list_ne (GQ.call_here F.slot_list_ne ⟨_, e1, rfl⟩ F.entry_list_ne (F.args_list_ne_2 _ _) ?_) hu
  exact unlike_list (R := wants (fun v s' => v ≠ .notImplemented ∧ Q v s') E) l b N I hl (fun s' q => ⟨(fun x => nomatch x), fin s' q⟩) h
end
section
variable {X : Cx} {n : Nat} {D : Eqv}
/-- x != y of two lists, item by item equal -/
def rNeG (D : Eqv) : R2 := fun x y H Q => DList D x y H ∧ ∀ H', Ext H H' → Q (.bl false) H'
theorem op_neG (hD : Mon D) (h : EqG X n D) (hr : Room (n + 1) X.A) : OpR X (compareOp .NotEq) (rNeG D) := by
  intro pins s σ H x y v u Q I rx ry hq
  obtain ⟨⟨a, b, xs, ys, rfl, rfl, ha, hb, p⟩, q⟩ := hq
  cases rx
  cases ry
  have sb : Sub X (n + 1) X.A := ⟨hr, rfl⟩
  show wpAny (model X.prog X.w) X.A (richCompare .NotEq (.ref a) (.ref b)) (EP X pins σ Q) X.xe s
  refine unlike_rc (N := xs.length) sb.room.units0 (fun _ s' => LoopI X pins σ H s') (fun i s' z => ?_) (fun s' z => ?_) ⟨H, I, Ext.rfl'⟩
  · obtain ⟨H1, I1, e1⟩ := id z
    obtain ⟨z1, us, k1, r1, o1⟩ := I1.hok a _ (e1 _ _ ha)
    obtain ⟨z2, vs, k2, r2, o2⟩ := I1.hok b _ (e1 _ _ hb)
    refine ⟨us.toArray, vs.toArray, k1, k2, o1, o2, by rw [List.size_toArray, ← r1.length], by rw [List.size_toArray, ← r2.length, ← p.1], fun y1 y2 => ?_⟩
    exact turnG hD h sb p r1 r2 i y1 y2 s' z
  · obtain ⟨H1, I1, e1⟩ := z
    exact ⟨.bl false, H1, I1, rfl, q H1 e1⟩
theorem op_eqLG (hD : Mon D) (h : EqG X n D) (hr : Room (n + 1) X.A) : OpR X (compareOp .Eq) (rEqG (DList D)) := op_eqG (rcG_list hD h) hr
end
section
variable {H : Hp} {Q : VK} {D : Eqv} {a b : Addr} {xs ys : List V}
theorem r_neG (ha : H a = some (.lst xs)) (hb : H b = some (.lst ys)) (p : Prs D xs ys H) (k : ∀ H', Sm H H' → Q (.bl false) H') : rNeG D (.ref a) (.ref b) H Q := ⟨⟨a, b, xs, ys, rfl, rfl, ha, hb, p⟩, fun H' e => k H' ⟨e⟩⟩
theorem r_eqG (ha : H a = some (.lst xs)) (hb : H b = some (.lst ys)) (p : Prs D xs ys H) (k : ∀ H', Sm H H' → Q (.bl true) H') : rEqG (DList D) (.ref a) (.ref b) H Q := ⟨⟨a, b, xs, ys, rfl, rfl, ha, hb, p⟩, fun H' e => k H' ⟨e⟩⟩
end
end RV

/-! sayings: objects of a word and two terms; terms shown -/
namespace RV
open PySem PySem.Spec L2
open PyProof.Rows hiding St
def Trm.word : Trm → Str
  | .num _ => Str.ofString "num"
  | .name _ => Str.ofString "name"
  | .op o _ _ => o.word
theorem w_num_name : ¬ Str.ofString "num" = Str.ofString "name" := by decide +kernel
theorem w_num_op (o : Op3) : ¬ Str.ofString "num" = o.word := by
  cases o
  · show ¬ Str.ofString "num" = Str.ofString "plus"
    decide +kernel
  · show ¬ Str.ofString "num" = Str.ofString "times"
    decide +kernel
  · show ¬ Str.ofString "num" = Str.ofString "power"
    decide +kernel
theorem w_name_op (o : Op3) : ¬ Str.ofString "name" = o.word := by
  cases o
  · show ¬ Str.ofString "name" = Str.ofString "plus"
    decide +kernel
  · show ¬ Str.ofString "name" = Str.ofString "times"
    decide +kernel
  · show ¬ Str.ofString "name" = Str.ofString "power"
    decide +kernel
theorem Op3.word_inj {o o2 : Op3} (h : o.word = o2.word) : o = o2 := by
  cases o <;> cases o2 <;> first
    | rfl
    | exact absurd (show Str.ofString "plus" = Str.ofString "times" from h) (by decide +kernel)
    | exact absurd (show Str.ofString "plus" = Str.ofString "power" from h) (by decide +kernel)
    | exact absurd (show Str.ofString "times" = Str.ofString "plus" from h) (by decide +kernel)
    | exact absurd (show Str.ofString "times" = Str.ofString "power" from h) (by decide +kernel)
    | exact absurd (show Str.ofString "power" = Str.ofString "plus" from h) (by decide +kernel)
    | exact absurd (show Str.ofString "power" = Str.ofString "times" from h) (by decide +kernel)
theorem TmAt.head {H : Hp} {t : Trm} {v : V} (h : TmAt H t v) : ∃ a xs, v = .ref a ∧ H a = some (.tup (.str t.word :: xs)) := by
  cases t with
  | num i =>
    obtain ⟨a, h1, h2⟩ := h
    exact ⟨a, _, h1, h2⟩
  | name z =>
    obtain ⟨a, h1, h2⟩ := h
    exact ⟨a, _, h1, h2⟩
  | op o s t =>
    obtain ⟨a, x, y, h1, h2, _⟩ := h
    exact ⟨a, _, h1, h2⟩
theorem TmAt.inj {H : Hp} : ∀ {t u : Trm} {v : V}, TmAt H t v → TmAt H u v → t = u
  | .num i, u, v, h, g => by
    obtain ⟨a, rfl, e⟩ := h
    obtain ⟨b, xs, e2, e3⟩ := g.head
    cases e2
    rw [e] at e3
    cases u with
    | num j =>
      obtain ⟨b, e4, e5⟩ := g
      cases e4
      rw [e] at e5
      cases e5
      rfl
    | name z =>
      have := (List.cons.inj (HO.tup.inj (Option.some.inj e3))).1
      exact absurd (V.str.inj this) w_num_name
    | op o s t =>
      have := (List.cons.inj (HO.tup.inj (Option.some.inj e3))).1
      exact absurd (V.str.inj this) (w_num_op o)
  | .name y, u, v, h, g => by
    obtain ⟨a, rfl, e⟩ := h
    obtain ⟨b, xs, e2, e3⟩ := g.head
    cases e2
    rw [e] at e3
    cases u with
    | num j =>
      have := (List.cons.inj (HO.tup.inj (Option.some.inj e3))).1
      exact absurd (V.str.inj this) (fun e => w_num_name e.symm)
    | name z =>
      obtain ⟨b, e4, e5⟩ := g
      cases e4
      rw [e] at e5
      cases e5
      rfl
    | op o s t =>
      have := (List.cons.inj (HO.tup.inj (Option.some.inj e3))).1
      exact absurd (V.str.inj this) (w_name_op o)
  | .op o s t, u, v, h, g => by
    obtain ⟨a, x, y, rfl, e, h1, h2⟩ := h
    obtain ⟨b, xs, e2, e3⟩ := g.head
    cases e2
    rw [e] at e3
    cases u with
    | num j =>
      have := (List.cons.inj (HO.tup.inj (Option.some.inj e3))).1
      exact absurd (V.str.inj this) (fun e => w_num_op o e.symm)
    | name z =>
      have := (List.cons.inj (HO.tup.inj (Option.some.inj e3))).1
      exact absurd (V.str.inj this) (fun e => w_name_op o e.symm)
    | op o2 s2 t2 =>
      obtain ⟨b, x2, y2, e4, e5, g1, g2⟩ := g
      cases e4
      rw [e] at e5
      have e6 := HO.tup.inj (Option.some.inj e5)
      have e7 := V.str.inj (List.cons.inj e6).1
      have e8 := List.cons.inj (List.cons.inj e6).2
      have e9 := (List.cons.inj e8.2).1
      have eo : o = o2 := Op3.word_inj e7
      obtain rfl := e8.1
      obtain rfl := e9
      rw [eo, TmAt.inj h1 g1, TmAt.inj h2 g2]
/-- two terms side by side, to be held against one another -/
abbrev PmsAt (H : Hp) : List V → List (Trm × Trm) → Prop := All2 fun v p => ∃ q x y, v = .ref q ∧ H q = some (.tup [x, y]) ∧ TmAt H p.1 x ∧ TmAt H p.2 y
theorem PmsAt.tk {H H' : Hp} {xs : List V} {ps : List (Trm × Trm)} (e : TK H H') (h : PmsAt H xs ps) : PmsAt H' xs ps := h.imp fun _ _ ⟨q, x, y, a, b, c, d⟩ => ⟨q, x, y, a, e.to _ _ b, c.tk e, d.tk e⟩
def psz (ps : List (Trm × Trm)) : Nat := sizes (ps.map Prod.fst)
theorem psz_app (a b : List (Trm × Trm)) : psz (a ++ b) = psz a + psz b := by
  unfold psz
  rw [List.map_append, sizes_app]
theorem psz_len (a : List (Trm × Trm)) : a.length ≤ psz a := by
  have := sizes_len (a.map Prod.fst)
  rw [List.length_map] at this
  exact this
theorem op_eq_iff {o o2 : Op3} {a b c d : Trm} (h : o = o2) : (Trm.op o a b = Trm.op o2 c d) ↔ (b = d ∧ a = c) := by
  subst h
  exact ⟨fun e => by cases e; exact ⟨rfl, rfl⟩, fun e => by rw [e.1, e.2]⟩
/-! terms shown: not too long -/
def Trm.okS : Trm → Prop
  | .num i => i.natAbs < 2 ^ 64
  | .name z => ∃ l, z = SX.S l ∧ Low l ∧ l.length ≤ 12
  | .op _ a b => a.okS ∧ b.okS
theorem Trm.okS.okN : ∀ {t : Trm}, t.okS → t.okN
  | .num _, _ => trivial
  | .name z, h => by
    obtain ⟨l, e, h1, _⟩ := h
    show PyData.strOk z = true
    rw [e]
    exact h1.ok
  | .op _ _ _, h => ⟨okN h.1, okN h.2⟩
theorem shw_low {l : List Nat} (h : Low l) : Shw (10 * l.length + 2) 0 (.str (SX.S l)) := by
  refine shw_str ?_
  have e := StrLaws.reprText_len (SX.S l) (fun c hc => ?_)
  · rw [SX.S_len] at e
    exact e
  · have h1 : (SX.S l).cps.toList = l := by show l.toArray.toList = l; simp
    rw [h1] at hc
    have := h c hc
    exact Nat.lt_trans this (by decide)
theorem shw_two {n1 n2 k : Nat} {a b : PyData} (h1 : Shw n1 k a) (h2 : Shw n2 k b) : Shw (n1 + n2 + 7) (k + 1) (.tuple [a, b]) := by
  have e := tupleText_len_le (PyData.shownAll [a, b])
  simp only [PyData.shownAll, List.map_cons, List.map_nil, List.sum_cons, List.sum_nil, List.length_cons, List.length_nil] at e
  have l1 := h1.l
  have l2 := h2.l
  have d1 := h1.dp
  have d2 := h2.dp
  refine ⟨by simp only [PyData.showable, PyData.showableAll, h1.s, h2.s, Bool.and_true], by simp only [PyData.hasDict, PyData.hasDictAll, h1.h, h2.h, Bool.or_false], by simp only [PyData.depth, PyData.depthAll]; omega, ?_⟩
  simp only [PyData.shown, PyData.shownAll]
  omega
theorem shw_three {n1 n2 n3 k : Nat} {a b c : PyData} (h1 : Shw n1 k a) (h2 : Shw n2 k b) (h3 : Shw n3 k c) : Shw (n1 + n2 + n3 + 9) (k + 1) (.tuple [a, b, c]) := by
  have e := tupleText_len_le (PyData.shownAll [a, b, c])
  simp only [PyData.shownAll, List.map_cons, List.map_nil, List.sum_cons, List.sum_nil, List.length_cons, List.length_nil] at e
  have l1 := h1.l
  have l2 := h2.l
  have l3 := h3.l
  have d1 := h1.dp
  have d2 := h2.dp
  have d3 := h3.dp
  refine ⟨by simp only [PyData.showable, PyData.showableAll, h1.s, h2.s, h3.s, Bool.and_true], by simp only [PyData.hasDict, PyData.hasDictAll, h1.h, h2.h, h3.h, Bool.or_false], by simp only [PyData.depth, PyData.depthAll]; omega, ?_⟩
  simp only [PyData.shown, PyData.shownAll]
  omega
theorem shw_op (o : Op3) : Shw 60 0 (.str o.word) := by
  refine shw_str ?_
  cases o
  · show (reprText (Str.ofString "plus")).length ≤ 60
    decide +kernel
  · show (reprText (Str.ofString "times")).length ≤ 60
    decide +kernel
  · show (reprText (Str.ofString "power")).length ≤ 60
    decide +kernel
theorem Trm.shw : ∀ {t : Trm}, t.okS → Shw (180 * t.size) (t.deep + 1) t.data
  | .num i, h => by
    have h1 : Shw 60 0 (.str (Str.ofString "num")) := shw_str (by decide +kernel)
    have h2 := shw_int (i := i) h
    exact (shw_two h1 h2).up (by show 60 + 66 + 7 ≤ 180 * 1; decide) (Nat.le_refl 1)
  | .name z, h => by
    obtain ⟨l, e, h1, h2⟩ := h
    subst e
    have h3 : Shw 51 0 (.str (Str.ofString "name")) := shw_str (by decide +kernel)
    have h4 := shw_low h1
    exact (shw_two h3 h4).up (by show 51 + (10 * l.length + 2) + 7 ≤ 180 * 1; omega) (Nat.le_refl 1)
  | .op o a b, h => by
    have h1 := Trm.shw h.1
    have h2 := Trm.shw h.2
    have k1 : Shw (180 * a.size) (max a.deep b.deep + 1) a.data := h1.up (Nat.le_refl _) (by omega)
    have k2 : Shw (180 * b.size) (max a.deep b.deep + 1) b.data := h2.up (Nat.le_refl _) (by omega)
    have k3 : Shw 60 (max a.deep b.deep + 1) (.str o.word) := (shw_op o).up (Nat.le_refl _) (by omega)
    refine (shw_three k3 k1 k2).up ?_ ?_
    · show 60 + 180 * a.size + 180 * b.size + 9 ≤ 180 * (1 + a.size + b.size)
      omega
    · show max a.deep b.deep + 1 + 1 ≤ 1 + max a.deep b.deep + 1
      omega
/-! repr of data that are nested deeply -/
def rReprDeep (K : PySem.W.Frag) : List V → Hp → VK → Prop := fun xs H Q => ∃ (a : Addr) (d : PyData), xs = [.ref a] ∧ Dp K H (.ref a) d ∧ d.showable = true ∧ d.hasDict = false ∧ d.depth ≤ 180 ∧ d.shown.length ≤ sizeLine ∧ Q (.str d.shown) H
theorem repr_deep {X : Cx} {K : PySem.W.Frag} (e : X.K = K) (hg : X.A.guards = some []) (hu : X.A.units + 200 < cLine) : CallR X (.builtin "repr") (rReprDeep K) := by
  intro pins s σ H xs us Q I r h
  obtain ⟨a, d, rfl, hd, h1, h2, h3, h4, q⟩ := h
  obtain ⟨u, rfl, ru⟩ := vals1 r
  subst e
  obtain ⟨as, hr⟩ := Dp.reads I d _ _ hd ru
  obtain rfl : u = Value.ref a := ru
  refine repr_of_reads' hr h1 (PyData.noDict_hsm h2) hg (by omega) (fun b o e => e) (fun h' u tk hk => ?_) h4
  exact ⟨.str d.shown, H, I.kept (t' := tk) hk, ⟨u, rfl⟩, q⟩
theorem units200 {k : Nat} {A : Around} (r : Room k A) : A.units + 200 < cLine := by
  have := r.un
  omega
theorem r_reprDeep {K : PySem.W.Frag} {H : Hp} {Q : VK} {a : Addr} {d : PyData} {n k : Nat} (h : Dp K H (.ref a) d) (x : Shw n k d) (hn : n ≤ 16000000) (hk : k ≤ 180) (q : Q (.str d.shown) H) : rReprDeep K [.ref a] H Q :=
  ⟨a, d, rfl, h, x.s, x.h, Nat.le_trans x.dp hk, Nat.le_trans x.l (Nat.le_trans hn (Nat.le_trans (by decide) line24)), q⟩
theorem fld_k {X : Cx} {K : PySem.W.Frag} {e : Expr} {f : Str} {pos : Pos} {ta : TE} (ek : X.K = K) (he : PE X e ta) (hb : attributeBase e f X.env (eval e X.env) = eval e X.env) : PE X (.Attribute e f pos) (tFld K ta f) := ek ▸ pe_fld he hb
/-! sayings -/
theorem put_say (w : Str) (x y : V) : putF "right" y (putF "left" x (putF "word" (.str w) [])) = ([("word", .str w), ("left", x), ("right", y)] : List (Str × V)) := by
  have n1 : ¬ (("word" : Str) = "left") := by decide +kernel
  have n2 : ¬ (("word" : Str) = "right") := by decide +kernel
  have n3 : ¬ (("left" : Str) = "right") := by decide +kernel
  have e1 : putF "left" x (putF "word" (.str w) []) = ([("word", .str w), ("left", x)] : List (Str × V)) := by
    show (if ("word" : Str) = "left" then _ else (("word" : Str), V.str w) :: putF "left" x []) = _
    rw [if_neg n1]
    rfl
  rw [e1]
  show (if ("word" : Str) = "right" then _ else (("word" : Str), V.str w) :: (if ("left" : Str) = "right" then _ else (("left" : Str), x) :: putF "right" y [])) = _
  rw [if_neg n2, if_neg n3]
  rfl
theorem get_word (w : Str) (x y : V) : ([("word", .str w), ("left", x), ("right", y)] : List (Str × V)).lookup ("word" : Str) = some (.str w) := by
  have n1 : ¬ (("word" : Str) = "left") := by decide +kernel
  have n2 : ¬ (("word" : Str) = "right") := by decide +kernel
  rw [← put_say, lookup_putF, if_neg n2, lookup_putF, if_neg n1, lookup_putF, if_pos rfl]
theorem get_left (w : Str) (x y : V) : ([("word", .str w), ("left", x), ("right", y)] : List (Str × V)).lookup ("left" : Str) = some x := by
  have n3 : ¬ (("left" : Str) = "right") := by decide +kernel
  rw [← put_say, lookup_putF, if_neg n3, lookup_putF, if_pos rfl]
theorem get_right (w : Str) (x y : V) : ([("word", .str w), ("left", x), ("right", y)] : List (Str × V)).lookup ("right" : Str) = some y := by
  rw [← put_say, lookup_putF, if_pos rfl]
/-- one saying, of these two sides -/
def SayAt (C : Addr) (H : Hp) (p : Addr) (w : Str) (l r : Trm) : Prop := ∃ dx x y, H p = some (.ins C dx [("word", .str w), ("left", x), ("right", y)]) ∧ TmAt H l x ∧ TmAt H r y
theorem SayAt.sm {C : Addr} {H H' : Hp} {p : Addr} {w : Str} {l r : Trm} (e : Sm H H') (h : SayAt C H p w l r) : SayAt C H' p w l r := by
  obtain ⟨dx, x, y, a, b, c⟩ := h
  exact ⟨dx, x, y, e.to _ _ a, b.sm e, c.sm e⟩
theorem SayAt.chgL {C A : Addr} {H H' : Hp} {p : Addr} {w : Str} {l r : Trm} {xs : List V} (hA : H A = some (.lst xs)) (e : Chg A H H') (h : SayAt C H p w l r) : SayAt C H' p w l r := by
  obtain ⟨dx, x, y, a, b, c⟩ := h
  have tk : TK H H' := ⟨fun t zs g => e.to _ _ (ne_of g hA (by intro z; cases z)) g⟩
  exact ⟨dx, x, y, e.to _ _ (ne_of a hA (by intro z; cases z)) a, b.tk tk, c.tk tk⟩
theorem SayAt.chgB {C b : Addr} {H H' : Hp} {p : Addr} {w : Str} {l r : Trm} (hB : BoxAt H b) (e : Chg b H H') (h : SayAt C H p w l r) : SayAt C H' p w l r := by
  obtain ⟨c, s, hb⟩ := hB
  exact h.chgL hb e
theorem SayAt.ins {C : Addr} {H : Hp} {p : Addr} {z : Str} {l r : Trm} (h : SayAt C H p z l r) : ∃ dx fs, H p = some (.ins C dx fs) := by
  obtain ⟨dx, x, y, e, _⟩ := h
  exact ⟨dx, _, e⟩
/-- a tuple of a word and two terms -/
def SdAt (H : Hp) (z : Str) (p : Trm × Trm) (v : V) : Prop := ∃ a x y, v = .ref a ∧ H a = some (.tup [.str z, x, y]) ∧ TmAt H p.1 x ∧ TmAt H p.2 y
theorem SdAt.tk {H H' : Hp} {z : Str} {p : Trm × Trm} {v : V} (e : TK H H') (h : SdAt H z p v) : SdAt H' z p v := by
  obtain ⟨a, x, y, h1, h2, h3, h4⟩ := h
  exact ⟨a, x, y, h1, e.to _ _ h2, h3.tk e, h4.tk e⟩
theorem SdAt.sm {H H' : Hp} {z : Str} {p : Trm × Trm} {v : V} (e : Sm H H') (h : SdAt H z p v) : SdAt H' z p v := h.tk e.tk
theorem strs_ne {H : Hp} {b l : Addr} {zs : List Str} (hB : BoxAt H b) (hL : H l = some (.lst (zs.map V.str))) : l ≠ b := by
  rintro rfl
  obtain ⟨c, s, e⟩ := hB
  rw [hL] at e
  have e2 := HO.lst.inj (Option.some.inj e)
  cases zs with
  | nil => cases e2
  | cons z zs => cases e2
def sayData (z : Str) (l r : Trm) : PyData := .tuple [.str z, l.data, r.data]
theorem dp_say {K : PySem.W.Frag} {H : Hp} {a : Addr} {z : Str} {l r : Trm} {x y : V} (h : H a = some (.tup [.str z, x, y])) (hl : TmAt H l x) (hr : TmAt H r y) : Dp K H (.ref a) (sayData z l r) := .tup (SqT.of h) (.cons (.str _) (.cons hl.dp (.cons hr.dp .nil)))
theorem shw_say {z : Str} {l r : Trm} {d n : Nat} (hz : Shw 60 0 (.str z)) (hl : l.okS) (hr : r.okS) (d1 : l.deep ≤ d) (d2 : r.deep ≤ d) (n1 : l.size ≤ n) (n2 : r.size ≤ n) : Shw (69 + 360 * n) (d + 2) (sayData z l r) := by
  have h1 : Shw (180 * n) (d + 1) l.data := (Trm.shw hl).up (Nat.mul_le_mul_left _ n1) (by omega)
  have h2 : Shw (180 * n) (d + 1) r.data := (Trm.shw hr).up (Nat.mul_le_mul_left _ n2) (by omega)
  exact (shw_three (hz.up (Nat.le_refl _) (Nat.zero_le _)) h1 h2).up (by omega) (Nat.le_refl _)
theorem shw_same : Shw 60 0 (.str (Str.ofString "same")) := shw_str (by decide +kernel)
theorem shw_under : Shw 60 0 (.str (Str.ofString "under")) := shw_str (by decide +kernel)
theorem made_sm3 {H H1 : Hp} {x dx C : Addr} (nx : H x = none) (nd : H dx = none) (c : Chg x (upd (upd H dx (.own x)) x (.ins C dx [])) H1) : Sm H H1 := made_sm nx nd c
end RV

/-! set comprehensions of ints -/
namespace RV
open PySem PySem.Spec L2
open PyProof.Rows hiding St
/-- what a new set at D holds when y is put in -/
abbrev put1 (y : Int) (S : Int → Bool) : Int → Bool := fun j => S j || decide (j = y)
abbrev cnt1 (y : Int) (S : Int → Bool) (n : Nat) : Nat := if S y = true then n else n + 1
/-- one turn's end: an int is put in, or nothing -/
def scEnd (w : World) (te : TE) (D : Addr) (N : Hp → Prop) (b : Bool) (σ : St) (G : Hp) : Prop :=
  if b = true then te σ G fun y G' => ∃ (c : Int) (S : Int → Bool) (n : Nat), y = .int c ∧ G' D = some (SetO w D S n) ∧ n + 1 < scanBound ∧ N (upd G' D (SetO w D (put1 c S) (cnt1 c S n))) else N G
def tScI (w : World) (wi : TI) (g : TG) (tt : TT) (te : TE) (vs : List Nat) : TE := fun σ H Q => wi σ H fun J G => ∀ D, G D = none → ∃ W : Nat → Nat → Hp → Prop,
  (∃ m, W 0 m (upd G D (SetO w D (fun _ => false) 0))) ∧ ∀ i m G', W i m G' →
    (J.stop i G' ∧ Q (.ref D) G') ∨ (J.go i G' ∧ ∃ N : Hp → Prop, (∀ K', N K' → ∃ l, l < m ∧ W (i + 1) l K') ∧ ∀ x K', J.yld i G' x K' →
      g x (wipe σ vs) K' fun σ2 L' => wipe σ2 vs = wipe σ vs ∧ tt σ2 L' fun b M' => scEnd w te D N b σ2 M')
section
variable {X : Cx} {elt tg iter : Expr} {ifs : List Expr} {scope : Scope} {own : List (Str × Nat)} {wi : TI} {g : TG} {tt : TT} {te : TE}
abbrev Blk (X : Cx) (scope : Scope) (s : Shared) (H : Hp) (C : Addr) (cl : List (Str × Addr)) (fp : List Addr) : Cx := X.blk s H scope (compEnvC scope cl C X.env) fp
theorem sc_ints {pins : List (Addr × Obj)} {s : Shared} {σ : St} {H : Hp} {Q : VK} {pos pos' : Pos} {use : Option (Value → Sem Unit)} {R : Value → Shared → Prop}
    (calm : X.calm = true) (nd : X.N.Nodup) (I : Inv X pins σ H s) (hi : PI X tg iter wi) (ok : BlkOk X.N X.env.scope scope own)
    (hg : ∀ u G C cl fp, PG (Blk X scope u G C cl fp) tg g) (ht : ∀ u G C cl fp, PTs (Blk X scope u G C cl fp) ifs tt) (he : ∀ u G C cl fp, PE (Blk X scope u G C cl fp) elt te)
    (hs : ∀ x, foldedSetIterable iter X.env x = pure x) (h : tScI X.w wi g tt te (own.map (·.2)) σ H Q)
    (out : ∀ D C u m G, Inv X pins σ G u → Q (.ref D) G → u.heap.Ns C m → FpOk X pins G C → compPost (model X.prog X.w) X.A X.xe use R (.ref D) C (.ok .next) u) :
    wpAny (model X.prog X.w) X.A (comprehension (.SetComp elt [⟨tg, iter, ifs, 0⟩] scope pos) scope X.env pos' (newSet (.type "set")) false (eval iter X.env) use) R X.xe s := by
  have free : ∀ y ∈ scope.names, y.2 = .free → ∃ c, X.env.cells.lookup y.1 = some c := fun y hy e => (ok.free y hy e).elim (fun k => I.ok.has _ (.inl k)) (fun k => I.ok.has _ (.inr k))
  refine wpAny_comprehension_free (use := use) rfl hs (closure_ok free) ok.kind (fun y hy e => by rw [ok.uniq y hy, e]) (thn (hi.run pins s σ H _ I h) fun _ _ gone => thn gone fun _ s2 gone2 => ?_)
  obtain ⟨it, fp, tn, J, G2, rfl, I2, T, at2, f2, q⟩ := gone2
  refine PpSet.newSet_ok (newEnv_comp ?_)
  -- the new set's place, and the heap with it
  generalize hD : s2.heap.objs.size = D
  obtain ⟨W, ⟨m0, w0⟩, turn⟩ := q D (I2.hok.fresh (Nat.le_of_eq hD))
  obtain ⟨s3, hs3⟩ : ∃ u : Shared, u = { s2 with heap := s2.heap.push { cls := .type "set", dict := none, data := .set #[] 0 (.fresh 0 0 (!X.w.params.followText "set-order")) } } := ⟨_, rfl⟩
  have grown : ∀ {b o}, s2.heap.get? b = some o → s3.heap.get? b = some o := fun e => by
    rw [hs3]
    exact Heap.get?_push_of_some _ e
  have I3 : Inv X pins σ (upd G2 D (SetO X.w D (fun _ => false) 0)) s3 := by
    rw [hs3]
    refine I2.laid (t' := s2.toks) (fun b o e => Heap.get?_push_of_some _ e) (Nat.le_of_eq hD) ?_
    rw [← hD]
    exact setO_new (setR_fresh X.w)
  have f3 : ∀ b ∈ fp, FpOk X pins (upd G2 D (SetO X.w D (fun _ => false) 0)) b ∧ b < s3.heap.objs.size := fun b hb => by
    obtain ⟨o, e, _⟩ := T.obj _ _ at2 b hb
    have lt := Heap.lt_size e
    refine ⟨⟨?_, (f2 b hb).2⟩, Heap.lt_size (grown e)⟩
    rw [upd_ne (by rw [← hD]; exact Nat.ne_of_lt lt)]
    exact (f2 b hb).1
  have at3 : tn 0 s3.heap := T.keep _ _ _ at2 fun b _ o e => grown e
  rw [← hs3]
  have I4 := block_start I3 ok nd f3
  obtain ⟨C, hC⟩ : ∃ C, C = s3.heap.objs.size := ⟨_, rfl⟩
  obtain ⟨cl, hcl⟩ : ∃ cl, cl = cellsFrom (s3.heap.objs.size + 1) scope.names (cloFrom X.env.cells scope.names []) := ⟨_, rfl⟩
  rw [← hcl, ← hC] at I4
  obtain ⟨G3, hG3⟩ : ∃ G3, G3 = upd G2 D (SetO X.w D (fun _ => false) 0) := ⟨_, rfl⟩
  rw [← hG3] at I3 I4 f3 w0
  have pg : PG (X.blk s3 G3 scope (compEnvC scope cl C X.env) fp) tg g := hg s3 G3 C cl fp
  have pt : PTs (X.blk s3 G3 scope (compEnvC scope cl C X.env) fp) ifs tt := ht s3 G3 C cl fp
  have pe : PE (X.blk s3 G3 scope (compEnvC scope cl C X.env) fp) elt te := he s3 G3 C cl fp
  have cL : (compEnvC scope cl C X.env).locals = C := rfl
  have lone : ∀ b ∈ fp, G3 b = none := fun b hb => (f3 b hb).1.1
  rw [← hcl, ← hC]
  show codeAny (model X.prog X.w) X.A (.compStart (.SetComp elt [⟨tg, iter, ifs, 0⟩] scope pos) 0 (.ref it) (.ref D) (compEnvC scope cl C X.env)) (compPost (model X.prog X.w) X.A X.xe use R (.ref D) C)
    { s3 with heap := pushCells (s3.heap.push { cls := .type "dict", data := .dict #[] }) scope.names }
  obtain ⟨s4, hs4⟩ : ∃ u : Shared, u = { s3 with heap := pushCells (s3.heap.push { cls := .type "dict", data := .dict #[] }) scope.names } := ⟨_, rfl⟩
  rw [← hs4] at I4 ⊢
  have at4 : tn 0 s4.heap := T.keep _ _ _ at3 fun b _ o e => by
    rw [hs4]
    exact pushCells_keeps _ _ _ _ (Heap.get?_push_of_some _ e)
  generalize compEnvC scope cl C X.env = ce at I4 pg pt pe cL ⊢
  -- what is walked stays apart
  have apart : ∀ {ρ : St} {K : Hp} {u : Shared}, Inv (X.blk s3 G3 scope ce fp) [] ρ K u → (∀ b ∈ fp, K b = none) → ∀ b ∈ fp, FpOk (X.blk s3 G3 scope ce fp) [] K b := fun J' none b hb =>
    ⟨none b hb, (J'.ok.exf b hb).1, J'.ok.exfs b hb, .inl hb, (J'.ok.exf b hb).2, fun p hp => absurd (show p ∈ ([] : List (Addr × Obj)) ++ [] from hp) (by simp)⟩
  have loop : codeAny (model X.prog X.w) X.A (.compLoop (.SetComp elt [⟨tg, iter, ifs, 0⟩] scope pos) 0 (.ref it) (.ref D) ce) (compPost (model X.prog X.w) X.A X.xe use R (.ref D) C) s4 := by
    refine PpSet.compLoopS_any (fun n u => ∃ i K, Inv (X.blk s3 G3 scope ce fp) [] (wipe σ (own.map (·.2))) K u ∧ tn i u.heap ∧ (∀ b ∈ fp, K b = none) ∧ W i n K) ?_ m0 ⟨0, G3, I4, at4, lone, w0⟩
    rintro n u ⟨i, K, J5, at5, none5, w5⟩
    rcases turn i n K w5 with ⟨stop, all⟩ | ⟨go, N, less, step⟩
    · refine thnF (T.done (X.blk s3 G3 scope ce fp) rfl rfl rfl calm i [] u _ K (fun _ _ => False) J5 (apart J5 none5) at5 stop) fun r u6 ⟨hr, J6⟩ => ?_
      subst hr
      have back : Inv X pins σ K u6 := I3.call' (ch := fp) J6.os J6.base J6.hok J6.bare fun b hb => ⟨(f3 b hb).1.2.2.2.1, (f3 b hb).1.2.1, (f3 b hb).1.2.2.2.2.1, (f3 b hb).1.2.2.2.2.2⟩
      have nC : K C = none := cL ▸ J6.free
      obtain ⟨m, hn, _⟩ := J6.loc
      have hn : u6.heap.Ns ce.locals m := hn
      rw [cL] at hn
      exact out D C u6 m K back all hn (I3.fpOk (by rw [hC]; exact Nat.le_refl _) nC)
    · refine thnF (T.item (X.blk s3 G3 scope ce fp) rfl rfl rfl calm i [] u _ K (fun _ _ => False) J5 (apart J5 none5) at5 go) fun r u6 ⟨v, hr, more⟩ => ?_
      subst hr
      refine thnF more fun _ u7 ⟨x, K7, J7, rx, y7, at7, none7⟩ => ?_
      refine thnF (pg.run _ u7 _ K7 x v _ (J7.pinned (apart J7 none7) (T.obj _ _ at7)) rx (step x K7 y7)) fun _ u8 ⟨ρ, K8, J8, hw, q8⟩ => ?_
      refine thnF (pt.run _ u8 ρ K8 _ J8 q8) fun b u9 ⟨K9, J9, q9⟩ => ?_
      have next : ∀ {u' : Shared} {K' : Hp}, Inv (X.blk s3 G3 scope ce fp) ([] ++ pinsAt fp u7.heap) ρ K' u' → N K' → ∃ m, m < n ∧ ∃ i K', Inv (X.blk s3 G3 scope ce fp) [] (wipe σ (own.map (·.2))) K' u' ∧ tn i u'.heap ∧ (∀ b ∈ fp, K' b = none) ∧ W i m K' := by
        intro u' K' J' nx
        obtain ⟨l, lt, w'⟩ := less K' nx
        have held : ∀ b ∈ fp, ∀ o, u7.heap.get? b = some o → u'.heap.get? b = some o ∧ K' b = none := fun b hb o e => by
          have z := J'.pin (b, o) (List.mem_append_right _ (List.mem_append_right _ (mem_pinsAt hb e)))
          exact ⟨z.1, z.2.1⟩
        refine ⟨l, lt, i + 1, K', (J'.unpinned (pins := [])).weak (by rw [← hw, wipe_length]) (fun j v e => (wipe_some (hw ▸ e)).1), T.keep _ _ _ at7 fun b hb o e => (held b hb o e).1, fun b hb => ?_, w'⟩
        obtain ⟨o, e, _⟩ := T.obj _ _ at7 b hb
        exact (held b hb o e).2
      cases b with
      | false =>
        have q9 : N K9 := q9
        simp only [Bool.false_eq_true, if_false]
        exact next J9 q9
      | true =>
        have q9 : te ρ K9 fun y G' => ∃ (c : Int) (S : Int → Bool) (n : Nat), y = .int c ∧ G' D = some (SetO X.w D S n) ∧ n + 1 < scanBound ∧ N (upd G' D (SetO X.w D (put1 c S) (cnt1 c S n))) := q9
        simp only [if_true]
        refine thnF (pe.run _ u9 ρ K9 _ J9 q9) fun z u10 ⟨y, K10, J10, ry, c, S, n0, ey, hD10, room, nx⟩ => ?_
        subst ey
        refine thnF (mt_sadd (X := X.blk s3 G3 scope ce fp) _ u10 ρ K10 (.ref D) [.int c] (.ref D) [z] (fun y K' => y = .non ∧ N K') J10 rfl (.cons ry .nil) ⟨D, c, S, n0, rfl, rfl, hD10, room, rfl, nx⟩) fun v u11 fin => ?_
        obtain ⟨v', K11, J11, rv, ev, nx'⟩ := fin
        subst ev
        cases (show v = Value.none from rv)
        exact next J11 nx'
  exact PpSet.codeAny_compStart_set loop (T.self X.A 0 _ _ _ at4 loop)
/-- the truth of an expression, within a block -/
theorem truth_k {K : PySem.W.Frag} {a : Expr} {ta : TE} (ek : X.K = K) (ha : PE X a ta) (he : ∀ whole, isTrue a X.env whole = (do let v ← whole; standAt a.pos; holding [v] (truthy v))) :
    PT X a (fun σ H Q => ta σ H fun x H' => ∃ k, TruV K x H' k ∧ Q k H') := ek ▸ pt_truth ha he
theorem pe_scI {pos : Pos} (calm : X.calm = true) (nd : X.N.Nodup) (hi : PI X tg iter wi) (ok : BlkOk X.N X.env.scope scope own)
    (hg : ∀ (u : Shared) (G : Hp) (C : Addr) (cl : List (Str × Addr)) (fp : List Addr), PG (X.blk u G scope (compEnvC scope cl C X.env) fp) tg g) (ht : ∀ (u : Shared) (G : Hp) (C : Addr) (cl : List (Str × Addr)) (fp : List Addr), PTs (X.blk u G scope (compEnvC scope cl C X.env) fp) ifs tt)
    (he : ∀ (u : Shared) (G : Hp) (C : Addr) (cl : List (Str × Addr)) (fp : List Addr), PE (X.blk u G scope (compEnvC scope cl C X.env) fp) elt te) (hs : ∀ x, foldedSetIterable iter X.env x = pure x := by intro _; rfl) :
    PE X (.SetComp elt [⟨tg, iter, ifs, 0⟩] scope pos) (tScI X.w wi g tt te (own.map (·.2))) := by
  refine ⟨fun pins s σ H Q I h => ?_⟩
  rw [PpSet.eval_SetComp]
  refine sc_ints calm nd I hi ok hg ht he hs h fun D C u m G I' q hn f => ⟨m, hn, fun h'' sb => ?_⟩
  exact ⟨.ref D, G, I'.turned (t' := u.toks) (fun b o hb e => (sb.2 b hb).trans e) f.1 f.2.1 f.2.2.2.1 f.2.2.2.2.1 f.2.2.2.2.2, rfl, q⟩
end
section
variable {w : World} {J : It} {n : Nat} {Gd : Hp → Prop} {Y : Nat → Hp → V → Hp → Prop} {g : TG} {tt : TT} {te : TE} {vs : List Nat} {σ : St} {H1 : Hp} {D : Addr} {Qd : Hp → Prop}
/-- over any walk: Pv by the turn and the heap, the new set at D within -/
theorem sc_it (wk : Walk J n Gd Y) (Pv : Nat → Hp → Prop) (h0 : Pv 0 (upd H1 D (SetO w D (fun _ => false) 0))) (hG : ∀ i H, i ≤ n → Pv i H → Gd H)
    (hs : ∀ i x G K, i < n → Pv i G → Y i G x K → g x (wipe σ vs) K fun σ2 L' => wipe σ2 vs = wipe σ vs ∧ tt σ2 L' fun b M' => scEnd w te D (Pv (i + 1)) b σ2 M') (hd : ∀ H, Pv n H → Qd H) :
    ∃ W : Nat → Nat → Hp → Prop, (∃ m, W 0 m (upd H1 D (SetO w D (fun _ => false) 0))) ∧ ∀ i m G', W i m G' →
      (J.stop i G' ∧ Qd G') ∨ (J.go i G' ∧ ∃ N : Hp → Prop, (∀ K', N K' → ∃ l, l < m ∧ W (i + 1) l K') ∧ ∀ x K', J.yld i G' x K' →
        g x (wipe σ vs) K' fun σ2 L' => wipe σ2 vs = wipe σ vs ∧ tt σ2 L' fun b M' => scEnd w te D N b σ2 M') := by
  refine ⟨fun i m G => (m = n - i ∧ i ≤ n) ∧ Pv i G, ⟨n, ⟨(Nat.sub_zero n).symm, Nat.zero_le n⟩, h0⟩, ?_⟩
  rintro i m G ⟨⟨rfl, le⟩, p⟩
  rcases Nat.lt_or_ge i n with lt | ge
  · exact .inr ⟨wk.goes i G lt (hG i G le p), Pv (i + 1), fun K' p' => ⟨n - (i + 1), by omega, ⟨rfl, lt⟩, p'⟩, fun x K' y => hs i x G K' lt p (wk.yields i G x K' lt (hG i G le p) y)⟩
  · obtain rfl : i = n := Nat.le_antisymm le ge
    exact .inl ⟨wk.stops G (hG i G le p), hd G p⟩
theorem r_scI {wi : TI} {H : Hp} {Q : VK} (h : wi σ H fun J G => ∀ D, G D = none → ∃ W : Nat → Nat → Hp → Prop,
  (∃ m, W 0 m (upd G D (SetO w D (fun _ => false) 0))) ∧ ∀ i m G', W i m G' →
    (J.stop i G' ∧ Q (.ref D) G') ∨ (J.go i G' ∧ ∃ N : Hp → Prop, (∀ K', N K' → ∃ l, l < m ∧ W (i + 1) l K') ∧ ∀ x K', J.yld i G' x K' →
      g x (wipe σ vs) K' fun σ2 L' => wipe σ2 vs = wipe σ vs ∧ tt σ2 L' fun b M' => scEnd w te D N b σ2 M')) : tScI w wi g tt te vs σ H Q := h
theorem scEnd_y {N : Hp → Prop} {G : Hp} {b : Bool} (e : b = true) (h : te σ G fun y G' => ∃ (c : Int) (S : Int → Bool) (n : Nat), y = .int c ∧ G' D = some (SetO w D S n) ∧ n + 1 < scanBound ∧ N (upd G' D (SetO w D (put1 c S) (cnt1 c S n)))) : scEnd w te D N b σ G := by
  subst e
  exact h
theorem scEnd_n {N : Hp → Prop} {G : Hp} {b : Bool} (e : b = false) (h : N G) : scEnd w te D N b σ G := by
  subst e
  exact h
theorem r_scput {N : Hp → Prop} {G : Hp} {c : Int} {S : Int → Bool} {n : Nat} (h : G D = some (SetO w D S n)) (l : n < 1000) (k : N (upd G D (SetO w D (put1 c S) (cnt1 c S n)))) : ∃ (c' : Int) (S : Int → Bool) (n : Nat), V.int c = .int c' ∧ G D = some (SetO w D S n) ∧ n + 1 < scanBound ∧ N (upd G D (SetO w D (put1 c' S) (cnt1 c' S n))) := by
  refine ⟨c, S, n, rfl, h, ?_, k⟩
  unfold scanBound
  omega
/-- sorted: the ints of the set, rising -/
theorem r_sortedI {H : Hp} {Q : VK} {a : Addr} {S : Int → Bool} {n : Nat} (h : H a = some (SetO w a S n)) (l : n < 64) (k : ∀ (ns : List Int) (p : Addr), ns.Pairwise (· < ·) → (∀ j : Int, j ∈ ns ↔ S j = true) → H p = none → Q (.ref p) (upd H p (.lst (ns.map V.int)))) : rSortedSet w [.ref a] H Q := ⟨a, S, n, rfl, h, l, fun ns p h1 h2 _ h3 => k ns p h1 h2 h3⟩
end
end RV


namespace K31




open PySem PySem.Spec L2 RV
open PyProof.Rows hiding St
def topS (i : Nat) : Stmt := PySem.Challenge.pw_runsums_k31_names_of_programs.main.body.getD i (.Pass ⟨0, 0, 0, 0⟩)
abbrev s_take : Stmt := topS 21
theorem sc_take : FnScope ["box", "wide", "digit", "one"] ["box", "wide"] (defScope s_take) := ⟨rfl, rfl, rfl, by decide +kernel, rfl, by decide +kernel, by decide +kernel⟩
abbrev s_piece : Stmt := topS 24
theorem sc_piece : FnScope ["box", "boxes", "at", "form", "j", "k", "some", "body"] ["box", "boxes", "at"] (defScope s_piece) := ⟨rfl, rfl, rfl, by decide +kernel, rfl, by decide +kernel, by decide +kernel⟩
abbrev s_ending_rows : Stmt := topS 25
theorem sc_ending_rows : FnScope ["box", "boxes", "rows", "turn", "more"] ["box", "boxes"] (defScope s_ending_rows) := ⟨rfl, rfl, rfl, by decide +kernel, rfl, by decide +kernel, by decide +kernel⟩
abbrev s_row : Stmt := topS 22
theorem sc_row : FnScope ["box", "boxes", "many", "word"] ["box", "boxes", "many"] (defScope s_row) := ⟨rfl, rfl, rfl, by decide +kernel, rfl, by decide +kernel, by decide +kernel⟩
abbrev s_any_rows : Stmt := topS 23
theorem sc_any_rows : FnScope ["box", "boxes", "many", "k", "rows"] ["box", "boxes"] (defScope s_any_rows) := ⟨rfl, rfl, rfl, by decide +kernel, rfl, by decide +kernel, by decide +kernel⟩
abbrev s_some_program : Stmt := topS 26
theorem sc_some_program : FnScope ["box", "boxes"] ["box"] (defScope s_some_program) := ⟨rfl, rfl, rfl, by decide +kernel, rfl, by decide +kernel, by decide +kernel⟩
abbrev s_box : Stmt := topS 20
theorem sc_box : FnScope ["script", "k", "cell", "seed"] ["script", "k"] (defScope s_box) := ⟨rfl, rfl, rfl, by decide +kernel, rfl, by decide +kernel, by decide +kernel⟩
abbrev s_p_is_whole : Stmt := topS 11
theorem sc_p_is_whole : FnScope ["thing"] ["thing"] (defScope s_p_is_whole) := ⟨rfl, rfl, rfl, by decide +kernel, rfl, by decide +kernel, by decide +kernel⟩
abbrev s_p_is_row : Stmt := topS 10
theorem sc_p_is_row : FnScope ["row", "numbers", "number"] ["row"] (defScope s_p_is_row) := ⟨rfl, rfl, rfl, by decide +kernel, rfl, by decide +kernel, by decide +kernel⟩
abbrev s_p_check_row : Stmt := topS 9
theorem sc_p_check_row : FnScope ["row", "at", "limits", "meaning", "number"] ["row", "at", "limits"] (defScope s_p_check_row) := ⟨rfl, rfl, rfl, by decide +kernel, rfl, by decide +kernel, by decide +kernel⟩
abbrev s_p_check : Stmt := topS 8
theorem sc_p_check : FnScope ["boxes", "rows", "limits", "at", "row"] ["boxes", "rows"] (defScope s_p_check) := ⟨rfl, rfl, rfl, by decide +kernel, rfl, by decide +kernel, by decide +kernel⟩
abbrev s_Program_init : Stmt := inClass (topS 6) 0
theorem sc_Program_init : FnScope ["self", "boxes", "rows"] ["self", "boxes", "rows"] (defScope s_Program_init) := ⟨rfl, rfl, rfl, by decide +kernel, rfl, by decide +kernel, by decide +kernel⟩
abbrev s_Program_eq : Stmt := inClass (topS 6) 1
theorem sc_Program_eq : FnScope ["self", "other"] ["self", "other"] (defScope s_Program_eq) := ⟨rfl, rfl, rfl, by decide +kernel, rfl, by decide +kernel, by decide +kernel⟩
abbrev s_p_numbered : Stmt := topS 18
theorem sc_p_numbered : FnScope ["letter", "many", "k"] ["letter", "many"] (defScope s_p_numbered) := ⟨rfl, rfl, rfl, by decide +kernel, rfl, by decide +kernel, by decide +kernel⟩
abbrev s_p_goal_of : Stmt := topS 7
theorem sc_p_goal_of : FnScope ["program", "k", "row"] ["program", "k"] (defScope s_p_goal_of) := ⟨rfl, rfl, rfl, by decide +kernel, rfl, by decide +kernel, by decide +kernel⟩
abbrev s_p_is_parting : Stmt := topS 17
theorem sc_p_is_parting : FnScope ["program", "k"] ["program", "k"] (defScope s_p_is_parting) := ⟨rfl, rfl, rfl, by decide +kernel, rfl, by decide +kernel, by decide +kernel⟩
abbrev s_p_asked_boxes : Stmt := topS 16
theorem sc_p_asked_boxes : FnScope ["program", "k", "row"] ["program"] (defScope s_p_asked_boxes) := ⟨rfl, rfl, rfl, by decide +kernel, rfl, by decide +kernel, by decide +kernel⟩
abbrev s_p_names_of : Stmt := topS 15
theorem sc_p_names_of : FnScope ["program", "boxes", "j"] ["program"] (defScope s_p_names_of) := ⟨rfl, rfl, rfl, by decide +kernel, rfl, by decide +kernel, by decide +kernel⟩
abbrev s_asked : Stmt := topS 27
theorem sc_asked : FnScope ["boxes", "rows", "found", "j", "k", "row"] ["boxes", "rows"] (defScope s_asked) := ⟨rfl, rfl, rfl, by decide +kernel, rfl, by decide +kernel, by decide +kernel⟩
abbrev s_names_of : Stmt := topS 28
theorem sc_names_of : FnScope ["boxes", "rows", "j", "found", "k"] ["boxes", "rows"] (defScope s_names_of) := ⟨rfl, rfl, rfl, by decide +kernel, rfl, by decide +kernel, by decide +kernel⟩
abbrev s_right : Stmt := topS 29
theorem sc_right : FnScope ["boxes", "rows", "program", "turn", "names", "some"] ["boxes", "rows"] (defScope s_right) := ⟨rfl, rfl, rfl, by decide +kernel, rfl, by decide +kernel, by decide +kernel⟩
abbrev s_law : Stmt := topS 30
theorem sc_law : FnScope ["script", "k", "asked", "boxes", "rows"] ["script"] (defScope s_law) := ⟨rfl, rfl, rfl, by decide +kernel, rfl, by decide +kernel, by decide +kernel⟩
structure Txt (K : PySem.W.Frag) (mg : Str → Option Value) (w : World) where
  C_Program : Addr
  f_take : Addr
  d_take : FuncData
  F_take : Fun K "_law_take" "_law_take" s_take f_take d_take
  g_take : mg "_law_take" = some (.ref f_take)
  b_take : Binds K d_take ["box", "wide"] []
  f_piece : Addr
  d_piece : FuncData
  F_piece : Fun K "_law_piece" "_law_piece" s_piece f_piece d_piece
  g_piece : mg "_law_piece" = some (.ref f_piece)
  b_piece : Binds K d_piece ["box", "boxes", "at"] []
  f_ending_rows : Addr
  d_ending_rows : FuncData
  F_ending_rows : Fun K "_law_ending_rows" "_law_ending_rows" s_ending_rows f_ending_rows d_ending_rows
  g_ending_rows : mg "_law_ending_rows" = some (.ref f_ending_rows)
  b_ending_rows : Binds K d_ending_rows ["box", "boxes"] []
  f_row : Addr
  d_row : FuncData
  F_row : Fun K "_law_row" "_law_row" s_row f_row d_row
  g_row : mg "_law_row" = some (.ref f_row)
  b_row : Binds K d_row ["box", "boxes", "many"] []
  f_any_rows : Addr
  d_any_rows : FuncData
  F_any_rows : Fun K "_law_any_rows" "_law_any_rows" s_any_rows f_any_rows d_any_rows
  g_any_rows : mg "_law_any_rows" = some (.ref f_any_rows)
  b_any_rows : Binds K d_any_rows ["box", "boxes"] []
  f_some_program : Addr
  d_some_program : FuncData
  F_some_program : Fun K "_law_some_program" "_law_some_program" s_some_program f_some_program d_some_program
  g_some_program : mg "_law_some_program" = some (.ref f_some_program)
  b_some_program : Binds K d_some_program ["box"] []
  f_box : Addr
  d_box : FuncData
  F_box : Fun K "_law_box" "_law_box" s_box f_box d_box
  g_box : mg "_law_box" = some (.ref f_box)
  b_box : Binds K d_box ["script", "k"] []
  f_p_is_whole : Addr
  d_p_is_whole : FuncData
  F_p_is_whole : Fun K "_is_whole" "_is_whole" s_p_is_whole f_p_is_whole d_p_is_whole
  g_p_is_whole : mg "_is_whole" = some (.ref f_p_is_whole)
  b_p_is_whole : Binds K d_p_is_whole ["thing"] []
  f_p_is_row : Addr
  d_p_is_row : FuncData
  F_p_is_row : Fun K "_is_row" "_is_row" s_p_is_row f_p_is_row d_p_is_row
  g_p_is_row : mg "_is_row" = some (.ref f_p_is_row)
  b_p_is_row : Binds K d_p_is_row ["row"] []
  f_p_check_row : Addr
  d_p_check_row : FuncData
  F_p_check_row : Fun K "_check_row" "_check_row" s_p_check_row f_p_check_row d_p_check_row
  g_p_check_row : mg "_check_row" = some (.ref f_p_check_row)
  b_p_check_row : Binds K d_p_check_row ["row", "at", "limits"] []
  f_p_check : Addr
  d_p_check : FuncData
  F_p_check : Fun K "_check" "_check" s_p_check f_p_check d_p_check
  g_p_check : mg "_check" = some (.ref f_p_check)
  b_p_check : Binds K d_p_check ["boxes", "rows"] []
  f_Program_init : Addr
  d_Program_init : FuncData
  F_Program_init : Fun K "__init__" "Program.__init__" s_Program_init f_Program_init d_Program_init
  m_Program_init : Meth K C_Program "__init__" f_Program_init
  b_Program_init : Binds K d_Program_init ["self", "boxes", "rows"] []
  f_Program_eq : Addr
  d_Program_eq : FuncData
  F_Program_eq : Fun K "__eq__" "Program.__eq__" s_Program_eq f_Program_eq d_Program_eq
  m_Program_eq : Meth K C_Program "__eq__" f_Program_eq
  b_Program_eq : Binds K d_Program_eq ["self", "other"] []
  f_p_numbered : Addr
  d_p_numbered : FuncData
  F_p_numbered : Fun K "numbered" "numbered" s_p_numbered f_p_numbered d_p_numbered
  g_p_numbered : mg "numbered" = some (.ref f_p_numbered)
  b_p_numbered : Binds K d_p_numbered ["letter", "many"] []
  f_p_goal_of : Addr
  d_p_goal_of : FuncData
  F_p_goal_of : Fun K "goal_of" "goal_of" s_p_goal_of f_p_goal_of d_p_goal_of
  g_p_goal_of : mg "goal_of" = some (.ref f_p_goal_of)
  b_p_goal_of : Binds K d_p_goal_of ["program", "k"] []
  f_p_is_parting : Addr
  d_p_is_parting : FuncData
  F_p_is_parting : Fun K "is_parting" "is_parting" s_p_is_parting f_p_is_parting d_p_is_parting
  g_p_is_parting : mg "is_parting" = some (.ref f_p_is_parting)
  b_p_is_parting : Binds K d_p_is_parting ["program", "k"] []
  f_p_asked_boxes : Addr
  d_p_asked_boxes : FuncData
  F_p_asked_boxes : Fun K "asked_boxes" "asked_boxes" s_p_asked_boxes f_p_asked_boxes d_p_asked_boxes
  g_p_asked_boxes : mg "asked_boxes" = some (.ref f_p_asked_boxes)
  b_p_asked_boxes : Binds K d_p_asked_boxes ["program"] []
  f_p_names_of : Addr
  d_p_names_of : FuncData
  F_p_names_of : Fun K "names_of" "names_of" s_p_names_of f_p_names_of d_p_names_of
  g_p_names_of : mg "names_of" = some (.ref f_p_names_of)
  b_p_names_of : Binds K d_p_names_of ["program"] []
  f_asked : Addr
  d_asked : FuncData
  F_asked : Fun K "_law_asked" "_law_asked" s_asked f_asked d_asked
  g_asked : mg "_law_asked" = some (.ref f_asked)
  b_asked : Binds K d_asked ["boxes", "rows"] []
  f_names_of : Addr
  d_names_of : FuncData
  F_names_of : Fun K "_law_names_of" "_law_names_of" s_names_of f_names_of d_names_of
  g_names_of : mg "_law_names_of" = some (.ref f_names_of)
  b_names_of : Binds K d_names_of ["boxes", "rows"] []
  f_right : Addr
  d_right : FuncData
  F_right : Fun K "_law_right" "_law_right" s_right f_right d_right
  g_right : mg "_law_right" = some (.ref f_right)
  b_right : Binds K d_right ["boxes", "rows"] []
  f_law : Addr
  d_law : FuncData
  F_law : Fun K "law" "law" s_law f_law d_law
  g_law : mg "law" = some (.ref f_law)
  b_law : Binds K d_law ["script"] []
  cl_Program : Cls K C_Program
  g_Program : mg "Program" = some (.ref C_Program)
  n_Program_boxes : NoAttr K C_Program "boxes"
  n_Program_rows : NoAttr K C_Program "rows"
  mk_Program : Mk K C_Program f_Program_init
  ic_Program : C8.InsC K C_Program
  eq_Program : EqC K C_Program f_Program_eq
  w_FORMS : Addr
  we_FORMS : Array DictEntry
  wn_FORMS : Nat
  wk_FORMS : KDict K w w_FORMS we_FORMS wn_FORMS
  g_FORMS : mg "FORMS" = some (.ref w_FORMS)
  wv_FORMS_0 : Addr
  wf_FORMS_0 : PySem.W.nsIn K w_FORMS (Str.ofString "raise") = some (some (.ref wv_FORMS_0))
  ws_FORMS_0 : ∀ H, SqT K H wv_FORMS_0 [V.str (Str.ofString "box")]
  wv_FORMS_1 : Addr
  wf_FORMS_1 : PySem.W.nsIn K w_FORMS (Str.ofString "lower") = some (some (.ref wv_FORMS_1))
  ws_FORMS_1 : ∀ H, SqT K H wv_FORMS_1 [V.str (Str.ofString "box")]
  wv_FORMS_2 : Addr
  wf_FORMS_2 : PySem.W.nsIn K w_FORMS (Str.ofString "if") = some (some (.ref wv_FORMS_2))
  ws_FORMS_2 : ∀ H, SqT K H wv_FORMS_2 [V.str (Str.ofString "box"), V.str (Str.ofString "goal")]
  wv_FORMS_3 : Addr
  wf_FORMS_3 : PySem.W.nsIn K w_FORMS (Str.ofString "go") = some (some (.ref wv_FORMS_3))
  ws_FORMS_3 : ∀ H, SqT K H wv_FORMS_3 [V.str (Str.ofString "goal")]
  wv_FORMS_4 : Addr
  wf_FORMS_4 : PySem.W.nsIn K w_FORMS (Str.ofString "stop") = some (some (.ref wv_FORMS_4))
  ws_FORMS_4 : ∀ H, SqT K H wv_FORMS_4 []
  t_LONE_NAMES : Addr
  g_LONE_NAMES : mg "LONE_NAMES" = some (.ref t_LONE_NAMES)
  ts_LONE_NAMES : ∀ H, SqT K H t_LONE_NAMES [V.str (Str.ofString "s"), V.str (Str.ofString "c"), V.str (Str.ofString "h"), V.str (Str.ofString "d"), V.str (Str.ofString "q"), V.str (Str.ofString "g"), V.str (Str.ofString "i"), V.str (Str.ofString "m")]
  k_MOST_BOXES : Tok
  g_MOST_BOXES : mg "MOST_BOXES" = some (Value.int 5 k_MOST_BOXES)
  k_MOST_ROWS : Tok
  g_MOST_ROWS : mg "MOST_ROWS" = some (Value.int 14 k_MOST_ROWS)
  z_all : mg "all" = none
  z_bool : mg "bool" = none
  z_enumerate : mg "enumerate" = none
  z_int : mg "int" = none
  z_isinstance : mg "isinstance" = none
  z_len : mg "len" = none
  z_list : mg "list" = none
  z_max : mg "max" = none
  z_min : mg "min" = none
  z_range : mg "range" = none
  z_repr : mg "repr" = none
  z_sorted : mg "sorted" = none
  z_str : mg "str" = none
  z_tuple : mg "tuple" = none
  z_zip : mg "zip" = none
section
variable {P : Program} {w : World} {K : PySem.W.Frag} {mg : Str → Option Value} {base : Heap}
/-! the reading, step by step: own words, by strings -/
local macro_rules | `(tactic| tm_at "ne") => `(tactic| with_reducible first
  | assumption
  | exact Ne.symm (by assumption)
  | exact ne_fr (by assumption) (by tm_at "mv")
  | exact box_ne (by assumption) (by tm_at "mv")
  | exact (ne_fr (by assumption) (by tm_at "mv")).symm
  | exact (box_ne (by assumption) (by tm_at "mv")).symm)
local macro_rules | `(tactic| tm_at "mv") => `(tactic| with_reducible first
  | assumption
  | (show upd _ _ _ _ = some _; first
    | exact upd_same
    | exact (sm_upd (by assumption)).to _ _ (by tm_at "mv")
    | exact chg_upd.to _ _ (by tm_at "ne") (by tm_at "mv"))
  | (show _ = some _; first
    | exact Sm.to (by assumption) _ _ (by tm_at "mv")
    | exact Chg.to (by assumption) _ _ (by tm_at "ne") (by tm_at "mv"))
  | (show SqL _ (upd _ _ _) _ _; first
    | exact SqL.of (by assumption)
    | exact SqL.of upd_same
    | exact (sm_upd (by assumption)).seq (by tm_at "mv")
    | exact chg_upd.seq (by tm_at "ne") (by tm_at "mv"))
  | (show SqL _ _ _ _; first
    | exact SqL.of (by assumption)
    | exact Sm.seq (by assumption) (by tm_at "mv")
    | exact Chg.seq (by assumption) (by tm_at "ne") (by tm_at "mv"))
  | (show SqT _ (upd _ _ _) _ _; first
    | exact SqT.of (by assumption)
    | exact SqT.of upd_same
    | exact (sm_upd (by assumption)).seqT (by tm_at "mv")
    | exact chg_upd.seqT (by tm_at "ne") (by tm_at "mv"))
  | (show SqT _ _ _ _; first
    | exact SqT.of (by assumption)
    | exact Sm.seqT (by assumption) (by tm_at "mv")
    | exact Chg.seqT (by assumption) (by tm_at "ne") (by tm_at "mv"))
  | (show Dp _ (upd _ _ _) _ _; exact (sm_upd (by assumption)).dp (by tm_at "mv"))
  | (show Dp _ _ _ _; exact Sm.dp (by assumption) (by tm_at "mv"))
  | (show BoxAt (upd _ _ _) _; first
    | exact BoxAt.sm (sm_upd (by assumption)) (by tm_at "mv")
    | exact BoxAt.chg chg_upd (by tm_at "ne") (by tm_at "mv"))
  | (show BoxAt _ _; first
    | exact BoxAt.sm (by assumption) (by tm_at "mv")
    | exact BoxAt.chg (by assumption) (by tm_at "ne") (by tm_at "mv")))
local macro_rules | `(tactic| tm_at "sd") => `(tactic| first
  | assumption
  | exact cmul_l (by decide)
  | exact cmul_r (by decide)
  | exact cshl1 (by omega) (by omega)
  | exact cdiv_s (by omega) (by omega)
  | exact cmul_r (by omega)
  | exact cmul_l (by omega)
  | (show (0 : Int) < _; first | decide | omega)
  | omega
  | exact ⟨by decide, by decide, by decide⟩
  | exact sz_le (by simp only [List.length_cons, List.length_nil]; omega))
local macro_rules | `(tactic| tm_at "if") => `(tactic| with_reducible first
  | refine ite_y rfl ?_
  | refine ite_o rfl ?_
  | refine ite_y (decide_eq_true (by first | assumption | omega)) ?_
  | refine ite_o (decide_eq_false (by first | assumption | omega)) ?_)
local macro_rules | `(tactic| tm_at "1") => `(tactic| with_reducible first
  | refine r_seq ?_
  | refine r_nx ?_
  | refine r_rt ?_
  | refine r_next ?_
  | refine r_op ?_
  | refine r_var rfl ?_
  | refine r_C ?_
  | refine r_asg ?_
  | refine r_gN ?_
  | refine r_cons ?_
  | refine r_nil ?_
  | refine r_call ?_
  | refine r_CB ?_
  | refine r_ret ?_
  | refine r_if ?_
  | refine r_test ?_
  | refine r_bl ?_
  | refine r_addI ?_
  | refine r_I0 ?_
  | refine r_eqI ?_
  | refine r_neI ?_
  | refine r_eqS ?_
  | refine r_neS ?_
  | refine r_eqB ?_
  | refine r_neB ?_
  | refine r_un ?_
  | refine r_U ?_
  | refine r_drop ?_
  | refine r_lst ?_
  | refine r_tup ?_
  | refine r_par ?_
  | refine r_vw ?_
  | refine r_aug rfl ?_
  | refine r_ip ?_
  | refine r_and ?_
  | refine r_or ?_
  | refine r_not ?_
  | refine r_notT ?_
  | refine r_orT ?_
  | refine r_andT ?_
  | refine r_tru_bl ?_
  | refine r_tru_int ?_
  | refine r_ifE ?_
  | refine r_gS ?_
  | refine r_gC ?_
  | refine r_g0 ?_
  | refine r_retN ?_
  | refine r_sl ?_
  | refine r_noPart ?_
  | refine r_part ?_
  | refine r_exI ?_
  | refine r_callK ?_
  | refine r_bm ?_
  | refine r_chain ?_
  | refine r_isB ?_
  | refine r_isi_int rfl ?_
  | refine r_isi_bl rfl ?_
  | refine r_isi_str rfl ?_
  | refine r_inS ?_
  | refine r_notInS ?_
  | refine r_bmS ?_
  | refine r_lc ?_
  | refine r_for ?_
  | refine r_R1 ?_
  | refine r_yes ?_
  | refine r_aS ?_
  | refine r_intB ?_
  | refine r_intI ?_
  | refine r_strS ?_)
local macro_rules | `(tactic| tm_at "h") => `(tactic| first
  | ((with_reducible show rI _ _ (V.int _) (V.int _) _ _); refine r_I (by tm_at "sd") ?_)
  | ((with_reducible show rMulA _ (V.int _) (V.int _) _ _); refine r_mulS (by tm_at "sd") ?_)
  | ((with_reducible show rIx _ (V.ref _) (V.int _) _ _); first
    | ((with_reducible show rIx _ (V.ref _) (V.int 0) _ _); first | refine r_ixL0 (by tm_at "mv") ?_ | refine r_ixT0 (by tm_at "mv") ?_)
    | ((with_reducible show rIx _ (V.ref _) (V.int 1) _ _); first | refine r_ixL1 (by tm_at "mv") ?_ | refine r_ixT1 (by tm_at "mv") ?_)
    | ((with_reducible show rIx _ (V.ref _) (V.int 2) _ _); first | refine r_ixL2 (by tm_at "mv") ?_ | refine r_ixT2 (by tm_at "mv") ?_))
  | ((with_reducible show rLenA _ [V.ref _] _ _); first
    | refine r_lenL (by tm_at "mv") ?_
    | refine r_lenT (by tm_at "mv") ?_)
  | ((with_reducible show rSetL (V.ref _) (V.int _) _ _ _); first | refine r_setB0 (by tm_at "mv") ?_ | refine r_setB1 (by tm_at "mv") ?_)
  | ((with_reducible show gTup _ _ _ (V.ref _) _ _ _); refine r_gT (by tm_at "mv") (by exact rfl) ?_)
  | ((with_reducible show tyV _ "list" (V.ref _) _ ∧ _); refine r_bmL (by tm_at "mv") ?_)
  | ((with_reducible show tAug _ _ _ _ _ _); refine r_aug (by exact rfl) ?_)
  | ((with_reducible show rMaxA _ [V.int _, V.int _] _ _); refine r_maxF ?_; intro _ _ _ _)
  | ((with_reducible show rMinA _ [V.int _, V.int _] _ _); refine r_minF ?_; intro _ _ _ _)
  | ((with_reducible show wipe _ _ = wipe _ _ ∧ _); refine r_wipe (by exact rfl) ?_)
  | ((with_reducible show ∃ j, [V.int _] = [V.int j] ∧ _); refine r_rng (by omega) (by omega) ?_)
  | ((with_reducible show tVar _ _ _ _); refine r_var (by exact rfl) ?_))
local macro_rules | `(tactic| tm_at "sm") => `(tactic| with_reducible first
  | exact Sm.refl _
  | assumption
  | (show Sm _ (upd _ _ _); first
    | exact sm_tr (sm_upd (by assumption)) (by tm_at "sm")
    | exact sm_acc2 (by assumption) (by tm_at "sm"))
  | exact sm_tr (by assumption) (by tm_at "sm")
  | exact sm_hid (by assumption) (by assumption) (by tm_at "sm"))
local macro_rules | `(tactic| tm_at "fr") => `(tactic| with_reducible first
  | assumption
  | exact fr_of (by assumption) (by tm_at "sm"))
local macro_rules | `(tactic| tm_at "al") => `(tactic| (refine ⟨by tm_at "sd", fun p np => ?_⟩))
local macro_rules | `(tactic| tm_at "rv") => `(tactic| repeat (first | tm_at "1" | tm_at "h" | tm_at "if" | ((with_reducible show _ ≤ sizeLine ∧ ∀ _, _); refine ⟨by tm_at "sd", fun p np => ?_⟩)))
local macro_rules | `(tactic| tm_at "ch") => `(tactic| with_reducible first
  | exact Chg.refl _ _
  | assumption
  | (show Chg _ _ (upd _ _ _); first
    | exact chg_tr (sm_upd (by assumption)).chg (by tm_at "ch")
    | exact chg_acc2 (by assumption) (by tm_at "ch")
    | exact chg_tr chg_upd (by tm_at "ch"))
  | exact chg_tr (by assumption) (by tm_at "ch")
  | exact chg_tr (Sm.chg (by assumption)) (by tm_at "ch"))

local macro_rules | `(tactic| tm_at "1") => `(tactic| with_reducible first
  | refine r_bin ?_
  | refine r_par3 ?_
  | refine r_uvw ?_
  | refine r_tru_non ?_
  | refine r_joined ?_
  | refine r_js0 ?_
  | refine r_js1 ?_
  | refine r_fmtS ?_)


local macro_rules | `(tactic| tm_at "1") => `(tactic| with_reducible first
  | refine r_bits ?_
  | refine r_tB ?_
  | refine r_dnotin ?_
  | refine r_din ?_)

local macro_rules | `(tactic| tm_at "1") => `(tactic| with_reducible first
  | refine r_fld ?_
  | refine r_setF ?_
  | refine r_make ?_
  | refine r_pairs0 ?_
  | refine r_pairs1 ?_
  | refine r_dg ?_
  | refine r_zip ?_)
local macro_rules | `(tactic| tm_at "if") => `(tactic| with_reducible first
  | refine ite_o (not_o (by first | assumption | omega)) ?_
  | refine ite_y (not_y (by first | assumption | omega)) ?_)
local macro_rules | `(tactic| tm_at "if") => `(tactic| ((with_reducible show if decide (Str.ofString _ = Str.ofString _) = true then _ else _); first | refine ite_y (by decide +kernel) ?_ | refine ite_o (by decide +kernel) ?_))

theorem r_notNon {R : Prop} (k : R) : V.non = V.non ∧ R := ⟨rfl, k⟩
theorem notN_ref {a : Addr} : (!decide (V.ref a = V.non)) = true := rfl
theorem notN_non : (!decide (V.non = V.non)) = false := rfl
theorem isN_ref {a : Addr} : decide (V.ref a = V.non) = false := rfl
theorem isN_non : decide (V.non = V.non) = true := rfl
local macro_rules | `(tactic| tm_at "1") => `(tactic| with_reducible first
  | refine r_notNon ?_
  | refine r_and ?_)
local macro_rules | `(tactic| tm_at "if") => `(tactic| with_reducible first
  | refine ite_y notN_ref ?_
  | refine ite_o notN_non ?_
  | refine ite_o isN_ref ?_
  | refine ite_y isN_non ?_)

/-! rows of a program -/
inductive PRow where
  | raise (j : Int) | lower (j : Int) | iff (j g : Int) | go (g : Int) | stop
def PRow.vs : PRow → List V
  | .raise j => [.str (Str.ofString "raise"), .int j]
  | .lower j => [.str (Str.ofString "lower"), .int j]
  | .iff j g => [.str (Str.ofString "if"), .int j, .int g]
  | .go g => [.str (Str.ofString "go"), .int g]
  | .stop => [.str (Str.ofString "stop")]
/-- the boxes and the goals that a row speaks of are there -/
def PRow.ok (boxes many : Int) : PRow → Prop
  | .raise j => 0 ≤ j ∧ j < boxes
  | .lower j => 0 ≤ j ∧ j < boxes
  | .iff j g => (0 ≤ j ∧ j < boxes) ∧ 0 ≤ g ∧ g < many
  | .go g => 0 ≤ g ∧ g < many
  | .stop => True
theorem PRow.ok.mono {boxes many more : Int} {r : PRow} (h : r.ok boxes many) (le : many ≤ more) : r.ok boxes more := by
  cases r with
  | raise j => exact h
  | lower j => exact h
  | iff j g => exact ⟨h.1, h.2.1, Int.lt_of_lt_of_le h.2.2 le⟩
  | go g => exact ⟨h.1, Int.lt_of_lt_of_le h.2 le⟩
  | stop => trivial
/-- the tuples at ts are these rows -/
def PRows (H : Hp) : List Addr → List PRow → Prop
  | [], [] => True
  | t :: ts, r :: rs => H t = some (.tup r.vs) ∧ PRows H ts rs
  | _, _ => False
/-- tuples stay -/
structure TS (H H' : Hp) : Prop where
  to : ∀ t xs, H t = some (.tup xs) → H' t = some (.tup xs)
theorem Sm.ts {H H' : Hp} (e : Sm H H') : TS H H' := ⟨fun t xs h => e.to _ _ h⟩
theorem box_tup {H : Hp} {b t : Addr} {xs : List V} (hb : BoxAt H b) (h : H t = some (.tup xs)) : t ≠ b := by
  obtain ⟨c, s, e⟩ := hb
  exact ne_of h e (by intro z; cases z)
theorem Chg.ts {b : Addr} {H H' : Hp} (hb : BoxAt H b) (e : Chg b H H') : TS H H' := ⟨fun t xs h => e.to _ _ (box_tup hb h) h⟩
theorem TS.trans {H H1 H2 : Hp} (a : TS H H1) (b : TS H1 H2) : TS H H2 := ⟨fun t xs h => b.to _ _ (a.to _ _ h)⟩
theorem lst_ts {H : Hp} {D : Addr} {xs ys : List V} (h : H D = some (.lst xs)) : TS H (upd H D (.lst ys)) := ⟨fun t zs e => by
  rw [upd_ne (ne_of e h (by intro z; cases z))]
  exact e⟩
theorem PRows.ts {H H' : Hp} (e : TS H H') : ∀ {ts : List Addr} {rs : List PRow}, PRows H ts rs → PRows H' ts rs
  | [], [], _ => trivial
  | _ :: _, _ :: _, h => ⟨e.to _ _ h.1, PRows.ts e h.2⟩
theorem PRows.len {H : Hp} : ∀ {ts : List Addr} {rs : List PRow}, PRows H ts rs → ts.length = rs.length
  | [], [], _ => rfl
  | _ :: _, _ :: _, h => congrArg Nat.succ (PRows.len h.2)
theorem PRows.app {H : Hp} : ∀ {ts us : List Addr} {rs qs : List PRow}, PRows H ts rs → PRows H us qs → PRows H (ts ++ us) (rs ++ qs)
  | [], _, [], _, _, h => h
  | _ :: _, _, _ :: _, _, g, h => ⟨g.1, PRows.app g.2 h⟩
theorem PRows.one {H : Hp} {t : Addr} {r : PRow} (h : H t = some (.tup r.vs)) : PRows H [t] [r] := ⟨h, trivial⟩
theorem PRows.rep {H : Hp} {t : Addr} {r : PRow} (h : H t = some (.tup r.vs)) : ∀ n : Nat, PRows H (List.replicate n t) (List.replicate n r)
  | 0 => trivial
  | n + 1 => ⟨h, PRows.rep h n⟩
/-- a list of rows -/
def RowsAt (H : Hp) (l : Addr) (rs : List PRow) : Prop := ∃ ts : List Addr, H l = some (.lst (ts.map V.ref)) ∧ PRows H ts rs
theorem RowsAt.sm {H H' : Hp} {l : Addr} {rs : List PRow} (e : Sm H H') (h : RowsAt H l rs) : RowsAt H' l rs := by
  obtain ⟨ts, a, b⟩ := h
  exact ⟨ts, e.to _ _ a, b.ts (Sm.ts e)⟩
theorem RowsAt.chg {H H' : Hp} {b l : Addr} {rs : List PRow} (hb : BoxAt H b) (e : Chg b H H') (n : l ≠ b) (h : RowsAt H l rs) : RowsAt H' l rs := by
  obtain ⟨ts, a, r⟩ := h
  exact ⟨ts, e.to _ _ n a, r.ts (Chg.ts hb e)⟩
/-- a program as the document tells -/
def PRow.ends : PRow → Prop
  | .go _ => True
  | .stop => True
  | _ => False
structure ProgOk (boxes : Int) (rs : List PRow) : Prop where
  b1 : 1 ≤ boxes
  b5 : boxes ≤ 5
  r1 : 1 ≤ rs.length
  r14 : rs.length ≤ 14
  all : ∀ r ∈ rs, r.ok boxes rs.length
  fin : ∃ r, rs[rs.length - 1]? = some r ∧ r.ends

/-! a Program made of a good list or tuple of rows -/
def PRow.word : PRow → Str
  | .raise _ => Str.ofString "raise"
  | .lower _ => Str.ofString "lower"
  | .iff _ _ => Str.ofString "if"
  | .go _ => Str.ofString "go"
  | .stop => Str.ofString "stop"
def PRow.nums : PRow → List Int
  | .raise j => [j]
  | .lower j => [j]
  | .iff j g => [j, g]
  | .go g => [g]
  | .stop => []
def PRow.form : PRow → List Str
  | .raise _ => [Str.ofString "box"]
  | .lower _ => [Str.ofString "box"]
  | .iff _ _ => [Str.ofString "box", Str.ofString "goal"]
  | .go _ => [Str.ofString "goal"]
  | .stop => []
theorem PRow.vs_is (r : PRow) : r.vs = V.str r.word :: r.nums.map V.int := by cases r <;> rfl
theorem PRow.form_len (r : PRow) : (r.form.map V.str).length = (r.nums.map V.int).length := by cases r <;> rfl
theorem PRow.nums_len (r : PRow) : r.nums.length ≤ 2 := by cases r <;> simp [PRow.nums]
/-- what FORMS tells of a row's word -/
theorem forms_of (T : Txt K mg w) (r : PRow) : ∃ a, PySem.W.nsIn K T.w_FORMS r.word = some (some (.ref a)) ∧ ∀ H, SqT K H a (r.form.map V.str) := by
  cases r with
  | raise j => exact ⟨_, T.wf_FORMS_0, T.ws_FORMS_0⟩
  | lower j => exact ⟨_, T.wf_FORMS_1, T.ws_FORMS_1⟩
  | iff j g => exact ⟨_, T.wf_FORMS_2, T.ws_FORMS_2⟩
  | go g => exact ⟨_, T.wf_FORMS_3, T.ws_FORMS_3⟩
  | stop => exact ⟨_, T.wf_FORMS_4, T.ws_FORMS_4⟩
/-- is it whole -/
def sp_p_is_whole : Sp := fun vs H Q _ => ∃ n : Int, vs = [.int n] ∧ Q (.bl true) H
theorem use_whole {H : Hp} {Q : VK} {E : XK} {n : Int} (k : Q (.bl true) H) : sp_p_is_whole [.int n] H Q E := ⟨n, rfl, k⟩
theorem ok_p_is_whole (T : Txt K mg w) : FnOk P w K mg base CX0 1 T.f_p_is_whole T.d_p_is_whole ["thing"] sp_p_is_whole := by
  refine T.F_p_is_whole.ok sc_p_is_whole (fun vs H Q E h => ?_) (fun cdv A outer s H vs Q E hr h => ?_)
  · obtain ⟨n, rfl, _⟩ := h
    rfl
  · obtain ⟨n, rfl, k⟩ := h
    refine ⟨_, (pss_one (ps_ret (andT_k (K := K) rfl (pe_callB (isi_k (K := K) rfl) (by rfl) T.z_isinstance (by decide +kernel) (pa_cons (pv 0) (pa_cons (pe_bltn (v := .ty "int") (by rfl) T.z_int (by decide +kernel) rfl) pa_nil))) (pe_one (notT_k (K := K) rfl (pe_callB (isi_k (K := K) rfl) (by rfl) T.z_isinstance (by decide +kernel) (pa_cons (pv 0) (pa_cons (pe_bltn (v := .ty "bool") (by rfl) T.z_bool (by decide +kernel) rfl) pa_nil)))))))), ?_⟩
    tm_at "rv"
    exact k
theorem all_rep (n : Nat) : (List.replicate n true).all id = true := by
  induction n with
  | zero => rfl
  | succ n ih => rw [List.replicate_succ, List.all_cons, ih]; rfl
/-- is it a row -/
def sp_p_is_row : Sp := fun vs H Q _ => ∃ (t : Addr) (r : PRow), vs = [.ref t] ∧ H t = some (.tup r.vs) ∧ ∀ H', Sm H H' → Q (.bl true) H'
theorem use_is_row {H : Hp} {Q : VK} {E : XK} {t : Addr} {r : PRow} (h : H t = some (.tup r.vs)) (k : ∀ H', Sm H H' → Q (.bl true) H') : sp_p_is_row [.ref t] H Q E := ⟨t, r, rfl, h, k⟩
theorem ok_p_is_row (T : Txt K mg w) : FnOk P w K mg base CX0 2 T.f_p_is_row T.d_p_is_row ["row"] sp_p_is_row := by
  refine T.F_p_is_row.ok sc_p_is_row (fun vs H Q E h => ?_) (fun cdv A outer s H vs Q E hr h => ?_)
  · obtain ⟨t, r, rfl, _⟩ := h
    rfl
  · obtain ⟨t, r, rfl, et, k⟩ := h
    refine ⟨_, (pss_cons (ps_if (PW.pt (pw_or (pt_not (truth_k (K := K) rfl (pe_callB (isi_k (K := K) rfl) (by rfl) T.z_isinstance (by decide +kernel) (pa_cons (pv 0) (pa_cons (pe_bltn (v := .ty "tuple") (by rfl) T.z_tuple (by decide +kernel) rfl) pa_nil))) (by intro _; rfl))) (pw_or (pt_cmpR (eq_k (K := K) rfl hr.units) (pe_callB (len_k (K := K) rfl) (by rfl) T.z_len (by decide +kernel) (pa_cons (pv 0) pa_nil)) pe_int (nomark _)) (pw_or1 (pt_cmpR (op_notIn_kd T.wk_FORMS) (pe_ix (ix_k (K := K) rfl) (pv 0) pe_int (fun _ _ => rfl)) (pe_glob (v := .ref T.w_FORMS) (by rfl) T.g_FORMS rfl) (by rfl))))))
      (pss_one (ps_ret pe_bl)) pss_nil)
      (pss_cons (ps_set (i := 1) sc_p_is_row.nd rfl (Or.inl rfl) (pe_slice (sl_k (K := K) rfl) (pv 0) (po_some pe_int) po_none))
      (pss_one (ps_ret (andT_k (K := K) rfl (pe_cmpR (eq_k (K := K) rfl hr.units) (pe_callB (len_k (K := K) rfl) (by rfl) T.z_len (by decide +kernel) (pa_cons (pv 1) pa_nil)) (pe_callB (len_k (K := K) rfl) (by rfl) T.z_len (by decide +kernel) (pa_cons (pe_ix (kdix_k (K := K) (w := w) rfl rfl) (pe_glob (v := .ref T.w_FORMS) (by rfl) T.g_FORMS rfl) (pe_ix (ix_k (K := K) rfl) (pv 0) pe_int (fun _ _ => rfl)) (fun _ _ => rfl)) pa_nil)) (nomark _)) (pe_one (pe_callB (all_k (K := K) rfl rfl) (by rfl) T.z_all (by decide +kernel) (pa_cons (pe_lc (own := [("number", 2)]) rfl sc_p_is_row.nd (any_pi (K := K) rfl (pv 1)) (blkOk_by (N := ["row", "numbers", "number"]) (sc := defScope s_p_is_row) (own := [("number", 2)]) (by decide +kernel)) (fun _ _ _ _ _ => (pg_name (i := 2) sc_p_is_row.nd rfl (Or.inl rfl))) (fun _ _ _ _ _ => pts_nil) (fun _ _ _ _ _ => (pe_call (ok_p_is_whole T) hr (by rfl) T.g_p_is_whole T.F_p_is_whole.kp T.b_p_is_whole .nil pass0 (pa_cons (pv 2) pa_nil)))) pa_nil)))))))), ?_⟩
    rw [PRow.vs_is] at et
    obtain ⟨fa, hf, hs⟩ := forms_of T r
    have hl := r.form_len
    have hl2 := r.nums_len
    rw [List.length_map, List.length_map] at hl
    tm_at "rv"
    refine r_isi (.ty "tuple") (.base (.tup et)) (kit_ty rfl) ?_
    tm_at "rv"
    try with_reducible refine ite_o rfl ?_
    tm_at "rv"
    refine ⟨_, _, rfl, rfl, hf, ?_⟩
    tm_at "rv"
    refine r_slT (SqT.of et) fun p H1 s1 e1 => ?_
    rw [cut_tail] at e1
    have et1 := s1.to _ _ et
    tm_at "rv"
    refine r_kdix (v := .ref fa) T.wk_FORMS hf rfl ?_
    tm_at "rv"
    refine r_lenT (hs _) ?_
    tm_at "rv"
    refine ite_y (decide_eq_true (by rw [List.length_map, List.length_map]; omega)) ?_
    tm_at "rv"
    refine r_iT ?_
    tm_at "rv"
    refine r_aT e1 ?_
    intro D nD
    refine lc_tup (K := K) (a := p) (xs := r.nums.map V.int) (fun i H' => H' D = some (.lst ((List.replicate i true).map V.bl)) ∧ Sm H1 H') ⟨upd_same, sm_upd nD⟩ (fun i H' _ h => h.2.seqT e1) ?_ ?_
    · rintro i x H2 hx ⟨hD, s2⟩
      obtain ⟨n, _, rfl⟩ := List.mem_map.mp (List.mem_of_getElem? hx)
      have hi := (List.getElem?_eq_some_iff.mp hx).1
      rw [List.length_map] at hi
      tm_at "rv"
      refine use_whole ?_
      tm_at "rv"
      refine r_acc hD (len_lt (by rw [List.length_map, List.length_replicate]; omega)) ⟨?_, sm_acc s2 nD⟩
      rw [upd_same, List.replicate_succ', List.map_append]
      rfl
    · rintro H2 ⟨hD, s2⟩
      tm_at "rv"
      refine r_all (SqL.of hD) ?_
      rw [all_rep]
      tm_at "rv"
      exact k _ (s1.trans s2)
/-- one row is looked at -/
def lims (boxes many : Int) : List (Key × V) := [(Sum.inr (Str.ofString "box"), .int boxes), (Sum.inr (Str.ofString "goal"), .int many)]
theorem lim_of {boxes many : Int} {r : PRow} (h : r.ok boxes many) {i : Nat} {x y : V} (hx : (r.form.map V.str)[i]? = some x) (hy : (r.nums.map V.int)[i]? = some y) :
    ∃ m n l, x = .str m ∧ y = .int n ∧ valV (lims boxes many) (Sum.inr m : Key) = some (.int l) ∧ 0 ≤ n ∧ n < l := by
  have hb : valV (lims boxes many) (Sum.inr (Str.ofString "box") : Key) = some (.int boxes) := valV_pos rfl
  have hg : valV (lims boxes many) (Sum.inr (Str.ofString "goal") : Key) = some (.int many) := by
    refine (valV_neg (fun z => ?_)).trans (valV_pos rfl)
    have := Sum.inr.inj z
    exact absurd this (by decide +kernel)
  cases r with
  | raise j =>
    match i, hx, hy with
    | 0, hx, hy => exact ⟨_, _, _, (Option.some.inj hx).symm, (Option.some.inj hy).symm, hb, h.1, h.2⟩
  | lower j =>
    match i, hx, hy with
    | 0, hx, hy => exact ⟨_, _, _, (Option.some.inj hx).symm, (Option.some.inj hy).symm, hb, h.1, h.2⟩
  | iff j g =>
    match i, hx, hy with
    | 0, hx, hy => exact ⟨_, _, _, (Option.some.inj hx).symm, (Option.some.inj hy).symm, hb, h.1.1, h.1.2⟩
    | 1, hx, hy => exact ⟨_, _, _, (Option.some.inj hx).symm, (Option.some.inj hy).symm, hg, h.2.1, h.2.2⟩
  | go g =>
    match i, hx, hy with
    | 0, hx, hy => exact ⟨_, _, _, (Option.some.inj hx).symm, (Option.some.inj hy).symm, hg, h.1, h.2⟩
  | stop =>
    match i, hx, hy with
    | 0, hx, hy => cases hx
def sp_p_check_row : Sp := fun vs H Q _ => ∃ (t d : Addr) (r : PRow) (at' boxes many : Int), vs = [.ref t, .int at', .ref d] ∧ H t = some (.tup r.vs) ∧ r.ok boxes many ∧ H d = some (.dK (lims boxes many)) ∧ ∀ H', Sm H H' → Q .non H'
theorem use_check_row {H : Hp} {Q : VK} {E : XK} {t d : Addr} {r : PRow} {at' boxes many : Int} (h : H t = some (.tup r.vs)) (ho : r.ok boxes many) (hd : H d = some (.dK (lims boxes many))) (k : ∀ H', Sm H H' → Q .non H') : sp_p_check_row [.ref t, .int at', .ref d] H Q E := ⟨t, d, r, at', boxes, many, rfl, h, ho, hd, k⟩
theorem ok_p_check_row (T : Txt K mg w) : FnOk P w K mg base CX0 3 T.f_p_check_row T.d_p_check_row ["row", "at", "limits"] sp_p_check_row := by
  refine T.F_p_check_row.ok sc_p_check_row (fun vs H Q E h => ?_) (fun cdv A outer s H vs Q E hr h => ?_)
  · obtain ⟨t, d, r, at', boxes, many, rfl, _⟩ := h
    rfl
  · obtain ⟨t, d, r, at', boxes, many, rfl, et, ho, ed, k⟩ := h
    refine ⟨_, (pss_cons (ps_if (pt_not (truth_k (K := K) rfl (pe_call (ok_p_is_row T) hr (by rfl) T.g_p_is_row T.F_p_is_row.kp T.b_p_is_row .nil pass0 (pa_cons (pv 0) pa_nil)) (by intro _; rfl)))
      (pss_one ps_never) pss_nil)
      (pss_one (ps_for PassesOwn.never rfl (zip_k (K := K) rfl (by rfl) T.z_zip (pa_cons (pe_ix (kdix_k (K := K) (w := w) rfl rfl) (pe_glob (v := .ref T.w_FORMS) (by rfl) T.g_FORMS rfl) (pe_ix (ix_k (K := K) rfl) (pv 0) pe_int (fun _ _ => rfl)) (fun _ _ => rfl)) (pa_cons (pe_slice (sl_k (K := K) rfl) (pv 0) (po_some pe_int) po_none) pa_nil))) (pg_tup rfl (pgs_cons (pg_name (i := 3) sc_p_check_row.nd rfl (Or.inl rfl)) (pgs_cons (pg_name (i := 4) sc_p_check_row.nd rfl (Or.inl rfl)) pgs_nil)))
      (pss_one (ps_if (pt_not (pt_chain op_le op_lt pe_int (pv 4) (pe_dget (hu_of hr) (pv 2) (pv 3) (fun _ _ => rfl))))
      (pss_one ps_never) pss_nil))))), ?_⟩
    obtain ⟨fa, hf, hs⟩ := forms_of T r
    tm_at "rv"
    refine use_is_row et fun H1 s1 => ?_
    have et1 := s1.to _ _ et
    rw [PRow.vs_is] at et1
    tm_at "rv"
    try with_reducible refine ite_o rfl ?_
    tm_at "rv"
    refine r_kdix (v := .ref fa) T.wk_FORMS hf rfl ?_
    tm_at "rv"
    refine r_slT (SqT.of et1) fun p H2 s2 e2 => ?_
    rw [cut_tail] at e2
    tm_at "rv"
    refine r_zT (hs _) e2 ?_
    refine RZ.for_zipT (K := K) (a := fa) (b := p) (xs := r.form.map V.str) (ys := r.nums.map V.int) r.form_len (fun i σ H' => (∃ x3 x4, σ = [some (.ref t), some (.int at'), some (.ref d), x3, x4]) ∧ Sm H2 H') ⟨⟨_, _, rfl⟩, Sm.refl _⟩ (fun i σ H' h => ⟨hs _, h.2.seqT e2⟩) ?_ ?_
    · rintro i x y tt σ H3 hx hy ⟨⟨x3, x4, rfl⟩, s3⟩ nt
      obtain ⟨m, n, l, rfl, rfl, hv, h0, h1⟩ := lim_of ho hx hy
      have ed3 : H3 d = some (.dK (lims boxes many)) := s3.to _ _ (s2.to _ _ (s1.to _ _ ed))
      tm_at "rv"
      refine r_dgS ((sm_upd nt).to _ _ ed3) hv ?_
      tm_at "rv"
      exact ⟨⟨_, _, rfl⟩, s3.trans (sm_upd nt)⟩
    · rintro σ H3 ⟨⟨x3, x4, rfl⟩, s3⟩
      tm_at "rv"
      exact k _ ((s1.trans s2).trans s3)

theorem lims_merge (boxes many : Int) : mergeK [] (lims boxes many) = lims boxes many := by
  show putK (putK [] (Sum.inr (Str.ofString "box") : Key) (.int boxes)) (Sum.inr (Str.ofString "goal") : Key) (.int many) = _
  rw [putK_new _ valV_nil, List.nil_append, putK_new _ ((valV_neg (fun z => absurd (Sum.inr.inj z) (by decide +kernel))).trans valV_nil)]
  rfl
theorem upd_twice {H : Hp} {p : Addr} {o u : HO} : upd (upd H p o) p u = upd H p u := by
  funext a
  by_cases e : a = p
  · subst e
    rw [upd_same, upd_same]
  · rw [upd_ne e, upd_ne e, upd_ne e]
theorem ends_in {r : PRow} (h : r.ends) : (!inV (.str r.word) [V.str (Str.ofString "stop"), V.str (Str.ofString "go")]) = false := by
  cases r with
  | go g =>
    show (!inV (.str (Str.ofString "go")) [V.str (Str.ofString "stop"), V.str (Str.ofString "go")]) = false
    decide +kernel
  | stop =>
    show (!inV (.str (Str.ofString "stop")) [V.str (Str.ofString "stop"), V.str (Str.ofString "go")]) = false
    decide +kernel
  | raise j => exact h.elim
  | lower j => exact h.elim
  | iff j g => exact h.elim
theorem PRows.get {H : Hp} : ∀ {ts : List Addr} {rs : List PRow} {i : Nat} {v : V}, PRows H ts rs → (ts.map V.ref)[i]? = some v → ∃ (t : Addr) (r : PRow), v = .ref t ∧ H t = some (.tup r.vs) ∧ rs[i]? = some r ∧ r ∈ rs
  | t :: ts, r :: rs, 0, v, h, e => ⟨t, r, (Option.some.inj e).symm, h.1, rfl, by simp⟩
  | t :: ts, r :: rs, i + 1, v, h, e => by
    obtain ⟨t', r', e1, e2, e3, e4⟩ := PRows.get (i := i) h.2 e
    exact ⟨t', r', e1, e2, e3, by simp [e4]⟩
def sp_p_check : Sp := fun vs H Q _ => ∃ (boxes : Int) (a : Addr) (ts : List Addr) (rs : List PRow), vs = [.int boxes, .ref a] ∧ (H a = some (.lst (ts.map V.ref)) ∨ H a = some (.tup (ts.map V.ref))) ∧ PRows H ts rs ∧ ProgOk boxes rs ∧ ∀ H', Sm H H' → Q .non H'
theorem use_check {H : Hp} {Q : VK} {E : XK} {boxes : Int} {a : Addr} {ts : List Addr} {rs : List PRow} (h : H a = some (.lst (ts.map V.ref)) ∨ H a = some (.tup (ts.map V.ref))) (hp : PRows H ts rs) (g : ProgOk boxes rs) (k : ∀ H', Sm H H' → Q .non H') : sp_p_check [.int boxes, .ref a] H Q E := ⟨boxes, a, ts, rs, rfl, h, hp, g, k⟩
theorem ok_p_check (T : Txt K mg w) : FnOk P w K mg base CX0 4 T.f_p_check T.d_p_check ["boxes", "rows"] sp_p_check := by
  refine T.F_p_check.ok sc_p_check (fun vs H Q E h => ?_) (fun cdv A outer s H vs Q E hr h => ?_)
  · obtain ⟨boxes, a, ts, rs, rfl, _⟩ := h
    rfl
  · obtain ⟨boxes, a, ts, rs, rfl, hS, hp, good, k⟩ := h
    refine ⟨_, (pss_cons (ps_if (pt_not (pt_chain op_le op_le pe_int (pv 0) (pe_glob (v := .int 5) (by rfl) T.g_MOST_BOXES ⟨_, rfl⟩)))
      (pss_one ps_never) pss_nil)
      (pss_cons (ps_if (pt_not (pt_chain op_le op_le pe_int (pe_callB (len_k (K := K) rfl) (by rfl) T.z_len (by decide +kernel) (pa_cons (pv 1) pa_nil)) (pe_glob (v := .int 14) (by rfl) T.g_MOST_ROWS ⟨_, rfl⟩)))
      (pss_one ps_never) pss_nil)
      (pss_cons (ps_set (i := 2) sc_p_check.nd rfl (Or.inl rfl) (pe_disp (pps_cons pe_str (pv 0) (pps_cons pe_str (pe_callB (len_k (K := K) rfl) (by rfl) T.z_len (by decide +kernel) (pa_cons (pv 1) pa_nil)) pps_nil)) (by rfl) (by rfl) (by decide) (by decide)))
      (pss_cons (ps_for PassesOwn.never rfl (enum_k (K := K) rfl (by rfl) T.z_enumerate (pa_cons (pv 1) pa_nil)) (pg_tup rfl (pgs_cons (pg_name (i := 3) sc_p_check.nd rfl (Or.inl rfl)) (pgs_cons (pg_name (i := 4) sc_p_check.nd rfl (Or.inl rfl)) pgs_nil)))
      (pss_one (ps_expr (pe_call (ok_p_check_row T) hr (by rfl) T.g_p_check_row T.F_p_check_row.kp T.b_p_check_row .nil pass0 (pa_cons (pv 4) (pa_cons (pv 3) (pa_cons (pv 2) pa_nil)))))))
      (pss_one (ps_if (pt_cmpR (notIn_k (K := K) rfl) (pe_ix (ix_k (K := K) rfl) (pe_ix (ix_k (K := K) rfl) (pv 1) (pe_un un_neg pe_int) (fun _ _ => rfl)) pe_int (fun _ _ => rfl)) (pe_tup (pa_cons pe_str (pa_cons pe_str pa_nil))) (by rfl))
      (pss_one ps_never) pss_nil)))))), ?_⟩
    have hb1 := good.b1
    have hb5 := good.b5
    have hr1 := good.r1
    have hr14 := good.r14
    have hl : (ts.map V.ref).length = rs.length := by rw [List.length_map]; exact hp.len
    have row_at : ∀ {i : Nat} {v : V}, (ts.map V.ref)[i]? = some v → ∃ (t : Addr) (r : PRow), v = .ref t ∧ H t = some (.tup r.vs) ∧ rs[i]? = some r ∧ r ∈ rs := fun e => hp.get e
    have row_end : ∃ (t : Addr) (r : PRow), H t = some (.tup r.vs) ∧ (ts.map V.ref)[(ts.map V.ref).length - 1]? = some (.ref t) ∧ r.ends := by
      obtain ⟨r, e1, e2⟩ := good.fin
      have hlt : (ts.map V.ref).length - 1 < (ts.map V.ref).length := by omega
      obtain ⟨t, r', h1, h2, h3, _⟩ := hp.get (List.getElem?_eq_getElem hlt)
      rw [hl, e1] at h3
      cases Option.some.inj h3
      exact ⟨t, r, h2, by rw [← h1]; exact List.getElem?_eq_getElem hlt, e2⟩
    rcases hS with ea | ea
    · tm_at "rv"
      refine r_disp ?_
      intro d nd
      have ea1 : upd H d (.dK []) a = some (.lst (ts.map V.ref)) := (sm_upd nd).to _ _ ea
      tm_at "rv"
      rw [hl]
      refine ⟨upd_same, lims boxes (rs.length : Int), rfl, by show 2 ≤ 15; decide, ?_⟩
      rw [lims_merge, upd_twice]
      have s1 : Sm H (upd H d (.dK (lims boxes (rs.length : Int)))) := sm_upd nd
      have ed : upd H d (.dK (lims boxes (rs.length : Int))) d = some (.dK (lims boxes (rs.length : Int))) := upd_same
      generalize upd H d (.dK (lims boxes (rs.length : Int))) = H1 at s1 ed ⊢
      have ea1 := s1.to _ _ ea
      tm_at "rv"
      refine r_enumL ?_
      tm_at "rv"
      refine ⟨a, _, rfl, SqL.of ea1, ?_⟩
      refine for_it walk_enum (fun i σ H' => (∃ x3 x4, σ = [some (.int boxes), some (.ref a), some (.ref d), x3, x4]) ∧ Sm H1 H') ⟨⟨_, _, rfl⟩, Sm.refl _⟩ (fun i σ H' _ h => h.2.seq (SqL.of ea1)) ?_ ?_
      · rintro i x σ H2 H3 hi ⟨⟨x3, x4, rfl⟩, s2⟩ ⟨tt, u, v, rfl, nt, rfl, hu, hv⟩
        have hu : u = .int (i : Nat) := (Option.some.inj hu).symm
        subst hu
        obtain ⟨t, r, rfl, et, hr', ho⟩ := row_at hv
        tm_at "rv"
        refine use_check_row (boxes := boxes) (many := (rs.length : Int)) ((sm_upd nt).to _ _ (s2.to _ _ (s1.to _ _ et))) (good.all r ho) ((sm_upd nt).to _ _ (s2.to _ _ ed)) fun H4 s4 => ?_
        tm_at "rv"
        exact ⟨⟨_, _, rfl⟩, (s2.trans (sm_upd nt)).trans s4⟩
      · rintro σ H2 ⟨⟨x3, x4, rfl⟩, s2⟩
        tm_at "rv"
        obtain ⟨t, r, et, hlast, hend⟩ := row_end
        have ea3 := s2.to _ _ ea1
        refine r_ixL (SqL.of ea3) (atI_end hlast) ?_
        tm_at "rv"
        have et2 : H2 t = some (.tup r.vs) := s2.to _ _ (s1.to _ _ et)
        rw [PRow.vs_is] at et2
        refine r_ixT0 (SqT.of et2) ?_
        tm_at "rv"
        rename_i tp ntp
        refine r_notIn (.inr (SqT.of upd_same)) rfl rfl ?_
        tm_at "rv"
        refine ite_o (ends_in hend) ?_
        tm_at "rv"
        exact k _ ((s1.trans s2).trans (sm_upd ntp))
    · tm_at "rv"
      refine r_disp ?_
      intro d nd
      have ea1 : upd H d (.dK []) a = some (.tup (ts.map V.ref)) := (sm_upd nd).to _ _ ea
      tm_at "rv"
      rw [hl]
      refine ⟨upd_same, lims boxes (rs.length : Int), rfl, by show 2 ≤ 15; decide, ?_⟩
      rw [lims_merge, upd_twice]
      have s1 : Sm H (upd H d (.dK (lims boxes (rs.length : Int)))) := sm_upd nd
      have ed : upd H d (.dK (lims boxes (rs.length : Int))) d = some (.dK (lims boxes (rs.length : Int))) := upd_same
      generalize upd H d (.dK (lims boxes (rs.length : Int))) = H1 at s1 ed ⊢
      have ea1 := s1.to _ _ ea
      tm_at "rv"
      refine r_enumT ?_
      tm_at "rv"
      refine ⟨a, _, rfl, SqT.of ea1, ?_⟩
      refine for_it walk_enumT (fun i σ H' => (∃ x3 x4, σ = [some (.int boxes), some (.ref a), some (.ref d), x3, x4]) ∧ Sm H1 H') ⟨⟨_, _, rfl⟩, Sm.refl _⟩ (fun i σ H' _ h => h.2.seqT (SqT.of ea1)) ?_ ?_
      · rintro i x σ H2 H3 hi ⟨⟨x3, x4, rfl⟩, s2⟩ ⟨tt, u, v, rfl, nt, rfl, hu, hv⟩
        have hu : u = .int (i : Nat) := (Option.some.inj hu).symm
        subst hu
        obtain ⟨t, r, rfl, et, hr', ho⟩ := row_at hv
        tm_at "rv"
        refine use_check_row (boxes := boxes) (many := (rs.length : Int)) ((sm_upd nt).to _ _ (s2.to _ _ (s1.to _ _ et))) (good.all r ho) ((sm_upd nt).to _ _ (s2.to _ _ ed)) fun H4 s4 => ?_
        tm_at "rv"
        exact ⟨⟨_, _, rfl⟩, (s2.trans (sm_upd nt)).trans s4⟩
      · rintro σ H2 ⟨⟨x3, x4, rfl⟩, s2⟩
        tm_at "rv"
        obtain ⟨t, r, et, hlast, hend⟩ := row_end
        have ea3 := s2.to _ _ ea1
        refine r_ixT (SqT.of ea3) (atI_end hlast) ?_
        tm_at "rv"
        have et2 : H2 t = some (.tup r.vs) := s2.to _ _ (s1.to _ _ et)
        rw [PRow.vs_is] at et2
        refine r_ixT0 (SqT.of et2) ?_
        tm_at "rv"
        rename_i tp ntp
        refine r_notIn (.inr (SqT.of upd_same)) rfl rfl ?_
        tm_at "rv"
        refine ite_o (ends_in hend) ?_
        tm_at "rv"
        exact k _ ((s1.trans s2).trans (sm_upd ntp))
/-- an object that is such a program -/
def ProgAt (K : PySem.W.Frag) (C : Addr) (H : Hp) (p : Addr) (boxes : Int) (ts : List Addr) (rs : List PRow) : Prop := ∃ dx tt, H p = some (.ins C dx [("boxes", .int boxes), ("rows", .ref tt)]) ∧ H tt = some (.tup (ts.map V.ref)) ∧ PRows H ts rs
theorem ProgAt.sm {C : Addr} {H H' : Hp} {p : Addr} {boxes : Int} {ts : List Addr} {rs : List PRow} (e : Sm H H') (h : ProgAt K C H p boxes ts rs) : ProgAt K C H' p boxes ts rs := by
  obtain ⟨dx, tt, a, b, c⟩ := h
  exact ⟨dx, tt, e.to _ _ a, e.to _ _ b, c.ts (Sm.ts e)⟩
theorem ProgAt.lst {C : Addr} {H : Hp} {A p : Addr} {xs ys : List V} {boxes : Int} {ts : List Addr} {rs : List PRow} (hA : H A = some (.lst xs)) (h : ProgAt K C H p boxes ts rs) : ProgAt K C (upd H A (.lst ys)) p boxes ts rs := by
  obtain ⟨dx, tt, a, b, c⟩ := h
  refine ⟨dx, tt, ?_, ?_, c.ts (lst_ts hA)⟩
  · rw [upd_ne (ne_of a hA (by intro z; cases z))]
    exact a
  · rw [upd_ne (ne_of b hA (by intro z; cases z))]
    exact b
theorem fld_ne : ¬ (("boxes" : Str) = "rows") := by decide +kernel
theorem put_rows (b : Int) (t : Addr) : putF "rows" (.ref t) (putF "boxes" (.int b) []) = ([("boxes", .int b), ("rows", .ref t)] : List (Str × V)) := by
  show (if ("boxes" : Str) = "rows" then [(("boxes" : Str), V.ref t)] else (("boxes" : Str), V.int b) :: putF "rows" (V.ref t) []) = ([("boxes", .int b), ("rows", .ref t)] : List (Str × V))
  rw [if_neg fld_ne]
  rfl
theorem get_boxes (b : Int) (t : Addr) : ([("boxes", .int b), ("rows", .ref t)] : List (Str × V)).lookup ("boxes" : Str) = some (.int b) := by
  rw [← put_rows, lookup_putF, if_neg fld_ne, lookup_putF, if_pos rfl]
theorem get_rows (b : Int) (t : Addr) : ([("boxes", .int b), ("rows", .ref t)] : List (Str × V)).lookup ("rows" : Str) = some (.ref t) := by
  rw [← put_rows, lookup_putF, if_pos rfl]
def sp_Program_init (C : Addr) : Sp := fun vs H Q _ => ∃ (x dx : Addr) (boxes : Int) (a : Addr) (ts : List Addr) (rs : List PRow), vs = [.ref x, .int boxes, .ref a] ∧ H x = some (.ins C dx []) ∧ (H a = some (.lst (ts.map V.ref)) ∨ H a = some (.tup (ts.map V.ref))) ∧ PRows H ts rs ∧ ProgOk boxes rs ∧
  ∀ H' tt, Chg x H H' → H' x = some (.ins C dx [("boxes", .int boxes), ("rows", .ref tt)]) → H' tt = some (.tup (ts.map V.ref)) → Q .non H'
theorem ok_Program_init (T : Txt K mg w) : FnOk P w K mg base CX0 5 T.f_Program_init T.d_Program_init ["self", "boxes", "rows"] (sp_Program_init T.C_Program) := by
  refine T.F_Program_init.ok sc_Program_init (fun vs H Q E h => ?_) (fun cdv A outer s H vs Q E hr h => ?_)
  · obtain ⟨x, dx, boxes, a, ts, rs, rfl, _⟩ := h
    rfl
  · obtain ⟨x, dx, boxes, a, ts, rs, rfl, hx, hS, hp, good, k⟩ := h
    refine ⟨_, (pss_cons (ps_expr (pe_call (ok_p_check T) hr (by rfl) T.g_p_check T.F_p_check.kp T.b_p_check .nil pass0 (pa_cons (pv 1) (pa_cons (pv 2) pa_nil))))
      (pss_cons (ps_fld (pv 0) (pv 1) rfl)
      (pss_one (ps_fld (pv 0) (pe_callTy (tuple_k (K := K) rfl) (by rfl) T.z_tuple (by decide +kernel) (pa_cons (pv 2) pa_nil)) rfl)))), ?_⟩
    tm_at "rv"
    refine use_check hS hp good fun H1 s1 => ?_
    have hx1 := s1.to _ _ hx
    tm_at "rv"
    refine r_setO hx1 T.cl_Program T.n_Program_boxes (by show 0 < 1000; decide) ?_
    have hS1 : H1 a = some (.lst (ts.map V.ref)) ∨ H1 a = some (.tup (ts.map V.ref)) := hS.imp (s1.to _ _) (s1.to _ _)
    have c2 : Chg x H (upd H1 x (.ins T.C_Program dx (putF "boxes" (.int boxes) []))) := s1.chg.trans chg_upd
    tm_at "rv"
    rcases hS1 with ea | ea
    · have hax : a ≠ x := ne_of ea hx1 (by intro z; cases z)
      refine r_tupleL (SqL.of (by rw [upd_ne hax]; exact ea)) fun tt nt => ?_
      tm_at "rv"
      have hxt : x ≠ tt := ne_of_none upd_same nt
      refine r_setO (by rw [upd_ne hxt]; exact upd_same) T.cl_Program T.n_Program_rows (by show 1 < 1000; decide) ?_
      tm_at "rv"
      rw [put_rows]
      refine k _ tt (c2.trans ((sm_upd nt).chg.trans chg_upd)) upd_same ?_
      rw [upd_ne hxt.symm]
      exact upd_same
    · have hax : a ≠ x := ne_of ea hx1 (by intro z; cases z)
      refine r_tupleT (SqT.of (by rw [upd_ne hax]; exact ea)) ?_
      tm_at "rv"
      refine r_setO upd_same T.cl_Program T.n_Program_rows (by show 1 < 1000; decide) ?_
      tm_at "rv"
      rw [put_rows]
      refine k _ a (c2.trans chg_upd) upd_same ?_
      rw [upd_ne hax, upd_ne hax]
      exact ea
/-- the making, for a caller -/
theorem init_use {C x dx : Addr} {H : Hp} {R : Hp → Prop} {E : XK} {boxes : Int} {a : Addr} {ts : List Addr} {rs : List PRow} (nx : H x = none) (nd : H dx = none) (h : H a = some (.lst (ts.map V.ref)) ∨ H a = some (.tup (ts.map V.ref))) (hp : PRows H ts rs) (g : ProgOk boxes rs)
    (k : ∀ H', Sm H H' → ProgAt K C H' x boxes ts rs → R H') : sp_Program_init C [.ref x, .int boxes, .ref a] (upd (upd H dx (.own x)) x (.ins C dx [])) (fun v H2 => v = .non ∧ R H2) E := by
  refine ⟨x, dx, boxes, a, ts, rs, rfl, upd_same, h.imp (made_keep nx nd) (made_keep nx nd), ?_, g, fun H' tt c e1 e2 => ?_⟩
  · exact hp.ts ⟨fun t xs e => made_keep nx nd e⟩
  · have s := made_sm nx nd c
    exact ⟨rfl, k H' s ⟨dx, tt, e1, e2, hp.ts (Sm.ts s)⟩⟩

/-! rows as data -/
def PRow.data (r : PRow) : PyData := .tuple (.str r.word :: r.nums.map PyData.int)
theorem dps_rows {H : Hp} : ∀ {ts : List Addr} {rs : List PRow}, PRows H ts rs → DpAll K H (ts.map V.ref) (rs.map PRow.data)
  | [], [], _ => .nil
  | t :: ts, r :: rs, h => .cons (.tup (SqT.of (by rw [← PRow.vs_is]; exact h.1)) (.cons (.str _) (dps_ints _))) (dps_rows h.2)
theorem dp_rowsT {H : Hp} {a : Addr} {ts : List Addr} {rs : List PRow} (h : H a = some (.tup (ts.map V.ref))) (hp : PRows H ts rs) : Dp K H (.ref a) (.tuple (rs.map PRow.data)) := .tup (SqT.of h) (dps_rows hp)
theorem row_lay (r : PRow) : PyData.canLay0 r.data = true := by
  have h1 : PyData.strOk r.word = true := by
    cases r
    · show PyData.strOk (Str.ofString "raise") = true
      decide +kernel
    · show PyData.strOk (Str.ofString "lower") = true
      decide +kernel
    · show PyData.strOk (Str.ofString "if") = true
      decide +kernel
    · show PyData.strOk (Str.ofString "go") = true
      decide +kernel
    · show PyData.strOk (Str.ofString "stop") = true
      decide +kernel
  show (PyData.strOk r.word && PyData.canLayAll0 (r.nums.map PyData.int)) = true
  rw [h1, lay_ints]
  rfl
theorem row_deep (r : PRow) : PyData.depth r.data ≤ 2 := by
  have h := deep_ints r.nums
  show max 0 (PyData.depthAll (r.nums.map PyData.int)) + 1 ≤ 2
  omega
theorem rows_lay : ∀ rs : List PRow, PyData.canLayAll0 (rs.map PRow.data) = true
  | [] => rfl
  | r :: rs => by
    show (PyData.canLay0 r.data && PyData.canLayAll0 (rs.map PRow.data)) = true
    rw [row_lay, rows_lay rs]
    rfl
theorem rows_deep : ∀ rs : List PRow, PyData.depthAll (rs.map PRow.data) ≤ 2
  | [] => Nat.zero_le _
  | r :: rs => by
    have h1 := row_deep r
    have h2 := rows_deep rs
    show max (PyData.depth r.data) (PyData.depthAll (rs.map PRow.data)) ≤ 2
    omega
theorem rows_shaped (rs : List PRow) : SeqAt.shaped (.tuple (rs.map PRow.data)) = true := by
  have h := rows_lay rs
  have h2 := rows_deep rs
  have h3 : PyData.depth (.tuple (rs.map PRow.data)) ≤ 64 := by
    show PyData.depthAll (rs.map PRow.data) + 1 ≤ 64
    omega
  show (PyData.canLayAll0 (rs.map PRow.data) && decide (PyData.depth (.tuple (rs.map PRow.data)) ≤ 64)) = true
  rw [h, decide_eq_true h3]
  rfl
theorem rows_eqv (rs : List PRow) : PyData.eqv (.tuple (rs.map PRow.data)) (.tuple (rs.map PRow.data)) = true := SeqAt.eqv_refl _ (rows_lay rs)
theorem r_neRows {H : Hp} {Q : VK} {a b : Addr} {ts us : List Addr} {rs : List PRow} (ha : H a = some (.tup (ts.map V.ref))) (pa : PRows H ts rs) (hb : H b = some (.tup (us.map V.ref))) (pb : PRows H us rs) (k : Q (.bl false) H) : rNeA K (.ref a) (.ref b) H Q :=
  r_neD (dp_rowsT ha pa) (dp_rowsT hb pb) (rows_shaped rs) (rows_shaped rs) (by rw [rows_eqv]; exact k)
theorem r_eqRows {H : Hp} {Q : VK} {a b : Addr} {ts us : List Addr} {rs : List PRow} (ha : H a = some (.tup (ts.map V.ref))) (pa : PRows H ts rs) (hb : H b = some (.tup (us.map V.ref))) (pb : PRows H us rs) (k : Q (.bl true) H) : rEqA K (.ref a) (.ref b) H Q :=
  r_eqD (dp_rowsT ha pa) (dp_rowsT hb pb) (rows_shaped rs) (rows_shaped rs) (by rw [rows_eqv]; exact k)

/-! programs, equal -/
def sp_Program_eq (K : PySem.W.Frag) (C : Addr) : Sp := fun vs H Q _ => ∃ (p q : Addr) (boxes : Int) (ts us : List Addr) (rs : List PRow), vs = [.ref p, .ref q] ∧ ProgAt K C H p boxes ts rs ∧ ProgAt K C H q boxes us rs ∧ Q (.bl true) H
theorem use_prog_eq {C : Addr} {H : Hp} {Q : VK} {E : XK} {p q : Addr} {boxes : Int} {ts us : List Addr} {rs : List PRow} (h : ProgAt K C H p boxes ts rs) (g : ProgAt K C H q boxes us rs) (k : Q (.bl true) H) : sp_Program_eq K C [.ref p, .ref q] H Q E := ⟨p, q, boxes, ts, us, rs, rfl, h, g, k⟩
theorem ok_Program_eq (T : Txt K mg w) : FnOk P w K mg base CX0 1 T.f_Program_eq T.d_Program_eq ["self", "other"] (sp_Program_eq K T.C_Program) := by
  refine T.F_Program_eq.ok sc_Program_eq (fun vs H Q E h => ?_) (fun cdv A outer s H vs Q E hr h => ?_)
  · obtain ⟨p, q, boxes, ts, us, rs, rfl, _⟩ := h
    rfl
  · obtain ⟨p, q, boxes, ts, us, rs, rfl, ⟨dx, tt, e1, e2, hp⟩, ⟨dy, tu, e3, e4, hq⟩, k⟩ := h
    refine ⟨_, (pss_one (ps_ret (andT_k (K := K) rfl (pe_callB (isC_k (K := K) rfl T.ic_Program) (by rfl) T.z_isinstance (by decide +kernel) (pa_cons (pv 1) (pa_cons (pe_glob (v := .ref T.C_Program) (by rfl) T.g_Program rfl) pa_nil))) (andT_k (K := K) rfl (pe_cmpR (eq_k (K := K) rfl hr.units) (fld_k (K := K) rfl (pv 0) rfl) (fld_k (K := K) rfl (pv 1) rfl) (nomark _)) (pe_one (pe_cmpR (eq_k (K := K) rfl hr.units) (fld_k (K := K) rfl (pv 0) rfl) (fld_k (K := K) rfl (pv 1) rfl) (nomark _))))))), ?_⟩
    tm_at "rv"
    refine ⟨q, _, _, rfl, e3, ?_⟩
    tm_at "rv"
    refine r_fldO e1 T.cl_Program T.n_Program_boxes (get_boxes _ _) ?_
    tm_at "rv"
    refine r_fldO e3 T.cl_Program T.n_Program_boxes (get_boxes _ _) ?_
    tm_at "rv"
    refine r_fldO e1 T.cl_Program T.n_Program_rows (get_rows _ _) ?_
    tm_at "rv"
    refine r_fldO e3 T.cl_Program T.n_Program_rows (get_rows _ _) ?_
    refine r_eqRows e2 hp e4 hq ?_
    tm_at "rv"
    exact k
theorem r_neProg {C : Addr} {H : Hp} {Q : VK} {E : XK} {p q : Addr} {boxes : Int} {ts us : List Addr} {rs : List PRow} (h : ProgAt K C H p boxes ts rs) (g : ProgAt K C H q boxes us rs) (k : Q (.bl false) H) : rNeI C (sp_Program_eq K C) E (.ref p) (.ref q) H Q := by
  have h0 := h
  have g0 := g
  obtain ⟨dx, tt, e1, _⟩ := h
  obtain ⟨dy, tu, e3, _⟩ := g
  exact r_neIn e1 e3 (use_prog_eq h0 g0 ⟨true, rfl, k⟩)
theorem r_eqProg {C : Addr} {H : Hp} {Q : VK} {E : XK} {p q : Addr} {boxes : Int} {ts us : List Addr} {rs : List PRow} (h : ProgAt K C H p boxes ts rs) (g : ProgAt K C H q boxes us rs) (k : Q (.bl true) H) : rEqI C (sp_Program_eq K C) E (.ref p) (.ref q) H Q := by
  have h0 := h
  have g0 := g
  obtain ⟨dx, tt, e1, _⟩ := h
  obtain ⟨dy, tu, e3, _⟩ := g
  exact r_eqIn e1 e3 (use_prog_eq h0 g0 ⟨true, rfl, k⟩)

/-! goals and moves -/
def PRow.goalV : PRow → V
  | .iff _ g => .int g
  | .go g => .int g
  | _ => .non
theorem in_word (r : PRow) : inV (.str r.word) [.str (Str.ofString "if"), .str (Str.ofString "go")] = (match r with | .iff _ _ => true | .go _ => true | _ => false) := by
  cases r with
  | raise j => show inV (.str (Str.ofString "raise")) [.str (Str.ofString "if"), .str (Str.ofString "go")] = false; decide +kernel
  | lower j => show inV (.str (Str.ofString "lower")) [.str (Str.ofString "if"), .str (Str.ofString "go")] = false; decide +kernel
  | iff j g => show inV (.str (Str.ofString "if")) [.str (Str.ofString "if"), .str (Str.ofString "go")] = true; decide +kernel
  | go g => show inV (.str (Str.ofString "go")) [.str (Str.ofString "if"), .str (Str.ofString "go")] = true; decide +kernel
  | stop => show inV (.str (Str.ofString "stop")) [.str (Str.ofString "if"), .str (Str.ofString "go")] = false; decide +kernel
theorem atI_rowG {H : Hp} {ts : List Addr} {rs : List PRow} (hp : PRows H ts rs) {k : Int} (h0 : 0 ≤ k) (h1 : k < (rs.length : Int)) : ∃ t r, atI (ts.map V.ref) k = some (.ref t) ∧ H t = some (.tup r.vs) ∧ rs[k.toNat]? = some r ∧ r ∈ rs := by
  obtain ⟨v, e, g⟩ := atI_of (xs := ts.map V.ref) h0 (by rw [List.length_map, hp.len]; exact h1)
  obtain ⟨t, r, rfl, a, b, c⟩ := hp.get g
  exact ⟨t, r, e, a, b, c⟩
def sp_p_goal_of (K : PySem.W.Frag) (C : Addr) : Sp := fun vs H Q _ => ∃ (p : Addr) (k boxes : Int) (ts : List Addr) (rs : List PRow) (r : PRow), vs = [.ref p, .int k] ∧ ProgAt K C H p boxes ts rs ∧ 0 ≤ k ∧ rs[k.toNat]? = some r ∧ ∀ H', Sm H H' → Q r.goalV H'
theorem use_goal {C : Addr} {H : Hp} {Q : VK} {E : XK} {p : Addr} {i boxes : Int} {ts : List Addr} {rs : List PRow} {r : PRow} (h : ProgAt K C H p boxes ts rs) (h0 : 0 ≤ i) (e : rs[i.toNat]? = some r) (k : ∀ H', Sm H H' → Q r.goalV H') : sp_p_goal_of K C [.ref p, .int i] H Q E := ⟨p, i, boxes, ts, rs, r, rfl, h, h0, e, k⟩
theorem ok_p_goal_of (T : Txt K mg w) : FnOk P w K mg base CX0 1 T.f_p_goal_of T.d_p_goal_of ["program", "k"] (sp_p_goal_of K T.C_Program) := by
  refine T.F_p_goal_of.ok sc_p_goal_of (fun vs H Q E h => ?_) (fun cdv A outer s H vs Q E hr h => ?_)
  · obtain ⟨p, i, boxes, ts, rs, r, rfl, _⟩ := h
    rfl
  · obtain ⟨p, i, boxes, ts, rs, r, rfl, ⟨dx, tt, e1, e2, hp⟩, h0, er, k⟩ := h
    refine ⟨_, (pss_cons (ps_set (i := 2) sc_p_goal_of.nd rfl (Or.inl rfl) (pe_ix (ix_k (K := K) rfl) (fld_k (K := K) rfl (pv 0) rfl) (pv 1) (fun _ _ => rfl)))
      (pss_cons (ps_if (pt_cmpR (in_k (K := K) rfl) (pe_ix (ix_k (K := K) rfl) (pv 2) pe_int (fun _ _ => rfl)) (pe_tup (pa_cons pe_str (pa_cons pe_str pa_nil))) (by rfl))
      (pss_one (ps_ret (pe_ix (ix_k (K := K) rfl) (pv 2) (pe_un un_neg pe_int) (fun _ _ => rfl)))) pss_nil)
      (pss_one (ps_ret pe_non)))), ?_⟩
    have hi := (List.getElem?_eq_some_iff.mp er).1
    obtain ⟨t, r', hat, et, hr', hm⟩ := atI_rowG hp h0 (show i < (rs.length : Int) by omega)
    rw [er] at hr'
    cases (Option.some.inj hr')
    tm_at "rv"
    refine r_fldO e1 T.cl_Program T.n_Program_rows (get_rows _ _) ?_
    tm_at "rv"
    refine r_ixT (SqT.of e2) hat ?_
    tm_at "rv"
    have hw := in_word r
    cases r with
    | stop =>
      have et : H t = some (.tup [.str (Str.ofString "stop")]) := et
      tm_at "rv"
      rename_i q nq
      refine r_inV (.inr (SqT.of upd_same)) rfl rfl ?_
      rw [show inV (.str (Str.ofString "stop")) [.str (Str.ofString "if"), .str (Str.ofString "go")] = false from hw]
      tm_at "rv"
      exact k _ (sm_upd nq)
    | raise j =>
      have et : H t = some (.tup [.str (Str.ofString "raise"), .int j]) := et
      tm_at "rv"
      rename_i q nq
      refine r_inV (.inr (SqT.of upd_same)) rfl rfl ?_
      rw [show inV (.str (Str.ofString "raise")) [.str (Str.ofString "if"), .str (Str.ofString "go")] = false from hw]
      tm_at "rv"
      exact k _ (sm_upd nq)
    | lower j =>
      have et : H t = some (.tup [.str (Str.ofString "lower"), .int j]) := et
      tm_at "rv"
      rename_i q nq
      refine r_inV (.inr (SqT.of upd_same)) rfl rfl ?_
      rw [show inV (.str (Str.ofString "lower")) [.str (Str.ofString "if"), .str (Str.ofString "go")] = false from hw]
      tm_at "rv"
      exact k _ (sm_upd nq)
    | iff j g =>
      have et : H t = some (.tup [.str (Str.ofString "if"), .int j, .int g]) := et
      tm_at "rv"
      rename_i q nq
      refine r_inV (.inr (SqT.of upd_same)) rfl rfl ?_
      rw [show inV (.str (Str.ofString "if")) [.str (Str.ofString "if"), .str (Str.ofString "go")] = true from hw]
      tm_at "rv"
      refine r_ixT ((sm_upd nq).seqT (SqT.of et)) (atI_end rfl) ?_
      tm_at "rv"
      exact k _ (sm_upd nq)
    | go g =>
      have et : H t = some (.tup [.str (Str.ofString "go"), .int g]) := et
      tm_at "rv"
      rename_i q nq
      refine r_inV (.inr (SqT.of upd_same)) rfl rfl ?_
      rw [show inV (.str (Str.ofString "go")) [.str (Str.ofString "if"), .str (Str.ofString "go")] = true from hw]
      tm_at "rv"
      refine r_ixT ((sm_upd nq).seqT (SqT.of et)) (atI_end rfl) ?_
      tm_at "rv"
      exact k _ (sm_upd nq)

/-! names, and the boxes that are asked -/
def PRow.parts (r : PRow) (k : Nat) : Option Int := match r with
  | .iff j g => if g = (k : Int) + 1 then none else some j
  | _ => none
def partsL : Nat → List PRow → List Int
  | _, [] => []
  | k, r :: rs => (r.parts k).toList ++ partsL (k + 1) rs
theorem partsL_app : ∀ (rs qs : List PRow) (k : Nat), partsL k (rs ++ qs) = partsL k rs ++ partsL (k + rs.length) qs
  | [], qs, k => by simp [partsL]
  | r :: rs, qs, k => by
    show (r.parts k).toList ++ partsL (k + 1) (rs ++ qs) = _
    rw [partsL_app rs qs (k + 1), ← List.append_assoc, List.length_cons, show k + 1 + rs.length = k + (rs.length + 1) by omega]
    rfl
theorem partsL_take {rs : List PRow} {i : Nat} {r : PRow} (h : rs[i]? = some r) : partsL 0 (rs.take (i + 1)) = partsL 0 (rs.take i) ++ (r.parts i).toList := by
  have hi := (List.getElem?_eq_some_iff.mp h).1
  rw [List.take_add_one, h, partsL_app, List.length_take, Nat.min_eq_left (Nat.le_of_lt hi), Nat.zero_add]
  show _ ++ ((r.parts i).toList ++ []) = _
  rw [List.append_nil]
/-- two rising lists of the same members are one -/
theorem rising_one : ∀ {a b : List Int}, a.Pairwise (· < ·) → b.Pairwise (· < ·) → (∀ j, j ∈ a ↔ j ∈ b) → a = b
  | [], [], _, _, _ => rfl
  | [], y :: b, _, _, h => absurd ((h y).mpr (by simp)) (by simp)
  | x :: a, [], _, _, h => absurd ((h x).mp (by simp)) (by simp)
  | x :: a, y :: b, ha, hb, h => by
    obtain ⟨ha1, ha2⟩ := List.pairwise_cons.mp ha
    obtain ⟨hb1, hb2⟩ := List.pairwise_cons.mp hb
    have e : x = y := by
      have h1 := (h x).mp (by simp)
      have h2 := (h y).mpr (by simp)
      rcases List.mem_cons.mp h1 with e | m
      · exact e
      · rcases List.mem_cons.mp h2 with e | m2
        · exact e.symm
        · have g1 := hb1 x m
          have g2 := ha1 y m2
          omega
    subst e
    rw [rising_one ha2 hb2 fun j => ⟨fun m => ?_, fun m => ?_⟩]
    · have := ha1 j m
      rcases List.mem_cons.mp ((h j).mp (by simp [m])) with e | g
      · omega
      · exact g
    · have := hb1 j m
      rcases List.mem_cons.mp ((h j).mpr (by simp [m])) with e | g
      · omega
      · exact g
def nbS (z : Str) (n : Nat) : List Str := (List.range n).map fun i => z ++ (toString ((i : Nat) : Int) : Str)
theorem nbS_succ (z : Str) (n : Nat) : nbS z (n + 1) = nbS z n ++ [z ++ (toString ((n : Nat) : Int) : Str)] := by
  unfold nbS
  rw [List.range_succ, List.map_append]
  rfl
theorem nbS_len (z : Str) (n : Nat) : (nbS z n).length = n := by
  unfold nbS
  rw [List.length_map, List.length_range]
def lone : List Str := [Str.ofString "s", Str.ofString "c", Str.ofString "h", Str.ofString "d", Str.ofString "q", Str.ofString "g", Str.ofString "i", Str.ofString "m"]
def namesL (b m : Nat) (ns : List Int) : List Str := nbS (Str.ofString "x") b ++ nbS (Str.ofString "y") b ++ lone ++ nbS (Str.ofString "r") b ++ nbS (Str.ofString "l") m ++ ns.map fun j => Str.ofString "e" ++ (toString j : Str)
def sp_p_numbered : Sp := fun vs H Q _ => ∃ (z : Str) (n : Int), vs = [.str z, .int n] ∧ z.length ≤ 1 ∧ 0 ≤ n ∧ n ≤ 14 ∧ ∀ l H', Sm H H' → H l = none → H' l = some (.lst ((nbS z n.toNat).map V.str)) → Q (.ref l) H'
theorem use_numbered {H : Hp} {Q : VK} {E : XK} {z : Str} {n : Int} (hz : z.length ≤ 1) (h0 : 0 ≤ n) (h1 : n ≤ 14) (k : ∀ l H', Sm H H' → H l = none → H' l = some (.lst ((nbS z n.toNat).map V.str)) → Q (.ref l) H') : sp_p_numbered [.str z, .int n] H Q E := ⟨z, n, rfl, hz, h0, h1, k⟩
theorem ok_p_numbered (T : Txt K mg w) : FnOk P w K mg base CX0 1 T.f_p_numbered T.d_p_numbered ["letter", "many"] sp_p_numbered := by
  refine T.F_p_numbered.ok sc_p_numbered (fun vs H Q E h => ?_) (fun cdv A outer s H vs Q E hr h => ?_)
  · obtain ⟨z, n, rfl, _⟩ := h
    rfl
  · obtain ⟨z, n, rfl, hz, h0, h1, k⟩ := h
    refine ⟨_, (pss_one (ps_ret (pe_lc (own := [("k", 2)]) rfl sc_p_numbered.nd (pi_range1 (by rfl) T.z_range (pa_cons (pv 1) pa_nil)) (blkOk_by (N := ["letter", "many", "k"]) (sc := defScope s_p_numbered) (own := [("k", 2)]) (by decide +kernel)) (fun _ _ _ _ _ => (pg_name (i := 2) sc_p_numbered.nd rfl (Or.inl rfl))) (fun _ _ _ _ _ => pts_nil) (fun _ _ _ _ _ => (pe_joinedN (.cons (pe_fmt (pv 0)) (.cons (pe_fmt (pv 2)) .nil))))))), ?_⟩
    tm_at "rv"
    intro D nD
    refine lc_range (lo := 0) (n := n.toNat) (fun i H' => H' D = some (.lst ((nbS z i).map V.str)) ∧ Sm H H') ⟨upd_same, sm_upd nD⟩ ?_ ?_
    · rintro i Hi hi ⟨hD, si⟩
      tm_at "rv"
      refine r_fS (len_le (by omega)) ?_
      refine ⟨_, rfl, ?_⟩
      refine r_jsB (acc := Str.empty) (a := 0) (b := 1) (by decide) hz (by decide) fun q1 => ?_
      tm_at "rv"
      refine .inr ⟨0 + (i : Int), rfl, small_log (by omega) (by omega), ?_⟩
      refine ⟨_, rfl, ?_⟩
      refine r_jsB (a := 1) (b := 2) q1 (small_text (by omega) (by omega)) (by decide) fun q2 => ?_
      tm_at "rv"
      rw [empty_add]
      refine r_acc hD (len_lt (by rw [List.length_map, nbS_len]; omega)) ⟨?_, sm_acc si nD⟩
      rw [upd_same, nbS_succ, List.map_append, Int.zero_add]
      rfl
    · rintro Hi ⟨hD, si⟩
      tm_at "rv"
      exact k D Hi si nD hD
/-- does a row part the ways -/
def sp_p_is_parting (K : PySem.W.Frag) (C : Addr) : Sp := fun vs H Q _ => ∃ (p : Addr) (i : Nat) (boxes : Int) (ts : List Addr) (rs : List PRow) (r : PRow), vs = [.ref p, .int (i : Nat)] ∧ ProgAt K C H p boxes ts rs ∧ rs[i]? = some r ∧ ∀ H', Sm H H' → Q (.bl (r.parts i).isSome) H'
theorem use_parting {C : Addr} {H : Hp} {Q : VK} {E : XK} {p : Addr} {i : Nat} {boxes : Int} {ts : List Addr} {rs : List PRow} {r : PRow} (h : ProgAt K C H p boxes ts rs) (e : rs[i]? = some r) (k : ∀ H', Sm H H' → Q (.bl (r.parts i).isSome) H') : sp_p_is_parting K C [.ref p, .int (i : Nat)] H Q E := ⟨p, i, boxes, ts, rs, r, rfl, h, e, k⟩
theorem ok_p_is_parting (T : Txt K mg w) : FnOk P w K mg base CX0 2 T.f_p_is_parting T.d_p_is_parting ["program", "k"] (sp_p_is_parting K T.C_Program) := by
  refine T.F_p_is_parting.ok sc_p_is_parting (fun vs H Q E h => ?_) (fun cdv A outer s H vs Q E hr h => ?_)
  · obtain ⟨p, i, boxes, ts, rs, r, rfl, _⟩ := h
    rfl
  · obtain ⟨p, i, boxes, ts, rs, r, rfl, hP, er, k⟩ := h
    refine ⟨_, (pss_one (ps_ret (andT_k (K := K) rfl (pe_cmpR (eq_k (K := K) rfl hr.units) (pe_ix (ix_k (K := K) rfl) (pe_ix (ix_k (K := K) rfl) (fld_k (K := K) rfl (pv 0) rfl) (pv 1) (fun _ _ => rfl)) pe_int (fun _ _ => rfl)) pe_str (nomark _)) (pe_one (pe_cmpR (ne_k (K := K) rfl hr.units) (pe_call (ok_p_goal_of T) hr (by rfl) T.g_p_goal_of T.F_p_goal_of.kp T.b_p_goal_of .nil pass0 (pa_cons (pv 0) (pa_cons (pv 1) pa_nil))) (pe_op (add_k (K := K) rfl) (pv 1) pe_int) (nomark _)))))), ?_⟩
    have hi := (List.getElem?_eq_some_iff.mp er).1
    obtain ⟨dx, tt, e1, e2, hp⟩ := id hP
    obtain ⟨t, r', hat, et, hr', hm⟩ := atI_rowG hp (k := ((i : Nat) : Int)) (by omega) (by omega)
    rw [Int.toNat_natCast, er] at hr'
    cases (Option.some.inj hr')
    rw [PRow.vs_is] at et
    tm_at "rv"
    refine r_fldO e1 T.cl_Program T.n_Program_rows (get_rows _ _) ?_
    tm_at "rv"
    refine r_ixT (SqT.of e2) hat ?_
    tm_at "rv"
    refine ite_d (fun e => ?_) (fun e => ?_)
    · obtain ⟨j, g, rfl⟩ : ∃ j g, r = .iff j g := by
        cases r with
        | iff j g => exact ⟨j, g, rfl⟩
        | raise j => exact absurd (show Str.ofString "raise" = Str.ofString "if" from e) (by decide +kernel)
        | lower j => exact absurd (show Str.ofString "lower" = Str.ofString "if" from e) (by decide +kernel)
        | go g => exact absurd (show Str.ofString "go" = Str.ofString "if" from e) (by decide +kernel)
        | stop => exact absurd (show Str.ofString "stop" = Str.ofString "if" from e) (by decide +kernel)
      tm_at "rv"
      refine use_goal hP (by omega) (by rw [Int.toNat_natCast]; exact er) fun H1 s1 => ?_
      simp only [PRow.goalV]
      tm_at "rv"
      have k := k _ s1
      have hpt : ((PRow.iff j g).parts i).isSome = !decide (g = (i : Int) + 1) := by
        show (if g = (i : Int) + 1 then none else some j).isSome = _
        by_cases h : g = (i : Int) + 1
        · rw [if_pos h, decide_eq_true h]
          rfl
        · rw [if_neg h, decide_eq_false h]
          rfl
      rw [hpt] at k
      exact k
    · rw [decide_eq_false e]
      have k := k _ (Sm.refl _)
      have hpt : (r.parts i).isSome = false := by
        cases r with
        | iff j g => exact absurd rfl e
        | raise j => rfl
        | lower j => rfl
        | go g => rfl
        | stop => rfl
      rw [hpt] at k
      exact k
/-- the boxes that are asked, rising -/
def AskL (rs : List PRow) (ns : List Int) : Prop := ns.Pairwise (· < ·) ∧ ∀ j, j ∈ ns ↔ j ∈ partsL 0 rs
theorem AskL.one {rs : List PRow} {a b : List Int} (h : AskL rs a) (g : AskL rs b) : a = b := rising_one h.1 g.1 fun j => (h.2 j).trans (g.2 j).symm
def sp_p_asked_boxes (K : PySem.W.Frag) (C : Addr) : Sp := fun vs H Q _ => ∃ (p : Addr) (boxes : Int) (ts : List Addr) (rs : List PRow), vs = [.ref p] ∧ ProgAt K C H p boxes ts rs ∧ ProgOk boxes rs ∧ ∀ l H' ns, Sm H H' → H l = none → H' l = some (.lst (ns.map V.int)) → AskL rs ns → Q (.ref l) H'
theorem use_asked {C : Addr} {H : Hp} {Q : VK} {E : XK} {p : Addr} {boxes : Int} {ts : List Addr} {rs : List PRow} (h : ProgAt K C H p boxes ts rs) (g : ProgOk boxes rs) (k : ∀ l H' ns, Sm H H' → H l = none → H' l = some (.lst (ns.map V.int)) → AskL rs ns → Q (.ref l) H') : sp_p_asked_boxes K C [.ref p] H Q E := ⟨p, boxes, ts, rs, rfl, h, g, k⟩
theorem ok_p_asked_boxes (T : Txt K mg w) : FnOk P w K mg base CX0 3 T.f_p_asked_boxes T.d_p_asked_boxes ["program"] (sp_p_asked_boxes K T.C_Program) := by
  refine T.F_p_asked_boxes.ok sc_p_asked_boxes (fun vs H Q E h => ?_) (fun cdv A outer s H vs Q E hr h => ?_)
  · obtain ⟨p, boxes, ts, rs, rfl, _⟩ := h
    rfl
  · obtain ⟨p, boxes, ts, rs, rfl, hP, good, k⟩ := h
    refine ⟨_, (pss_one (ps_ret (pe_callB (cr_sortedSet rfl) (by rfl) T.z_sorted (by decide +kernel) (pa_cons (pe_scI (own := [("k", 1), ("row", 2)]) rfl sc_p_asked_boxes.nd (enum_k (K := K) rfl (by rfl) T.z_enumerate (pa_cons (fld_k (K := K) rfl (pv 0) rfl) pa_nil)) (blkOk_by (N := ["program", "k", "row"]) (sc := defScope s_p_asked_boxes) (own := [("k", 1), ("row", 2)]) (by decide +kernel)) (fun _ _ _ _ _ => (pgT_k (n := 2) (K := K) rfl rfl (pgs_cons (pg_name (i := 1) sc_p_asked_boxes.nd rfl (Or.inl rfl)) (pgs_cons (pg_name (i := 2) sc_p_asked_boxes.nd rfl (Or.inl rfl)) pgs_nil)))) (fun _ _ _ _ _ => (pts_one (truth_k (K := K) rfl (pe_call (ok_p_is_parting T) hr (by rfl) T.g_p_is_parting T.F_p_is_parting.kp T.b_p_is_parting .nil pass0 (pa_cons (pv 0) (pa_cons (pv 1) pa_nil))) (by intro _; rfl)))) (fun _ _ _ _ _ => (pe_ix (ix_k (K := K) rfl) (pv 2) pe_int (fun _ _ => rfl)))) pa_nil)))), ?_⟩
    have hr14 := good.r14
    obtain ⟨dx, tt, e1, e2, hp⟩ := id hP
    have hl : (ts.map V.ref).length = rs.length := by rw [List.length_map]; exact hp.len
    tm_at "rv"
    refine r_scI ?_
    refine r_enumT ?_
    tm_at "rv"
    refine r_fldO e1 T.cl_Program T.n_Program_rows (get_rows _ _) ?_
    tm_at "rv"
    refine ⟨tt, _, rfl, SqT.of e2, ?_⟩
    intro D nD
    refine sc_it (w := w) (tt := fun σ H Q => tCall (sp_p_is_parting K T.C_Program) [] E0 (tCons (tVar 0) (tCons (tVar 1) tNil)) σ H fun x H' => ∃ k, TruV K x H' k ∧ Q k H') (walk_enumT (K := K)) (fun i H' => ∃ S n, H' D = some (SetO w D S n) ∧ (∀ j, S j = true ↔ j ∈ partsL 0 (rs.take i)) ∧ n ≤ i ∧ Sm H H') ⟨_, 0, upd_same, fun j => by simp [partsL], Nat.le_refl 0, sm_upd nD⟩ (fun i H' _ h => by
      obtain ⟨_, _, _, _, _, s⟩ := h
      exact s.seqT (SqT.of e2)) ?_ ?_
    · rintro i x H1 H2 hi ⟨S, n, hD, hS, hn, s1⟩ ⟨tn, u, v, rfl, nt, rfl, hu, hv⟩
      have hu : u = .int (i : Nat) := (Option.some.inj hu).symm
      subst hu
      have hv : (ts.map V.ref)[i]? = some v := hv
      obtain ⟨t, r, rfl, et, er, hm⟩ := PRows.get hp hv
      have st := sm_upd (o := .tup [V.int (i : Nat), V.ref t]) nt
      have ett := upd_same (H := H1) (a := tn) (o := .tup [V.int (i : Nat), V.ref t])
      generalize upd H1 tn (.tup [V.int (i : Nat), V.ref t]) = H3 at st ett ⊢
      have s3 := s1.trans st
      have et3 := s3.to _ _ et
      have hD3 := st.to _ _ hD
      tm_at "rv"
      refine use_parting (hP.sm s3) er fun H4 s4 => ?_
      tm_at "rv"
      have hD4 := s4.to _ _ hD3
      have et4 := s4.to _ _ et3
      have s14 := s3.trans s4
      have ht := partsL_take er
      cases hpart : r.parts i with
      | none =>
        rw [hpart] at ht
        refine scEnd_n rfl ⟨S, n, hD4, fun j => ?_, by omega, s14⟩
        rw [ht]
        simpa using hS j
      | some j =>
        obtain ⟨g, rfl⟩ : ∃ g, r = .iff j g := by
          cases r with
          | iff j' g =>
            have h : (if g = (i : Int) + 1 then none else some j') = some j := hpart
            by_cases e : g = (i : Int) + 1
            · rw [if_pos e] at h
              cases h
            · rw [if_neg e] at h
              exact ⟨g, by rw [Option.some.inj h]⟩
          | raise j' => cases hpart
          | lower j' => cases hpart
          | go g => cases hpart
          | stop => cases hpart
        rw [hpart] at ht
        have et4 : H4 t = some (.tup [V.str (Str.ofString "if"), V.int j, V.int g]) := et4
        refine scEnd_y rfl ?_
        tm_at "rv"
        refine ⟨j, S, n, rfl, hD4, by unfold scanBound; omega, ?_⟩
        refine ⟨_, _, upd_same, fun k => ?_, ?_, sm_acc s14 nD⟩
        · rw [ht, List.mem_append]
          show (S k || decide (k = j)) = true ↔ _
          rw [Bool.or_eq_true, hS k, decide_eq_true_iff]
          simp
        · show (if S j = true then n else n + 1) ≤ i + 1
          split <;> omega
    · rintro H1 ⟨S, n, hD, hS, hn, s1⟩
      rw [hl, List.take_length] at hS
      tm_at "rv"
      refine r_sortedI hD (by rw [hl] at hn; omega) fun ns l hpw hmem nl => ?_
      tm_at "rv"
      exact k l _ ns (s1.trans (sm_upd nl)) (s1.free nl) upd_same ⟨hpw, fun j => (hmem j).trans (hS j)⟩
/-- all names -/
theorem partsL_in {boxes many : Int} : ∀ {rs : List PRow} {k : Nat}, (∀ r ∈ rs, r.ok boxes many) → ∀ j ∈ partsL k rs, 0 ≤ j ∧ j < boxes
  | [], _, _, j, h => by cases h
  | r :: rs, k, hok, j, h => by
    have h : j ∈ (r.parts k).toList ++ partsL (k + 1) rs := h
    rcases List.mem_append.mp h with h | h
    · have ho := hok r (by simp)
      cases r with
      | iff j' g =>
        have h : j ∈ (if g = (k : Int) + 1 then none else some j' : Option Int).toList := h
        by_cases e : g = (k : Int) + 1
        · rw [if_pos e] at h
          cases h
        · rw [if_neg e] at h
          rw [List.mem_singleton.mp h]
          exact ho.1
      | raise j' => cases h
      | lower j' => cases h
      | go g => cases h
      | stop => cases h
    · exact partsL_in (fun r hr => hok r (by simp [hr])) j h
theorem rising_len : ∀ {ns : List Int} {b : Int}, ns.Pairwise (· < ·) → (∀ j ∈ ns, 0 ≤ j ∧ j < b) → (ns.length : Int) ≤ b ∨ ns = [] := by
  intro ns b hp hb
  have gen : ∀ (ns : List Int) (a : Int), ns.Pairwise (· < ·) → (∀ j ∈ ns, a ≤ j ∧ j < b) → a ≤ b → a + (ns.length : Int) ≤ b := by
    intro ns
    induction ns with
    | nil => intro a _ _ h; show a + ((0 : Nat) : Int) ≤ b; omega
    | cons x ns ih =>
      intro a h1 h2 h3
      obtain ⟨g1, g2⟩ := List.pairwise_cons.mp h1
      have gx := h2 x (by simp)
      have := ih (x + 1) g2 (fun j hj => by
        have a1 := g1 j hj
        have a2 := h2 j (by simp [hj])
        omega) (by omega)
      rw [List.length_cons]
      omega
  cases ns with
  | nil => exact .inr rfl
  | cons x r =>
    have h0 := hb x (by simp)
    have := gen (x :: r) 0 hp hb (by omega)
    exact .inl (by omega)
theorem AskL.few {boxes : Int} {rs : List PRow} {ns : List Int} (g : ProgOk boxes rs) (h : AskL rs ns) : ns.length ≤ 5 ∧ ∀ j ∈ ns, 0 ≤ j ∧ j < boxes := by
  have hb := g.b5
  have h1 : ∀ j ∈ ns, 0 ≤ j ∧ j < boxes := fun j hj => partsL_in g.all j ((h.2 j).mp hj)
  rcases rising_len h.1 h1 with e | e
  · exact ⟨by omega, h1⟩
  · rw [e]
    exact ⟨Nat.zero_le _, fun j hj => by cases hj⟩
def sp_p_names_of (K : PySem.W.Frag) (C : Addr) : Sp := fun vs H Q _ => ∃ (p : Addr) (boxes : Int) (ts : List Addr) (rs : List PRow), vs = [.ref p] ∧ ProgAt K C H p boxes ts rs ∧ ProgOk boxes rs ∧ ∀ l H' ns, Sm H H' → H l = none → H' l = some (.lst ((namesL boxes.toNat rs.length ns).map V.str)) → AskL rs ns → Q (.ref l) H'
theorem use_names {C : Addr} {H : Hp} {Q : VK} {E : XK} {p : Addr} {boxes : Int} {ts : List Addr} {rs : List PRow} (h : ProgAt K C H p boxes ts rs) (g : ProgOk boxes rs) (k : ∀ l H' ns, Sm H H' → H l = none → H' l = some (.lst ((namesL boxes.toNat rs.length ns).map V.str)) → AskL rs ns → Q (.ref l) H') : sp_p_names_of K C [.ref p] H Q E := ⟨p, boxes, ts, rs, rfl, h, g, k⟩
theorem ok_p_names_of (T : Txt K mg w) : FnOk P w K mg base CX0 4 T.f_p_names_of T.d_p_names_of ["program"] (sp_p_names_of K T.C_Program) := by
  refine T.F_p_names_of.ok sc_p_names_of (fun vs H Q E h => ?_) (fun cdv A outer s H vs Q E hr h => ?_)
  · obtain ⟨p, boxes, ts, rs, rfl, _⟩ := h
    rfl
  · obtain ⟨p, boxes, ts, rs, rfl, hP, good, k⟩ := h
    refine ⟨_, (pss_cons (ps_set (i := 1) sc_p_names_of.nd rfl (Or.inl rfl) (fld_k (K := K) rfl (pv 0) rfl))
      (pss_one (ps_ret (pe_op (add_k (K := K) rfl) (pe_op (add_k (K := K) rfl) (pe_op (add_k (K := K) rfl) (pe_op (add_k (K := K) rfl) (pe_op (add_k (K := K) rfl) (pe_call (ok_p_numbered T) (hr.mono (by decide)) (by rfl) T.g_p_numbered T.F_p_numbered.kp T.b_p_numbered .nil pass0 (pa_cons pe_str (pa_cons (pv 1) pa_nil))) (pe_call (ok_p_numbered T) (hr.mono (by decide)) (by rfl) T.g_p_numbered T.F_p_numbered.kp T.b_p_numbered .nil pass0 (pa_cons pe_str (pa_cons (pv 1) pa_nil)))) (pe_callTy (list_k (K := K) rfl) (by rfl) T.z_list (by decide +kernel) (pa_cons (pe_glob (v := .ref T.t_LONE_NAMES) (by rfl) T.g_LONE_NAMES rfl) pa_nil))) (pe_call (ok_p_numbered T) (hr.mono (by decide)) (by rfl) T.g_p_numbered T.F_p_numbered.kp T.b_p_numbered .nil pass0 (pa_cons pe_str (pa_cons (pv 1) pa_nil)))) (pe_call (ok_p_numbered T) (hr.mono (by decide)) (by rfl) T.g_p_numbered T.F_p_numbered.kp T.b_p_numbered .nil pass0 (pa_cons pe_str (pa_cons (pe_callB (len_k (K := K) rfl) (by rfl) T.z_len (by decide +kernel) (pa_cons (fld_k (K := K) rfl (pv 0) rfl) pa_nil)) pa_nil)))) (pe_lc (own := [("j", 2)]) rfl sc_p_names_of.nd (any_pi (K := K) rfl (pe_call (ok_p_asked_boxes T) hr (by rfl) T.g_p_asked_boxes T.F_p_asked_boxes.kp T.b_p_asked_boxes .nil pass0 (pa_cons (pv 0) pa_nil))) (blkOk_by (N := ["program", "boxes", "j"]) (sc := defScope s_p_names_of) (own := [("j", 2)]) (by decide +kernel)) (fun _ _ _ _ _ => (pg_name (i := 2) sc_p_names_of.nd rfl (Or.inl rfl))) (fun _ _ _ _ _ => pts_nil) (fun _ _ _ _ _ => (pe_joinedN (.cons pe_str (.cons (pe_fmt (pv 2)) .nil))))))))), ?_⟩
    have hr14 := good.r14
    have hb1 := good.b1
    have hb5 := good.b5
    obtain ⟨dx, tt, e1, e2, hp⟩ := id hP
    have hl : (ts.map V.ref).length = rs.length := by rw [List.length_map]; exact hp.len
    have nl : ∀ (z : Str) (n : Nat), ((nbS z n).map V.str).length = n := fun z n => by rw [List.length_map, nbS_len]
    have one : ∀ z : Str, z = Str.ofString "x" ∨ z = Str.ofString "y" ∨ z = Str.ofString "r" ∨ z = Str.ofString "l" ∨ z = Str.ofString "e" → z.length ≤ 1 := by
      rintro z (rfl | rfl | rfl | rfl | rfl) <;> decide +kernel
    tm_at "rv"
    refine r_fldO e1 T.cl_Program T.n_Program_boxes (get_boxes _ _) ?_
    tm_at "rv"
    refine use_numbered (one _ (by simp)) (by omega) (by omega) fun l1 H1 s1 n1 f1 => ?_
    tm_at "rv"
    refine use_numbered (one _ (by simp)) (by omega) (by omega) fun l2 H2 s2 n2 f2 => ?_
    tm_at "rv"
    refine r_addL (s2.to _ _ f1) f2 (len_le (by rw [nl, nl]; omega)) fun l3 H3 s3 n3 f3 => ?_
    tm_at "rv"
    refine r_listT (T.ts_LONE_NAMES _) fun l4 n4 => ?_
    refine r_addL ((sm_upd n4).to _ _ f3) upd_same (len_le (by rw [List.length_append, nl, nl]; simp only [List.length_cons, List.length_nil]; omega)) fun l5 H5 s5 n5 f5 => ?_
    have s05 : Sm H H5 := (((s1.trans s2).trans s3).trans (sm_upd n4)).trans s5
    tm_at "rv"
    refine use_numbered (one _ (by simp)) (by omega) (by omega) fun l6 H6 s6 n6 f6 => ?_
    tm_at "rv"
    refine r_addL (s6.to _ _ f5) f6 (len_le (by rw [List.length_append, List.length_append, nl, nl, nl]; simp only [List.length_cons, List.length_nil]; omega)) fun l7 H7 s7 n7 f7 => ?_
    have s07 := (s05.trans s6).trans s7
    tm_at "rv"
    refine r_fldO (s07.to _ _ e1) T.cl_Program T.n_Program_rows (get_rows _ _) ?_
    tm_at "rv"
    rw [hl]
    refine use_numbered (one _ (by simp)) (by omega) (by omega) fun l8 H8 s8 n8 f8 => ?_
    rw [Int.toNat_natCast] at f8
    tm_at "rv"
    refine r_addL (s8.to _ _ f7) f8 (len_le (by rw [List.length_append, List.length_append, List.length_append, nl, nl, nl, nl]; simp only [List.length_cons, List.length_nil]; omega)) fun l9 H9 s9 n9 f9 => ?_
    have s09 := (s07.trans s8).trans s9
    tm_at "rv"
    refine r_iL ?_
    tm_at "rv"
    refine use_asked (hP.sm s09) good fun l10 H10 ns s10 n10 f10 hA => ?_
    obtain ⟨hn5, hnb⟩ := hA.few good
    refine r_aL (SqL.of f10) ?_
    intro D nD
    refine lc_list (K := K) (a := l10) (xs := ns.map V.int) (fun i H' => H' D = some (.lst (((ns.take i).map fun j => Str.ofString "e" ++ (toString j : Str)).map V.str)) ∧ Sm H10 H') ⟨upd_same, sm_upd nD⟩ (fun i H' _ h => h.2.seq (SqL.of f10)) ?_ ?_
    · rintro i x Hi hx ⟨hD, si⟩
      rw [List.getElem?_map] at hx
      cases e : ns[i]? with
      | none => rw [e] at hx; cases hx
      | some y =>
        rw [e] at hx
        obtain rfl : V.int y = x := Option.some.inj hx
        have hy := hnb y (List.mem_of_getElem? e)
        have hi := (List.getElem?_eq_some_iff.mp e).1
        tm_at "rv"
        refine r_jsB (acc := Str.empty) (a := 0) (b := 1) (by decide) (one _ (by simp)) (by decide) fun q1 => ?_
        tm_at "rv"
        refine .inr ⟨y, rfl, small_log (by omega) (by omega), ?_⟩
        refine ⟨_, rfl, ?_⟩
        refine r_jsB (a := 1) (b := 2) q1 (small_text (by omega) (by omega)) (by decide) fun q2 => ?_
        tm_at "rv"
        rw [empty_add]
        refine r_acc hD (len_lt (by rw [List.length_map, List.length_map, List.length_take]; omega)) ⟨?_, sm_acc si nD⟩
        rw [upd_same, List.take_add_one, e, List.map_append, List.map_append]
        rfl
    · rintro Hi ⟨hD, si⟩
      rw [List.length_map, List.take_length] at hD
      tm_at "rv"
      have s010 := (s09.trans s10).trans si
      refine r_addL (si.to _ _ (s10.to _ _ f9)) hD (len_le (by rw [List.length_append, List.length_append, List.length_append, List.length_append, nl, nl, nl, nl, List.length_map, List.length_map]; simp only [List.length_cons, List.length_nil]; omega)) fun l11 H11 s11 n11 f11 => ?_
      tm_at "rv"
      refine k l11 H11 ns (s010.trans s11) (s010.free n11) ?_ hA
      rw [f11]
      unfold namesL
      simp only [List.map_append]
      rfl

/-! the law's own text -/
def PRow.asks (r : PRow) (j : Int) : Bool := decide (r.word = Str.ofString "if") && decide (r.nums.take 1 = [j])
theorem cut_two (r : PRow) : cutV (V.str r.word :: r.nums.map V.int) none (some 2) = V.str r.word :: (r.nums.take 1).map V.int := by cases r <;> rfl
theorem eqv_asks (r : PRow) (j : Int) : PyData.eqv (.tuple (.str r.word :: (r.nums.take 1).map PyData.int)) (.tuple [.str (Str.ofString "if"), .int j]) = r.asks j := by
  show PyData.eqvAll (.str r.word :: (r.nums.take 1).map PyData.int) [.str (Str.ofString "if"), .int j] = _
  show ((r.word == Str.ofString "if") && PyData.eqvAll ((r.nums.take 1).map PyData.int) ([j].map PyData.int)) = (decide (r.word = Str.ofString "if") && decide (r.nums.take 1 = [j]))
  rw [eqv_lists]
  rfl
theorem pre_shaped (r : PRow) (ns : List Int) : SeqAt.shaped (.tuple (.str r.word :: ns.map PyData.int)) = true := by
  have h := row_lay r
  have h : (PyData.strOk r.word && PyData.canLayAll0 (r.nums.map PyData.int)) = true := h
  rw [Bool.and_eq_true] at h
  have d := deep_ints ns
  have l := lay_ints ns
  have e : PyData.depth (.tuple (.str r.word :: ns.map PyData.int)) ≤ 64 := by
    show max 0 (PyData.depthAll (ns.map PyData.int)) + 1 ≤ 64
    omega
  show ((PyData.strOk r.word && PyData.canLayAll0 (ns.map PyData.int)) && decide (PyData.depth (.tuple (.str r.word :: ns.map PyData.int)) ≤ 64)) = true
  rw [h.1, l, decide_eq_true e]
  rfl
theorem if_shaped (j : Int) : SeqAt.shaped (.tuple [.str (Str.ofString "if"), .int j]) = true := by
  have h : PyData.strOk (Str.ofString "if") = true := by decide +kernel
  simp [SeqAt.shaped, PyData.canLay0, PyData.canLayAll0, PyData.depth, PyData.depthAll, h]
theorem lst_shaped (ns : List Int) : SeqAt.shaped (.list (ns.map PyData.int)) = true := by
  have d := deep_ints ns
  have l := lay_ints ns
  have e : PyData.depth (.list (ns.map PyData.int)) ≤ 64 := by
    show PyData.depthAll (ns.map PyData.int) + 1 ≤ 64
    omega
  show (PyData.canLayAll0 (ns.map PyData.int) && decide (PyData.depth (.list (ns.map PyData.int)) ≤ 64)) = true
  rw [l, decide_eq_true e]
  rfl
theorem eqv_nil (ks : List Int) : PyData.eqv (.list (ks.map PyData.int)) (.list []) = decide (ks = []) := by
  show PyData.eqvAll (ks.map PyData.int) (([] : List Int).map PyData.int) = _
  rw [eqv_lists]
theorem asks_iff {r : PRow} {j : Int} (h : r.asks j = true) : ∃ g, r = .iff j g := by
  unfold PRow.asks at h
  rw [Bool.and_eq_true, decide_eq_true_iff, decide_eq_true_iff] at h
  obtain ⟨h1, h2⟩ := h
  cases r with
  | iff j' g =>
    have h2 : [j'] = [j] := h2
    exact ⟨g, by rw [(List.cons.inj h2).1]⟩
  | raise j => exact absurd h1 (by show ¬ Str.ofString "raise" = _; decide +kernel)
  | lower j => exact absurd h1 (by show ¬ Str.ofString "lower" = _; decide +kernel)
  | go g => exact absurd h1 (by show ¬ Str.ofString "go" = _; decide +kernel)
  | stop => exact absurd h1 (by show ¬ Str.ofString "stop" = _; decide +kernel)
theorem asks_not {r : PRow} {j : Int} {k : Nat} (h : r.asks j = false) : j ∉ (r.parts k).toList := by
  intro hm
  cases r with
  | iff j' g =>
    have hm : j ∈ (if g = (k : Int) + 1 then none else some j' : Option Int).toList := hm
    by_cases e : g = (k : Int) + 1
    · rw [if_pos e] at hm
      cases hm
    · rw [if_neg e] at hm
      have hj : j = j' := List.mem_singleton.mp hm
      subst hj
      have q : (PRow.iff j g).asks j = true := by
        show (decide (Str.ofString "if" = Str.ofString "if") && decide ([j] = [j])) = true
        rw [decide_eq_true rfl, decide_eq_true rfl]
        rfl
      rw [q] at h
      cases h
  | raise j => cases hm
  | lower j => cases hm
  | go g => cases hm
  | stop => cases hm
def sp_asked : Sp := fun vs H Q _ => ∃ (boxes : Int) (l : Addr) (ts : List Addr) (rs : List PRow), vs = [.int boxes, .ref l] ∧ H l = some (.lst (ts.map V.ref)) ∧ PRows H ts rs ∧ ProgOk boxes rs ∧ ∀ F H' ns, Sm H H' → H F = none → H' F = some (.lst (ns.map V.int)) → AskL rs ns → Q (.ref F) H'
theorem use_lasked {H : Hp} {Q : VK} {E : XK} {boxes : Int} {l : Addr} {ts : List Addr} {rs : List PRow} (h : H l = some (.lst (ts.map V.ref))) (hp : PRows H ts rs) (g : ProgOk boxes rs) (k : ∀ F H' ns, Sm H H' → H F = none → H' F = some (.lst (ns.map V.int)) → AskL rs ns → Q (.ref F) H') : sp_asked [.int boxes, .ref l] H Q E := ⟨boxes, l, ts, rs, rfl, h, hp, g, k⟩
theorem ok_asked (T : Txt K mg w) : FnOk P w K mg base CX0 1 T.f_asked T.d_asked ["boxes", "rows"] sp_asked := by
  refine T.F_asked.ok sc_asked (fun vs H Q E h => ?_) (fun cdv A outer s H vs Q E hr h => ?_)
  · obtain ⟨boxes, l, ts, rs, rfl, _⟩ := h
    rfl
  · obtain ⟨boxes, l, ts, rs, rfl, el, hp, good, k⟩ := h
    refine ⟨_, (pss_cons (ps_set (i := 2) sc_asked.nd rfl (Or.inl rfl) (pe_lst pa_nil))
      (pss_cons (ps_for PassesOwn.never rfl (pi_range1 (by rfl) T.z_range (pa_cons (pv 0) pa_nil)) (pg_name (i := 3) sc_asked.nd rfl (Or.inr rfl))
      (pss_one (ps_if (pt_cmpR (ne_k (K := K) rfl hr.units) (pe_lc (own := [("k", 4), ("row", 5)]) rfl sc_asked.nd (enum_k (K := K) rfl (by rfl) T.z_enumerate (pa_cons (pv 1) pa_nil)) (blkOk_by (N := ["boxes", "rows", "found", "j", "k", "row"]) (sc := defScope s_asked) (own := [("k", 4), ("row", 5)]) (by decide +kernel)) (fun _ _ _ _ _ => (pgT_k (n := 2) (K := K) rfl rfl (pgs_cons (pg_name (i := 4) sc_asked.nd rfl (Or.inl rfl)) (pgs_cons (pg_name (i := 5) sc_asked.nd rfl (Or.inl rfl)) pgs_nil)))) (fun _ _ _ _ _ => (pts_one (PW.pt (pw_and (pt_cmpR (eq_k (K := K) rfl hr.units) (pe_slice (sl_k (K := K) rfl) (pv 5) po_none (po_some pe_int)) (pe_tup (pa_cons pe_str (pa_cons (pv 3) pa_nil))) (nomark _)) (pw_and1 (pt_cmpR (ne_k (K := K) rfl hr.units) (pe_ix (ix_k (K := K) rfl) (pv 5) pe_int (fun _ _ => rfl)) (pe_op (add_k (K := K) rfl) (pv 4) pe_int) (nomark _))))))) (fun _ _ _ _ _ => (pv 4))) (pe_lst pa_nil) (nomark _))
      (pss_one (ps_expr (pe_bm PySem.F.plainAttrs_list PySem.F.slot_list_append PySem.F.type_list_append mt_append (pv 2) (pa_cons (pv 3) pa_nil)))) pss_nil)))
      (pss_one (ps_ret (pv 2))))), ?_⟩
    have hr14 := good.r14
    have hb1 := good.b1
    have hb5 := good.b5
    have hlt : (ts.map V.ref).length = rs.length := by rw [List.length_map, hp.len]
    tm_at "rv"
    rename_i F nF
    refine for_range (lo := 0) (n := boxes.toNat) (fun j σ H' => (∃ x3 x4 x5, σ = [some (.int boxes), some (.ref l), some (.ref F), x3, x4, x5]) ∧ ∃ fs : List Int, H' F = some (.lst (fs.map V.int)) ∧ fs.Pairwise (· < ·) ∧ (∀ x, x ∈ fs ↔ x ∈ partsL 0 rs ∧ x < (j : Int)) ∧ fs.length ≤ j ∧ Sm H H') ⟨⟨_, _, _, rfl⟩, [], upd_same, .nil, fun x => ⟨fun h => (by cases h), fun h => ?_⟩, Nat.le_refl 0, sm_upd nF⟩ ?_ ?_
    · have := partsL_in good.all x h.1
      omega
    · rintro j σ H1 hj ⟨⟨x3, x4, x5, rfl⟩, fs, hF, hpw, hm, hfl, s1⟩
      tm_at "rv"
      refine r_enumL ?_
      tm_at "rv"
      refine ⟨l, _, rfl, SqL.of (s1.to _ _ el), ?_⟩
      intro D nD
      refine lc_it (walk_enum (K := K)) (fun i H' => ∃ ks : List Int, H' D = some (.lst (ks.map V.int)) ∧ ks.length ≤ i ∧ (ks ≠ [] ↔ (0 + (j : Int)) ∈ partsL 0 (rs.take i)) ∧ Sm H1 H') ⟨[], upd_same, Nat.le_refl 0, by simp [partsL], sm_upd nD⟩ (fun i H' _ h => by
        obtain ⟨_, _, _, _, s⟩ := h
        exact (s1.trans s).seq (K := K) (SqL.of el)) ?_ ?_
      · rintro i x H2 H3 hi ⟨ks, hD, hkl, hks, s2⟩ ⟨tn, u, v, rfl, nt, rfl, hu, hv⟩
        have hu : u = .int (i : Nat) := (Option.some.inj hu).symm
        subst hu
        have hv : (ts.map V.ref)[i]? = some v := hv
        obtain ⟨t, r, rfl, et, er, _⟩ := PRows.get (hp.ts (Sm.ts (s1.trans s2))) hv
        have st := sm_upd (o := .tup [V.int (i : Nat), V.ref t]) nt
        have ett := upd_same (H := H2) (a := tn) (o := .tup [V.int (i : Nat), V.ref t])
        generalize upd H2 tn (.tup [V.int (i : Nat), V.ref t]) = H3 at st ett ⊢
        have s3 := s2.trans st
        have et3 := st.to _ _ et
        have hD3 := st.to _ _ hD
        have et3w := et3
        rw [PRow.vs_is] at et3w
        tm_at "rv"
        refine r_slT (SqT.of et3w) fun pc H4 s4 e4 => ?_
        rw [cut_two] at e4
        tm_at "rv"
        rename_i n5 nn5
        have s5 := sm_upd (o := .tup [V.str (Str.ofString "if"), V.int (0 + (j : Int))]) nn5
        have e5 := upd_same (H := H4) (a := n5) (o := .tup [V.str (Str.ofString "if"), V.int (0 + (j : Int))])
        generalize upd H4 n5 (.tup [V.str (Str.ofString "if"), V.int (0 + (j : Int))]) = H5 at s5 e5 ⊢
        refine r_eqD (.tup (s5.seqT e4) (.cons (.str _) (dps_ints _))) (.tup (SqT.of e5) (.cons (.str _) (.cons (.int _) .nil))) (pre_shaped r _) (if_shaped _) ?_
        rw [eqv_asks]
        have et5 := s5.to _ _ (s4.to _ _ et3)
        have hD5 := s5.to _ _ (s4.to _ _ hD3)
        have s15 := (s3.trans s4).trans s5
        have ht := partsL_take er
        tm_at "rv"
        cases ha : r.asks (0 + (j : Int)) with
        | false =>
          have hno := asks_not (k := i) ha
          refine ⟨ks, hD5, by omega, ?_, s15⟩
          rw [ht, List.mem_append]
          exact ⟨fun h => .inl (hks.mp h), fun h => h.elim hks.mpr fun h => absurd h hno⟩
        | true =>
          obtain ⟨g, rfl⟩ := asks_iff ha
          have et5 : H5 t = some (.tup [V.str (Str.ofString "if"), V.int (0 + (j : Int)), V.int g]) := et5
          tm_at "rv"
          have hpt : ((PRow.iff (0 + (j : Int)) g).parts i).toList = if g = (i : Int) + 1 then [] else [0 + (j : Int)] := by
            show (if g = (i : Int) + 1 then none else some (0 + (j : Int)) : Option Int).toList = _
            split <;> rfl
          by_cases hg : g = (i : Int) + 1
          · rw [decide_eq_true hg]
            rw [if_pos hg] at hpt
            rw [hpt, List.append_nil] at ht
            refine ⟨ks, hD5, by omega, ?_, s15⟩
            rw [ht]
            exact hks
          · rw [decide_eq_false hg]
            rw [if_neg hg] at hpt
            rw [hpt] at ht
            tm_at "rv"
            refine r_acc hD5 (len_lt (by rw [List.length_map]; omega)) ⟨ks ++ [(i : Int)], ?_, ?_, ?_, sm_acc s15 nD⟩
            · rw [upd_same, List.map_append]
              rfl
            · rw [List.length_append]
              exact Nat.succ_le_succ hkl
            · rw [ht]
              simp
      · rintro H2 ⟨ks, hD, hkl, hks, s2⟩
        rw [hlt, List.take_length] at hks
        tm_at "rv"
        rename_i pe npe
        have se := sm_upd (o := .lst []) npe
        have ee := upd_same (H := H2) (a := pe) (o := .lst [])
        generalize upd H2 pe (.lst []) = H3 at se ee ⊢
        have s13 := s2.trans se
        have hF3 := s13.to _ _ hF
        refine r_neD (.lst (SqL.of (se.to _ _ hD)) (dps_ints ks)) (.lst (SqL.of ee) .nil) (lst_shaped ks) (lst_shaped []) ?_
        rw [eqv_nil]
        tm_at "rv"
        by_cases hk : ks = []
        · rw [decide_eq_true hk]
          have hno : ¬ (0 + (j : Int)) ∈ partsL 0 rs := fun h => (hks.mpr h) hk
          refine ⟨⟨_, _, _, rfl⟩, fs, hF3, hpw, fun x => ?_, by omega, s1.trans s13⟩
          rw [hm]
          refine ⟨fun h => ⟨h.1, by omega⟩, fun h => ⟨h.1, ?_⟩⟩
          have hx : x ≠ 0 + (j : Int) := fun e => hno (e ▸ h.1)
          have := h.2
          omega
        · rw [decide_eq_false hk]
          have hyes := hks.mp hk
          tm_at "rv"
          refine r_app hF3 (len_lt (by rw [List.length_map]; omega)) ?_
          tm_at "rv"
          refine ⟨⟨_, _, _, rfl⟩, fs ++ [0 + (j : Int)], ?_, ?_, fun x => ?_, ?_, sm_acc (s1.trans s13) nF⟩
          · rw [upd_same, List.map_append]
            rfl
          · refine List.pairwise_append.mpr ⟨hpw, List.pairwise_singleton _ _, fun x hx y hy => ?_⟩
            rw [List.mem_singleton.mp hy]
            have := ((hm x).mp hx).2
            omega
          · rw [List.mem_append, hm, List.mem_singleton]
            refine ⟨fun h => ?_, fun h => ?_⟩
            · rcases h with h | rfl
              · exact ⟨h.1, by omega⟩
              · exact ⟨hyes, by omega⟩
            · have := h.2
              by_cases e : x = 0 + (j : Int)
              · exact .inr e
              · exact .inl ⟨h.1, by omega⟩
          · rw [List.length_append]
            exact Nat.succ_le_succ hfl
    · rintro σ H1 ⟨⟨x3, x4, x5, rfl⟩, fs, hF, hpw, hm, hfl, s1⟩
      tm_at "rv"
      refine k F H1 fs s1 nF hF ⟨hpw, fun x => (hm x).trans ⟨fun h => h.1, fun h => ⟨h, ?_⟩⟩⟩
      have := partsL_in good.all x h
      omega
def sp_names_of : Sp := fun vs H Q _ => ∃ (boxes : Int) (l : Addr) (ts : List Addr) (rs : List PRow), vs = [.int boxes, .ref l] ∧ H l = some (.lst (ts.map V.ref)) ∧ PRows H ts rs ∧ ProgOk boxes rs ∧ ∀ F H' ns, Sm H H' → H F = none → H' F = some (.lst ((namesL boxes.toNat rs.length ns).map V.str)) → AskL rs ns → Q (.ref F) H'
theorem use_lnames {H : Hp} {Q : VK} {E : XK} {boxes : Int} {l : Addr} {ts : List Addr} {rs : List PRow} (h : H l = some (.lst (ts.map V.ref))) (hp : PRows H ts rs) (g : ProgOk boxes rs) (k : ∀ F H' ns, Sm H H' → H F = none → H' F = some (.lst ((namesL boxes.toNat rs.length ns).map V.str)) → AskL rs ns → Q (.ref F) H') : sp_names_of [.int boxes, .ref l] H Q E := ⟨boxes, l, ts, rs, rfl, h, hp, g, k⟩
theorem ok_names_of (T : Txt K mg w) : FnOk P w K mg base CX0 2 T.f_names_of T.d_names_of ["boxes", "rows"] sp_names_of := by
  refine T.F_names_of.ok sc_names_of (fun vs H Q E h => ?_) (fun cdv A outer s H vs Q E hr h => ?_)
  · obtain ⟨boxes, l, ts, rs, rfl, _⟩ := h
    rfl
  · obtain ⟨boxes, l, ts, rs, rfl, el, hp, good, k⟩ := h
    refine ⟨_, (pss_cons (ps_set (i := 3) sc_names_of.nd rfl (Or.inl rfl) (pe_op (add_k (K := K) rfl) (pe_lc (own := [("j", 2)]) rfl sc_names_of.nd (pi_range1 (by rfl) T.z_range (pa_cons (pv 0) pa_nil)) (blkOk_by (N := ["boxes", "rows", "j", "found", "k"]) (sc := defScope s_names_of) (own := [("j", 2)]) (by decide +kernel)) (fun _ _ _ _ _ => (pg_name (i := 2) sc_names_of.nd rfl (Or.inl rfl))) (fun _ _ _ _ _ => pts_nil) (fun _ _ _ _ _ => (pe_op (add_k (K := K) rfl) pe_str (pe_callTy cl_str (by rfl) T.z_str (by decide +kernel) (pa_cons (pv 2) pa_nil))))) (pe_lc (own := [("j", 2)]) rfl sc_names_of.nd (pi_range1 (by rfl) T.z_range (pa_cons (pv 0) pa_nil)) (blkOk_by (N := ["boxes", "rows", "j", "found", "k"]) (sc := defScope s_names_of) (own := [("j", 2)]) (by decide +kernel)) (fun _ _ _ _ _ => (pg_name (i := 2) sc_names_of.nd rfl (Or.inl rfl))) (fun _ _ _ _ _ => pts_nil) (fun _ _ _ _ _ => (pe_op (add_k (K := K) rfl) pe_str (pe_callTy cl_str (by rfl) T.z_str (by decide +kernel) (pa_cons (pv 2) pa_nil)))))))
      (pss_cons (ps_set (i := 3) sc_names_of.nd rfl (Or.inl rfl) (pe_op (add_k (K := K) rfl) (pe_op (add_k (K := K) rfl) (pv 3) (pe_lst (pa_cons pe_str (pa_cons pe_str (pa_cons pe_str (pa_cons pe_str (pa_cons pe_str (pa_cons pe_str (pa_cons pe_str (pa_cons pe_str pa_nil)))))))))) (pe_lc (own := [("j", 2)]) rfl sc_names_of.nd (pi_range1 (by rfl) T.z_range (pa_cons (pv 0) pa_nil)) (blkOk_by (N := ["boxes", "rows", "j", "found", "k"]) (sc := defScope s_names_of) (own := [("j", 2)]) (by decide +kernel)) (fun _ _ _ _ _ => (pg_name (i := 2) sc_names_of.nd rfl (Or.inl rfl))) (fun _ _ _ _ _ => pts_nil) (fun _ _ _ _ _ => (pe_op (add_k (K := K) rfl) pe_str (pe_callTy cl_str (by rfl) T.z_str (by decide +kernel) (pa_cons (pv 2) pa_nil)))))))
      (pss_cons (ps_set (i := 3) sc_names_of.nd rfl (Or.inl rfl) (pe_op (add_k (K := K) rfl) (pv 3) (pe_lc (own := [("k", 4)]) rfl sc_names_of.nd (pi_range1 (by rfl) T.z_range (pa_cons (pe_callB (len_k (K := K) rfl) (by rfl) T.z_len (by decide +kernel) (pa_cons (pv 1) pa_nil)) pa_nil)) (blkOk_by (N := ["boxes", "rows", "j", "found", "k"]) (sc := defScope s_names_of) (own := [("k", 4)]) (by decide +kernel)) (fun _ _ _ _ _ => (pg_name (i := 4) sc_names_of.nd rfl (Or.inl rfl))) (fun _ _ _ _ _ => pts_nil) (fun _ _ _ _ _ => (pe_op (add_k (K := K) rfl) pe_str (pe_callTy cl_str (by rfl) T.z_str (by decide +kernel) (pa_cons (pv 4) pa_nil)))))))
      (pss_one (ps_ret (pe_op (add_k (K := K) rfl) (pv 3) (pe_lc (own := [("j", 2)]) rfl sc_names_of.nd (any_pi (K := K) rfl (pe_call (ok_asked T) hr (by rfl) T.g_asked T.F_asked.kp T.b_asked .nil pass0 (pa_cons (pv 0) (pa_cons (pv 1) pa_nil)))) (blkOk_by (N := ["boxes", "rows", "j", "found", "k"]) (sc := defScope s_names_of) (own := [("j", 2)]) (by decide +kernel)) (fun _ _ _ _ _ => (pg_name (i := 2) sc_names_of.nd rfl (Or.inl rfl))) (fun _ _ _ _ _ => pts_nil) (fun _ _ _ _ _ => (pe_op (add_k (K := K) rfl) pe_str (pe_callTy cl_str (by rfl) T.z_str (by decide +kernel) (pa_cons (pv 2) pa_nil))))))))))), ?_⟩
    have hr14 := good.r14
    have hb1 := good.b1
    have hb5 := good.b5
    have hlt : (ts.map V.ref).length = rs.length := by rw [List.length_map, hp.len]
    have nl : ∀ (z : Str) (n : Nat), ((nbS z n).map V.str).length = n := fun z n => by rw [List.length_map, nbS_len]
    tm_at "rv"
    intro D1 nD1
    refine lc_range (lo := 0) (n := boxes.toNat) (fun i H' => H' D1 = some (.lst ((nbS (Str.ofString "x") i).map V.str)) ∧ Sm H H') ⟨upd_same, sm_upd nD1⟩ ?_ ?_
    · rintro i Hi hi ⟨hD, si⟩
      tm_at "rv"
      refine r_strI (i := 0 + (i : Int)) (small_log (by omega) (by omega)) ?_
      tm_at "rv"
      refine r_addB (x := Str.ofString "x") (y := toString (0 + (i : Int))) (a := 1) (b := 2) (by decide +kernel) (small_text (by omega) (by omega)) (by decide) fun q1 => ?_
      tm_at "rv"
      refine r_acc hD (len_lt (by rw [List.length_map, nbS_len]; omega)) ⟨?_, sm_acc si nD1⟩
      rw [upd_same, nbS_succ, List.map_append, Int.zero_add]
      rfl
    rintro H1 ⟨hD1, sH1⟩
    tm_at "rv"
    intro D2 nD2
    refine lc_range (lo := 0) (n := boxes.toNat) (fun i H' => H' D2 = some (.lst ((nbS (Str.ofString "y") i).map V.str)) ∧ Sm H1 H') ⟨upd_same, sm_upd nD2⟩ ?_ ?_
    · rintro i Hi hi ⟨hD, si⟩
      tm_at "rv"
      refine r_strI (i := 0 + (i : Int)) (small_log (by omega) (by omega)) ?_
      tm_at "rv"
      refine r_addB (x := Str.ofString "y") (y := toString (0 + (i : Int))) (a := 1) (b := 2) (by decide +kernel) (small_text (by omega) (by omega)) (by decide) fun q1 => ?_
      tm_at "rv"
      refine r_acc hD (len_lt (by rw [List.length_map, nbS_len]; omega)) ⟨?_, sm_acc si nD2⟩
      rw [upd_same, nbS_succ, List.map_append, Int.zero_add]
      rfl
    rintro H2 ⟨hD2, sH2⟩
    tm_at "rv"
    refine r_addL (sH2.to _ _ hD1) hD2 (len_le (by rw [nl, nl]; omega)) fun l3 H3 s3 n3 f3 => ?_
    tm_at "rv"
    rename_i l4 n4
    have s4 := sm_upd (o := .lst [V.str (Str.ofString "s"), V.str (Str.ofString "c"), V.str (Str.ofString "h"), V.str (Str.ofString "d"), V.str (Str.ofString "q"), V.str (Str.ofString "g"), V.str (Str.ofString "i"), V.str (Str.ofString "m")]) n4
    refine r_addL (s4.to _ _ f3) upd_same (len_le (by rw [List.length_append, nl, nl]; simp only [List.length_cons, List.length_nil]; omega)) fun l5 H5 s5 n5 f5 => ?_
    tm_at "rv"
    intro D6 nD6
    refine lc_range (lo := 0) (n := boxes.toNat) (fun i H' => H' D6 = some (.lst ((nbS (Str.ofString "r") i).map V.str)) ∧ Sm H5 H') ⟨upd_same, sm_upd nD6⟩ ?_ ?_
    · rintro i Hi hi ⟨hD, si⟩
      tm_at "rv"
      refine r_strI (i := 0 + (i : Int)) (small_log (by omega) (by omega)) ?_
      tm_at "rv"
      refine r_addB (x := Str.ofString "r") (y := toString (0 + (i : Int))) (a := 1) (b := 2) (by decide +kernel) (small_text (by omega) (by omega)) (by decide) fun q1 => ?_
      tm_at "rv"
      refine r_acc hD (len_lt (by rw [List.length_map, nbS_len]; omega)) ⟨?_, sm_acc si nD6⟩
      rw [upd_same, nbS_succ, List.map_append, Int.zero_add]
      rfl
    rintro H6 ⟨hD6, sH6⟩
    tm_at "rv"
    refine r_addL (sH6.to _ _ f5) hD6 (len_le (by rw [List.length_append, List.length_append, nl, nl, nl]; simp only [List.length_cons, List.length_nil]; omega)) fun l7 H7 s7 n7 f7 => ?_
    have s07 : Sm H H7 := (((((sH1.trans sH2).trans s3).trans s4).trans s5).trans sH6).trans s7
    have el7 := s07.to _ _ el
    tm_at "rv"
    rw [hlt]
    intro D8 nD8
    refine lc_range (lo := 0) (n := rs.length) (fun i H' => H' D8 = some (.lst ((nbS (Str.ofString "l") i).map V.str)) ∧ Sm H7 H') ⟨upd_same, sm_upd nD8⟩ ?_ ?_
    · rintro i Hi hi ⟨hD, si⟩
      tm_at "rv"
      refine r_strI (i := 0 + (i : Int)) (small_log (by omega) (by omega)) ?_
      tm_at "rv"
      refine r_addB (x := Str.ofString "l") (y := toString (0 + (i : Int))) (a := 1) (b := 2) (by decide +kernel) (small_text (by omega) (by omega)) (by decide) fun q1 => ?_
      tm_at "rv"
      refine r_acc hD (len_lt (by rw [List.length_map, nbS_len]; omega)) ⟨?_, sm_acc si nD8⟩
      rw [upd_same, nbS_succ, List.map_append, Int.zero_add]
      rfl
    rintro H8 ⟨hD8, sH8⟩
    tm_at "rv"
    refine r_addL (sH8.to _ _ f7) hD8 (len_le (by rw [List.length_append, List.length_append, List.length_append, nl, nl, nl, nl]; simp only [List.length_cons, List.length_nil]; omega)) fun l9 H9 s9 n9 f9 => ?_
    have s09 := (s07.trans sH8).trans s9
    tm_at "rv"
    refine r_iL ?_
    tm_at "rv"
    refine use_lasked (s09.to _ _ el) (hp.ts (Sm.ts s09)) good fun l10 H10 ns s10 n10 f10 hA => ?_
    obtain ⟨hn5, hnb⟩ := hA.few good
    refine r_aL (SqL.of f10) ?_
    intro D nD
    refine lc_list (K := K) (a := l10) (xs := ns.map V.int) (fun i H' => H' D = some (.lst (((ns.take i).map fun j => Str.ofString "e" ++ (toString j : Str)).map V.str)) ∧ Sm H10 H') ⟨upd_same, sm_upd nD⟩ (fun i H' _ h => h.2.seq (SqL.of f10)) ?_ ?_
    · rintro i x Hi hx ⟨hD, si⟩
      rw [List.getElem?_map] at hx
      cases e : ns[i]? with
      | none => rw [e] at hx; cases hx
      | some y =>
        rw [e] at hx
        obtain rfl : V.int y = x := Option.some.inj hx
        have hy := hnb y (List.mem_of_getElem? e)
        have hi := (List.getElem?_eq_some_iff.mp e).1
        tm_at "rv"
        refine r_strI (i := y) (small_log (by omega) (by omega)) ?_
        tm_at "rv"
        refine r_addB (x := Str.ofString "e") (y := toString y) (a := 1) (b := 2) (by decide +kernel) (small_text (by omega) (by omega)) (by decide) fun q1 => ?_
        tm_at "rv"
        refine r_acc hD (len_lt (by rw [List.length_map, List.length_map, List.length_take]; omega)) ⟨?_, sm_acc si nD⟩
        rw [upd_same, List.take_add_one, e, List.map_append, List.map_append]
        rfl
    · rintro Hi ⟨hD, si⟩
      rw [List.length_map, List.take_length] at hD
      tm_at "rv"
      have s010 := (s09.trans s10).trans si
      refine r_addL (si.to _ _ (s10.to _ _ f9)) hD (len_le (by rw [List.length_append, List.length_append, List.length_append, List.length_append, nl, nl, nl, nl, List.length_map, List.length_map]; simp only [List.length_cons, List.length_nil]; omega)) fun l11 H11 s11 n11 f11 => ?_
      tm_at "rv"
      refine k l11 H11 ns (s010.trans s11) (s010.free n11) ?_ hA
      rw [f11]
      unfold namesL
      simp only [List.map_append]
      rfl
theorem nmx : ∀ i : Nat, i < 14 → (reprText (Str.ofString "x" ++ (toString ((i : Nat) : Int) : Str))).length ≤ 100 := by decide +kernel
theorem nmy : ∀ i : Nat, i < 14 → (reprText (Str.ofString "y" ++ (toString ((i : Nat) : Int) : Str))).length ≤ 100 := by decide +kernel
theorem nmr : ∀ i : Nat, i < 14 → (reprText (Str.ofString "r" ++ (toString ((i : Nat) : Int) : Str))).length ≤ 100 := by decide +kernel
theorem nml : ∀ i : Nat, i < 14 → (reprText (Str.ofString "l" ++ (toString ((i : Nat) : Int) : Str))).length ≤ 100 := by decide +kernel
theorem nme : ∀ i : Nat, i < 14 → (reprText (Str.ofString "e" ++ (toString ((i : Nat) : Int) : Str))).length ≤ 100 := by decide +kernel
theorem nmo : ∀ z ∈ lone, (reprText z).length ≤ 100 := by decide +kernel
theorem nbS_mem {z : Str} {n : Nat} (hn : n ≤ 14) (h : ∀ i : Nat, i < 14 → (reprText (z ++ (toString ((i : Nat) : Int) : Str))).length ≤ 100) : ∀ y ∈ nbS z n, (reprText y).length ≤ 100 := by
  intro y hy
  obtain ⟨i, hi, rfl⟩ := List.mem_map.mp hy
  have := List.mem_range.mp hi
  exact h i (by omega)
theorem names_mem {b m : Nat} {ns : List Int} (hb : b ≤ 5) (hm : m ≤ 14) (hn : ∀ j ∈ ns, 0 ≤ j ∧ j < 5) : ∀ y ∈ namesL b m ns, (reprText y).length ≤ 100 := by
  intro y hy
  unfold namesL at hy
  rcases List.mem_append.mp hy with hy | hy
  · rcases List.mem_append.mp hy with hy | hy
    · rcases List.mem_append.mp hy with hy | hy
      · rcases List.mem_append.mp hy with hy | hy
        · rcases List.mem_append.mp hy with hy | hy
          · exact nbS_mem (by omega) nmx y hy
          · exact nbS_mem (by omega) nmy y hy
        · exact nmo y hy
      · exact nbS_mem (by omega) nmr y hy
    · exact nbS_mem hm nml y hy
  · obtain ⟨j, hj, rfl⟩ := List.mem_map.mp hy
    have := hn j hj
    have h := nme j.toNat (by omega)
    rwa [Int.toNat_of_nonneg this.1] at h
theorem names_len (b m : Nat) (ns : List Int) : (namesL b m ns).length = b + b + 8 + b + m + ns.length := by
  unfold namesL
  simp only [List.length_append, nbS_len, List.length_map]
  rfl
theorem dps_strs {H : Hp} : ∀ zs : List Str, DpAll K H (zs.map V.str) (zs.map PyData.str)
  | [] => .nil
  | z :: zs => .cons (.str z) (dps_strs zs)
theorem names_shw {b m : Nat} {ns : List Int} (hb : b ≤ 5) (hm : m ≤ 14) (hn : ∀ j ∈ ns, 0 ≤ j ∧ j < 5) (hl : ns.length ≤ 5) : Shw 10000 1 (.list ((namesL b m ns).map PyData.str)) := by
  have h2 : ∀ d ∈ (namesL b m ns).map PyData.str, Shw 100 0 d := by
    intro d hd
    obtain ⟨z, hz, rfl⟩ := List.mem_map.mp hd
    exact shw_str (names_mem hb hm hn z hz)
  have h3 := shw_lst h2
  rw [List.length_map, names_len] at h3
  exact h3.up (by omega) (Nat.le_refl _)
theorem row_shw {boxes many : Int} {r : PRow} (h : r.ok boxes many) (hb : boxes ≤ 5) (hm : many ≤ 14) : Shw 300 1 r.data := by
  have hw : Shw 66 0 (.str r.word) := by
    refine shw_str ?_
    cases r
    · show (reprText (Str.ofString "raise")).length ≤ 66
      decide +kernel
    · show (reprText (Str.ofString "lower")).length ≤ 66
      decide +kernel
    · show (reprText (Str.ofString "if")).length ≤ 66
      decide +kernel
    · show (reprText (Str.ofString "go")).length ≤ 66
      decide +kernel
    · show (reprText (Str.ofString "stop")).length ≤ 66
      decide +kernel
  have hn : ∀ x ∈ r.nums, 0 ≤ x ∧ x < 14 := by
    intro x hx
    cases r with
    | raise j => rw [List.mem_singleton.mp hx]; exact ⟨h.1, by have := h.2; omega⟩
    | lower j => rw [List.mem_singleton.mp hx]; exact ⟨h.1, by have := h.2; omega⟩
    | iff j g =>
      obtain ⟨⟨a, b⟩, c, d⟩ := h
      rcases List.mem_cons.mp hx with rfl | hx
      · exact ⟨a, by omega⟩
      · rw [List.mem_singleton.mp hx]; exact ⟨c, by omega⟩
    | go g => rw [List.mem_singleton.mp hx]; exact ⟨h.1, by have := h.2; omega⟩
    | stop => cases hx
  have e64 : (2 : Nat) ^ 64 = 18446744073709551616 := by decide
  have ha : ∀ d ∈ (PyData.str r.word :: r.nums.map PyData.int), Shw 66 0 d := by
    intro d hd
    rcases List.mem_cons.mp hd with rfl | hd
    · exact hw
    · obtain ⟨x, hx, rfl⟩ := List.mem_map.mp hd
      have := hn x hx
      exact shw_int (by omega)
  have h3 := shw_tup ha
  have h2 := r.nums_len
  rw [List.length_cons, List.length_map] at h3
  exact h3.up (by omega) (Nat.le_refl _)
theorem rows_shw {boxes : Int} {rs : List PRow} (g : ProgOk boxes rs) : Shw 10000 2 (.tuple (rs.map PRow.data)) := by
  have hb5 := g.b5
  have hr14 := g.r14
  have h2 : ∀ d ∈ rs.map PRow.data, Shw 300 1 d := by
    intro d hd
    obtain ⟨r, hr, rfl⟩ := List.mem_map.mp hd
    exact row_shw (g.all r hr) hb5 (by omega)
  have h3 := shw_tup h2
  rw [List.length_map] at h3
  exact h3.up (by omega) (Nat.le_refl _)
def sp_right (K : PySem.W.Frag) : Sp := fun vs H Q _ => ∃ (boxes : Int) (l : Addr) (ts : List Addr) (rs : List PRow), vs = [.int boxes, .ref l] ∧ H l = some (.lst (ts.map V.ref)) ∧ PRows H ts rs ∧ ProgOk boxes rs ∧ ∀ H', Sm H H' → Q (.bl true) H'
theorem use_right {H : Hp} {Q : VK} {E : XK} {boxes : Int} {l : Addr} {ts : List Addr} {rs : List PRow} (h : H l = some (.lst (ts.map V.ref))) (hp : PRows H ts rs) (g : ProgOk boxes rs) (k : ∀ H', Sm H H' → Q (.bl true) H') : sp_right K [.int boxes, .ref l] H Q E := ⟨boxes, l, ts, rs, rfl, h, hp, g, k⟩
theorem ok_right (T : Txt K mg w) : FnG P w K mg base CX0 7 T.f_right T.d_right ["boxes", "rows"] (sp_right K) := by
  refine okG T.F_right sc_right (fun vs H Q E h => ?_) (fun cdv A outer s H vs Q E hr hg h => ?_)
  · obtain ⟨boxes, l, ts, rs, rfl, _⟩ := h
    rfl
  · obtain ⟨boxes, l, ts, rs, rfl, el, hp, good, k⟩ := h
    refine ⟨_, (pss_cons (ps_set (i := 2) sc_right.nd rfl (Or.inl rfl) (pe_make T.mk_Program (ok_Program_init T) (hr.mono (by decide)) (by rfl) T.g_Program T.b_Program_init .nil pass0 (pa_cons (pv 0) (pa_cons (pv 1) pa_nil))))
      (pss_cons (ps_for PassesOwn.never rfl (pi_range1 (by rfl) T.z_range (pa_cons pe_int pa_nil)) (pg_name (i := 3) sc_right.nd rfl (Or.inl rfl))
      (pss_cons (ps_par (i := 4) (j := 5) rfl sc_right.nd rfl rfl (by decide) rfl rfl (pa_cons (pe_call (ok_p_names_of T) (hr.mono (by decide)) (by rfl) T.g_p_names_of T.F_p_names_of.kp T.b_p_names_of .nil pass0 (pa_cons (pv 2) pa_nil)) (pa_cons (pe_call (ok_p_asked_boxes T) (hr.mono (by decide)) (by rfl) T.g_p_asked_boxes T.F_p_asked_boxes.kp T.b_p_asked_boxes .nil pass0 (pa_cons (pv 2) pa_nil)) pa_nil)) (by rfl))
      (pss_cons (ps_if (PW.pt (pw_or (pt_cmpR (ne_k (K := K) rfl hr.units) (pe_callB (repr_n (K := K) rfl hg hr.units) (by rfl) T.z_repr (by decide +kernel) (pa_cons (pv 4) pa_nil)) (pe_callB (repr_n (K := K) rfl hg hr.units) (by rfl) T.z_repr (by decide +kernel) (pa_cons (pe_call (ok_names_of T) (hr.mono (by decide)) (by rfl) T.g_names_of T.F_names_of.kp T.b_names_of .nil pass0 (pa_cons (pv 0) (pa_cons (pv 1) pa_nil))) pa_nil)) (nomark _)) (pw_or1 (pt_cmpR (ne_k (K := K) rfl hr.units) (pe_callB (repr_n (K := K) rfl hg hr.units) (by rfl) T.z_repr (by decide +kernel) (pa_cons (pv 5) pa_nil)) (pe_callB (repr_n (K := K) rfl hg hr.units) (by rfl) T.z_repr (by decide +kernel) (pa_cons (pe_call (ok_asked T) (hr.mono (by decide)) (by rfl) T.g_asked T.F_asked.kp T.b_asked .nil pass0 (pa_cons (pv 0) (pa_cons (pv 1) pa_nil))) pa_nil)) (nomark _)))))
      (pss_one (ps_ret pe_bl)) pss_nil)
      (pss_cons (ps_expr (pe_bm0 PySem.F.plainAttrs_list PySem.F.slot_list_clear PySem.F.type_list_clear mt_clear (pv 4)))
      (pss_one (ps_expr (pe_bm PySem.F.plainAttrs_list PySem.F.slot_list_append PySem.F.type_list_append mt_append (pv 5) (pa_cons pe_int pa_nil))))))))
      (pss_one (ps_ret (andT_k (K := K) rfl (pe_cmpR (eq_k (K := K) rfl hr.units) (pe_callB (repr_n (K := K) rfl hg hr.units) (by rfl) T.z_repr (by decide +kernel) (pa_cons (fld_k (K := K) rfl (pv 2) rfl) pa_nil)) (pe_callB (repr_n (K := K) rfl hg hr.units) (by rfl) T.z_repr (by decide +kernel) (pa_cons (pe_callTy (tuple_k (K := K) rfl) (by rfl) T.z_tuple (by decide +kernel) (pa_cons (pv 1) pa_nil)) pa_nil)) (nomark _)) (pe_one (pe_cmpR (op_eqI T.eq_Program (ok_Program_eq T) (hr.mono (by decide)) T.b_Program_eq pass0) (pv 2) (pe_make T.mk_Program (ok_Program_init T) (hr.mono (by decide)) (by rfl) T.g_Program T.b_Program_init .nil pass0 (pa_cons (pv 0) (pa_cons (pv 1) pa_nil))) (nomark _)))))))), ?_⟩
    have hr14 := good.r14
    have hb1 := good.b1
    have hb5 := good.b5
    have hlt : (ts.map V.ref).length = rs.length := by rw [List.length_map, hp.len]
    have e64 : (2 : Nat) ^ 64 = 18446744073709551616 := by decide
    tm_at "rv"
    intro p dxp np ndp _
    refine init_use (K := K) np ndp (.inl el) hp good fun H5 s5 hP => ?_
    have el5 := s5.to _ _ el
    have hp5 := hp.ts (Sm.ts s5)
    tm_at "rv"
    refine for_range (lo := 0) (n := 2) (fun j σ H' => (∃ x3 x4 x5, σ = [some (.int boxes), some (.ref l), some (.ref p), x3, x4, x5]) ∧ Sm H5 H') ⟨⟨_, _, _, rfl⟩, Sm.refl _⟩ ?_ ?_
    · rintro t σ H6 ht ⟨⟨x3, x4, x5, rfl⟩, s6⟩
      tm_at "rv"
      refine use_names (hP.sm s6) good fun l7 H7 ns s7 n7 f7 hA => ?_
      obtain ⟨hn5, hnb⟩ := hA.few good
      have hnb5 : ∀ j ∈ ns, 0 ≤ j ∧ j < 5 := fun j hj => ⟨(hnb j hj).1, by have := (hnb j hj).2; omega⟩
      have hi : ∀ n ∈ ns, n.natAbs < 2 ^ 64 := fun n hn => by have := hnb5 n hn; omega
      have hsi : Shw 1000 1 (.list (ns.map PyData.int)) := by
        have h3 := shw_lst (ds := ns.map PyData.int) (n := 66) (k := 0) fun d hd => by
          obtain ⟨x, hx, rfl⟩ := List.mem_map.mp hd
          exact shw_int (hi x hx)
        rw [List.length_map] at h3
        exact h3.up (by omega) (Nat.le_refl _)
      have hs := names_shw (b := boxes.toNat) (m := rs.length) (by omega) hr14 hnb5 hn5
      tm_at "rv"
      refine use_asked (hP.sm (s6.trans s7)) good fun l8 H8 ms s8 n8 f8 hB => ?_
      obtain rfl := hB.one hA
      have s58 := (s6.trans s7).trans s8
      have f78 := s8.to _ _ f7
      tm_at "rv"
      refine r_reprX (.lst (SqL.of f78) (dps_strs _)) hs (by decide) (by decide) ?_
      tm_at "rv"
      refine use_lnames (s58.to _ _ el5) (hp5.ts (Sm.ts s58)) good fun l9 H9 ns2 s9 n9 f9 hC => ?_
      obtain rfl := hC.one hA
      tm_at "rv"
      refine r_reprX (.lst (SqL.of f9) (dps_strs _)) hs (by decide) (by decide) ?_
      tm_at "rv"
      refine ite_n (fun e => absurd rfl e) (fun _ => ?_)
      tm_at "rv"
      refine r_reprX (.lst (SqL.of (s9.to _ _ f8)) (dps_ints _)) hsi (by decide) (by decide) ?_
      tm_at "rv"
      refine use_lasked ((s58.trans s9).to _ _ el5) (hp5.ts (Sm.ts (s58.trans s9))) good fun l10 H10 ns3 s10 n10 f10 hD => ?_
      obtain rfl := hD.one hA
      tm_at "rv"
      refine r_reprX (.lst (SqL.of f10) (dps_ints _)) hsi (by decide) (by decide) ?_
      tm_at "rv"
      refine ite_n (fun e => absurd rfl e) (fun _ => ?_)
      tm_at "rv"
      have s510 := (s58.trans s9).trans s10
      have ne78 : l8 ≠ l7 := (ne_of_none f7 n8).symm
      have f710 := s10.to _ _ (s9.to _ _ f78)
      refine r_meth0 ?_
      tm_at "rv"
      refine ⟨l7, _, rfl, rfl, f710, ?_⟩
      have f811 := (upd_ne ne78 : upd H10 l7 (.lst []) l8 = H10 l8).trans (s10.to _ _ (s9.to _ _ f8))
      tm_at "rv"
      refine r_app f811 (len_lt (by rw [List.length_map]; omega)) ?_
      tm_at "rv"
      exact ⟨⟨_, _, _, rfl⟩, sm_acc (sm_acc s510 (s6.free n7)) ((s6.trans s7).free n8)⟩
    · rintro σ H6 ⟨⟨x3, x4, x5, rfl⟩, s6⟩
      obtain ⟨dx, tt, e1, e2, hpp⟩ := id (hP.sm s6)
      have el6 := s6.to _ _ el5
      have hp6 := hp5.ts (Sm.ts s6)
      tm_at "rv"
      refine r_fldO e1 T.cl_Program T.n_Program_rows (get_rows _ _) ?_
      tm_at "rv"
      refine r_reprX (dp_rowsT e2 hpp) (rows_shw good) (by decide) (by decide) ?_
      tm_at "rv"
      refine r_tupleL (SqL.of el6) fun q nq => ?_
      have sq := sm_upd (o := .tup (ts.map V.ref)) nq
      have eq := upd_same (H := H6) (a := q) (o := .tup (ts.map V.ref))
      generalize upd H6 q (.tup (ts.map V.ref)) = H7 at sq eq ⊢
      tm_at "rv"
      refine r_reprX (dp_rowsT eq (hp6.ts (Sm.ts sq))) (rows_shw good) (by decide) (by decide) ?_
      tm_at "rv"
      refine ite_d (fun _ => ?_) (fun e => absurd rfl e)
      tm_at "rv"
      intro p2 dx2 np2 nd2 _
      refine init_use (K := K) np2 nd2 (.inl (sq.to _ _ el6)) (hp6.ts (Sm.ts sq)) good fun H8 s8 hP8 => ?_
      refine r_eqProg (hP.sm ((s6.trans sq).trans s8)) hP8 ?_
      tm_at "rv"
      exact k _ (((s5.trans s6).trans sq).trans s8)

/-! the drawer -/
def sp_take : Sp := fun vs H Q _ => ∃ (b : Addr) (wide : Int), vs = [.ref b, .int wide] ∧ BoxAt H b ∧ 0 < wide ∧ CDivW 0 wide ∧ ∀ d H', Chg b H H' → BoxAt H' b → 0 ≤ d → d < wide → Q (.int d) H'
theorem use_take {H : Hp} {Q : VK} {E : XK} {b : Addr} {wide : Int} (h : BoxAt H b) (h0 : 0 < wide) (h1 : CDivW 0 wide) (k : ∀ d H', Chg b H H' → BoxAt H' b → 0 ≤ d → d < wide → Q (.int d) H') : sp_take [.ref b, .int wide] H Q E := ⟨b, wide, rfl, h, h0, h1, k⟩
theorem ok_take (T : Txt K mg w) : FnOk P w K mg base CX0 1 T.f_take T.d_take ["box", "wide"] sp_take := by
  refine T.F_take.ok sc_take (fun vs H Q E h => ?_) (fun cdv A outer s H vs Q E hr h => ?_)
  · obtain ⟨b, wide, rfl, _⟩ := h
    rfl
  · obtain ⟨b, wide, rfl, ⟨c, z, hb⟩, hw, hd, k⟩ := h
    refine ⟨_, (pss_cons (ps_if (pt_cmpR op_gt (pe_ix (ix_k (K := K) rfl) (pv 0) pe_int (fun _ _ => rfl)) pe_int (nomark _))
      (pss_cons (ps_set (i := 2) sc_take.nd rfl (Or.inl rfl) (pe_op op_mod (pe_ix (ix_k (K := K) rfl) (pv 0) pe_int (fun _ _ => rfl)) (pv 1)))
      (pss_cons (ps_asg (pe_op op_fdivW (pe_ix (ix_k (K := K) rfl) (pv 0) pe_int (fun _ _ => rfl)) (pv 1)) (pg_sub (pv 0) pe_int set_list))
      (pss_one (ps_ret (pv 2))))) pss_nil)
      (pss_cons (ps_set (i := 3) sc_take.nd rfl (Or.inl rfl) (pe_op op_mod (pe_op (mul_k (K := K) rfl) (pe_ix (ix_k (K := K) rfl) (pv 0) pe_int (fun _ _ => rfl)) pe_int) pe_int))
      (pss_cons (ps_asg (pe_op (add_k (K := K) rfl) (pe_op op_mod (pe_op (add_k (K := K) rfl) (pe_op (mul_k (K := K) rfl) (pv 3) pe_int) pe_int) pe_int) pe_int) (pg_sub (pv 0) pe_int set_list))
      (pss_one (ps_ret (pe_op op_mod (pe_op op_fdivW (pe_op (add_k (K := K) rfl) (pe_op (mul_k (K := K) rfl) (pv 3) pe_int) (pe_ix (ix_k (K := K) rfl) (pv 0) pe_int (fun _ _ => rfl))) pe_int) (pv 1))))))), ?_⟩
    tm_at "rv"
    refine ite_d (fun e => ?_) (fun e => ?_)
    · tm_at "rv"
      exact k _ _ chg_upd ⟨_, _, upd_same⟩ (Int.emod_nonneg _ (by omega)) (Int.emod_lt_of_pos _ hw)
    · tm_at "rv"
      exact k _ _ chg_upd ⟨_, _, upd_same⟩ (Int.emod_nonneg _ (by omega)) (Int.emod_lt_of_pos _ hw)

/-! the drawer made -/
def sp_box (K : PySem.W.Frag) : Sp := fun vs H Q _ => ∃ (a : Addr) (k : Int) (ns : List Int), vs = [.ref a, .int k] ∧ SqL K H a (ns.map V.int) ∧ 0 ≤ k ∧ ∀ b H', Sm H H' → H b = none → BoxAt H' b → Q (.ref b) H'
theorem use_box {H : Hp} {Q : VK} {E : XK} {a : Addr} {i : Int} {ns : List Int} (h : SqL K H a (ns.map V.int)) (h0 : 0 ≤ i) (k : ∀ b H', Sm H H' → H b = none → BoxAt H' b → Q (.ref b) H') : sp_box K [.ref a, .int i] H Q E := ⟨a, i, ns, rfl, h, h0, k⟩
theorem ok_box (T : Txt K mg w) : FnOk P w K mg base CX0 1 T.f_box T.d_box ["script", "k"] (sp_box K) := by
  refine T.F_box.ok sc_box (fun vs H Q E h => ?_) (fun cdv A outer s H vs Q E hr h => ?_)
  · obtain ⟨a, k, ns, rfl, _⟩ := h
    rfl
  · obtain ⟨a, k, ns, rfl, hS, h0, q⟩ := h
    have item : ∀ i : Int, 0 ≤ i → i < ((ns.map V.int).length : Int) → ∃ n, atI (ns.map V.int) i = some (V.int n) := fun i a b => by
      obtain ⟨v, e, m⟩ := atI_mem a b
      obtain ⟨n, _, rfl⟩ := List.mem_map.mp m
      exact ⟨n, e⟩
    refine ⟨_, (pss_cons (ps_set (i := 2) sc_box.nd rfl (Or.inl rfl) (pe_op (add_k (K := K) rfl) (pe_op (mul_k (K := K) rfl) pe_int (pv 1)) pe_int))
      (pss_cons (ps_if (pt_cmpR op_lt (pv 1) (pe_callB (len_k (K := K) rfl) (by rfl) T.z_len (by decide +kernel) (pa_cons (pv 0) pa_nil)) (nomark _))
      (pss_one (ps_set (i := 2) sc_box.nd rfl (Or.inl rfl) (pe_ix (ix_k (K := K) rfl) (pv 0) (pv 1) (fun _ _ => rfl)))) (pss_one (ps_if (pt_cmpR op_gt (pe_callB (len_k (K := K) rfl) (by rfl) T.z_len (by decide +kernel) (pa_cons (pv 0) pa_nil)) pe_int (nomark _))
      (pss_one (ps_set (i := 2) sc_box.nd rfl (Or.inl rfl) (pe_op (add_k (K := K) rfl) (pv 2) (pe_op (mul_k (K := K) rfl) (pe_op op_mod (pe_ix (ix_k (K := K) rfl) (pv 0) (pe_op op_mod (pv 1) (pe_callB (len_k (K := K) rfl) (by rfl) T.z_len (by decide +kernel) (pa_cons (pv 0) pa_nil))) (fun _ _ => rfl)) pe_int) pe_int)))) pss_nil)))
      (pss_cons (ps_set (i := 3) sc_box.nd rfl (Or.inl rfl) (pe_op (add_k (K := K) rfl) (pe_op op_mod (pe_op (add_k (K := K) rfl) (pe_op (mul_k (K := K) rfl) (pe_op op_mod (pv 2) pe_int) pe_int) (pe_op (mul_k (K := K) rfl) pe_int (pv 1))) pe_int) pe_int))
      (pss_one (ps_ret (pe_lst (pa_cons (pe_ix (ix_k (K := K) rfl) (pe_lst (pa_cons pe_int (pa_cons (pv 2) pa_nil))) (pe_callTy cl_int (by rfl) T.z_int (by decide +kernel) (pa_cons (pe_cmpR op_ge (pv 2) (pe_op op_pow pe_int pe_int) (nomark _)) pa_nil)) (fun _ _ => rfl)) (pa_cons (pv 3) pa_nil)))))))), ?_⟩
    tm_at "rv"
    have hlen : ((ns.map V.int).length : Int) = (ns.length : Int) := by rw [List.length_map]
    refine ite_d (fun e1 => ?_) (fun e1 => ?_)
    · tm_at "rv"
      obtain ⟨n, en⟩ := item k h0 e1
      refine r_ixL (by tm_at "mv") en ?_
      tm_at "rv"
      refine r_ixL (by tm_at "mv") ix2 ?_
      tm_at "rv"
      exact q _ _ (by tm_at "sm") (by tm_at "fr") ⟨_, _, upd_same⟩
    · tm_at "rv"
      refine ite_d (fun e2 => ?_) (fun e2 => ?_)
      · tm_at "rv"
        obtain ⟨n, en⟩ := item (k % ((ns.map V.int).length : Int)) (Int.emod_nonneg _ (by omega)) (Int.emod_lt_of_pos _ e2)
        refine r_ixL (by tm_at "mv") en ?_
        tm_at "rv"
        refine r_ixL (by tm_at "mv") ix2 ?_
        tm_at "rv"
        exact q _ _ (by tm_at "sm") (by tm_at "fr") ⟨_, _, upd_same⟩
      · tm_at "rv"
        refine r_ixL (by tm_at "mv") ix2 ?_
        tm_at "rv"
        exact q _ _ (by tm_at "sm") (by tm_at "fr") ⟨_, _, upd_same⟩

/-- one drawn row -/
def sp_row : Sp := fun vs H Q _ => ∃ (b : Addr) (boxes many : Int), vs = [.ref b, .int boxes, .int many] ∧ BoxAt H b ∧ 1 ≤ boxes ∧ boxes ≤ 5 ∧ 1 ≤ many ∧ many ≤ 14 ∧
  ∀ t H' (r : PRow), Chg b H H' → BoxAt H' b → H t = none → H' t = some (.tup r.vs) → r.ok boxes many → Q (.ref t) H'
theorem use_row {H : Hp} {Q : VK} {E : XK} {b : Addr} {boxes many : Int} (h : BoxAt H b) (h1 : 1 ≤ boxes) (h2 : boxes ≤ 5) (h3 : 1 ≤ many) (h4 : many ≤ 14)
    (k : ∀ t H' (r : PRow), Chg b H H' → BoxAt H' b → H t = none → H' t = some (.tup r.vs) → r.ok boxes many → Q (.ref t) H') : sp_row [.ref b, .int boxes, .int many] H Q E := ⟨b, boxes, many, rfl, h, h1, h2, h3, h4, k⟩
theorem r_ixLs {K : PySem.W.Frag} {H : Hp} {Q : VK} {a : Addr} {xs : List V} {i : Int} {ns : List Str} (h : SqL K H a xs) (e : xs = ns.map V.str) (h0 : 0 ≤ i) (h1 : i < (ns.length : Int)) (k : ∀ n, n ∈ ns → Q (.str n) H) : rIx K (.ref a) (.int i) H Q := by
  subst e
  obtain ⟨v, ev, hv⟩ := atI_mem (xs := ns.map V.str) h0 (by rw [List.length_map]; exact h1)
  obtain ⟨n, hn, rfl⟩ := List.mem_map.mp hv
  exact r_ixL h ev (k n hn)
theorem ok_row (T : Txt K mg w) : FnOk P w K mg base CX0 2 T.f_row T.d_row ["box", "boxes", "many"] sp_row := by
  refine T.F_row.ok sc_row (fun vs H Q E h => ?_) (fun cdv A outer s H vs Q E hr h => ?_)
  · obtain ⟨b, boxes, many, rfl, _⟩ := h
    rfl
  · obtain ⟨b, boxes, many, rfl, hB, h1, h2, h3, h4, k⟩ := h
    refine ⟨_, (pss_cons (ps_set (i := 3) sc_row.nd rfl (Or.inl rfl) (pe_ix (ix_k (K := K) rfl) (pe_lst (pa_cons pe_str (pa_cons pe_str (pa_cons pe_str (pa_cons pe_str (pa_cons pe_str (pa_cons pe_str (pa_cons pe_str pa_nil)))))))) (pe_call (ok_take T) hr (by rfl) T.g_take T.F_take.kp T.b_take .nil pass0 (pa_cons (pv 0) (pa_cons pe_int pa_nil))) (fun _ _ => rfl)))
      (pss_cons (ps_if (pt_cmpR (eq_k (K := K) rfl hr.units) (pv 3) pe_str (nomark _))
      (pss_one (ps_ret (pe_tup (pa_cons (pv 3) pa_nil)))) pss_nil)
      (pss_cons (ps_if (pt_cmpR (eq_k (K := K) rfl hr.units) (pv 3) pe_str (nomark _))
      (pss_one (ps_ret (pe_tup (pa_cons (pv 3) (pa_cons (pe_call (ok_take T) hr (by rfl) T.g_take T.F_take.kp T.b_take .nil pass0 (pa_cons (pv 0) (pa_cons (pv 2) pa_nil))) pa_nil))))) pss_nil)
      (pss_cons (ps_if (pt_cmpR (eq_k (K := K) rfl hr.units) (pv 3) pe_str (nomark _))
      (pss_one (ps_ret (pe_tup (pa_cons (pv 3) (pa_cons (pe_call (ok_take T) hr (by rfl) T.g_take T.F_take.kp T.b_take .nil pass0 (pa_cons (pv 0) (pa_cons (pv 1) pa_nil))) (pa_cons (pe_call (ok_take T) hr (by rfl) T.g_take T.F_take.kp T.b_take .nil pass0 (pa_cons (pv 0) (pa_cons (pv 2) pa_nil))) pa_nil)))))) pss_nil)
      (pss_one (ps_ret (pe_tup (pa_cons (pv 3) (pa_cons (pe_call (ok_take T) hr (by rfl) T.g_take T.F_take.kp T.b_take .nil pass0 (pa_cons (pv 0) (pa_cons (pv 1) pa_nil))) pa_nil))))))))), ?_⟩
    tm_at "rv"
    refine use_take (by tm_at "mv") (by decide) (cdiv_s (by decide) (by decide)) fun d H1 c1 b1 l1 u1 => ?_
    refine r_ixLs (ns := [Str.ofString "raise", Str.ofString "raise", Str.ofString "lower", Str.ofString "if", Str.ofString "if", Str.ofString "go", Str.ofString "stop"]) (by tm_at "mv") (by rfl) l1 u1 fun word hw => ?_
    have hw : word = Str.ofString "raise" ∨ word = Str.ofString "lower" ∨ word = Str.ofString "if" ∨ word = Str.ofString "go" ∨ word = Str.ofString "stop" := by
      simp only [List.mem_cons, List.not_mem_nil, or_false] at hw
      rcases hw with h | h | h | h | h | h | h <;> simp [h]
    rcases hw with rfl | rfl | rfl | rfl | rfl
    · tm_at "rv"
      refine use_take (by tm_at "mv") (by omega) (cdiv_s (by omega) (by omega)) fun j H2 c2 b2 l2 u2 => ?_
      tm_at "rv"
      exact k _ _ (.raise j) (by tm_at "ch") (by tm_at "mv") (chg_fr (by assumption) (by tm_at "mv") (by tm_at "ch")) upd_same ⟨l2, u2⟩
    · tm_at "rv"
      refine use_take (by tm_at "mv") (by omega) (cdiv_s (by omega) (by omega)) fun j H2 c2 b2 l2 u2 => ?_
      tm_at "rv"
      exact k _ _ (.lower j) (by tm_at "ch") (by tm_at "mv") (chg_fr (by assumption) (by tm_at "mv") (by tm_at "ch")) upd_same ⟨l2, u2⟩
    · tm_at "rv"
      refine use_take (by tm_at "mv") (by omega) (cdiv_s (by omega) (by omega)) fun j H2 c2 b2 l2 u2 => ?_
      tm_at "rv"
      refine use_take (by tm_at "mv") (by omega) (cdiv_s (by omega) (by omega)) fun g H3 c3 b3 l3 u3 => ?_
      tm_at "rv"
      exact k _ _ (.iff j g) (by tm_at "ch") (by tm_at "mv") (chg_fr (by assumption) (by tm_at "mv") (by tm_at "ch")) upd_same ⟨⟨l2, u2⟩, l3, u3⟩
    · tm_at "rv"
      refine use_take (by tm_at "mv") (by omega) (cdiv_s (by omega) (by omega)) fun g H2 c2 b2 l2 u2 => ?_
      tm_at "rv"
      exact k _ _ (.go g) (by tm_at "ch") (by tm_at "mv") (chg_fr (by assumption) (by tm_at "mv") (by tm_at "ch")) upd_same ⟨l2, u2⟩
    · tm_at "rv"
      exact k _ _ .stop (by tm_at "ch") (by tm_at "mv") (chg_fr (by assumption) (by tm_at "mv") (by tm_at "ch")) upd_same trivial
/-- any rows -/
def sp_any_rows : Sp := fun vs H Q _ => ∃ (b : Addr) (boxes : Int), vs = [.ref b, .int boxes] ∧ BoxAt H b ∧ 1 ≤ boxes ∧ boxes ≤ 5 ∧
  ∀ l H' rs, Chg b H H' → BoxAt H' b → H l = none → RowsAt H' l rs → ProgOk boxes rs → Q (.ref l) H'
theorem use_any_rows {H : Hp} {Q : VK} {E : XK} {b : Addr} {boxes : Int} (h : BoxAt H b) (h1 : 1 ≤ boxes) (h2 : boxes ≤ 5)
    (k : ∀ l H' rs, Chg b H H' → BoxAt H' b → H l = none → RowsAt H' l rs → ProgOk boxes rs → Q (.ref l) H') : sp_any_rows [.ref b, .int boxes] H Q E := ⟨b, boxes, rfl, h, h1, h2, k⟩
theorem ok_any_rows (T : Txt K mg w) : FnOk P w K mg base CX0 3 T.f_any_rows T.d_any_rows ["box", "boxes"] sp_any_rows := by
  refine T.F_any_rows.ok sc_any_rows (fun vs H Q E h => ?_) (fun cdv A outer s H vs Q E hr h => ?_)
  · obtain ⟨b, boxes, rfl, _⟩ := h
    rfl
  · obtain ⟨b, boxes, rfl, hB, h1, h2, k⟩ := h
    refine ⟨_, (pss_cons (ps_set (i := 2) sc_any_rows.nd rfl (Or.inr rfl) (pe_op (add_k (K := K) rfl) pe_int (pe_call (ok_take T) (hr.mono (by decide)) (by rfl) T.g_take T.F_take.kp T.b_take .nil pass0 (pa_cons (pv 0) (pa_cons pe_int pa_nil)))))
      (pss_cons (ps_setLc (i := 4) (own := [("k", 3)]) rfl sc_any_rows.nd rfl rfl (sw_true rfl rfl rfl (by decide +kernel)) (pi_range1 (by rfl) T.z_range (pa_cons (pe_op op_sub (pv 2) pe_int) pa_nil)) (blkOk_by (N := ["box", "boxes", "many", "k", "rows"]) (sc := defScope s_any_rows) (own := [("k", 3)]) (by decide +kernel)) (fun _ _ _ _ _ => (pg_name (i := 3) sc_any_rows.nd rfl (Or.inl rfl))) (fun _ _ _ _ _ => pts_nil) (fun _ _ _ _ _ => (pe_call (ok_row T) hr (by rfl) T.g_row T.F_row.kp T.b_row .nil pass0 (pa_cons (pv 0) (pa_cons (pv 1) (pa_cons (pv 2) pa_nil))))))
      (pss_one (ps_ret (pe_op (add_k (K := K) rfl) (pv 4) (pe_lst (pa_cons (pe_ix (ix_k (K := K) rfl) (pe_lst (pa_cons (pe_tup (pa_cons pe_str pa_nil)) (pa_cons (pe_tup (pa_cons pe_str pa_nil)) (pa_cons (pe_tup (pa_cons pe_str (pa_cons (pe_call (ok_take T) (hr.mono (by decide)) (by rfl) T.g_take T.F_take.kp T.b_take .nil pass0 (pa_cons (pv 0) (pa_cons (pv 2) pa_nil))) pa_nil))) pa_nil)))) (pe_call (ok_take T) (hr.mono (by decide)) (by rfl) T.g_take T.F_take.kp T.b_take .nil pass0 (pa_cons (pv 0) (pa_cons pe_int pa_nil))) (fun _ _ => rfl)) pa_nil))))))), ?_⟩
    tm_at "rv"
    refine use_take (by tm_at "mv") (by decide) (cdiv_s (by decide) (by decide)) fun m H1 c1 b1 l1 u1 => ?_
    tm_at "rv"
    intro D nD
    refine lc_range (lo := 0) (n := (1 + m - 1).toNat) (fun i H' => ∃ (ts : List Addr) (rs : List PRow), H' D = some (.lst (ts.map V.ref)) ∧ PRows H' ts rs ∧ rs.length = i ∧ (∀ r ∈ rs, r.ok boxes (1 + m)) ∧ Chg b H1 H' ∧ BoxAt H' b) ⟨[], [], upd_same, trivial, rfl, by simp, (sm_upd nD).chg, b1.sm (sm_upd nD)⟩ ?_ ?_
    · rintro i Hi hi ⟨ts, rs, hD, hR, hl, hok, ci, bi⟩
      tm_at "rv"
      refine use_row (by tm_at "mv") h1 h2 (by omega) (by omega) fun t H2 r c2 b2 nt et rok => ?_
      tm_at "rv"
      have hne : D ≠ b := ne_fr' b1 nD
      have hD2 := c2.to _ _ hne hD
      have hts := hR.len
      have up : TS H2 (upd H2 D (.lst (ts.map V.ref ++ [V.ref t]))) := lst_ts hD2
      refine r_acc hD2 (small1000 (by rw [List.length_map]; omega)) ⟨ts ++ [t], rs ++ [r], ?_, ?_, ?_, ?_, ?_, ?_⟩
      · rw [upd_same, List.map_append]
        rfl
      · exact ((hR.ts (Chg.ts bi c2)).app (PRows.one et)).ts up
      · rw [List.length_append, hl]
        rfl
      · intro x hx
        rcases List.mem_append.mp hx with hx | hx
        · exact hok x hx
        · rw [List.mem_singleton.mp hx]
          exact rok
      · tm_at "ch"
      · tm_at "mv"
    · rintro Hi ⟨ts, rs, hD, hR, hl, hok, ci, bi⟩
      tm_at "rv"
      rename_i p1 n1 p2 n2
      refine use_take (by tm_at "mv") (by omega) (cdiv_s (by omega) (by omega)) fun g H2 c2 b2 l2 u2 => ?_
      tm_at "rv"
      rename_i p3 n3 p4 n4
      refine use_take (by tm_at "mv") (by decide) (cdiv_s (by decide) (by decide)) fun d3 H3 c3 b3 l3 u3 => ?_
      refine r_ixLm (by tm_at "mv") l3 (by exact u3) fun v hv => ?_
      have hne : D ≠ b := ne_fr' b1 nD
      obtain ⟨t, r, rfl, et, rok, ren⟩ : ∃ (t : Addr) (r : PRow), v = .ref t ∧ H3 t = some (.tup r.vs) ∧ r.ok boxes (1 + m) ∧ r.ends := by
        have e1 : H3 p1 = some (.tup [V.str (Str.ofString "stop")]) := by tm_at "mv"
        have e2 : H3 p2 = some (.tup [V.str (Str.ofString "stop")]) := by tm_at "mv"
        have e3 : H3 p3 = some (.tup [V.str (Str.ofString "go"), V.int g]) := by tm_at "mv"
        simp only [List.mem_cons, List.not_mem_nil, or_false] at hv
        rcases hv with rfl | rfl | rfl
        · exact ⟨p1, .stop, rfl, e1, trivial, trivial⟩
        · exact ⟨p2, .stop, rfl, e2, trivial, trivial⟩
        · exact ⟨p3, .go g, rfl, e3, ⟨l2, u2⟩, trivial⟩
      tm_at "rv"
      rename_i p5 n5
      have hD3 : H3 D = some (.lst (ts.map V.ref)) := by tm_at "mv"
      have hR3 : PRows H3 ts rs := hR.ts (((Sm.ts (sm_upd n1)).trans (Sm.ts (sm_upd n2))).trans ((Chg.ts (by tm_at "mv") c2).trans (((Sm.ts (sm_upd n3)).trans (Sm.ts (sm_upd n4))).trans (Chg.ts (by tm_at "mv") c3))))
      have hts := hR.len
      refine r_addL (ys := [t].map V.ref) (by tm_at "mv") upd_same (len_le (by rw [List.length_map, List.length_map]; show ts.length + 1 ≤ _; omega)) fun p6 H6 s6 n6 e6 => ?_
      tm_at "rv"
      have hR6 : PRows H6 (ts ++ [t]) (rs ++ [r]) := ((hR3.app (PRows.one et)).ts (Sm.ts (sm_upd n5))).ts (Sm.ts s6)
      have hlen : (rs ++ [r]).length = rs.length + 1 := by rw [List.length_append]; rfl
      refine k p6 H6 (rs ++ [r]) (by tm_at "ch") (by tm_at "mv") (chg_fr n6 (by tm_at "mv") (by tm_at "ch")) ⟨ts ++ [t], by rw [List.map_append]; exact e6, hR6⟩ ⟨h1, h2, by omega, by omega, fun x hx => ?_, r, ?_, ren⟩
      · have e : ((rs ++ [r]).length : Int) = 1 + m := by rw [hlen]; omega
        rw [e]
        rcases List.mem_append.mp hx with hx | hx
        · exact hok x hx
        · rw [List.mem_singleton.mp hx]
          exact rok
      · rw [hlen, List.getElem?_append_right (by omega)]
        simp
/-- a piece that stands at a place: all its goals are within it or right behind it -/
def sp_piece : Sp := fun vs H Q _ => ∃ (b : Addr) (boxes at' : Int), vs = [.ref b, .int boxes, .int at'] ∧ BoxAt H b ∧ 1 ≤ boxes ∧ boxes ≤ 5 ∧ 0 ≤ at' ∧
  ∀ l H' rs, Chg b H H' → BoxAt H' b → H l = none → RowsAt H' l rs → rs.length ≤ 6 → (∀ r ∈ rs, r.ok boxes (at' + rs.length + 1)) → Q (.ref l) H'
theorem use_piece {H : Hp} {Q : VK} {E : XK} {b : Addr} {boxes at' : Int} (h : BoxAt H b) (h1 : 1 ≤ boxes) (h2 : boxes ≤ 5) (h3 : 0 ≤ at')
    (k : ∀ l H' rs, Chg b H H' → BoxAt H' b → H l = none → RowsAt H' l rs → rs.length ≤ 6 → (∀ r ∈ rs, r.ok boxes (at' + rs.length + 1)) → Q (.ref l) H') : sp_piece [.ref b, .int boxes, .int at'] H Q E := ⟨b, boxes, at', rfl, h, h1, h2, h3, k⟩
theorem ok_piece (T : Txt K mg w) : FnOk P w K mg base CX0 2 T.f_piece T.d_piece ["box", "boxes", "at"] sp_piece := by
  refine T.F_piece.ok sc_piece (fun vs H Q E h => ?_) (fun cdv A outer s H vs Q E hr h => ?_)
  · obtain ⟨b, boxes, at', rfl, _⟩ := h
    rfl
  · obtain ⟨b, boxes, at', rfl, hB, h1, h2, h3, k⟩ := h
    refine ⟨_, (pss_cons (ps_set (i := 3) sc_piece.nd rfl (Or.inl rfl) (pe_call (ok_take T) hr (by rfl) T.g_take T.F_take.kp T.b_take .nil pass0 (pa_cons (pv 0) (pa_cons pe_int pa_nil))))
      (pss_cons (ps_set (i := 4) sc_piece.nd rfl (Or.inr rfl) (pe_call (ok_take T) hr (by rfl) T.g_take T.F_take.kp T.b_take .nil pass0 (pa_cons (pv 0) (pa_cons (pv 1) pa_nil))))
      (pss_cons (ps_if (pt_cmpR (eq_k (K := K) rfl hr.units) (pv 3) pe_int (nomark _))
      (pss_one (ps_ret (pe_op (mul_k (K := K) rfl) (pe_lst (pa_cons (pe_tup (pa_cons pe_str (pa_cons (pv 4) pa_nil))) pa_nil)) (pe_op (add_k (K := K) rfl) pe_int (pe_call (ok_take T) hr (by rfl) T.g_take T.F_take.kp T.b_take .nil pass0 (pa_cons (pv 0) (pa_cons pe_int pa_nil))))))) pss_nil)
      (pss_cons (ps_if (pt_cmpR (eq_k (K := K) rfl hr.units) (pv 3) pe_int (nomark _))
      (pss_one (ps_ret (pe_lst (pa_cons (pe_ix (ix_k (K := K) rfl) (pe_lst (pa_cons (pe_tup (pa_cons pe_str (pa_cons (pe_op (add_k (K := K) rfl) (pv 2) pe_int) pa_nil))) (pa_cons (pe_tup (pa_cons pe_str (pa_cons (pv 4) (pa_cons (pe_op (add_k (K := K) rfl) (pv 2) pe_int) pa_nil)))) pa_nil))) (pe_call (ok_take T) hr (by rfl) T.g_take T.F_take.kp T.b_take .nil pass0 (pa_cons (pv 0) (pa_cons pe_int pa_nil))) (fun _ _ => rfl)) pa_nil)))) pss_nil)
      (pss_cons (ps_set (i := 6) sc_piece.nd rfl (Or.inr rfl) (pe_lc (own := [("k", 5)]) rfl sc_piece.nd (pi_range1 (by rfl) T.z_range (pa_cons (pv 1) pa_nil)) (blkOk_by (N := ["box", "boxes", "at", "form", "j", "k", "some", "body"]) (sc := defScope s_piece) (own := [("k", 5)]) (by decide +kernel)) (fun _ _ _ _ _ => (pg_name (i := 5) sc_piece.nd rfl (Or.inl rfl))) (fun _ _ _ _ _ => (pts_one (pt_cmpR (ne_k (K := K) rfl hr.units) (pv 5) (pv 4) (nomark _)))) (fun _ _ _ _ _ => (pv 5))))
      (pss_cons (ps_setLc (i := 7) (own := [("k", 5)]) rfl sc_piece.nd rfl rfl (sw_true rfl rfl rfl (by decide +kernel)) (pi_range1 (by rfl) T.z_range (pa_cons (pe_op (mul_k (K := K) rfl) (pe_call (ok_take T) hr (by rfl) T.g_take T.F_take.kp T.b_take .nil pass0 (pa_cons (pv 0) (pa_cons pe_int pa_nil))) (pe_callTy cl_int (by rfl) T.z_int (by decide +kernel) (pa_cons (pe_cmpR op_gt (pe_callB (len_k (K := K) rfl) (by rfl) T.z_len (by decide +kernel) (pa_cons (pv 6) pa_nil)) pe_int (nomark _)) pa_nil))) pa_nil)) (blkOk_by (N := ["box", "boxes", "at", "form", "j", "k", "some", "body"]) (sc := defScope s_piece) (own := [("k", 5)]) (by decide +kernel)) (fun _ _ _ _ _ => (pg_name (i := 5) sc_piece.nd rfl (Or.inl rfl))) (fun _ _ _ _ _ => pts_nil) (fun _ _ _ _ _ => (pe_tup (pa_cons pe_str (pa_cons (pe_ix (ix_k (K := K) rfl) (pv 6) (pe_call (ok_take T) hr (by rfl) T.g_take T.F_take.kp T.b_take .nil pass0 (pa_cons (pv 0) (pa_cons (pe_callB (len_k (K := K) rfl) (by rfl) T.z_len (by decide +kernel) (pa_cons (pv 6) pa_nil)) pa_nil))) (fun _ _ => rfl)) pa_nil)))))
      (pss_one (ps_ret (pe_op (add_k (K := K) rfl) (pe_op (add_k (K := K) rfl) (pe_lst (pa_cons (pe_tup (pa_cons pe_str (pa_cons (pv 4) (pa_cons (pe_op (add_k (K := K) rfl) (pe_op (add_k (K := K) rfl) (pv 2) pe_int) (pe_callB (len_k (K := K) rfl) (by rfl) T.z_len (by decide +kernel) (pa_cons (pv 7) pa_nil))) pa_nil)))) (pa_cons (pe_tup (pa_cons pe_str (pa_cons (pv 4) pa_nil))) pa_nil))) (pv 7)) (pe_lst (pa_cons (pe_tup (pa_cons pe_str (pa_cons (pv 2) pa_nil))) pa_nil))))))))))), ?_⟩
    tm_at "rv"
    refine use_take (by tm_at "mv") (by decide) (cdiv_s (by decide) (by decide)) fun form H1 c1 b1 l1 u1 => ?_
    tm_at "rv"
    refine use_take (by tm_at "mv") (by omega) (cdiv_s (by omega) (by omega)) fun j H2 c2 b2 l2 u2 => ?_
    tm_at "rv"
    refine ite_d (fun e1 => ?_) (fun e1 => ?_)
    · tm_at "rv"
      rename_i p1 n1 p2 n2
      refine use_take (by tm_at "mv") (by decide) (cdiv_s (by decide) (by decide)) fun m H3 c3 b3 l3 u3 => ?_
      tm_at "rv"
      have e1 : H3 p1 = some (.tup (PRow.raise j).vs) := by
        show _ = some (HO.tup [V.str (Str.ofString "raise"), V.int j])
        tm_at "mv"
      have e2 : (List.replicate (1 + m).toNat [V.ref p1]).flatten = (List.replicate (1 + m).toNat p1).map V.ref := by
        generalize (1 + m).toNat = n
        induction n with
        | zero => rfl
        | succ n ih => rw [List.replicate_succ, List.flatten_cons, ih]; rfl
      refine r_mulL (xs := [V.ref p1]) (by tm_at "mv") (by omega) (by omega) (len_le (by
        show 1 * (1 + m).toNat ≤ 1000000
        omega)) fun p4 H4 s4 n4 e4 => ?_
      rw [e2] at e4
      tm_at "rv"
      refine k p4 H4 (List.replicate (1 + m).toNat (.raise j)) (by tm_at "ch") (by tm_at "mv") (chg_fr n4 (by tm_at "mv") (by tm_at "ch")) ⟨_, e4, PRows.rep (s4.to _ _ e1) _⟩ (by rw [List.length_replicate]; omega) fun r hr' => ?_
      rw [List.eq_of_mem_replicate hr']
      exact ⟨l2, u2⟩
    tm_at "rv"
    refine ite_d (fun e2 => ?_) (fun e2 => ?_)
    · tm_at "rv"
      rename_i p1 n1 p2 n2 p3 n3
      refine use_take (by tm_at "mv") (by decide) (cdiv_s (by decide) (by decide)) fun m H3 c3 b3 l3 u3 => ?_
      refine r_ixLm (by tm_at "mv") l3 (by exact u3) fun v hv => ?_
      obtain ⟨t, r, rfl, et, rok⟩ : ∃ (t : Addr) (r : PRow), v = .ref t ∧ H3 t = some (.tup r.vs) ∧ r.ok boxes (at' + 1 + 1) := by
        have e1 : H3 p1 = some (.tup [V.str (Str.ofString "go"), V.int (at' + 1)]) := by tm_at "mv"
        have e2 : H3 p2 = some (.tup [V.str (Str.ofString "if"), V.int j, V.int (at' + 1)]) := by tm_at "mv"
        simp only [List.mem_cons, List.not_mem_nil, or_false] at hv
        rcases hv with rfl | rfl
        · exact ⟨p1, .go _, rfl, e1, by omega, by omega⟩
        · exact ⟨p2, .iff _ _, rfl, e2, ⟨l2, u2⟩, by omega, by omega⟩
      tm_at "rv"
      rename_i p5 n5
      exact k p5 _ [r] (by tm_at "ch") (by tm_at "mv") (chg_fr n5 (by tm_at "mv") (by tm_at "ch")) ⟨[t], upd_same, PRows.one ((sm_upd n5).to _ _ et)⟩ (by show 1 ≤ 6; decide) fun x hx => by
        rw [List.mem_singleton.mp hx]
        exact rok
    tm_at "rv"
    intro S nS
    refine lc_range (lo := 0) (n := boxes.toNat) (fun i H' => ∃ ns : List Int, H' S = some (.lst (ns.map V.int)) ∧ ns.length ≤ i ∧ (∀ n ∈ ns, 0 ≤ n ∧ n < boxes) ∧ Chg b H2 H' ∧ BoxAt H' b) ⟨[], upd_same, Nat.le_refl _, by simp, (sm_upd nS).chg, b2.sm (sm_upd nS)⟩ ?_ ?_
    · rintro i Hi hi ⟨ns, hS, hl, hns, ci, bi⟩
      tm_at "rv"
      refine ite_n (fun e3 => ?_) (fun e3 => ?_)
      · tm_at "rv"
        have hne : S ≠ b := ne_fr' b2 nS
        refine r_acc hS (small1000 (by rw [List.length_map]; omega)) ⟨ns ++ [0 + (i : Int)], ?_, ?_, ?_, ?_, ?_⟩
        · rw [upd_same, List.map_append]
          rfl
        · rw [List.length_append]
          show _ + 1 ≤ _
          omega
        · intro x hx
          rcases List.mem_append.mp hx with hx | hx
          · exact hns x hx
          · rw [List.mem_singleton.mp hx]
            omega
        · tm_at "ch"
        · tm_at "mv"
      · exact ⟨ns, hS, by omega, hns, ci, bi⟩
    · rintro Hi ⟨ns, hS, hl, hns, ci, bi⟩
      have hlen : (ns.map V.int).length = ns.length := List.length_map _
      tm_at "rv"
      refine use_take (by tm_at "mv") (by decide) (cdiv_s (by decide) (by decide)) fun d3 H3 c3 b3 l3 u3 => ?_
      have hne : S ≠ b := ne_fr' b2 nS
      have hS3 : H3 S = some (.lst (ns.map V.int)) := by tm_at "mv"
      tm_at "rv"
      obtain ⟨N, hN⟩ : ∃ N, N = d3 * (if decide ((0 : Int) < ((ns.map V.int).length : Int)) = true then 1 else 0) := ⟨_, rfl⟩
      have hN2 : 0 ≤ N ∧ N < 4 ∧ (0 < N → 0 < ns.length) := by
        rw [hlen] at hN
        by_cases h0 : (0 : Int) < (ns.length : Int)
        · rw [decide_eq_true h0, if_pos rfl] at hN
          omega
        · rw [decide_eq_false h0, if_neg (by decide)] at hN
          omega
      rw [← hN]
      tm_at "rv"
      intro D nD
      refine lc_range (lo := 0) (n := N.toNat) (fun i H' => ∃ (ts : List Addr) (rs : List PRow), H' D = some (.lst (ts.map V.ref)) ∧ PRows H' ts rs ∧ rs.length = i ∧ (∀ r ∈ rs, r.ok boxes 0) ∧ Chg b H3 H' ∧ BoxAt H' b) ⟨[], [], upd_same, trivial, rfl, by simp, (sm_upd nD).chg, b3.sm (sm_upd nD)⟩ ?_ ?_
      · rintro i Hj hi ⟨ts, rs, hD, hR, hrl, hok, cj, bj⟩
        have hDS : S ≠ D := ne_fr nD hS3
        have hSj : Hj S = some (.lst (ns.map V.int)) := cj.to _ _ hne hS3
        tm_at "rv"
        refine use_take (by tm_at "mv") (by omega) (cdiv_s (by omega) (by omega)) fun d4 H4 c4 b4 l4 u4 => ?_
        refine r_ixLi (ns := ns) (by tm_at "mv") rfl l4 (by omega) fun x hx => ?_
        tm_at "rv"
        rename_i t nt
        have hneD : D ≠ b := ne_fr' b3 nD
        have hD4 : H4 D = some (.lst (ts.map V.ref)) := c4.to _ _ hneD hD
        have hD5 : upd H4 t (.tup [V.str (Str.ofString "raise"), V.int x]) D = some (.lst (ts.map V.ref)) := (sm_upd nt).to _ _ hD4
        have hts := hR.len
        refine r_acc hD5 (small1000 (by rw [List.length_map]; omega)) ⟨ts ++ [t], rs ++ [.raise x], ?_, ?_, ?_, ?_, ?_, ?_⟩
        · rw [upd_same, List.map_append]
          rfl
        · exact (((hR.ts (Chg.ts bj c4)).ts (Sm.ts (sm_upd nt))).app (PRows.one (r := .raise x) upd_same)).ts (lst_ts hD5)
        · rw [List.length_append, hrl]
          rfl
        · intro y hy
          rcases List.mem_append.mp hy with hy | hy
          · exact hok y hy
          · rw [List.mem_singleton.mp hy]
            exact hns x hx
        · tm_at "ch"
        · tm_at "mv"
      · rintro Hj ⟨ts, rs, hD, hR, hrl, hok, cj, bj⟩
        have hts := hR.len
        have hlt : (ts.map V.ref).length = ts.length := List.length_map _
        tm_at "rv"
        rename_i p1 n1 p2 n2 p3 n3
        have e1 : upd (upd (upd Hj p1 (.tup [V.str (Str.ofString "if"), V.int j, V.int (at' + 3 + ((ts.map V.ref).length : Int))])) p2 (.tup [V.str (Str.ofString "lower"), V.int j])) p3 (.lst [V.ref p1, V.ref p2]) p1 = some (.tup (PRow.iff j (at' + 3 + ((ts.map V.ref).length : Int))).vs) := by
          show _ = some (HO.tup [V.str (Str.ofString "if"), V.int j, V.int (at' + 3 + ((ts.map V.ref).length : Int))])
          tm_at "mv"
        have e2 : upd (upd (upd Hj p1 (.tup [V.str (Str.ofString "if"), V.int j, V.int (at' + 3 + ((ts.map V.ref).length : Int))])) p2 (.tup [V.str (Str.ofString "lower"), V.int j])) p3 (.lst [V.ref p1, V.ref p2]) p2 = some (.tup (PRow.lower j).vs) := by
          show _ = some (HO.tup [V.str (Str.ofString "lower"), V.int j])
          tm_at "mv"
        have hD3 : upd (upd (upd Hj p1 (.tup [V.str (Str.ofString "if"), V.int j, V.int (at' + 3 + ((ts.map V.ref).length : Int))])) p2 (.tup [V.str (Str.ofString "lower"), V.int j])) p3 (.lst [V.ref p1, V.ref p2]) D = some (.lst (ts.map V.ref)) := by tm_at "mv"
        refine r_addL (xs := [p1, p2].map V.ref) upd_same hD3 (len_le (by rw [hlt]; show 2 + _ ≤ _; omega)) fun p4 H4 s4 n4 e4 => ?_
        have hR4 : PRows H4 ([p1, p2] ++ ts) ([PRow.iff j (at' + 3 + ((ts.map V.ref).length : Int)), PRow.lower j] ++ rs) := PRows.app ⟨s4.to _ _ e1, s4.to _ _ e2, trivial⟩ (hR.ts (Sm.ts (by tm_at "sm")))
        tm_at "rv"
        rename_i p5 n5 p6 n6
        have e5 : upd (upd H4 p5 (.tup [V.str (Str.ofString "go"), V.int at'])) p6 (.lst [V.ref p5]) p5 = some (.tup (PRow.go at').vs) := by
          show _ = some (HO.tup [V.str (Str.ofString "go"), V.int at'])
          tm_at "mv"
        rw [← List.map_append] at e4
        have e46 : upd (upd H4 p5 (.tup [V.str (Str.ofString "go"), V.int at'])) p6 (.lst [V.ref p5]) p4 = some (.lst (([p1, p2] ++ ts).map V.ref)) := by tm_at "mv"
        have hl4 : (([p1, p2] ++ ts).map V.ref).length = ts.length + 2 := by
          rw [List.length_map, List.length_append]
          show 2 + _ = _
          omega
        refine r_addL (ys := [p5].map V.ref) e46 upd_same (len_le (by rw [hl4]; show _ + 1 ≤ _; omega)) fun p7 H7 s7 n7 e7 => ?_
        rw [← List.map_append] at e7
        have hR7 : PRows H7 ([p1, p2] ++ ts ++ [p5]) ([PRow.iff j (at' + 3 + ((ts.map V.ref).length : Int)), PRow.lower j] ++ rs ++ [PRow.go at']) := PRows.app (hR4.ts (Sm.ts (by tm_at "sm"))) (PRows.one (s7.to _ _ e5))
        have hl7 : ([PRow.iff j (at' + 3 + ((ts.map V.ref).length : Int)), PRow.lower j] ++ rs ++ [PRow.go at']).length = rs.length + 3 := by
          rw [List.length_append, List.length_append]
          show 2 + _ + 1 = _
          omega
        have c7 : Chg b H H7 := by tm_at "ch"
        have b7 : BoxAt H7 b := by tm_at "mv"
        refine k p7 H7 _ c7 b7 (chg_fr n7 (by tm_at "mv") (by tm_at "ch")) ⟨_, e7, hR7⟩ (by rw [hl7]; omega) fun r hr' => ?_
        rw [hl7]
        rcases List.mem_append.mp hr' with hr' | hr'
        · rcases List.mem_append.mp hr' with hr' | hr'
          · rcases List.mem_cons.mp hr' with rfl | hr'
            · exact ⟨⟨l2, u2⟩, by omega, by omega⟩
            · rw [List.mem_singleton.mp hr']
              exact ⟨l2, u2⟩
          · exact (hok r hr').mono (by omega)
        · rw [List.mem_singleton.mp hr']
          exact ⟨h3, by omega⟩
/-- rows that come to an end, a program -/
def sp_some_program : Sp := fun vs H Q _ => ∃ (b : Addr), vs = [.ref b] ∧ BoxAt H b ∧
  ∀ t l H' boxes rs, Chg b H H' → BoxAt H' b → H t = none → H l = none → H' t = some (.tup [.int boxes, .ref l]) → RowsAt H' l rs → ProgOk boxes rs → Q (.ref t) H'
theorem use_some_program {H : Hp} {Q : VK} {E : XK} {b : Addr} (h : BoxAt H b) (k : ∀ t l H' boxes rs, Chg b H H' → BoxAt H' b → H t = none → H l = none → H' t = some (.tup [.int boxes, .ref l]) → RowsAt H' l rs → ProgOk boxes rs → Q (.ref t) H') : sp_some_program [.ref b] H Q E := ⟨b, rfl, h, k⟩
theorem ok_ending_rows (T : Txt K mg w) : FnOk P w K mg base CX0 3 T.f_ending_rows T.d_ending_rows ["box", "boxes"] sp_any_rows := by
  refine T.F_ending_rows.ok sc_ending_rows (fun vs H Q E h => ?_) (fun cdv A outer s H vs Q E hr h => ?_)
  · obtain ⟨b, boxes, rfl, _⟩ := h
    rfl
  · obtain ⟨b, boxes, rfl, hB, h1, h2, k⟩ := h
    refine ⟨_, (pss_cons (ps_set (i := 2) sc_ending_rows.nd rfl (Or.inl rfl) (pe_lst pa_nil))
      (pss_cons (ps_for PassesOwn.never rfl (pi_range1 (by rfl) T.z_range (pa_cons (pe_op (add_k (K := K) rfl) pe_int (pe_call (ok_take T) (hr.mono (by decide)) (by rfl) T.g_take T.F_take.kp T.b_take .nil pass0 (pa_cons (pv 0) (pa_cons pe_int pa_nil)))) pa_nil)) (pg_name (i := 3) sc_ending_rows.nd rfl (Or.inl rfl))
      (pss_cons (ps_set (i := 4) sc_ending_rows.nd rfl (Or.inl rfl) (pe_call (ok_piece T) hr (by rfl) T.g_piece T.F_piece.kp T.b_piece .nil pass0 (pa_cons (pv 0) (pa_cons (pv 1) (pa_cons (pe_callB (len_k (K := K) rfl) (by rfl) T.z_len (by decide +kernel) (pa_cons (pv 2) pa_nil)) pa_nil)))))
      (pss_one (ps_if (pt_cmpR op_lt (pe_op (add_k (K := K) rfl) (pe_callB (len_k (K := K) rfl) (by rfl) T.z_len (by decide +kernel) (pa_cons (pv 2) pa_nil)) (pe_callB (len_k (K := K) rfl) (by rfl) T.z_len (by decide +kernel) (pa_cons (pv 4) pa_nil))) pe_int (nomark _))
      (pss_one (ps_set (i := 2) sc_ending_rows.nd rfl (Or.inl rfl) (pe_op (add_k (K := K) rfl) (pv 2) (pv 4)))) pss_nil))))
      (pss_cons (ps_if (PW.pt (pw_and (pt_cmpR (eq_k (K := K) rfl hr.units) (pe_call (ok_take T) (hr.mono (by decide)) (by rfl) T.g_take T.F_take.kp T.b_take .nil pass0 (pa_cons (pv 0) (pa_cons pe_int pa_nil))) pe_int (nomark _)) (pw_and1 (pt_cmpR op_lt (pe_callB (len_k (K := K) rfl) (by rfl) T.z_len (by decide +kernel) (pa_cons (pv 2) pa_nil)) pe_int (nomark _)))))
      (pss_one (ps_set (i := 2) sc_ending_rows.nd rfl (Or.inl rfl) (pe_op (add_k (K := K) rfl) (pv 2) (pe_lst (pa_cons (pe_tup (pa_cons pe_str (pa_cons (pe_call (ok_take T) (hr.mono (by decide)) (by rfl) T.g_take T.F_take.kp T.b_take .nil pass0 (pa_cons (pv 0) (pa_cons (pv 1) pa_nil))) (pa_cons (pe_op (add_k (K := K) rfl) (pe_callB (len_k (K := K) rfl) (by rfl) T.z_len (by decide +kernel) (pa_cons (pv 2) pa_nil)) pe_int) pa_nil)))) (pa_cons (pe_tup (pa_cons pe_str pa_nil)) pa_nil)))))) pss_nil)
      (pss_one (ps_ret (pe_op (add_k (K := K) rfl) (pv 2) (pe_lst (pa_cons (pe_tup (pa_cons pe_str pa_nil)) pa_nil)))))))), ?_⟩
    tm_at "rv"
    rename_i p0 n0
    refine use_take (by tm_at "mv") (by decide) (cdiv_s (by decide) (by decide)) fun m H1 c1 b1 l1 u1 => ?_
    tm_at "rv"
    have p0b : p0 ≠ b := ne_fr' hB n0
    have e0 : H1 p0 = some (.lst []) := c1.to _ _ p0b upd_same
    have c01 : Chg b H H1 := by tm_at "ch"
    refine for_range (lo := 0) (n := (1 + m).toNat) (fun i σ H' => (∃ x3 x4, ∃ (l : Addr) (rs : List PRow), σ = [some (.ref b), some (.int boxes), some (.ref l), x3, x4] ∧ l ≠ b ∧ H l = none ∧ RowsAt H' l rs ∧ rs.length ≤ 12 ∧ (∀ r ∈ rs, r.ok boxes (rs.length + 1))) ∧ Chg b H H' ∧ BoxAt H' b)
      ⟨⟨_, _, p0, [], rfl, p0b, n0, ⟨[], e0, trivial⟩, by decide, by simp⟩, c01, b1⟩ ?_ ?_
    · rintro i σ Hi hi ⟨⟨x3, x4, l, rs, rfl, hlb, hln, ⟨ts, eL, hR⟩, hlen, hok⟩, ci, bi⟩
      have hts := hR.len
      have hlt : (ts.map V.ref).length = ts.length := List.length_map _
      tm_at "rv"
      refine use_piece (by tm_at "mv") h1 h2 (by omega) fun q H2 qs c2 b2 nq ⟨us, eQ, hU⟩ hql hqok => ?_
      have hus := hU.len
      have hlu : (us.map V.ref).length = us.length := List.length_map _
      have eL2 : H2 l = some (.lst (ts.map V.ref)) := c2.to _ _ hlb eL
      have hR2 := hR.ts (Chg.ts bi c2)
      tm_at "rv"
      refine ite_d (fun e3 => ?_) (fun e3 => ?_)
      · tm_at "rv"
        refine r_addL eL2 eQ (len_le (by rw [hlt, hlu]; omega)) fun p3 H3 s3 n3 e3' => ?_
        rw [← List.map_append] at e3'
        have b3 : BoxAt H3 b := b2.sm s3
        have c3 : Chg b H H3 := by tm_at "ch"
        tm_at "rv"
        refine ⟨⟨_, _, p3, rs ++ qs, rfl, (box_ne n3 b2).symm, chg_fr n3 b2 (by tm_at "ch"), ⟨ts ++ us, e3', (hR2.app hU).ts (Sm.ts s3)⟩, by rw [List.length_append]; omega, fun r hr' => ?_⟩, c3, b3⟩
        rw [List.length_append]
        rcases List.mem_append.mp hr' with hr' | hr'
        · exact (hok r hr').mono (by omega)
        · exact (hqok r hr').mono (by omega)
      · tm_at "rv"
        exact ⟨⟨_, _, l, rs, rfl, hlb, hln, ⟨ts, eL2, hR2⟩, hlen, hok⟩, ci.trans c2, b2⟩
    · rintro σ Hi ⟨⟨x3, x4, l, rs, rfl, hlb, hln, ⟨ts, eL, hR⟩, hlen, hok⟩, ci, bi⟩
      have fin : ∀ (l : Addr) (ts : List Addr) (rs : List PRow) (H' : Hp) (p1 p2 : Addr), H' p1 = none → upd H' p1 (.tup [V.str (Str.ofString "stop")]) p2 = none → H' l = some (.lst (ts.map V.ref)) → PRows H' ts rs → rs.length ≤ 13 → (∀ r ∈ rs, r.ok boxes (rs.length + 1)) → Chg b H H' → BoxAt H' b →
          rAddA K (V.ref l) (V.ref p2) (upd (upd H' p1 (.tup [V.str (Str.ofString "stop")])) p2 (.lst [V.ref p1])) Q := by
        intro l ts rs H' p1 p2 n1 n2 eL hR hlen hok c' b'
        have hts := hR.len
        have hlt : (ts.map V.ref).length = ts.length := List.length_map _
        refine r_addL (ys := [p1].map V.ref) (by tm_at "mv") upd_same (len_le (by rw [hlt]; show _ + 1 ≤ _; omega)) fun p3 H3 s3 n3 e3 => ?_
        rw [← List.map_append] at e3
        have e1 : H3 p1 = some (.tup PRow.stop.vs) := by
          show _ = some (HO.tup [V.str (Str.ofString "stop")])
          tm_at "mv"
        have hR3 : PRows H3 (ts ++ [p1]) (rs ++ [.stop]) := PRows.app (hR.ts (Sm.ts (by tm_at "sm"))) (PRows.one e1)
        have hl3 : (rs ++ [PRow.stop]).length = rs.length + 1 := by rw [List.length_append]; rfl
        refine k p3 H3 _ (by tm_at "ch") (by tm_at "mv") (chg_fr n3 (by tm_at "mv") (by tm_at "ch")) ⟨_, e3, hR3⟩ ⟨h1, h2, by omega, by omega, fun r hr' => ?_, .stop, ?_, trivial⟩
        · rw [hl3]
          rcases List.mem_append.mp hr' with hr' | hr'
          · exact (hok r hr').mono (by omega)
          · rw [List.mem_singleton.mp hr']
            trivial
        · rw [hl3, List.getElem?_append_right (by omega)]
          simp
      have hts := hR.len
      have hlt : (ts.map V.ref).length = ts.length := List.length_map _
      tm_at "rv"
      refine use_take (by tm_at "mv") (by decide) (cdiv_s (by decide) (by decide)) fun d2 H2 c2 b2 l2 u2 => ?_
      have eL2 : H2 l = some (.lst (ts.map V.ref)) := c2.to _ _ hlb eL
      have hR2 := hR.ts (Chg.ts bi c2)
      tm_at "rv"
      refine ite_d (fun e3 => ?_) (fun e3 => ?_)
      · tm_at "rv"
        refine ite_d (fun e4 => ?_) (fun e4 => ?_)
        · tm_at "rv"
          refine use_take (by tm_at "mv") (by omega) (cdiv_s (by omega) (by omega)) fun j H3 c3 b3 l3 u3 => ?_
          have eL3 : H3 l = some (.lst (ts.map V.ref)) := c3.to _ _ hlb eL2
          have hR3 := hR2.ts (Chg.ts b2 c3)
          tm_at "rv"
          rename_i p1 n1 p2 n2 p3 n3
          refine r_addL (ys := [p1, p2].map V.ref) (by tm_at "mv") upd_same (len_le (by rw [hlt]; show _ + 2 ≤ _; omega)) fun p4 H4 s4 n4 e4' => ?_
          rw [← List.map_append] at e4'
          have e1 : H4 p1 = some (.tup (PRow.iff j ((ts.map V.ref).length + 2)).vs) := by
            show _ = some (HO.tup [V.str (Str.ofString "if"), V.int j, V.int ((ts.map V.ref).length + 2)])
            tm_at "mv"
          have e2 : H4 p2 = some (.tup PRow.stop.vs) := by
            show _ = some (HO.tup [V.str (Str.ofString "stop")])
            tm_at "mv"
          have hR4 : PRows H4 (ts ++ [p1, p2]) (rs ++ [.iff j ((ts.map V.ref).length + 2), .stop]) := PRows.app (hR3.ts (Sm.ts (by tm_at "sm"))) ⟨e1, e2, trivial⟩
          have hl4 : (rs ++ [PRow.iff j ((ts.map V.ref).length + 2), PRow.stop]).length = rs.length + 2 := by rw [List.length_append]; rfl
          have c4 : Chg b H H4 := by tm_at "ch"
          have b4 : BoxAt H4 b := by tm_at "mv"
          tm_at "rv"
          rename_i q1 m1 q2 m2
          refine fin p4 _ _ H4 q1 q2 m1 m2 e4' hR4 (by omega) (fun r hr' => ?_) c4 b4
          rw [hl4]
          rcases List.mem_append.mp hr' with hr' | hr'
          · exact (hok r hr').mono (by omega)
          · rcases List.mem_cons.mp hr' with rfl | hr'
            · exact ⟨⟨l3, u3⟩, by omega, by omega⟩
            · rw [List.mem_singleton.mp hr']
              trivial
        · tm_at "rv"
          rename_i q1 m1 q2 m2
          exact fin l _ _ H2 q1 q2 m1 m2 eL2 hR2 (by omega) hok (by tm_at "ch") b2
      · tm_at "rv"
        rename_i q1 m1 q2 m2
        exact fin l _ _ H2 q1 q2 m1 m2 eL2 hR2 (by omega) hok (by tm_at "ch") b2
theorem ok_some_program (T : Txt K mg w) : FnOk P w K mg base CX0 4 T.f_some_program T.d_some_program ["box"] sp_some_program := by
  refine T.F_some_program.ok sc_some_program (fun vs H Q E h => ?_) (fun cdv A outer s H vs Q E hr h => ?_)
  · obtain ⟨b, rfl, _⟩ := h
    rfl
  · obtain ⟨b, rfl, hB, k⟩ := h
    refine ⟨_, (pss_cons (ps_set (i := 1) sc_some_program.nd rfl (Or.inl rfl) (pe_op (add_k (K := K) rfl) pe_int (pe_call (ok_take T) (hr.mono (by decide)) (by rfl) T.g_take T.F_take.kp T.b_take .nil pass0 (pa_cons (pv 0) (pa_cons pe_int pa_nil)))))
      (pss_cons (ps_if (pt_cmpR (eq_k (K := K) rfl hr.units) (pe_call (ok_take T) (hr.mono (by decide)) (by rfl) T.g_take T.F_take.kp T.b_take .nil pass0 (pa_cons (pv 0) (pa_cons pe_int pa_nil))) pe_int (nomark _))
      (pss_one (ps_ret (pe_tup (pa_cons (pv 1) (pa_cons (pe_call (ok_any_rows T) hr (by rfl) T.g_any_rows T.F_any_rows.kp T.b_any_rows .nil pass0 (pa_cons (pv 0) (pa_cons (pv 1) pa_nil))) pa_nil))))) pss_nil)
      (pss_one (ps_ret (pe_tup (pa_cons (pv 1) (pa_cons (pe_call (ok_ending_rows T) hr (by rfl) T.g_ending_rows T.F_ending_rows.kp T.b_ending_rows .nil pass0 (pa_cons (pv 0) (pa_cons (pv 1) pa_nil))) pa_nil))))))), ?_⟩
    tm_at "rv"
    refine use_take (by tm_at "mv") (by decide) (cdiv_s (by decide) (by decide)) fun m H1 c1 b1 l1 u1 => ?_
    tm_at "rv"
    refine use_take (by tm_at "mv") (by decide) (cdiv_s (by decide) (by decide)) fun d H2 c2 b2 l2 u2 => ?_
    tm_at "rv"
    refine ite_d (fun e1 => ?_) (fun e1 => ?_)
    · tm_at "rv"
      refine use_any_rows b2 (by omega) (by omega) fun l H3 rs c3 b3 nl rl ok3 => ?_
      tm_at "rv"
      rename_i t nt
      exact k t l _ _ rs (by tm_at "ch") (by tm_at "mv") (chg_fr nt b3 (by tm_at "ch")) (chg_fr nl b2 (by tm_at "ch")) upd_same (rl.sm (sm_upd nt)) ok3
    · tm_at "rv"
      refine use_any_rows b2 (by omega) (by omega) fun l H3 rs c3 b3 nl rl ok3 => ?_
      tm_at "rv"
      rename_i t nt
      exact k t l _ _ rs (by tm_at "ch") (by tm_at "mv") (chg_fr nt b3 (by tm_at "ch")) (chg_fr nl b2 (by tm_at "ch")) upd_same (rl.sm (sm_upd nt)) ok3

def sp_law (K : PySem.W.Frag) : Sp := fun vs H Q _ => ∃ (a : Addr) (ns : List Int), vs = [.ref a] ∧ SqL K H a (ns.map V.int) ∧ ns.length ≤ 63 ∧ ∀ H', Q (.bl true) H'
theorem sp_law_of {K : PySem.W.Frag} {H : Hp} {a : Addr} {ns : List Int} (h1 : ns.length ≤ 63) (h : SqL K H a (ns.map V.int)) : sp_law K [.ref a] H (fun v _ => v = .bl true) fun _ _ _ => False := ⟨a, ns, rfl, h, h1, fun _ => rfl⟩

def PairAt (A : Addr) (H : Hp) (x : V) : Prop := ∃ (t l : Addr) (boxes : Int) (ts : List Addr) (rs : List PRow), x = .ref t ∧ H t = some (.tup [.int boxes, .ref l]) ∧ H l = some (.lst (ts.map V.ref)) ∧ PRows H ts rs ∧ l ≠ A ∧ ProgOk boxes rs
theorem PairAt.sm {A : Addr} {H H' : Hp} {x : V} (s : Sm H H') (h : PairAt A H x) : PairAt A H' x := by
  obtain ⟨t, l, boxes, ts, rs, rfl, et, el, hp, hne, g⟩ := h
  exact ⟨t, l, boxes, ts, rs, rfl, s.to _ _ et, s.to _ _ el, hp.ts (Sm.ts s), hne, g⟩
theorem kp_pair (A : Addr) : KpA A (PairAt A) := by
  refine ⟨fun s h => h.sm s, fun hA h => ?_⟩
  obtain ⟨t, l, boxes, ts, rs, rfl, et, el, hp, hne, g⟩ := h
  refine ⟨t, l, boxes, ts, rs, rfl, ?_, ?_, hp.ts (lst_ts hA), hne, g⟩
  · rw [upd_ne (ne_of et hA (by intro z; cases z))]
    exact et
  · rw [upd_ne hne]
    exact el
theorem ok_law (T : Txt K mg w) : FnG P w K mg base CX0 8 T.f_law T.d_law ["script"] (sp_law K) := by
  refine okG T.F_law sc_law (fun vs H Q E h => ?_) (fun cdv A outer s H vs Q E hr hg h => ?_)
  · obtain ⟨a, ns, rfl, _⟩ := h
    rfl
  · obtain ⟨a, ns, rfl, hS, hn, k⟩ := h
    refine ⟨_, (pss_cons (ps_setLc (i := 2) (own := [("k", 1)]) rfl sc_law.nd rfl rfl (sw_true rfl rfl rfl (by decide +kernel)) (pi_range1 (by rfl) T.z_range (pa_cons (pe_callB (max_k (K := K) rfl rfl) (by rfl) T.z_max (by decide +kernel) (pa_cons pe_int (pa_cons (pe_callB (min_k (K := K) rfl rfl) (by rfl) T.z_min (by decide +kernel) (pa_cons pe_int (pa_cons (pe_callB (len_k (K := K) rfl) (by rfl) T.z_len (by decide +kernel) (pa_cons (pv 0) pa_nil)) pa_nil))) pa_nil))) pa_nil)) (blkOk_by (N := ["script", "k", "asked", "boxes", "rows"]) (sc := defScope s_law) (own := [("k", 1)]) (by decide +kernel)) (fun _ _ _ _ _ => (pg_name (i := 1) sc_law.nd rfl (Or.inl rfl))) (fun _ _ _ _ _ => pts_nil) (fun _ _ _ _ _ => (pe_call (ok_some_program T) (hr.mono (by decide)) (by rfl) T.g_some_program T.F_some_program.kp T.b_some_program .nil pass0 (pa_cons (pe_call (ok_box T) (hr.mono (by decide)) (by rfl) T.g_box T.F_box.kp T.b_box .nil pass0 (pa_cons (pv 0) (pa_cons (pv 1) pa_nil))) pa_nil))))
      (pss_cons (ps_for PassesOwn.never rfl (any_pi (K := K) rfl (pe_op (add_k (K := K) rfl) (pv 2) (pe_slice (sl_k (K := K) rfl) (pv 2) po_none (po_some pe_int)))) (pg_tup rfl (pgs_cons (pg_name (i := 3) sc_law.nd rfl (Or.inl rfl)) (pgs_cons (pg_name (i := 4) sc_law.nd rfl (Or.inl rfl)) pgs_nil)))
      (pss_one (ps_if (pt_not (truth_k (K := K) rfl (pe_callG (ok_right T) hg hr (by rfl) T.g_right T.F_right.kp T.b_right pass0 (pa_cons (pv 3) (pa_cons (pv 4) pa_nil))) (by intro _; rfl)))
      (pss_one (ps_ret pe_bl)) pss_nil)))
      (pss_one (ps_ret pe_bl)))), ?_⟩
    have hlen : (ns.map V.int).length = ns.length := List.length_map _
    tm_at "rv"
    rename_i _ _ _ _ m2 _ _ _
    intro A nA
    refine lc_range (lo := 0) (n := m2.toNat) (fun i H' => ∃ xs : List V, H' A = some (.lst xs) ∧ xs.length = i ∧ Sm H H' ∧ ∀ x ∈ xs, PairAt A H' x) ⟨[], upd_same, rfl, sm_upd nA, by simp⟩ ?_ ?_
    · rintro i Hi hi ⟨xs, hA, ht, si, ha⟩
      tm_at "rv"
      refine use_box (si.seq hS) (by omega) fun b H2 s2 n2 b2 => ?_
      tm_at "rv"
      refine use_some_program b2 fun tp l H3 boxes rs c3 b3 ntp nl etp RA good => ?_
      obtain ⟨ts, el, hp⟩ := RA
      have s3 : Sm Hi H3 := Chg.sm s2 n2 c3
      have hA3 := s3.to _ _ hA
      have hlA : l ≠ A := (ne_of_none (s2.to _ _ hA) nl).symm
      tm_at "rv"
      refine r_acc hA3 (len_lt (by omega)) ⟨xs ++ [.ref tp], upd_same, by rw [List.length_append, ht]; rfl, sm_acc (si.trans s3) nA, ?_⟩
      exact (kp_pair A).add hA ha s3 ⟨tp, l, boxes, ts, rs, rfl, etp, el, hp, hlA, good⟩
    · rintro Hi ⟨xs, hA, ht, si, ha⟩
      tm_at "rv"
      refine r_iL ?_
      tm_at "rv"
      refine r_slL (SqL.of hA) fun p np => ?_
      have hc := cutV_le xs none (some 1)
      refine r_addL ((sm_upd np).to _ _ hA) upd_same (len_le (by omega)) fun q H5 s5 nq eq => ?_
      have s15 := (sm_upd (o := .lst (cutV xs none (some 1))) np).trans s5
      refine r_aL (SqL.of eq) ?_
      refine for_list (K := K) (a := q) (xs := xs ++ cutV xs none (some 1)) (fun l σ H' => (∃ x1 x3 x4, σ = [some (.ref a), x1, some (.ref A), x3, x4]) ∧ Sm H5 H') ⟨⟨_, _, _, rfl⟩, Sm.refl _⟩ (fun l σ H' _ h => h.2.seq (SqL.of eq)) ?_ ?_
      · rintro i x σ H6 hx ⟨⟨x1, x3, x4, rfl⟩, s6⟩
        have hm : x ∈ xs := by
          rcases List.mem_append.mp (List.mem_of_getElem? hx) with hm | hm
          · exact hm
          · exact cutV_mem hm
        obtain ⟨t, l, boxes, ts, rs, rfl, et, el, hp, hne, good⟩ := (ha x hm).sm (s15.trans s6)
        tm_at "rv"
        refine use_right el hp good fun H7 s7 => ?_
        tm_at "rv"
        exact ⟨⟨_, _, _, rfl⟩, s6.trans s7⟩
      · rintro σ H6 ⟨⟨x1, x3, x4, rfl⟩, s6⟩
        tm_at "rv"
        exact k _
end
theorem all_mk {l : PySem.W.OpenLaw} {w : World} {K : PySem.W.Frag} {h : Heap} {mg : Str → Option Value} {fa : Addr} (X : K.In h) (G : h.Ns mainGlobals mg) (hfa : mg "law" = some (.ref fa))
    {C_Program : Addr}
    {f0 : Addr}
    {od0 an0 : Option Addr}
    {sl0 : Array (Option Value)}
    {oc0 kV0 dc0 pm0 cd0 ct0 : Value}
    {f1 : Addr}
    {od1 an1 : Option Addr}
    {sl1 : Array (Option Value)}
    {oc1 kV1 dc1 pm1 cd1 ct1 : Value}
    {f2 : Addr}
    {od2 an2 : Option Addr}
    {sl2 : Array (Option Value)}
    {oc2 kV2 dc2 pm2 cd2 ct2 : Value}
    {f3 : Addr}
    {od3 an3 : Option Addr}
    {sl3 : Array (Option Value)}
    {oc3 kV3 dc3 pm3 cd3 ct3 : Value}
    {f4 : Addr}
    {od4 an4 : Option Addr}
    {sl4 : Array (Option Value)}
    {oc4 kV4 dc4 pm4 cd4 ct4 : Value}
    {f5 : Addr}
    {od5 an5 : Option Addr}
    {sl5 : Array (Option Value)}
    {oc5 kV5 dc5 pm5 cd5 ct5 : Value}
    {f6 : Addr}
    {od6 an6 : Option Addr}
    {sl6 : Array (Option Value)}
    {oc6 kV6 dc6 pm6 cd6 ct6 : Value}
    {f7 : Addr}
    {od7 an7 : Option Addr}
    {sl7 : Array (Option Value)}
    {oc7 kV7 dc7 pm7 cd7 ct7 : Value}
    {f8 : Addr}
    {od8 an8 : Option Addr}
    {sl8 : Array (Option Value)}
    {oc8 kV8 dc8 pm8 cd8 ct8 : Value}
    {f9 : Addr}
    {od9 an9 : Option Addr}
    {sl9 : Array (Option Value)}
    {oc9 kV9 dc9 pm9 cd9 ct9 : Value}
    {f10 : Addr}
    {od10 an10 : Option Addr}
    {sl10 : Array (Option Value)}
    {oc10 kV10 dc10 pm10 cd10 ct10 : Value}
    {f11 : Addr}
    {od11 an11 : Option Addr}
    {sl11 : Array (Option Value)}
    {oc11 kV11 dc11 pm11 cd11 ct11 : Value}
    {f12 : Addr}
    {od12 an12 : Option Addr}
    {sl12 : Array (Option Value)}
    {oc12 kV12 dc12 pm12 cd12 ct12 : Value}
    {f13 : Addr}
    {od13 an13 : Option Addr}
    {sl13 : Array (Option Value)}
    {oc13 kV13 dc13 pm13 cd13 ct13 : Value}
    {f14 : Addr}
    {od14 an14 : Option Addr}
    {sl14 : Array (Option Value)}
    {oc14 kV14 dc14 pm14 cd14 ct14 : Value}
    {f15 : Addr}
    {od15 an15 : Option Addr}
    {sl15 : Array (Option Value)}
    {oc15 kV15 dc15 pm15 cd15 ct15 : Value}
    {f16 : Addr}
    {od16 an16 : Option Addr}
    {sl16 : Array (Option Value)}
    {oc16 kV16 dc16 pm16 cd16 ct16 : Value}
    {f17 : Addr}
    {od17 an17 : Option Addr}
    {sl17 : Array (Option Value)}
    {oc17 kV17 dc17 pm17 cd17 ct17 : Value}
    {f18 : Addr}
    {od18 an18 : Option Addr}
    {sl18 : Array (Option Value)}
    {oc18 kV18 dc18 pm18 cd18 ct18 : Value}
    {f19 : Addr}
    {od19 an19 : Option Addr}
    {sl19 : Array (Option Value)}
    {oc19 kV19 dc19 pm19 cd19 ct19 : Value}
    {f20 : Addr}
    {od20 an20 : Option Addr}
    {sl20 : Array (Option Value)}
    {oc20 kV20 dc20 pm20 cd20 ct20 : Value}
    {f21 : Addr}
    {od21 an21 : Option Addr}
    {sl21 : Array (Option Value)}
    {oc21 kV21 dc21 pm21 cd21 ct21 : Value}
    {w_FORMS : Addr}
    {we_FORMS : Array DictEntry}
    {wn_FORMS : Nat}
    {wv_FORMS_0 : Addr}
    {wd_FORMS_0 : Option Addr}
    {wi_FORMS_0 : Array Value}
    {wm_FORMS_0 : Nat}
    {wx_FORMS_0 : Array (Option Value)}
    {wv_FORMS_1 : Addr}
    {wd_FORMS_1 : Option Addr}
    {wi_FORMS_1 : Array Value}
    {wm_FORMS_1 : Nat}
    {wx_FORMS_1 : Array (Option Value)}
    {wv_FORMS_2 : Addr}
    {wd_FORMS_2 : Option Addr}
    {wi_FORMS_2 : Array Value}
    {wm_FORMS_2 : Nat}
    {wx_FORMS_2 : Array (Option Value)}
    {wv_FORMS_3 : Addr}
    {wd_FORMS_3 : Option Addr}
    {wi_FORMS_3 : Array Value}
    {wm_FORMS_3 : Nat}
    {wx_FORMS_3 : Array (Option Value)}
    {wv_FORMS_4 : Addr}
    {wd_FORMS_4 : Option Addr}
    {wi_FORMS_4 : Array Value}
    {wm_FORMS_4 : Nat}
    {wx_FORMS_4 : Array (Option Value)}
    {tt_LONE_NAMES : Addr}
    {td_LONE_NAMES : Option Addr}
    {ti_LONE_NAMES : Array Value}
    {tm_LONE_NAMES : Nat}
    {tx_LONE_NAMES : Array (Option Value)}
    {tk0 : Tok}
    {tk1 : Tok}
    (aC_Program : PySem.W.nsIn K mainGlobals "Program" = some (some (.ref C_Program)))
    (a0 : PySem.W.nsIn K mainGlobals "_law_take" = some (some (.ref f0)))
    (l0 : K.lookup f0 = some ⟨oc0, od0, .func (PySem.W.fnOf "_law_take" "_law_take" (defArgs s_take) (defBody s_take) (defScope s_take) .none kV0 dc0 pm0 an0 cd0 ct0), sl0⟩)
    (c0 : PySem.W.codeIn K cd0 "_law_take" = true)
    (k0 : PySem.W.keepIn K (.ref f0) = true)
    (a1 : PySem.W.nsIn K mainGlobals "_law_piece" = some (some (.ref f1)))
    (l1 : K.lookup f1 = some ⟨oc1, od1, .func (PySem.W.fnOf "_law_piece" "_law_piece" (defArgs s_piece) (defBody s_piece) (defScope s_piece) .none kV1 dc1 pm1 an1 cd1 ct1), sl1⟩)
    (c1 : PySem.W.codeIn K cd1 "_law_piece" = true)
    (k1 : PySem.W.keepIn K (.ref f1) = true)
    (a2 : PySem.W.nsIn K mainGlobals "_law_ending_rows" = some (some (.ref f2)))
    (l2 : K.lookup f2 = some ⟨oc2, od2, .func (PySem.W.fnOf "_law_ending_rows" "_law_ending_rows" (defArgs s_ending_rows) (defBody s_ending_rows) (defScope s_ending_rows) .none kV2 dc2 pm2 an2 cd2 ct2), sl2⟩)
    (c2 : PySem.W.codeIn K cd2 "_law_ending_rows" = true)
    (k2 : PySem.W.keepIn K (.ref f2) = true)
    (a3 : PySem.W.nsIn K mainGlobals "_law_row" = some (some (.ref f3)))
    (l3 : K.lookup f3 = some ⟨oc3, od3, .func (PySem.W.fnOf "_law_row" "_law_row" (defArgs s_row) (defBody s_row) (defScope s_row) .none kV3 dc3 pm3 an3 cd3 ct3), sl3⟩)
    (c3 : PySem.W.codeIn K cd3 "_law_row" = true)
    (k3 : PySem.W.keepIn K (.ref f3) = true)
    (a4 : PySem.W.nsIn K mainGlobals "_law_any_rows" = some (some (.ref f4)))
    (l4 : K.lookup f4 = some ⟨oc4, od4, .func (PySem.W.fnOf "_law_any_rows" "_law_any_rows" (defArgs s_any_rows) (defBody s_any_rows) (defScope s_any_rows) .none kV4 dc4 pm4 an4 cd4 ct4), sl4⟩)
    (c4 : PySem.W.codeIn K cd4 "_law_any_rows" = true)
    (k4 : PySem.W.keepIn K (.ref f4) = true)
    (a5 : PySem.W.nsIn K mainGlobals "_law_some_program" = some (some (.ref f5)))
    (l5 : K.lookup f5 = some ⟨oc5, od5, .func (PySem.W.fnOf "_law_some_program" "_law_some_program" (defArgs s_some_program) (defBody s_some_program) (defScope s_some_program) .none kV5 dc5 pm5 an5 cd5 ct5), sl5⟩)
    (c5 : PySem.W.codeIn K cd5 "_law_some_program" = true)
    (k5 : PySem.W.keepIn K (.ref f5) = true)
    (a6 : PySem.W.nsIn K mainGlobals "_law_box" = some (some (.ref f6)))
    (l6 : K.lookup f6 = some ⟨oc6, od6, .func (PySem.W.fnOf "_law_box" "_law_box" (defArgs s_box) (defBody s_box) (defScope s_box) .none kV6 dc6 pm6 an6 cd6 ct6), sl6⟩)
    (c6 : PySem.W.codeIn K cd6 "_law_box" = true)
    (k6 : PySem.W.keepIn K (.ref f6) = true)
    (a7 : PySem.W.nsIn K mainGlobals "_is_whole" = some (some (.ref f7)))
    (l7 : K.lookup f7 = some ⟨oc7, od7, .func (PySem.W.fnOf "_is_whole" "_is_whole" (defArgs s_p_is_whole) (defBody s_p_is_whole) (defScope s_p_is_whole) .none kV7 dc7 pm7 an7 cd7 ct7), sl7⟩)
    (c7 : PySem.W.codeIn K cd7 "_is_whole" = true)
    (k7 : PySem.W.keepIn K (.ref f7) = true)
    (a8 : PySem.W.nsIn K mainGlobals "_is_row" = some (some (.ref f8)))
    (l8 : K.lookup f8 = some ⟨oc8, od8, .func (PySem.W.fnOf "_is_row" "_is_row" (defArgs s_p_is_row) (defBody s_p_is_row) (defScope s_p_is_row) .none kV8 dc8 pm8 an8 cd8 ct8), sl8⟩)
    (c8 : PySem.W.codeIn K cd8 "_is_row" = true)
    (k8 : PySem.W.keepIn K (.ref f8) = true)
    (a9 : PySem.W.nsIn K mainGlobals "_check_row" = some (some (.ref f9)))
    (l9 : K.lookup f9 = some ⟨oc9, od9, .func (PySem.W.fnOf "_check_row" "_check_row" (defArgs s_p_check_row) (defBody s_p_check_row) (defScope s_p_check_row) .none kV9 dc9 pm9 an9 cd9 ct9), sl9⟩)
    (c9 : PySem.W.codeIn K cd9 "_check_row" = true)
    (k9 : PySem.W.keepIn K (.ref f9) = true)
    (a10 : PySem.W.nsIn K mainGlobals "_check" = some (some (.ref f10)))
    (l10 : K.lookup f10 = some ⟨oc10, od10, .func (PySem.W.fnOf "_check" "_check" (defArgs s_p_check) (defBody s_p_check) (defScope s_p_check) .none kV10 dc10 pm10 an10 cd10 ct10), sl10⟩)
    (c10 : PySem.W.codeIn K cd10 "_check" = true)
    (k10 : PySem.W.keepIn K (.ref f10) = true)
    (a11 : PySem.W.findIn K (.ref C_Program) "__init__" = some (some (.ref f11)))
    (i11 : PySem.W.isFn K (.ref f11) = true)
    (l11 : K.lookup f11 = some ⟨oc11, od11, .func (PySem.W.fnOf "__init__" "Program.__init__" (defArgs s_Program_init) (defBody s_Program_init) (defScope s_Program_init) .none kV11 dc11 pm11 an11 cd11 ct11), sl11⟩)
    (c11 : PySem.W.codeIn K cd11 "Program.__init__" = true)
    (k11 : PySem.W.keepIn K (.ref f11) = true)
    (a12 : PySem.W.findIn K (.ref C_Program) "__eq__" = some (some (.ref f12)))
    (i12 : PySem.W.isFn K (.ref f12) = true)
    (l12 : K.lookup f12 = some ⟨oc12, od12, .func (PySem.W.fnOf "__eq__" "Program.__eq__" (defArgs s_Program_eq) (defBody s_Program_eq) (defScope s_Program_eq) .none kV12 dc12 pm12 an12 cd12 ct12), sl12⟩)
    (c12 : PySem.W.codeIn K cd12 "Program.__eq__" = true)
    (k12 : PySem.W.keepIn K (.ref f12) = true)
    (a13 : PySem.W.nsIn K mainGlobals "numbered" = some (some (.ref f13)))
    (l13 : K.lookup f13 = some ⟨oc13, od13, .func (PySem.W.fnOf "numbered" "numbered" (defArgs s_p_numbered) (defBody s_p_numbered) (defScope s_p_numbered) .none kV13 dc13 pm13 an13 cd13 ct13), sl13⟩)
    (c13 : PySem.W.codeIn K cd13 "numbered" = true)
    (k13 : PySem.W.keepIn K (.ref f13) = true)
    (a14 : PySem.W.nsIn K mainGlobals "goal_of" = some (some (.ref f14)))
    (l14 : K.lookup f14 = some ⟨oc14, od14, .func (PySem.W.fnOf "goal_of" "goal_of" (defArgs s_p_goal_of) (defBody s_p_goal_of) (defScope s_p_goal_of) .none kV14 dc14 pm14 an14 cd14 ct14), sl14⟩)
    (c14 : PySem.W.codeIn K cd14 "goal_of" = true)
    (k14 : PySem.W.keepIn K (.ref f14) = true)
    (a15 : PySem.W.nsIn K mainGlobals "is_parting" = some (some (.ref f15)))
    (l15 : K.lookup f15 = some ⟨oc15, od15, .func (PySem.W.fnOf "is_parting" "is_parting" (defArgs s_p_is_parting) (defBody s_p_is_parting) (defScope s_p_is_parting) .none kV15 dc15 pm15 an15 cd15 ct15), sl15⟩)
    (c15 : PySem.W.codeIn K cd15 "is_parting" = true)
    (k15 : PySem.W.keepIn K (.ref f15) = true)
    (a16 : PySem.W.nsIn K mainGlobals "asked_boxes" = some (some (.ref f16)))
    (l16 : K.lookup f16 = some ⟨oc16, od16, .func (PySem.W.fnOf "asked_boxes" "asked_boxes" (defArgs s_p_asked_boxes) (defBody s_p_asked_boxes) (defScope s_p_asked_boxes) .none kV16 dc16 pm16 an16 cd16 ct16), sl16⟩)
    (c16 : PySem.W.codeIn K cd16 "asked_boxes" = true)
    (k16 : PySem.W.keepIn K (.ref f16) = true)
    (a17 : PySem.W.nsIn K mainGlobals "names_of" = some (some (.ref f17)))
    (l17 : K.lookup f17 = some ⟨oc17, od17, .func (PySem.W.fnOf "names_of" "names_of" (defArgs s_p_names_of) (defBody s_p_names_of) (defScope s_p_names_of) .none kV17 dc17 pm17 an17 cd17 ct17), sl17⟩)
    (c17 : PySem.W.codeIn K cd17 "names_of" = true)
    (k17 : PySem.W.keepIn K (.ref f17) = true)
    (a18 : PySem.W.nsIn K mainGlobals "_law_asked" = some (some (.ref f18)))
    (l18 : K.lookup f18 = some ⟨oc18, od18, .func (PySem.W.fnOf "_law_asked" "_law_asked" (defArgs s_asked) (defBody s_asked) (defScope s_asked) .none kV18 dc18 pm18 an18 cd18 ct18), sl18⟩)
    (c18 : PySem.W.codeIn K cd18 "_law_asked" = true)
    (k18 : PySem.W.keepIn K (.ref f18) = true)
    (a19 : PySem.W.nsIn K mainGlobals "_law_names_of" = some (some (.ref f19)))
    (l19 : K.lookup f19 = some ⟨oc19, od19, .func (PySem.W.fnOf "_law_names_of" "_law_names_of" (defArgs s_names_of) (defBody s_names_of) (defScope s_names_of) .none kV19 dc19 pm19 an19 cd19 ct19), sl19⟩)
    (c19 : PySem.W.codeIn K cd19 "_law_names_of" = true)
    (k19 : PySem.W.keepIn K (.ref f19) = true)
    (a20 : PySem.W.nsIn K mainGlobals "_law_right" = some (some (.ref f20)))
    (l20 : K.lookup f20 = some ⟨oc20, od20, .func (PySem.W.fnOf "_law_right" "_law_right" (defArgs s_right) (defBody s_right) (defScope s_right) .none kV20 dc20 pm20 an20 cd20 ct20), sl20⟩)
    (c20 : PySem.W.codeIn K cd20 "_law_right" = true)
    (k20 : PySem.W.keepIn K (.ref f20) = true)
    (a21 : PySem.W.nsIn K mainGlobals "law" = some (some (.ref f21)))
    (l21 : K.lookup f21 = some ⟨oc21, od21, .func (PySem.W.fnOf "law" "law" (defArgs s_law) (defBody s_law) (defScope s_law) .none kV21 dc21 pm21 an21 cd21 ct21), sl21⟩)
    (c21 : PySem.W.codeIn K cd21 "law" = true)
    (k21 : PySem.W.keepIn K (.ref f21) = true)
    (pg_Program : PySem.W.plainGet K C_Program Str.empty = true)
    (hd_Program : PySem.W.hasDictIn K C_Program = true)
    (po_Program : PySem.W.plainOver K C_Program = true)
    (sa_Program : PySem.W.findIn K (.ref C_Program) "__setattr__" = some (some (.builtin "object.__setattr__")))
    (kc_Program : PySem.W.keepIn K (.ref C_Program) = true)
    (nboxes_Program : PySem.W.findIn K (.ref C_Program) "boxes" = some none)
    (nrows_Program : PySem.W.findIn K (.ref C_Program) "rows" = some none)
    (mk_Program : PySem.W.makesIn K C_Program = true)
    (ha_Program : PySem.W.findIn K (.ref C_Program) "__class__" = some (some (.builtin "object.__class__")))
    (hn_Program : PySem.W.specialIn K (.builtin "object.__class__") "__get__" = some (some (.builtin "getset_descriptor.__get__")))
    (ht_Program : PySem.W.takesIn K (.builtin "object.__class__") = some true)
    (hm_Program : PySem.W.mroIn K C_Program (.type "object") = some true)
    (ne_Program : PySem.W.findIn K (.ref C_Program) "__ne__" = some (some (.builtin "object.__ne__")))
    (ob_Program : PySem.W.mroIn K C_Program (.type "object") = some true)
    (wa_FORMS : PySem.W.nsIn K mainGlobals "FORMS" = some (some (.ref w_FORMS)))
    (wl_FORMS : K.lookup w_FORMS = some ⟨.type "dict", none, .dict we_FORMS wn_FORMS, #[]⟩)
    (wt_FORMS : PySem.W.KeysLit w.params we_FORMS.toList)
    (wo_FORMS : (w_FORMS == sysModules) = false)
    (wf_FORMS_0 : PySem.W.nsIn K w_FORMS (Str.ofString "raise") = some (some (.ref wv_FORMS_0)))
    (wu_FORMS_0 : K.lookup wv_FORMS_0 = some ⟨.type "tuple", wd_FORMS_0, .seq wi_FORMS_0 wm_FORMS_0, wx_FORMS_0⟩)
    (wz_FORMS_0 : wi_FORMS_0.size ≤ sizeLine)
    (wr_FORMS_0 : Vals [V.str (Str.ofString "box")] wi_FORMS_0.toList)
    (wf_FORMS_1 : PySem.W.nsIn K w_FORMS (Str.ofString "lower") = some (some (.ref wv_FORMS_1)))
    (wu_FORMS_1 : K.lookup wv_FORMS_1 = some ⟨.type "tuple", wd_FORMS_1, .seq wi_FORMS_1 wm_FORMS_1, wx_FORMS_1⟩)
    (wz_FORMS_1 : wi_FORMS_1.size ≤ sizeLine)
    (wr_FORMS_1 : Vals [V.str (Str.ofString "box")] wi_FORMS_1.toList)
    (wf_FORMS_2 : PySem.W.nsIn K w_FORMS (Str.ofString "if") = some (some (.ref wv_FORMS_2)))
    (wu_FORMS_2 : K.lookup wv_FORMS_2 = some ⟨.type "tuple", wd_FORMS_2, .seq wi_FORMS_2 wm_FORMS_2, wx_FORMS_2⟩)
    (wz_FORMS_2 : wi_FORMS_2.size ≤ sizeLine)
    (wr_FORMS_2 : Vals [V.str (Str.ofString "box"), V.str (Str.ofString "goal")] wi_FORMS_2.toList)
    (wf_FORMS_3 : PySem.W.nsIn K w_FORMS (Str.ofString "go") = some (some (.ref wv_FORMS_3)))
    (wu_FORMS_3 : K.lookup wv_FORMS_3 = some ⟨.type "tuple", wd_FORMS_3, .seq wi_FORMS_3 wm_FORMS_3, wx_FORMS_3⟩)
    (wz_FORMS_3 : wi_FORMS_3.size ≤ sizeLine)
    (wr_FORMS_3 : Vals [V.str (Str.ofString "goal")] wi_FORMS_3.toList)
    (wf_FORMS_4 : PySem.W.nsIn K w_FORMS (Str.ofString "stop") = some (some (.ref wv_FORMS_4)))
    (wu_FORMS_4 : K.lookup wv_FORMS_4 = some ⟨.type "tuple", wd_FORMS_4, .seq wi_FORMS_4 wm_FORMS_4, wx_FORMS_4⟩)
    (wz_FORMS_4 : wi_FORMS_4.size ≤ sizeLine)
    (wr_FORMS_4 : Vals [] wi_FORMS_4.toList)
    (ta_LONE_NAMES : PySem.W.nsIn K mainGlobals "LONE_NAMES" = some (some (.ref tt_LONE_NAMES)))
    (tu_LONE_NAMES : K.lookup tt_LONE_NAMES = some ⟨.type "tuple", td_LONE_NAMES, .seq ti_LONE_NAMES tm_LONE_NAMES, tx_LONE_NAMES⟩)
    (tz_LONE_NAMES : ti_LONE_NAMES.size ≤ sizeLine)
    (tr_LONE_NAMES : Vals [V.str (Str.ofString "s"), V.str (Str.ofString "c"), V.str (Str.ofString "h"), V.str (Str.ofString "d"), V.str (Str.ofString "q"), V.str (Str.ofString "g"), V.str (Str.ofString "i"), V.str (Str.ofString "m")] ti_LONE_NAMES.toList)
    (q0 : PySem.W.nsIn K mainGlobals "MOST_BOXES" = some (some (Value.int 5 tk0)))
    (q1 : PySem.W.nsIn K mainGlobals "MOST_ROWS" = some (some (Value.int 14 tk1)))
    (z0 : PySem.W.nsIn K mainGlobals "all" = some none)
    (z1 : PySem.W.nsIn K mainGlobals "bool" = some none)
    (z2 : PySem.W.nsIn K mainGlobals "enumerate" = some none)
    (z3 : PySem.W.nsIn K mainGlobals "int" = some none)
    (z4 : PySem.W.nsIn K mainGlobals "isinstance" = some none)
    (z5 : PySem.W.nsIn K mainGlobals "len" = some none)
    (z6 : PySem.W.nsIn K mainGlobals "list" = some none)
    (z7 : PySem.W.nsIn K mainGlobals "max" = some none)
    (z8 : PySem.W.nsIn K mainGlobals "min" = some none)
    (z9 : PySem.W.nsIn K mainGlobals "range" = some none)
    (z10 : PySem.W.nsIn K mainGlobals "repr" = some none)
    (z11 : PySem.W.nsIn K mainGlobals "sorted" = some none)
    (z12 : PySem.W.nsIn K mainGlobals "str" = some none)
    (z13 : PySem.W.nsIn K mainGlobals "tuple" = some none)
    (z14 : PySem.W.nsIn K mainGlobals "zip" = some none)
    : ∃ fd : FuncData, (∀ (s : Shared) (v : Value), BindsTo s fd ⟨[v], []⟩ [("script", v)]) ∧ ∀ base : Heap, K.In base → base.Ns mainGlobals mg → FnG l.prog w K mg base CX0 8 fa fd ["script"] (sp_law K) := by
  have e := hfa.symm.trans (PySem.W.mg_of X G a21)
  cases e
  have F0 := fun_mk (st := s_take) l0 c0 k0
  have b0 := F0.binds (ps := ["box", "wide"]) fun _ _ _ _ _ _ us hl => match us, hl with | [_, _], _ => rfl
  have F1 := fun_mk (st := s_piece) l1 c1 k1
  have b1 := F1.binds (ps := ["box", "boxes", "at"]) fun _ _ _ _ _ _ us hl => match us, hl with | [_, _, _], _ => rfl
  have F2 := fun_mk (st := s_ending_rows) l2 c2 k2
  have b2 := F2.binds (ps := ["box", "boxes"]) fun _ _ _ _ _ _ us hl => match us, hl with | [_, _], _ => rfl
  have F3 := fun_mk (st := s_row) l3 c3 k3
  have b3 := F3.binds (ps := ["box", "boxes", "many"]) fun _ _ _ _ _ _ us hl => match us, hl with | [_, _, _], _ => rfl
  have F4 := fun_mk (st := s_any_rows) l4 c4 k4
  have b4 := F4.binds (ps := ["box", "boxes"]) fun _ _ _ _ _ _ us hl => match us, hl with | [_, _], _ => rfl
  have F5 := fun_mk (st := s_some_program) l5 c5 k5
  have b5 := F5.binds (ps := ["box"]) fun _ _ _ _ _ _ us hl => match us, hl with | [_], _ => rfl
  have F6 := fun_mk (st := s_box) l6 c6 k6
  have b6 := F6.binds (ps := ["script", "k"]) fun _ _ _ _ _ _ us hl => match us, hl with | [_, _], _ => rfl
  have F7 := fun_mk (st := s_p_is_whole) l7 c7 k7
  have b7 := F7.binds (ps := ["thing"]) fun _ _ _ _ _ _ us hl => match us, hl with | [_], _ => rfl
  have F8 := fun_mk (st := s_p_is_row) l8 c8 k8
  have b8 := F8.binds (ps := ["row"]) fun _ _ _ _ _ _ us hl => match us, hl with | [_], _ => rfl
  have F9 := fun_mk (st := s_p_check_row) l9 c9 k9
  have b9 := F9.binds (ps := ["row", "at", "limits"]) fun _ _ _ _ _ _ us hl => match us, hl with | [_, _, _], _ => rfl
  have F10 := fun_mk (st := s_p_check) l10 c10 k10
  have b10 := F10.binds (ps := ["boxes", "rows"]) fun _ _ _ _ _ _ us hl => match us, hl with | [_, _], _ => rfl
  have F11 := fun_mk (st := s_Program_init) l11 c11 k11
  have b11 := F11.binds (ps := ["self", "boxes", "rows"]) fun _ _ _ _ _ _ us hl => match us, hl with | [_, _, _], _ => rfl
  have F12 := fun_mk (st := s_Program_eq) l12 c12 k12
  have b12 := F12.binds (ps := ["self", "other"]) fun _ _ _ _ _ _ us hl => match us, hl with | [_, _], _ => rfl
  have F13 := fun_mk (st := s_p_numbered) l13 c13 k13
  have b13 := F13.binds (ps := ["letter", "many"]) fun _ _ _ _ _ _ us hl => match us, hl with | [_, _], _ => rfl
  have F14 := fun_mk (st := s_p_goal_of) l14 c14 k14
  have b14 := F14.binds (ps := ["program", "k"]) fun _ _ _ _ _ _ us hl => match us, hl with | [_, _], _ => rfl
  have F15 := fun_mk (st := s_p_is_parting) l15 c15 k15
  have b15 := F15.binds (ps := ["program", "k"]) fun _ _ _ _ _ _ us hl => match us, hl with | [_, _], _ => rfl
  have F16 := fun_mk (st := s_p_asked_boxes) l16 c16 k16
  have b16 := F16.binds (ps := ["program"]) fun _ _ _ _ _ _ us hl => match us, hl with | [_], _ => rfl
  have F17 := fun_mk (st := s_p_names_of) l17 c17 k17
  have b17 := F17.binds (ps := ["program"]) fun _ _ _ _ _ _ us hl => match us, hl with | [_], _ => rfl
  have F18 := fun_mk (st := s_asked) l18 c18 k18
  have b18 := F18.binds (ps := ["boxes", "rows"]) fun _ _ _ _ _ _ us hl => match us, hl with | [_, _], _ => rfl
  have F19 := fun_mk (st := s_names_of) l19 c19 k19
  have b19 := F19.binds (ps := ["boxes", "rows"]) fun _ _ _ _ _ _ us hl => match us, hl with | [_, _], _ => rfl
  have F20 := fun_mk (st := s_right) l20 c20 k20
  have b20 := F20.binds (ps := ["boxes", "rows"]) fun _ _ _ _ _ _ us hl => match us, hl with | [_, _], _ => rfl
  have F21 := fun_mk (st := s_law) l21 c21 k21
  have b21 := F21.binds (ps := ["script"]) fun _ _ _ _ _ _ us hl => match us, hl with | [_], _ => rfl
  exact ⟨PySem.W.fnOf "law" "law" (defArgs s_law) (defBody s_law) (defScope s_law) .none kV21 dc21 pm21 an21 cd21 ct21, fun s v => .of_eq rfl, fun base _ _ => ok_law (⟨C_Program, _, _, F0, PySem.W.mg_of X G a0, b0, _, _, F1, PySem.W.mg_of X G a1, b1, _, _, F2, PySem.W.mg_of X G a2, b2, _, _, F3, PySem.W.mg_of X G a3, b3, _, _, F4, PySem.W.mg_of X G a4, b4, _, _, F5, PySem.W.mg_of X G a5, b5, _, _, F6, PySem.W.mg_of X G a6, b6, _, _, F7, PySem.W.mg_of X G a7, b7, _, _, F8, PySem.W.mg_of X G a8, b8, _, _, F9, PySem.W.mg_of X G a9, b9, _, _, F10, PySem.W.mg_of X G a10, b10, _, _, F11, ⟨a11, i11, k11⟩, b11, _, _, F12, ⟨a12, i12, k12⟩, b12, _, _, F13, PySem.W.mg_of X G a13, b13, _, _, F14, PySem.W.mg_of X G a14, b14, _, _, F15, PySem.W.mg_of X G a15, b15, _, _, F16, PySem.W.mg_of X G a16, b16, _, _, F17, PySem.W.mg_of X G a17, b17, _, _, F18, PySem.W.mg_of X G a18, b18, _, _, F19, PySem.W.mg_of X G a19, b19, _, _, F20, PySem.W.mg_of X G a20, b20, _, _, F21, PySem.W.mg_of X G a21, b21, ⟨pg_Program, hd_Program, po_Program, sa_Program⟩, PySem.W.mg_of X G aC_Program, nboxes_Program, nrows_Program, ⟨mk_Program, a11, i11, kc_Program⟩, ⟨⟨pg_Program, hd_Program, po_Program, sa_Program⟩, ha_Program, hn_Program, ht_Program, hm_Program, (if_pos (beq_self_eq_true _))⟩, ⟨⟨a12, i12, k12⟩, ne_Program, ob_Program⟩, w_FORMS, we_FORMS, wn_FORMS, ⟨wl_FORMS, wt_FORMS, wo_FORMS⟩, PySem.W.mg_of X G wa_FORMS, wv_FORMS_0, wf_FORMS_0, fun H => .inr ⟨_, _, _, wu_FORMS_0, rfl, rfl, wz_FORMS_0, wr_FORMS_0⟩, wv_FORMS_1, wf_FORMS_1, fun H => .inr ⟨_, _, _, wu_FORMS_1, rfl, rfl, wz_FORMS_1, wr_FORMS_1⟩, wv_FORMS_2, wf_FORMS_2, fun H => .inr ⟨_, _, _, wu_FORMS_2, rfl, rfl, wz_FORMS_2, wr_FORMS_2⟩, wv_FORMS_3, wf_FORMS_3, fun H => .inr ⟨_, _, _, wu_FORMS_3, rfl, rfl, wz_FORMS_3, wr_FORMS_3⟩, wv_FORMS_4, wf_FORMS_4, fun H => .inr ⟨_, _, _, wu_FORMS_4, rfl, rfl, wz_FORMS_4, wr_FORMS_4⟩, tt_LONE_NAMES, PySem.W.mg_of X G ta_LONE_NAMES, fun H => .inr ⟨_, _, _, tu_LONE_NAMES, rfl, rfl, tz_LONE_NAMES, tr_LONE_NAMES⟩, tk0, PySem.W.mg_of X G q0, tk1, PySem.W.mg_of X G q1, PySem.W.mg_none_of X G z0, PySem.W.mg_none_of X G z1, PySem.W.mg_none_of X G z2, PySem.W.mg_none_of X G z3, PySem.W.mg_none_of X G z4, PySem.W.mg_none_of X G z5, PySem.W.mg_none_of X G z6, PySem.W.mg_none_of X G z7, PySem.W.mg_none_of X G z8, PySem.W.mg_none_of X G z9, PySem.W.mg_none_of X G z10, PySem.W.mg_none_of X G z11, PySem.W.mg_none_of X G z12, PySem.W.mg_none_of X G z13, PySem.W.mg_none_of X G z14⟩ : Txt K mg w)⟩
end K31
open PySem PySem.W PyProof.Rows
set_option maxRecDepth 100000 in
set_option maxHeartbeats 0 in
theorem PySem.Challenge.cw_runsums_k31_names_of_programs_holds : PySem.Challenge.rw_runsums_k31_names_of_programs.Holds := by
  w_on; o_law; k_head; (case hw => w_witness2)
  k_fill
  refine RV.walkG (l := PySem.Challenge.rw_runsums_k31_names_of_programs) (n := 63) (k := 8) (x := "script") (CX := fun _ => L2.CX0) (sp := fun w => K31.sp_law _) rfl (by decide) rfl ⟨rfl, by decide, by decide⟩ (fun w h Y => PySem.W.kIn_of Y) ?F (fun _ _ a ns hl _ hS => K31.sp_law_of hl hS) (fun _ _ _ _ _ h => h)
  case F =>
    intro w mg fa h KX G hmg
    refine' K31.all_mk KX G hmg ?aC_Program ?a0 ?l0 ?c0 ?k0 ?a1 ?l1 ?c1 ?k1 ?a2 ?l2 ?c2 ?k2 ?a3 ?l3 ?c3 ?k3 ?a4 ?l4 ?c4 ?k4 ?a5 ?l5 ?c5 ?k5 ?a6 ?l6 ?c6 ?k6 ?a7 ?l7 ?c7 ?k7 ?a8 ?l8 ?c8 ?k8 ?a9 ?l9 ?c9 ?k9 ?a10 ?l10 ?c10 ?k10 ?a11 ?i11 ?l11 ?c11 ?k11 ?a12 ?i12 ?l12 ?c12 ?k12 ?a13 ?l13 ?c13 ?k13 ?a14 ?l14 ?c14 ?k14 ?a15 ?l15 ?c15 ?k15 ?a16 ?l16 ?c16 ?k16 ?a17 ?l17 ?c17 ?k17 ?a18 ?l18 ?c18 ?k18 ?a19 ?l19 ?c19 ?k19 ?a20 ?l20 ?c20 ?k20 ?a21 ?l21 ?c21 ?k21 ?pg_Program ?hd_Program ?po_Program ?sa_Program ?kc_Program ?nboxes_Program ?nrows_Program ?mk_Program ?ha_Program ?hn_Program ?ht_Program ?hm_Program ?ne_Program ?ob_Program ?wa_FORMS ?wl_FORMS ?wt_FORMS ?wo_FORMS ?wf_FORMS_0 ?wu_FORMS_0 ?wz_FORMS_0 ?wr_FORMS_0 ?wf_FORMS_1 ?wu_FORMS_1 ?wz_FORMS_1 ?wr_FORMS_1 ?wf_FORMS_2 ?wu_FORMS_2 ?wz_FORMS_2 ?wr_FORMS_2 ?wf_FORMS_3 ?wu_FORMS_3 ?wz_FORMS_3 ?wr_FORMS_3 ?wf_FORMS_4 ?wu_FORMS_4 ?wz_FORMS_4 ?wr_FORMS_4 ?ta_LONE_NAMES ?tu_LONE_NAMES ?tz_LONE_NAMES ?tr_LONE_NAMES ?q0 ?q1 ?z0 ?z1 ?z2 ?z3 ?z4 ?z5 ?z6 ?z7 ?z8 ?z9 ?z10 ?z11 ?z12 ?z13 ?z14
    (case aC_Program => k_is)
    (case a0 => k_is)
    (case l0 => k_is)
    (case c0 => k_is)
    (case k0 => k_is)
    (case a1 => k_is)
    (case l1 => k_is)
    (case c1 => k_is)
    (case k1 => k_is)
    (case a2 => k_is)
    (case l2 => k_is)
    (case c2 => k_is)
    (case k2 => k_is)
    (case a3 => k_is)
    (case l3 => k_is)
    (case c3 => k_is)
    (case k3 => k_is)
    (case a4 => k_is)
    (case l4 => k_is)
    (case c4 => k_is)
    (case k4 => k_is)
    (case a5 => k_is)
    (case l5 => k_is)
    (case c5 => k_is)
    (case k5 => k_is)
    (case a6 => k_is)
    (case l6 => k_is)
    (case c6 => k_is)
    (case k6 => k_is)
    (case a7 => k_is)
    (case l7 => k_is)
    (case c7 => k_is)
    (case k7 => k_is)
    (case a8 => k_is)
    (case l8 => k_is)
    (case c8 => k_is)
    (case k8 => k_is)
    (case a9 => k_is)
    (case l9 => k_is)
    (case c9 => k_is)
    (case k9 => k_is)
    (case a10 => k_is)
    (case l10 => k_is)
    (case c10 => k_is)
    (case k10 => k_is)
    (case a11 => k_is)
    (case i11 => k_is)
    (case l11 => k_is)
    (case c11 => k_is)
    (case k11 => k_is)
    (case a12 => k_is)
    (case i12 => k_is)
    (case l12 => k_is)
    (case c12 => k_is)
    (case k12 => k_is)
    (case a13 => k_is)
    (case l13 => k_is)
    (case c13 => k_is)
    (case k13 => k_is)
    (case a14 => k_is)
    (case l14 => k_is)
    (case c14 => k_is)
    (case k14 => k_is)
    (case a15 => k_is)
    (case l15 => k_is)
    (case c15 => k_is)
    (case k15 => k_is)
    (case a16 => k_is)
    (case l16 => k_is)
    (case c16 => k_is)
    (case k16 => k_is)
    (case a17 => k_is)
    (case l17 => k_is)
    (case c17 => k_is)
    (case k17 => k_is)
    (case a18 => k_is)
    (case l18 => k_is)
    (case c18 => k_is)
    (case k18 => k_is)
    (case a19 => k_is)
    (case l19 => k_is)
    (case c19 => k_is)
    (case k19 => k_is)
    (case a20 => k_is)
    (case l20 => k_is)
    (case c20 => k_is)
    (case k20 => k_is)
    (case a21 => k_is)
    (case l21 => k_is)
    (case c21 => k_is)
    (case k21 => k_is)
    (case pg_Program => k_is)
    (case hd_Program => k_is)
    (case po_Program => k_is)
    (case sa_Program => k_is)
    (case kc_Program => k_is)
    (case nboxes_Program => k_is)
    (case nrows_Program => k_is)
    (case mk_Program => k_is)
    (case ha_Program => k_is)
    (case hn_Program => k_is)
    (case ht_Program => k_is)
    (case hm_Program => k_is)
    (case ne_Program => k_is)
    (case ob_Program => k_is)
    (case wa_FORMS => k_is)
    (case wl_FORMS => k_is)
    (case wt_FORMS => exact ⟨⟨_, _, rfl, rfl⟩, ⟨⟨_, _, rfl, rfl⟩, ⟨⟨_, _, rfl, rfl⟩, ⟨⟨_, _, rfl, rfl⟩, ⟨⟨_, _, rfl, rfl⟩, trivial⟩⟩⟩⟩⟩)
    (case wo_FORMS => rfl)
    (case wf_FORMS_0 => k_is)
    (case wu_FORMS_0 => k_is)
    (case wz_FORMS_0 => exact PySem.sizeLine_eq ▸ (by decide))
    (case wr_FORMS_0 => exact (.cons ⟨_, rfl⟩ .nil))
    (case wf_FORMS_1 => k_is)
    (case wu_FORMS_1 => k_is)
    (case wz_FORMS_1 => exact PySem.sizeLine_eq ▸ (by decide))
    (case wr_FORMS_1 => exact (.cons ⟨_, rfl⟩ .nil))
    (case wf_FORMS_2 => k_is)
    (case wu_FORMS_2 => k_is)
    (case wz_FORMS_2 => exact PySem.sizeLine_eq ▸ (by decide))
    (case wr_FORMS_2 => exact (.cons ⟨_, rfl⟩ (.cons ⟨_, rfl⟩ .nil)))
    (case wf_FORMS_3 => k_is)
    (case wu_FORMS_3 => k_is)
    (case wz_FORMS_3 => exact PySem.sizeLine_eq ▸ (by decide))
    (case wr_FORMS_3 => exact (.cons ⟨_, rfl⟩ .nil))
    (case wf_FORMS_4 => k_is)
    (case wu_FORMS_4 => k_is)
    (case wz_FORMS_4 => exact PySem.sizeLine_eq ▸ (by decide))
    (case wr_FORMS_4 => exact .nil)
    (case ta_LONE_NAMES => k_is)
    (case tu_LONE_NAMES => k_is)
    (case tz_LONE_NAMES => exact PySem.sizeLine_eq ▸ (by decide))
    (case tr_LONE_NAMES => exact (.cons ⟨_, rfl⟩ (.cons ⟨_, rfl⟩ (.cons ⟨_, rfl⟩ (.cons ⟨_, rfl⟩ (.cons ⟨_, rfl⟩ (.cons ⟨_, rfl⟩ (.cons ⟨_, rfl⟩ (.cons ⟨_, rfl⟩ .nil)))))))))
    (case q0 => k_is)
    (case q1 => k_is)
    (case z0 => k_is)
    (case z1 => k_is)
    (case z2 => k_is)
    (case z3 => k_is)
    (case z4 => k_is)
    (case z5 => k_is)
    (case z6 => k_is)
    (case z7 => k_is)
    (case z8 => k_is)
    (case z9 => k_is)
    (case z10 => k_is)
    (case z11 => k_is)
    (case z12 => k_is)
    (case z13 => k_is)
    (case z14 => k_is)

