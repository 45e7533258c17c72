import PyProof.Rows.All
import Wide.All
import OpenK.AllK
import Wide.FinOn
import HandS.ForMost
import HandS.Wide
import HandS.WideBits
import HandS.WideMore
import HandS.Flow
import HandS.IsInst
import HandS.Style
import HandS.TupAny
import HandS.TupMul
import HandS.Deep
import HandS.RaiseMore
import HandS.Walk
import HandS.Codes
import HandS.Rev
import KE.KIntText
import PyProof.EnumMake
import KE.GoesEnum
import HandS.Iter
import HandS.FStr
import PyProof.Rows.BitMore
import PyProof.Rows.StrCountLaw
import KE.BitLaws
import KE.IntBitsLaws
import HandS.Dict
import PyProof.ReprRoads
import PyProof.CallFns
import HandS.Small
import HandS.SlotsOwn
import KE.KCallOwn
import OpenK.KOps
import HandS.Zip
import HandS.WrittenGet
import HandS.Defaults
import PyProof.InstNe
import HandS.NoneIn
import HandS.OwnEq
import PyProof.StrLawsRepr
import HandS.Exc
import HandS.ExcOwn
import HandS.ExcInit
import HandS.ExcField
import HandS.ExcIs
import HandS.WordsExc
import KE.KExcIs
import HandS.CallSlots
import HandS.CallLocal
import PySem.Challenge.RW_runsums_k71_not_made_one
set_option Elab.async false
set_option linter.all false
set_option maxRecDepth 100000
set_option maxHeartbeats 4000000
/-! own layer over the hand layer: heaps that grow, rules for values of any kind, readings step by step -/
namespace RV
open PySem PySem.Spec L2
open PyProof.Rows hiding St

/-! ### heaps -/
/-- all that was tracked is as it was -/
structure Sm (H H' : Hp) : Prop where
  to : ∀ a o, H a = some o → H' a = some o
/-- all but what stands at b is as it was -/
structure Chg (b : Addr) (H H' : Hp) : Prop where
  to : ∀ a o, a ≠ b → H a = some o → H' a = some o
theorem Sm.refl (H : Hp) : Sm H H := ⟨fun _ _ h => h⟩
theorem Sm.trans {H H1 H2 : Hp} (a : Sm H H1) (b : Sm H1 H2) : Sm H H2 := ⟨fun c o h => b.to c o (a.to c o h)⟩
theorem Sm.same {H H1 : Hp} (a : Sm H H1) : Same H H1 := a.to
theorem Same.sm {H H1 : Hp} (a : Same H H1) : Sm H H1 := ⟨a⟩
theorem Chg.refl (b : Addr) (H : Hp) : Chg b H H := ⟨fun _ _ _ h => h⟩
theorem Chg.trans {b : Addr} {H H1 H2 : Hp} (a : Chg b H H1) (c : Chg b H1 H2) : Chg b H H2 := ⟨fun d o n h => c.to d o n (a.to d o n h)⟩
theorem Sm.chg {b : Addr} {H H1 : Hp} (a : Sm H H1) : Chg b H H1 := ⟨fun d o _ h => a.to d o h⟩
theorem Chg.sm {b : Addr} {H H1 H2 : Hp} (c : Sm H H1) (n : H b = none) (a : Chg b H1 H2) : Sm H H2 := ⟨fun d o h => a.to d o (ne_of_none h n) (c.to d o h)⟩
theorem Sm.free {H H' : Hp} (e : Sm H H') {l : Addr} (h : H' l = none) : H l = none := by
  cases q : H l with
  | none => rfl
  | some o =>
    rw [e.to l o q] at h
    cases h
theorem sm_upd {H : Hp} {p : Addr} {o : HO} (h : H p = none) : Sm H (upd H p o) := ⟨fun b x e => by
  rw [upd_ne (ne_of_none e h)]
  exact e⟩
theorem chg_upd {H : Hp} {p : Addr} {o : HO} : Chg p H (upd H p o) := ⟨fun b x n e => by
  rw [upd_ne n]
  exact e⟩
/-- the heap without what stands at b -/
def hide (b : Addr) (H : Hp) : Hp := fun a => if a = b then none else H a
theorem hide_ne {b a : Addr} {H : Hp} (n : a ≠ b) : hide b H a = H a := by unfold hide; rw [if_neg n]
theorem hide_self {b : Addr} {H : Hp} : hide b H b = none := by unfold hide; rw [if_pos rfl]
theorem hide_some {b a : Addr} {H : Hp} {o : HO} (h : hide b H a = some o) : a ≠ b ∧ H a = some o := by
  by_cases e : a = b
  · subst e
    rw [hide_self] at h
    cases h
  · rw [hide_ne e] at h
    exact ⟨e, h⟩
theorem hide_sm {b : Addr} {H : Hp} : Sm (hide b H) H := ⟨fun _ _ h => (hide_some h).2⟩
theorem Chg.hide {b : Addr} {H H' : Hp} (c : Chg b H H') : Sm (RV.hide b H) (RV.hide b H') := ⟨fun a o h => by
  obtain ⟨n, e⟩ := hide_some h
  rw [hide_ne n]
  exact c.to a o n e⟩
theorem hide_new {b p : Addr} {H H' : Hp} {o u : HO} (hb : H b = some u) (np : H p = none) (hp : H' p = some o) : RV.hide b H' p = some o := by
  rw [hide_ne (ne_of_none hb np).symm]
  exact hp
theorem Sm.seq {K : PySem.W.Frag} {H H' : Hp} {a : Addr} {xs : List V} (e : Sm H H') (h : SqL K H a xs) : SqL K H' a xs := Same.seq e.to h
theorem Sm.seqT {K : PySem.W.Frag} {H H' : Hp} {a : Addr} {xs : List V} (e : Sm H H') (h : SqT K H a xs) : SqT K H' a xs := by
  rcases h with (h | ⟨o, h⟩) | h
  · exact .inl (.inl (e.to _ _ h))
  · exact .inl (.inr ⟨o, e.to _ _ h⟩)
  · exact .inr h
mutual
theorem Sm.dp {K : PySem.W.Frag} {H H' : Hp} (e : Sm H H') : ∀ {v : V} {d : PyData}, Dp K H v d → Dp K H' v d
  | _, _, .non => .non
  | _, _, .bl b => .bl b
  | _, _, .int i => .int i
  | _, _, .str x => .str x
  | _, _, .lst h t => .lst (e.seq h) (e.dps t)
  | _, _, .tup h t => .tup (e.seqT h) (e.dps t)
theorem Sm.dps {K : PySem.W.Frag} {H H' : Hp} (e : Sm H H') : ∀ {vs : List V} {ds : List PyData}, DpAll K H vs ds → DpAll K H' vs ds
  | _, _, .nil => .nil
  | _, _, .cons h t => .cons (e.dp h) (e.dps t)
end
theorem DpAll.length {K : PySem.W.Frag} {H : Hp} : ∀ {vs : List V} {ds : List PyData}, DpAll K H vs ds → vs.length = ds.length
  | _, _, .nil => rfl
  | _, _, .cons _ t => congrArg Nat.succ (DpAll.length t)
theorem DpAll.get {K : PySem.W.Frag} {H : Hp} : ∀ {vs : List V} {ds : List PyData} {i : Nat} {d : PyData}, DpAll K H vs ds → ds[i]? = some d → ∃ v, vs[i]? = some v ∧ Dp K H v d
  | _, _, _, _, .nil, e => by simp at e
  | _, _, 0, _, .cons r _, e => by
    simp at e
    subst e
    exact ⟨_, rfl, r⟩
  | _, _, i + 1, d, .cons _ t, e => by
    obtain ⟨v, h1, h2⟩ := DpAll.get (i := i) (d := d) t (by simpa using e)
    exact ⟨v, by simpa using h1, h2⟩
theorem DpAll.app {K : PySem.W.Frag} {H : Hp} : ∀ {vs us : List V} {ds es : List PyData}, DpAll K H vs ds → DpAll K H us es → DpAll K H (vs ++ us) (ds ++ es)
  | _, _, _, _, .nil, s => s
  | _, _, _, _, .cons r t, s => .cons r (DpAll.app t s)
theorem DpAll.snoc {K : PySem.W.Frag} {H : Hp} {vs : List V} {v : V} {ds : List PyData} {d : PyData} (h : DpAll K H vs ds) (r : Dp K H v d) : DpAll K H (vs ++ [v]) (ds ++ [d]) := DpAll.app h (.cons r .nil)
/-- a list of two ints, the drawer -/
def BoxAt (H : Hp) (b : Addr) : Prop := ∃ c s : Int, H b = some (.lst [.int c, .int s])
theorem BoxAt.sm {H H' : Hp} {b : Addr} (e : Sm H H') (h : BoxAt H b) : BoxAt H' b := by
  obtain ⟨c, s, h⟩ := h
  exact ⟨c, s, e.to _ _ h⟩

/-! ### rules for values of any kind -/
section
variable {X : Cx}
def rStrRep : R2 := fun x y H Q => ∃ (z : Str) (n : Nat), x = .str z ∧ y = .int (n : Int) ∧ z.length * n ≤ 16777216 ∧ n ≤ 16777216 ∧ Q (.str ⟨((List.replicate n z.cps.toList).flatten).toArray⟩) H
theorem flat_rep (c : Array Nat) : ∀ (n : Nat) (acc : Array Nat), (List.replicate n c).foldl (· ++ ·) acc = acc ++ ((List.replicate n c.toList).flatten).toArray
  | 0, acc => by simp
  | n + 1, acc => by
    rw [List.replicate_succ, List.foldl_cons, flat_rep c n, List.replicate_succ, List.flatten_cons]
    apply Array.toList_inj.mp
    simp
theorem line24 : (16777216 : Nat) ≤ sizeLine := by rw [sizeLine_eq]; decide
theorem op_strRep : OpR X (binaryOp .Mult) rStrRep := by
  intro pins s σ H x y v u Q I rx ry h
  obtain ⟨z, n, rfl, rfl, hz, hn, q⟩ := h
  obtain ⟨t, rfl⟩ := rx
  obtain ⟨t', rfl⟩ := ry
  have b63 : (2 : Int) ^ 63 = 9223372036854775808 := by decide
  refine PySem.P.mul_str ?_ (fun _ _ => ?_) (fun _ _ => ?_) ?_
  · rw [b63, decide_eq_false (by omega), decide_eq_false (by omega)]
    rfl
  · have h1 : (z.length : Int) * (n : Int) ≤ 2 ^ 63 - 1 := by
      rw [b63]
      have h := Int.ofNat_le.mpr hz
      rw [Int.natCast_mul] at h
      exact Int.le_trans h (by decide)
    intro h2
    by_cases h0 : n = 0
    · omega
    · have h3 : (0 : Int) < (n : Int) := by omega
      have h4 := Int.le_ediv_of_mul_le h3 h1
      omega
  · show Builtin.Str.tooLong (z.length * ((n : Int)).toNat) = false
    rw [Int.toNat_natCast]
    have := line24
    unfold Builtin.Str.tooLong
    exact decide_eq_false (by omega)
  · by_cases h1 : (n : Int) < 1
    · rw [if_pos h1]
      have e0 : n = 0 := by omega
      subst e0
      have q' : Q (.str Str.empty) H := q
      refine ⟨?_, ⟨.str Str.empty, H, I.tok _, ⟨_, rfl⟩, q'⟩⟩
      show Str.empty.length ≤ sizeLine
      exact Nat.zero_le _
    · rw [if_neg h1]
      by_cases h2 : ((n : Int) == 1 || z.length == 0) = true
      · rw [if_pos h2]
        have e : (⟨((List.replicate n z.cps.toList).flatten).toArray⟩ : Str) = z := by
          rw [Bool.or_eq_true] at h2
          rcases h2 with h2 | h2
          · have e1 : (n : Int) = 1 := by simpa using h2
            have e1 : n = 1 := by omega
            subst e1
            simp
          · have e1 : z.length = 0 := by simpa using h2
            have e2 : z.cps = #[] := Array.eq_empty_of_size_eq_zero e1
            cases z with
            | mk c =>
              simp only at e2
              subst e2
              simp
        rw [e] at q
        exact ⟨.str z, H, I, ⟨t, rfl⟩, q⟩
      · rw [if_neg h2]
        have e : (List.replicate ((n : Int)).toNat z.cps).foldl (· ++ ·) #[] = ((List.replicate n z.cps.toList).flatten).toArray := by
          rw [Int.toNat_natCast, flat_rep]
          simp
        refine ⟨?_, ?_⟩
        · rw [e]
          show (((List.replicate n z.cps.toList).flatten).toArray).size ≤ sizeLine
          rw [List.size_toArray, List.length_flatten, List.map_replicate, List.sum_replicate_nat, Array.length_toList]
          have hz' : z.cps.size * n ≤ 16777216 := hz
          have := line24
          rw [Nat.mul_comm] at hz'
          omega
        · rw [e]
          exact ⟨.str _, H, I.tok _, ⟨_, rfl⟩, q⟩
end

section
variable {X : Cx}
/-! sums, products, equality, in, len, slices, loops: the value's own kind chooses the rule -/
def rAddA (K : PySem.W.Frag) : R2 := fun x y H Q => rI0 (fun i j => .int (i + j)) x y H Q ∨ (∃ i j, x = .str i ∧ y = .str j ∧ i.length + j.length ≤ sizeLine ∧ Q (.str (i ++ j)) H) ∨ rCat x y H Q ∨ rCatA K x y H Q
theorem op_addA : OpR X (binaryOp .Add) (rAddA X.K) := op_add.or (op_add_str.or (op_cat.or op_catA))
def rMulA (K : PySem.W.Frag) : R2 := fun x y H Q => rI CMul (fun i j => .int (i * j)) x y H Q ∨ rI CMulW (fun i j => .int (i * j)) x y H Q ∨ rStrRep x y H Q ∨ rRep x y H Q ∨ rRepT K x y H Q
theorem op_mulA : OpR X (binaryOp .Mult) (rMulA X.K) := op_mul.or (op_mulW.or (op_strRep.or (op_rep.or op_repT)))
def rEqA (K : PySem.W.Frag) : R2 := fun x y H Q => rEq x y H Q ∨ rEqD K x y H Q
def rNeA (K : PySem.W.Frag) : R2 := fun x y H Q => rNe x y H Q ∨ rNeD K x y H Q
theorem op_eqA (hu : X.A.units + 64 < cLine) : OpR X (compareOp .Eq) (rEqA X.K) := op_eq.or (op_eqD hu)
theorem op_neA (hu : X.A.units + 64 < cLine) : OpR X (compareOp .NotEq) (rNeA X.K) := op_ne.or (op_neD hu)
def rInStr (neg : Bool) : R2 := fun x y H Q => ∃ (c : Nat) (z : Str), x = .str ⟨#[c]⟩ ∧ y = .str z ∧ Q (.bl (if neg then !decide (c ∈ z.cps.toList) else decide (c ∈ z.cps.toList))) H
def rInA (K : PySem.W.Frag) : R2 := fun x y H Q => rInStr false x y H Q ∨ rIn K false x y H Q
def rNotInA (K : PySem.W.Frag) : R2 := fun x y H Q => rInStr true x y H Q ∨ rIn K true x y H Q
theorem op_inA : OpR X (compareOp .In) (rInA X.K) := OpR.or op_in_sign op_in_seq
theorem op_notInA : OpR X (compareOp .NotIn) (rNotInA X.K) := OpR.or op_notIn_sign op_notIn_seq
def rSlAny (K : PySem.W.Frag) : V → Option Int → Option Int → Hp → VK → Prop := fun x lo hi H Q => rSlS x lo hi H Q ∨ rSlL K x lo hi H Q ∨ rSlA K x lo hi H Q
theorem sl_any : SlR X (rSlAny X.K) := sl_str.or (sl_list.or sl_tupA)
def rLenA (K : PySem.W.Frag) : List V → Hp → VK → Prop := fun xs H Q => (∃ x n, xs = [x] ∧ LenV K x H n ∧ Q (.int n) H) ∨ (∃ a kvs, xs = [V.ref a] ∧ H a = some (.dK kvs) ∧ Q (.int kvs.length) H)
theorem call_lenA : CallR X (.builtin "len") (rLenA X.K) := call_len.or call_lenD
def rMaxA (K : PySem.W.Frag) : List V → Hp → VK → Prop := fun xs H Q => (∃ i j, xs = [.int i, .int j] ∧ Q (.int (if j > i then j else i)) H) ∨ rMax K xs H Q
theorem call_maxA (hc : X.calm = true) : CallR X (.builtin "max") (rMaxA X.K) := (call_max2 hc).or (cr_max hc)
def rMinA (K : PySem.W.Frag) : List V → Hp → VK → Prop := fun xs H Q => (∃ i j, xs = [.int i, .int j] ∧ Q (.int (if j < i then j else i)) H) ∨ rMin K xs H Q
theorem call_minA (hc : X.calm = true) : CallR X (.builtin "min") (rMinA X.K) := (call_min2 hc).or (cr_min hc)
theorem call_strA : CallR X (.type "str") (fun xs H Q => (∃ i, xs = [.int i] ∧ i.natAbs.log2 < 1920 ∧ Q (.str (toString i)) H) ∨ (∃ a, xs = [.str a] ∧ Q (.str a) H)) := call_str_int.or SkE.call_str_str
theorem call_intA : CallR X (.type "int") (fun xs H Q => ((∃ i, xs = [.int i] ∧ Q (.int i) H) ∨ ∃ k, xs = [.bl k] ∧ Q (.int (if k then 1 else 0)) H) ∨ (∃ a n, xs = [.str a] ∧ PySem.intText? a = some n ∧ a.length ≤ 640 ∧ Q (.int n) H)) := call_int1.or call_int_str
theorem call_listA : CallR X (.type "list") (fun xs H Q => ∃ p ys, xs = [.ref p] ∧ (SqL X.K H p ys ∨ SqT X.K H p ys) ∧ ∀ l, H l = none → Q (.ref l) (upd H l (.lst ys))) := call_list_of
theorem call_tupleA : CallR X (.type "tuple") (fun xs H Q => ∃ p ys, xs = [.ref p] ∧ ((SqL X.K H p ys ∧ ∀ l, H l = none → Q (.ref l) (upd H l (.tup ys))) ∨ (SqT X.K H p ys ∧ Q (.ref p) H))) := call_tuple_of
theorem PI.or {tg l : Expr} {w1 w2 : TI} (h1 : PI X tg l w1) (h2 : PI X tg l w2) : PI X tg l (fun σ H R => w1 σ H R ∨ w2 σ H R) := ⟨fun pins s σ H R I h => h.elim (fun q => h1.run pins s σ H R I q) (fun q => h2.run pins s σ H R I q)⟩
def iAny (K : PySem.W.Frag) (tl : TE) : TI := fun σ H R => iList K tl σ H R ∨ iTup K tl σ H R ∨ iStr tl σ H R
theorem pi_any {tg l : Expr} {tl : TE} (hl : PE X l tl) : PI X tg l (iAny X.K tl) := PI.or (pi_list hl) (PI.or (pi_tup hl) (pi_str hl))
end

/-! ### readings, one construct a time -/
section
variable {σ : St} {H : Hp} {Q : VK} {D : Ends} {K : PySem.W.Frag}
theorem r_var {i : Nat} {v : V} (h : σ[i]? = some (some v)) (k : Q v H) : tVar i σ H Q := ⟨v, h, k⟩
theorem r_C {v : V} (k : Q v H) : tC v σ H Q := k
theorem r_op {r : R2} {ta tb : TE} (h : ta σ H fun x H1 => tb σ H1 fun y H2 => r x y H2 Q) : tOp r ta tb σ H Q := h
theorem r_un {r : V → Hp → VK → Prop} {ta : TE} (h : ta σ H fun x H1 => r x H1 Q) : tUn r ta σ H Q := h
theorem r_I {C : Int → Int → Prop} {g : Int → Int → V} {i j : Int} (c : C i j) (k : Q (g i j) H) : rI C g (.int i) (.int j) H Q := ⟨i, j, rfl, rfl, c, k⟩
theorem r_I0 {g : Int → Int → V} {i j : Int} (k : Q (g i j) H) : rI0 g (.int i) (.int j) H Q := ⟨i, j, rfl, rfl, k⟩
theorem r_U {g : Int → V} {i : Int} (k : Q (g i) H) : rU g (.int i) H Q := ⟨i, rfl, k⟩
theorem r_addI {i j : Int} (k : Q (.int (i + j)) H) : rAddA K (.int i) (.int j) H Q := .inl ⟨i, j, rfl, rfl, k⟩
theorem r_addS {i j : Str} (h : i.length + j.length ≤ sizeLine) (k : Q (.str (i ++ j)) H) : rAddA K (.str i) (.str j) H Q := .inr (.inl ⟨i, j, rfl, rfl, h, k⟩)
theorem r_addL {a b : Addr} {xs ys : List V} (ha : H a = some (.lst xs)) (hb : H b = some (.lst ys)) (hz : xs.length + ys.length ≤ sizeLine)
    (k : ∀ p H', Sm H H' → H p = none → H' p = some (.lst (xs ++ ys)) → Q (.ref p) H') : rAddA K (.ref a) (.ref b) H Q :=
  .inr (.inr (.inl ⟨a, b, xs, ys, rfl, rfl, ha, hb, hz, fun p np => k p _ (sm_upd np) np upd_same⟩))
theorem r_addT {a b : Addr} {xs ys : List V} (ha : SqT K H a xs) (hb : SqT K H b ys) (hz : xs.length + ys.length ≤ sizeLine)
    (k : ∀ p H', Sm H H' → SqT K H' p (xs ++ ys) → Q (.ref p) H') : rAddA K (.ref a) (.ref b) H Q :=
  .inr (.inr (.inr ⟨a, b, xs, ys, rfl, rfl, ha, hb, hz, fun e => k b H (Sm.refl H) (by rw [e, List.nil_append]; exact hb), fun _ e => k a H (Sm.refl H) (by rw [e, List.append_nil]; exact ha), fun _ _ p np => k p _ (sm_upd np) (SqT.of upd_same)⟩))
theorem r_mulS {i j : Int} (c : CMul i j) (k : Q (.int (i * j)) H) : rMulA K (.int i) (.int j) H Q := .inl ⟨i, j, rfl, rfl, c, k⟩
theorem r_mulW {i j : Int} (c : CMulW i j) (k : Q (.int (i * j)) H) : rMulA K (.int i) (.int j) H Q := .inr (.inl ⟨i, j, rfl, rfl, c, k⟩)
theorem r_mulStr {z : Str} {n : Nat} {i : Int} (e : i = (n : Int)) (hz : z.length * n ≤ 16777216) (hn : n ≤ 16777216) (k : Q (.str ⟨((List.replicate n z.cps.toList).flatten).toArray⟩) H) : rMulA K (.str z) (.int i) H Q := .inr (.inr (.inl ⟨z, n, rfl, by rw [e], hz, hn, k⟩))
theorem r_mulL {a : Addr} {i : Int} {xs : List V} (ha : H a = some (.lst xs)) (h0 : -(2 ^ 63) ≤ i) (h1 : i < 2 ^ 63) (hz : xs.length * i.toNat ≤ sizeLine)
    (k : ∀ p H', Sm H H' → H p = none → H' p = some (.lst (List.replicate i.toNat xs).flatten) → Q (.ref p) H') : rMulA K (.ref a) (.int i) H Q :=
  .inr (.inr (.inr (.inl ⟨a, i, xs, rfl, rfl, ha, h0, h1, hz, fun p np => k p _ (sm_upd np) np upd_same⟩)))
theorem dec_VI {i j : Int} : decide (V.int i = V.int j) = decide (i = j) := by
  by_cases e : i = j
  · subst e
    simp
  · rw [decide_eq_false e, decide_eq_false fun z => e (V.int.inj z)]
theorem dec_VS {i j : Str} : decide (V.str i = V.str j) = decide (i = j) := by
  by_cases e : i = j
  · subst e
    simp
  · rw [decide_eq_false e, decide_eq_false fun z => e (V.str.inj z)]
theorem dec_VB {i j : Bool} : decide (V.bl i = V.bl j) = decide (i = j) := by
  by_cases e : i = j
  · subst e
    simp
  · rw [decide_eq_false e, decide_eq_false fun z => e (V.bl.inj z)]
theorem r_eqI {i j : Int} (k : Q (.bl (decide (i = j))) H) : rEqA K (.int i) (.int j) H Q := .inl ⟨rfl, by rw [dec_VI]; exact k⟩
theorem r_eqS {i j : Str} (k : Q (.bl (decide (i = j))) H) : rEqA K (.str i) (.str j) H Q := .inl ⟨rfl, by rw [dec_VS]; exact k⟩
theorem r_eqB {i j : Bool} (k : Q (.bl (decide (i = j))) H) : rEqA K (.bl i) (.bl j) H Q := .inl ⟨rfl, by rw [dec_VB]; exact k⟩
theorem r_neI {i j : Int} (k : Q (.bl (!decide (i = j))) H) : rNeA K (.int i) (.int j) H Q := .inl ⟨rfl, by rw [dec_VI]; exact k⟩
theorem r_neS {i j : Str} (k : Q (.bl (!decide (i = j))) H) : rNeA K (.str i) (.str j) H Q := .inl ⟨rfl, by rw [dec_VS]; exact k⟩
theorem r_neB {i j : Bool} (k : Q (.bl (!decide (i = j))) H) : rNeA K (.bl i) (.bl j) H Q := .inl ⟨rfl, by rw [dec_VB]; exact k⟩
theorem r_eqD {x y : V} {d e : PyData} (hx : Dp K H x d) (hy : Dp K H y e) (sx : SeqAt.shaped d = true) (sy : SeqAt.shaped e = true) (k : Q (.bl (PyData.eqv d e)) H) : rEqA K x y H Q := .inr ⟨d, e, hx, hy, sx, sy, k⟩
theorem r_neD {x y : V} {d e : PyData} (hx : Dp K H x d) (hy : Dp K H y e) (sx : SeqAt.shaped d = true) (sy : SeqAt.shaped e = true) (k : Q (.bl (!PyData.eqv d e)) H) : rNeA K x y H Q := .inr ⟨d, e, hx, hy, sx, sy, k⟩
theorem r_inS {c : Nat} {z : Str} (k : Q (.bl (decide (c ∈ z.cps.toList))) H) : rInA K (.str ⟨#[c]⟩) (.str z) H Q := .inl ⟨c, z, rfl, rfl, k⟩
theorem r_notInS {c : Nat} {z : Str} (k : Q (.bl (!decide (c ∈ z.cps.toList))) H) : rNotInA K (.str ⟨#[c]⟩) (.str z) H Q := .inl ⟨c, z, rfl, rfl, k⟩
theorem r_test {t : TE} {Q : Bool → Hp → Prop} (h : t σ H fun x H' => ∃ k, x = .bl k ∧ Q k H') : tTest t σ H Q := h
theorem r_tB {t : TE} {Q : Bool → Hp → Prop} (h : t σ H fun x H' => ∃ k, x = .bl k ∧ Q k H') : tB t σ H Q := h
theorem r_bl {b : Bool} {Q : Bool → Prop} (h : Q b) : ∃ k, V.bl b = .bl k ∧ Q k := ⟨b, rfl, h⟩
theorem r_tru_bl {b : Bool} {Q : Bool → Prop} (h : Q b) : ∃ k, TruV K (.bl b) H k ∧ Q k := ⟨b, rfl, h⟩
theorem r_tru_int {i : Int} {Q : Bool → Prop} (h : Q (i != 0)) : ∃ k, TruV K (.int i) H k ∧ Q k := ⟨_, rfl, h⟩
theorem r_and {t u : TT} {Q : Bool → Hp → Prop} (h : t σ H fun c H1 => if c = true then u σ H1 Q else Q false H1) : tAnd t u σ H Q := h
theorem r_or {t u : TT} {Q : Bool → Hp → Prop} (h : t σ H fun c H1 => if c = true then Q true H1 else u σ H1 Q) : tOr t u σ H Q := h
theorem r_not {t : TT} {Q : Bool → Hp → Prop} (h : t σ H fun c H1 => Q (!c) H1) : tNot t σ H Q := h
theorem r_notT {ta : TE} (h : ta σ H fun x H1 => ∃ k, TruV K x H1 k ∧ Q (.bl (!k)) H1) : tNotT K ta σ H Q := h
theorem r_orT {ta tb : TE} (h : ta σ H fun x H1 => ∃ k, TruV K x H1 k ∧ if k = true then Q x H1 else tb σ H1 Q) : tOrT K ta tb σ H Q := h
theorem r_andT {ta tb : TE} (h : ta σ H fun x H1 => ∃ k, TruV K x H1 k ∧ if k = true then tb σ H1 Q else Q x H1) : tAndT K ta tb σ H Q := h
theorem r_ifE {t : TT} {ta tb : TE} (h : t σ H fun c H1 => if c = true then ta σ H1 Q else tb σ H1 Q) : tIf t ta tb σ H Q := h
theorem r_nil {Q : List V → Hp → Prop} (k : Q [] H) : tNil σ H Q := k
theorem r_cons {ta : TE} {tr : TA} {Q : List V → Hp → Prop} (h : ta σ H fun x H1 => tr σ H1 fun xs H2 => Q (x :: xs) H2) : tCons ta tr σ H Q := h
theorem r_tup {t : TA} (h : t σ H fun xs H1 => xs.length ≤ sizeLine ∧ ∀ p, H1 p = none → Q (.ref p) (upd H1 p (.tup xs))) : tTup t σ H Q := h
theorem r_lst {t : TA} (h : t σ H fun xs H1 => xs.length ≤ sizeLine ∧ ∀ p, H1 p = none → Q (.ref p) (upd H1 p (.lst xs))) : tLst t σ H Q := h
theorem sz_le {n : Nat} (h : n ≤ 1000 := by decide) : n ≤ sizeLine := Nat.le_of_lt (small1000 h)
theorem r_call {sp : Sp} {E : XK} {t : TA} (h : t σ H fun vs H1 => sp vs H1 Q E) : tCall sp [] E t σ H Q := by
  unfold tCall
  have e : (fun (vs : List V) (H1 : Hp) => sp (vs ++ []) H1 Q E) = fun vs H1 => sp vs H1 Q E := by
    funext vs H1
    rw [List.append_nil]
  rw [e]
  exact h
theorem r_callK {sp : Sp} {E : XK} {t tk : TA} {gV : List V → List V → List V} (h : t σ H fun vs H1 => tk σ H1 fun zs H2 => sp (gV vs zs) H2 Q E) : tCallK sp gV E t tk σ H Q := h
theorem r_CB {r : List V → Hp → VK → Prop} {t : TA} (h : t σ H fun vs H1 => r vs H1 Q) : tCB r t σ H Q := h
/-! calls of built-ins -/
theorem r_lenS {z : Str} (h : z.length ≤ sizeLine) (k : Q (.int z.length) H) : rLenA K [.str z] H Q := .inl ⟨_, _, rfl, ⟨h, rfl⟩, k⟩
theorem r_lenL {a : Addr} {xs : List V} (h : SqL K H a xs) (k : Q (.int xs.length) H) : rLenA K [.ref a] H Q := .inl ⟨_, _, rfl, .inl ⟨xs, h, rfl⟩, k⟩
theorem r_lenT {a : Addr} {xs : List V} (h : SqT K H a xs) (k : Q (.int xs.length) H) : rLenA K [.ref a] H Q := .inl ⟨_, _, rfl, .inr ⟨xs, h, rfl⟩, k⟩
theorem r_max {i j : Int} (k : Q (.int (if j > i then j else i)) H) : rMaxA K [.int i, .int j] H Q := .inl ⟨i, j, rfl, k⟩
theorem r_min {i j : Int} (k : Q (.int (if j < i then j else i)) H) : rMinA K [.int i, .int j] H Q := .inl ⟨i, j, rfl, k⟩
theorem r_isi {x c : V} {t u : Value} {b : Bool} (hc : ClsV c u) (ht : TyX K H x t) (e : PySem.W.kitOne K t u = some b) (k : Q (.bl b) H) : rIsi K [x, c] H Q := ⟨x, c, t, u, b, rfl, hc, ht, e, k⟩
theorem r_isi_int {i : Int} {n : String} {b : Bool} (e : kitB "int" n = some b) (k : Q (.bl b) H) : rIsi K [.int i, .ty n] H Q := r_isi (.ty n) (.base (.int i)) (kit_ty e) k
theorem r_isi_bl {i : Bool} {n : String} {b : Bool} (e : kitB "bool" n = some b) (k : Q (.bl b) H) : rIsi K [.bl i, .ty n] H Q := r_isi (.ty n) (.base (.bl i)) (kit_ty e) k
theorem r_isi_str {i : Str} {n : String} {b : Bool} (e : kitB "str" n = some b) (k : Q (.bl b) H) : rIsi K [.str i, .ty n] H Q := r_isi (.ty n) (.base (.str i)) (kit_ty e) k
/-! items and slices -/
theorem r_ixL {a : Addr} {xs : List V} {i : Int} {v : V} (h : SqL K H a xs) (e : atI xs i = some v) (k : Q v H) : rIx K (.ref a) (.int i) H Q := .inl ⟨a, xs, i, v, rfl, rfl, h, e, k⟩
theorem r_ixT {a : Addr} {xs : List V} {i : Int} {v : V} (h : SqT K H a xs) (e : atI xs i = some v) (k : Q v H) : rIx K (.ref a) (.int i) H Q := .inr (.inl ⟨a, xs, i, v, rfl, rfl, h, e, k⟩)
theorem r_ixS {z : Str} {i : Int} {c : Nat} (h : z.length ≤ sizeLine) (e : atI z.cps.toList i = some c) (k : Q (.str ⟨#[c]⟩) H) : rIx K (.str z) (.int i) H Q := .inr (.inr ⟨z, i, c, rfl, rfl, h, e, k⟩)
theorem r_setL {a : Addr} {xs : List V} {i : Int} {j : Nat} {v : V} {Q : Hp → Prop} (h : H a = some (.lst xs)) (e : ixN xs.length i = some j) (k : Q (upd H a (.lst (xs.set j v)))) : rSetL (.ref a) (.int i) v H Q := ⟨a, xs, i, j, rfl, rfl, h, e, k⟩
theorem r_sl {r : V → Option Int → Option Int → Hp → VK → Prop} {te : TE} {tl th : TO} (h : te σ H fun x H1 => tl σ H1 fun l H2 => th σ H2 fun u H3 => r x l u H3 Q) : tSl r te tl th σ H Q := h
theorem r_noPart {Q : Option Int → Hp → Prop} (h : Q none H) : tNoPart σ H Q := h
theorem r_part {t : TE} {Q : Option Int → Hp → Prop} (h : t σ H fun x H1 => ∃ i, x = .int i ∧ Q (some i) H1) : tPart t σ H Q := h
theorem r_exI {i : Int} {Q : Int → Prop} (h : Q i) : ∃ j, V.int i = .int j ∧ Q j := ⟨i, rfl, h⟩
theorem r_slS {z : Str} {lo hi : Option Int} (h : z.length ≤ sizeLine) (k : Q (.str (cutS z lo hi)) H) : rSlAny K (.str z) lo hi H Q := .inl ⟨z, rfl, h, k⟩
theorem r_slL {a : Addr} {xs : List V} {lo hi : Option Int} (h : SqL K H a xs) (k : ∀ p, H p = none → Q (.ref p) (upd H p (.lst (cutV xs lo hi)))) : rSlAny K (.ref a) lo hi H Q := .inr (.inl ⟨a, xs, rfl, h, k⟩)
theorem cutV_whole {xs : List V} {lo hi : Option Int} (h : HT.sIx xs.length 0 lo = 0 ∧ HT.sIx xs.length xs.length hi = xs.length) : cutV xs lo hi = xs := by
  unfold cutV
  rw [h.1, h.2]
  simp
theorem r_slT {a : Addr} {xs : List V} {lo hi : Option Int} (h : SqT K H a xs) (k : ∀ p H', Sm H H' → SqT K H' p (cutV xs lo hi) → Q (.ref p) H') : rSlAny K (.ref a) lo hi H Q :=
  .inr (.inr ⟨a, xs, rfl, h, fun e => k a H (Sm.refl H) (by rw [cutV_whole e]; exact h), fun _ p np => k p _ (sm_upd np) (SqT.of upd_same)⟩)
/-! statements -/
theorem r_seq {t u : TS} (h : t { D with nx := u D } σ H) : tSeq t u D σ H := h
theorem r_nx {n b c : St → Hp → Prop} {r : VK} (h : n σ H) : Ends.nx ⟨n, r, b, c⟩ σ H := h
theorem r_rt {n b c : St → Hp → Prop} {r : VK} {v : V} (h : r v H) : Ends.rt ⟨n, r, b, c⟩ v H := h
theorem r_next (h : D.nx σ H) : tNext D σ H := h
theorem r_asg {te : TE} {g : TG} (h : te σ H fun x H1 => g x σ H1 D.nx) : tAsg te g D σ H := h
theorem r_gN {i : Nat} {v : V} {Q : St → Hp → Prop} (h : Q (σ.set i (some v)) H) : gName i v σ H Q := h
theorem r_gT {n : Nat} {t : TGs} {a : Addr} {xs : List V} {Q : St → Hp → Prop} (hT : SqT K H a xs) (hn : xs.length = n) (h : t xs σ H Q) : gTup K n t (.ref a) σ H Q := ⟨a, xs, rfl, hT, hn, h⟩
theorem r_gC {t : TG} {u : TGs} {v : V} {r : List V} {Q : St → Hp → Prop} (h : t v σ H fun σ' H' => u r σ' H' Q) : gCons t u (v :: r) σ H Q := ⟨v, r, rfl, h⟩
theorem r_g0 {Q : St → Hp → Prop} (h : Q σ H) : gNil [] σ H Q := ⟨rfl, h⟩
theorem r_gS {to ti : TE} {t : TSet} {v : V} {Q : St → Hp → Prop} (h : to σ H fun o H1 => ti σ H1 fun i H2 => t o i v H2 fun H3 => Q σ H3) : gSub to ti t v σ H Q := h
theorem r_par {i j : Nat} {ta : TA} (h : ta σ H fun vs H1 => ∃ v w, vs = [v, w] ∧ D.nx ((σ.set i (some v)).set j (some w)) H1) : tPar i j ta D σ H := h
theorem r_vw {v w : V} {Q : V → V → Prop} (h : Q v w) : ∃ v' w', [v, w] = [v', w'] ∧ Q v' w' := ⟨v, w, rfl, h⟩
theorem r_aug {i : Nat} {te : TE} {ti : TIp} {x : V} (e : σ[i]? = some (some x)) (h : te σ H fun y H1 => ti x y H1 fun z H2 => D.nx (σ.set i (some z)) H2) : tAug i te ti D σ H := ⟨x, e, h⟩
theorem r_ip {f : Int → Int → Int} {i j : Int} (k : Q (.int (f i j)) H) : ipI f (.int i) (.int j) H Q := ⟨i, j, rfl, rfl, k⟩
theorem r_ret {te : TE} (h : te σ H D.rt) : tRet te D σ H := h
theorem r_retN (h : D.rt .non H) : tRetN D σ H := h
theorem r_drop {te : TE} (h : te σ H fun _ H1 => D.nx σ H1) : tDrop te D σ H := h
theorem r_if {c : TT} {t u : TS} (h : c σ H fun b H1 => if b = true then t D σ H1 else u D σ H1) : tIfS c t u D σ H := h
theorem ite_d {p A B : Prop} [Decidable p] (h1 : p → A) (h2 : ¬ p → B) : if decide p = true then A else B := by
  by_cases h : p
  · rw [if_pos (decide_eq_true h)]
    exact h1 h
  · rw [if_neg (by rw [decide_eq_false h]; exact Bool.false_ne_true)]
    exact h2 h
theorem ite_n {p A B : Prop} [Decidable p] (h1 : ¬ p → A) (h2 : p → B) : if (!decide p) = true then A else B := by
  by_cases h : p
  · rw [if_neg (by rw [decide_eq_true h]; exact Bool.false_ne_true)]
    exact h2 h
  · rw [if_pos (by rw [decide_eq_false h]; rfl)]
    exact h1 h
theorem ite_y {b : Bool} {A B : Prop} (e : b = true) (h : A) : if b = true then A else B := by
  rw [if_pos e]
  exact h
theorem ite_o {b : Bool} {A B : Prop} (e : b = false) (h : B) : if b = true then A else B := by
  rw [if_neg (by rw [e]; exact Bool.false_ne_true)]
  exact h
/-! lists' methods -/
theorem r_bm {T : String} {r : V → List V → Hp → VK → Prop} {to : TE} {t : TA} (h : to σ H fun x H1 => tyV K T x H1 ∧ t σ H1 fun xs H2 => r x xs H2 Q) : tBM K T r to t σ H Q := h
theorem r_bmL {a : Addr} {xs : List V} {P : Prop} (h : SqL K H a xs) (k : P) : tyV K "list" (.ref a) H ∧ P := ⟨Or.inl ⟨rfl, _, h⟩, k⟩
theorem r_app {a : Addr} {xs : List V} {y : V} (h : H a = some (.lst xs)) (z : xs.length < sizeLine) (k : Q .non (upd H a (.lst (xs ++ [y])))) : rAppend (.ref a) [y] H Q := ⟨a, xs, y, rfl, rfl, h, z, k⟩
/-! indexes -/
theorem atI_of {α : Type} {xs : List α} {i : Int} (h0 : 0 ≤ i) (h1 : i < (xs.length : Int)) : ∃ v, atI xs i = some v ∧ xs[i.toNat]? = some v := by
  obtain ⟨n, rfl⟩ := Int.eq_ofNat_of_zero_le h0
  have h2 : n < xs.length := by omega
  refine ⟨xs[n], ?_, ?_⟩
  · exact atI_nat (List.getElem?_eq_getElem h2)
  · show xs[n]? = some xs[n]
    exact List.getElem?_eq_getElem h2
theorem atI_mem {α : Type} {xs : List α} {i : Int} (h0 : 0 ≤ i) (h1 : i < (xs.length : Int)) : ∃ v, atI xs i = some v ∧ v ∈ xs := by
  obtain ⟨v, e, q⟩ := atI_of h0 h1
  exact ⟨v, e, List.mem_of_getElem? q⟩
/-! // and % -/
theorem cdiv_of {i j : Int} {n : Nat} (h : 0 < j) (hb : j < 2 ^ n) (h0 : 0 < n) (h9 : n ≤ 9000) : CDivW i j := wide_div h (by
  have e : ((2 ^ n : Nat) : Int) = (2 : Int) ^ n := by rw [Int.natCast_pow]; rfl
  omega) h0 h9
theorem cdiv_s {i j : Int} (h : 0 < j) (hb : j < 18446744073709551616) : CDivW i j := cdiv_of (n := 64) h (by simpa using hb) (by decide) (by decide)
theorem cmul_r {i j : Int} (h : -18446744073709551616 < j ∧ j < 18446744073709551616) : CMul i j := .inr (by simpa using h)
theorem cmul_l {i j : Int} (h : -18446744073709551616 < i ∧ i < 18446744073709551616) : CMul i j := .inl (by simpa using h)
end

/-! arguments by names -/
def kgen (n m : Nat) (idx : List Nat) {α : Type} (us ws : List α) : List α := if us.length = n ∧ ws.length = m then idx.filterMap fun i => (us ++ ws)[i]? else []
theorem vals_pick {vs : List V} {us : List Value} (r : Vals vs us) : ∀ idx : List Nat, Vals (idx.filterMap fun i => vs[i]?) (idx.filterMap fun i => us[i]?)
  | [] => .nil
  | i :: idx => by
    rw [List.filterMap_cons, List.filterMap_cons]
    cases e : vs[i]? with
    | none =>
      rw [r.none_of e]
      exact vals_pick r idx
    | some v =>
      obtain ⟨u, h1, h2⟩ := r.get e
      rw [h1]
      exact .cons h2 (vals_pick r idx)
theorem kb_gen {K : PySem.W.Frag} {fd : FuncData} {ps ks : List Str} {n m : Nat} {idx : List Nat} (hp : ps.length ≠ 0)
    (h : ∀ us ws : List Value, us.length = n → ws.length = m → bindArgs fd ⟨us, ks.zip ws⟩ = pure (ps.zip (kgen n m idx us ws))) : KBinds K fd ps ks (kgen n m idx) (kgen n m idx) := by
  refine ⟨fun s us ws _ hl => ?_, fun {vs us zs ws} r rz => ?_⟩
  · by_cases c : us.length = n ∧ ws.length = m
    · exact .of_eq (h us ws c.1 c.2)
    · unfold kgen at hl
      rw [if_neg c] at hl
      exact absurd hl.symm hp
  · unfold kgen
    rw [r.length, rz.length]
    by_cases c : us.length = n ∧ ws.length = m
    · rw [if_pos c, if_pos c]
      exact vals_pick (r.append rz) idx
    · rw [if_neg c, if_neg c]
      exact .nil
section
variable {X : Cx} {CX : CXT} {k : Nat} {f : Addr} {fd : FuncData} {ps ks : List Str} {sp : Sp} {E : XK} {x : Str} {p pos : Pos} {kws : List Keyword} {tk : TA} {g : List Value → List Value → List Value} {gV : List V → List V → List V}
theorem pe_callK0 (F : FnOk X.prog X.w X.K X.mg X.base CX k f fd ps sp) (hr : Room k X.A) (hg : Gl X x) (hm : X.mg x = some (.ref f)) (hk : PySem.W.keepIn X.K (.ref f) = true) (hb : KBinds X.K fd ps ks g gV) (hx : Passes CX X E)
    (hkw : PK X kws tk) (hall : (backToKw pos (keywordEach kws X.env)).all (·.1.isSome) = true := by rfl) (hks : (backToKw pos (keywordEach kws X.env)).filterMap (·.1) = ks := by rfl)
    (hdb : (x == ("__debug__" : Str)) = false := by decide)
    (hpl : ((backTo pos (starEach [] X.env)).any (·.1) || (backToKw pos (keywordEach kws X.env)).any (·.1.isNone)) = false := by rfl) :
    PE X (.Call (.Name x p) [] kws pos) (tCallK sp gV E tNil tk) := by
  refine ⟨fun pins s σ H Q I h => ?_⟩
  refine wpAny_Call_Name_kw (ld_glob I hg hm ?_ hdb)
  refine PySem.W.callWith_KW0 (h₀ := X.base) I.ok.mod.kin hk hall ?_ hpl
  refine thn (hkw.run pos pins s σ H _ I h) fun ws s2 ⟨zs, H2, I2, rz, q2⟩ => ⟨I2.kIn, ?_⟩
  rw [hks]
  exact run_fnk (us := []) (vs := []) F hr hb hx I2 .nil rz q2
end
/-! built-in classes as calls, named -/
section
variable {σ : St} {H : Hp} {Q : VK} {D : Ends} {K : PySem.W.Frag} {X : Cx}
def rIntA : List V → Hp → VK → Prop := fun xs H Q => ((∃ i, xs = [.int i] ∧ Q (.int i) H) ∨ ∃ k, xs = [.bl k] ∧ Q (.int (if k then 1 else 0)) H) ∨ (∃ a n, xs = [.str a] ∧ PySem.intText? a = some n ∧ a.length ≤ 640 ∧ Q (.int n) H)
theorem cl_int : CallR X (.type "int") rIntA := call_intA
theorem r_intI {i : Int} (k : Q (.int i) H) : rIntA [.int i] H Q := .inl (.inl ⟨i, rfl, k⟩)
theorem r_intB {i : Bool} (k : Q (.int (if i then 1 else 0)) H) : rIntA [.bl i] H Q := .inl (.inr ⟨i, rfl, k⟩)
theorem r_intS {a : Str} {n : Int} (e : PySem.intText? a = some n) (l : a.length ≤ 640) (k : Q (.int n) H) : rIntA [.str a] H Q := .inr ⟨a, n, rfl, e, l, k⟩
def rStrA : List V → Hp → VK → Prop := fun xs H Q => (∃ i, xs = [.int i] ∧ i.natAbs.log2 < 1920 ∧ Q (.str (toString i)) H) ∨ (∃ a, xs = [.str a] ∧ Q (.str a) H)
theorem cl_str : CallR X (.type "str") rStrA := call_strA
theorem r_strI {i : Int} (l : i.natAbs.log2 < 1920) (k : Q (.str (toString i)) H) : rStrA [.int i] H Q := .inl ⟨i, rfl, l, k⟩
theorem r_strS {i : Str} (k : Q (.str i) H) : rStrA [.str i] H Q := .inr ⟨i, rfl, k⟩
def rListA (K : PySem.W.Frag) : List V → Hp → VK → Prop := fun xs H Q => ∃ p ys, xs = [.ref p] ∧ (SqL K H p ys ∨ SqT K H p ys) ∧ ∀ l, H l = none → Q (.ref l) (upd H l (.lst ys))
theorem cl_list : CallR X (.type "list") (rListA X.K) := call_listA
theorem r_listL {a : Addr} {ys : List V} (h : SqL K H a ys) (k : ∀ l, H l = none → Q (.ref l) (upd H l (.lst ys))) : rListA K [.ref a] H Q := ⟨a, ys, rfl, .inl h, k⟩
theorem r_listT {a : Addr} {ys : List V} (h : SqT K H a ys) (k : ∀ l, H l = none → Q (.ref l) (upd H l (.lst ys))) : rListA K [.ref a] H Q := ⟨a, ys, rfl, .inr h, k⟩
def rTupleA (K : PySem.W.Frag) : List V → Hp → VK → Prop := fun xs H Q => ∃ p ys, xs = [.ref p] ∧ ((SqL K H p ys ∧ ∀ l, H l = none → Q (.ref l) (upd H l (.tup ys))) ∨ (SqT K H p ys ∧ Q (.ref p) H))
theorem cl_tuple : CallR X (.type "tuple") (rTupleA X.K) := call_tupleA
theorem r_tupleL {a : Addr} {ys : List V} (h : SqL K H a ys) (k : ∀ l, H l = none → Q (.ref l) (upd H l (.tup ys))) : rTupleA K [.ref a] H Q := ⟨a, ys, rfl, .inl ⟨h, k⟩⟩
theorem r_tupleT {a : Addr} {ys : List V} (h : SqT K H a ys) (k : Q (.ref a) H) : rTupleA K [.ref a] H Q := ⟨a, ys, rfl, .inr ⟨h, k⟩⟩
/-! joins, all, any -/
def rJoin (K : PySem.W.Frag) : V → List V → Hp → VK → Prop := fun x xs H Q => ∃ a p, ∃ ys : List Str, x = .str a ∧ xs = [.ref p] ∧ (SqL K H p (ys.map V.str) ∨ SqT K H p (ys.map V.str)) ∧ (ys.map (·.length)).sum + ys.length * a.length ≤ 16777216 ∧ Q (.str (Txt.join a ys)) H
theorem mj_join : MtR X "str.join" (rJoin X.K) := mt_join
theorem r_join {a : Str} {p : Addr} {ys : List Str} (h : SqL K H p (ys.map V.str)) (z : (ys.map (·.length)).sum + ys.length * a.length ≤ 16777216) (k : Q (.str (Txt.join a ys)) H) : rJoin K (.str a) [.ref p] H Q := ⟨a, p, ys, rfl, rfl, .inl h, z, k⟩
theorem r_bmS {a : Str} {P : Prop} (k : P) : tyV K "str" (.str a) H ∧ P := ⟨rfl, k⟩
theorem r_all {a : Addr} {bs : List Bool} (h : SqL K H a (bs.map V.bl)) (k : Q (.bl (bs.all id)) H) : rAll K [.ref a] H Q := ⟨a, bs, rfl, h, k⟩
/-! loops -/
theorem r_for {wi : TI} {g : TG} {tb : TS} (h : wi σ H fun J H1 => ∃ W : Nat → Nat → St → Hp → Prop, (∃ m, W 0 m σ H1) ∧ ∀ i m σ H, W i m σ H →
  (J.stop i H ∧ D.nx σ H) ∨ (J.go i H ∧ ∃ N : St → Hp → Prop, (∀ σ' H', N σ' H' → ∃ m', m' < m ∧ W (i + 1) m' σ' H') ∧ ∀ x H', J.yld i H x H' → g x σ H' fun σ2 H2 => tb { D with nx := N, ct := N, bk := D.nx } σ2 H2)) : tFor wi g tb D σ H := h
theorem r_lc {wi : TI} {g : TG} {tt : TT} {te : TE} {vs : List Nat} (h : wi σ H fun J H1 => ∀ D, H1 D = none → ∃ W : Nat → Nat → Hp → Prop, (∃ m, W 0 m (upd H1 D (.lst []))) ∧ ∀ i m H, W i m H →
  (J.stop i H ∧ Q (.ref D) H) ∨ (J.go i H ∧ ∃ Nx : Hp → Prop, (∀ H', Nx H' → ∃ m', m' < m ∧ W (i + 1) m' H') ∧ ∀ x H', J.yld i H x H' → g x (wipe σ vs) H' fun σ2 H2 => wipe σ2 vs = wipe σ vs ∧ tt σ2 H2 fun b H3 =>
    if b = true then te σ2 H3 fun y H4 => ∃ acc, H4 D = some (.lst acc) ∧ acc.length < sizeLine ∧ Nx (upd H4 D (.lst (acc ++ [y]))) else Nx H3)) : tLc wi g tt te vs σ H Q := h
theorem r_R1 {ta : TA} {R : It → Hp → Prop} (h : ta σ H fun vs H1 => ∃ j : Int, vs = [.int j] ∧ -(2 ^ 62) ≤ j ∧ j < 2 ^ 62 ∧ R (Itr 0 j.toNat) H1) : iRng1 ta σ H R := h
theorem r_rng {n : Int} {P : Int → Prop} (h0 : -4611686018427387904 ≤ n) (h1 : n < 4611686018427387904) (h : P n) : ∃ j : Int, [V.int n] = [.int j] ∧ -(2 ^ 62) ≤ j ∧ j < 2 ^ 62 ∧ P j := ⟨n, rfl, by simpa using h0, by simpa using h1, h⟩
theorem r_iL {tl : TE} {R : It → Hp → Prop} (h : tl σ H fun x H1 => ∃ a, x = .ref a ∧ (∃ xs, SqL K H1 a xs) ∧ R (Itl K a) H1) : iAny K tl σ H R := .inl h
theorem r_iT {tl : TE} {R : It → Hp → Prop} (h : tl σ H fun x H1 => ∃ a, x = .ref a ∧ (∃ xs, SqT K H1 a xs) ∧ R (Itt K a) H1) : iAny K tl σ H R := .inr (.inl h)
theorem r_iS {tl : TE} {R : It → Hp → Prop} (h : tl σ H fun v H1 => ∃ x, v = .str x ∧ R (Its x) H1) : iAny K tl σ H R := .inr (.inr h)
theorem r_aL {a : Addr} {xs : List V} {P : Addr → Prop} (h : SqL K H a xs) (k : P a) : ∃ b, V.ref a = .ref b ∧ (∃ xs, SqL K H b xs) ∧ P b := ⟨a, rfl, ⟨xs, h⟩, k⟩
theorem r_aT {a : Addr} {xs : List V} {P : Addr → Prop} (h : SqT K H a xs) (k : P a) : ∃ b, V.ref a = .ref b ∧ (∃ xs, SqT K H b xs) ∧ P b := ⟨a, rfl, ⟨xs, h⟩, k⟩
theorem r_aS {z : Str} {P : Str → Prop} (k : P z) : ∃ x, V.str z = .str x ∧ P x := ⟨z, rfl, k⟩
theorem r_yes {Q : Bool → Hp → Prop} (h : Q true H) : tYes σ H Q := h
theorem r_wipe {σ' : St} {vs : List Nat} {P : Prop} (e : wipe σ' vs = wipe σ vs) (h : P) : wipe σ' vs = wipe σ vs ∧ P := ⟨e, h⟩
theorem r_acc {D : Addr} {acc : List V} {P : List V → Prop} (h : H D = some (.lst acc)) (z : acc.length < sizeLine) (k : P acc) : ∃ acc, H D = some (.lst acc) ∧ acc.length < sizeLine ∧ P acc := ⟨acc, h, z, k⟩
end

/-! what a loop or a comprehension appends to stands apart -/
theorem chg_acc {b D : Addr} {H1 H4 : Hp} {o : HO} (c : Chg b H1 H4) (n : H1 D = none) : Chg b H1 (upd H4 D o) := ⟨fun a x na e => by
  rw [upd_ne (ne_of_none e n)]
  exact c.to a x na e⟩
theorem sm_acc {D : Addr} {H1 H4 : Hp} {o : HO} (c : Sm H1 H4) (n : H1 D = none) : Sm H1 (upd H4 D o) := ⟨fun a x e => by
  rw [upd_ne (ne_of_none e n)]
  exact c.to a x e⟩
theorem sm_chg {b : Addr} {H H1 H2 : Hp} (a : Sm H H1) (c : Chg b H1 H2) : Chg b H H2 := a.chg.trans c
theorem chg_sm {b : Addr} {H H1 H2 : Hp} (a : Chg b H H1) (c : Sm H1 H2) : Chg b H H2 := a.trans c.chg
/-! texts -/
theorem str_len (z : Str) : z.length = z.cps.toList.length := (Array.length_toList).symm
theorem str_get {z : Str} {i c : Nat} (h : z.cps[i]? = some c) : z.cps.toList[i]? = some c := by
  rw [Array.getElem?_toList]
  exact h
theorem strs_sum : ∀ (ys : List Str) (n : Nat), (∀ y ∈ ys, y.length ≤ n) → (ys.map (·.length)).sum ≤ n * ys.length
  | [], n, _ => by simp
  | y :: ys, n, h => by
    have h1 := h y (by simp)
    have h2 := strs_sum ys n fun z hz => h z (by simp [hz])
    rw [List.map_cons, List.sum_cons, List.length_cons, Nat.mul_succ]
    omega
theorem ne_fr {H : Hp} {a b : Addr} {o : HO} (n : H b = none) (h : H a = some o) : a ≠ b := ne_of_none h n
theorem fr_of {H H' : Hp} {l : Addr} (n : H' l = none) (e : Sm H H') : H l = none := e.free n
theorem ix2 {b : Bool} {x y : Int} : atI [V.int x, V.int y] (if b = true then 1 else 0) = some (V.int (if b = true then y else x)) := by
  cases b <;> rfl
section
variable {H : Hp} {Q : VK} {K : PySem.W.Frag} {a : Addr} {x0 x1 x2 x3 v : V} {xs : List V}
theorem r_ixL0 (h : SqL K H a (x0 :: xs)) (k : Q x0 H) : rIx K (.ref a) (.int 0) H Q := r_ixL h (atI_nat (j := 0) rfl) k
theorem r_ixL1 (h : SqL K H a (x0 :: x1 :: xs)) (k : Q x1 H) : rIx K (.ref a) (.int 1) H Q := r_ixL h (atI_nat (j := 1) rfl) k
theorem r_ixL2 (h : SqL K H a (x0 :: x1 :: x2 :: xs)) (k : Q x2 H) : rIx K (.ref a) (.int 2) H Q := r_ixL h (atI_nat (j := 2) rfl) k
theorem r_ixT0 (h : SqT K H a (x0 :: xs)) (k : Q x0 H) : rIx K (.ref a) (.int 0) H Q := r_ixT h (atI_nat (j := 0) rfl) k
theorem r_ixT1 (h : SqT K H a (x0 :: x1 :: xs)) (k : Q x1 H) : rIx K (.ref a) (.int 1) H Q := r_ixT h (atI_nat (j := 1) rfl) k
theorem r_ixT2 (h : SqT K H a (x0 :: x1 :: x2 :: xs)) (k : Q x2 H) : rIx K (.ref a) (.int 2) H Q := r_ixT h (atI_nat (j := 2) rfl) k
theorem r_setB0 {Q : Hp → Prop} (h : H a = some (.lst [x0, x1])) (k : Q (upd H a (.lst [v, x1]))) : rSetL (.ref a) (.int 0) v H Q := r_setL h rfl k
theorem r_setB1 {Q : Hp → Prop} (h : H a = some (.lst [x0, x1])) (k : Q (upd H a (.lst [x0, v]))) : rSetL (.ref a) (.int 1) v H Q := r_setL h (j := 1) rfl k
end
/-! texts by their signs -/
theorem joinL_nil : ∀ ps : List (List Nat), TL.joinL [] ps = ps.flatten
  | [] => rfl
  | [p] => by
    show p = [p].flatten
    simp
  | p :: q :: r => by
    show p ++ ([] ++ TL.joinL [] (q :: r)) = (p :: q :: r).flatten
    rw [joinL_nil (q :: r)]
    simp
theorem join_parts (ps : List (List Nat)) : Txt.join (SX.S []) (ps.map SX.S) = SX.S ps.flatten := by rw [SX.join_S, joinL_nil]
theorem flat_ones (cs : List Nat) : (cs.map fun c => [c]).flatten = cs := by
  induction cs with
  | nil => rfl
  | cons c cs ih => rw [List.map_cons, List.flatten_cons, ih]; rfl
section
variable {H : Hp} {Q : VK} {K : PySem.W.Frag}
/-- a sign of a text at a place within -/
theorem r_ixSn {z : Str} {i : Int} {n : Nat} (hz : z.length = n) (hn : n ≤ 1000000) (h0 : 0 ≤ i) (h1 : i < (n : Int)) (k : ∀ c, z.cps.toList[i.toNat]? = some c → Q (.str ⟨#[c]⟩) H) : rIx K (.str z) (.int i) H Q := by
  obtain ⟨c, e, g⟩ := atI_of (xs := z.cps.toList) h0 (by rw [← str_len, hz]; exact h1)
  have hl : (1000000 : Nat) ≤ sizeLine := by rw [sizeLine_eq]; decide
  exact r_ixS (by rw [hz]; omega) e (k c g)
/-- a text joined of single signs -/
theorem r_join1 {p : Addr} {cs : List Nat} (h : H p = some (.lst (cs.map fun c => V.str ⟨#[c]⟩))) (z : cs.length ≤ 16777216) (k : Q (.str (SX.S cs)) H) : rJoin K (.str (SX.S [])) [.ref p] H Q := by
  have e : (cs.map fun c => V.str ⟨#[c]⟩) = ((cs.map fun c => [c]).map SX.S).map V.str := by
    rw [List.map_map, List.map_map]
    rfl
  rw [e] at h
  refine r_join (ys := (cs.map fun c => [c]).map SX.S) (SqL.of h) ?_ ?_
  · rw [SX.lens, List.map_map]
    have : ((fun c : List Nat => c.length) ∘ fun c => [c]) = fun _ : Nat => 1 := rfl
    rw [this]
    have e0 : (SX.S []).length = 0 := rfl
    rw [e0, Nat.mul_zero, Nat.add_zero]
    have : ∀ l : List Nat, (l.map fun _ => 1).sum = l.length := fun l => by
      induction l with
      | nil => rfl
      | cons c l ih => rw [List.map_cons, List.sum_cons, ih, List.length_cons]; omega
    rw [this]
    exact z
  · rw [join_parts, flat_ones]
    exact k
end
/-! the same rules, the written part by its own name -/
section
variable {X : Cx} {K : PySem.W.Frag}
theorem ix_k (e : X.K = K) : IxR X (rIx K) := e ▸ ix_seq
theorem add_k (e : X.K = K) : OpR X (binaryOp .Add) (rAddA K) := e ▸ op_addA
theorem mul_k (e : X.K = K) : OpR X (binaryOp .Mult) (rMulA K) := e ▸ op_mulA
theorem eq_k (e : X.K = K) (hu : X.A.units + 64 < cLine) : OpR X (compareOp .Eq) (rEqA K) := e ▸ op_eqA hu
theorem ne_k (e : X.K = K) (hu : X.A.units + 64 < cLine) : OpR X (compareOp .NotEq) (rNeA K) := e ▸ op_neA hu
theorem in_k (e : X.K = K) : OpR X (compareOp .In) (rInA K) := e ▸ op_inA
theorem notIn_k (e : X.K = K) : OpR X (compareOp .NotIn) (rNotInA K) := e ▸ op_notInA
theorem sl_k (e : X.K = K) : SlR X (rSlAny K) := e ▸ sl_any
theorem len_k (e : X.K = K) : CallR X (.builtin "len") (rLenA K) := e ▸ call_lenA
theorem max_k (e : X.K = K) (hc : X.calm = true) : CallR X (.builtin "max") (rMaxA K) := e ▸ call_maxA hc
theorem min_k (e : X.K = K) (hc : X.calm = true) : CallR X (.builtin "min") (rMinA K) := e ▸ call_minA hc
theorem sum_k (e : X.K = K) (hc : X.calm = true) : CallR X (.builtin "sum") (rSum K) := e ▸ cr_sum hc
theorem all_k (e : X.K = K) (hc : X.calm = true) : CallR X (.builtin "all") (rAll K) := e ▸ cr_all hc
theorem any_k (e : X.K = K) (hc : X.calm = true) : CallR X (.builtin "any") (rAny K) := e ▸ cr_any hc
theorem isi_k (e : X.K = K) : CallR X (.builtin "isinstance") (rIsi K) := e ▸ call_isi
theorem list_k (e : X.K = K) : CallR X (.type "list") (rListA K) := e ▸ cl_list
theorem tuple_k (e : X.K = K) : CallR X (.type "tuple") (rTupleA K) := e ▸ cl_tuple
theorem join_k (e : X.K = K) : MtR X "str.join" (rJoin K) := e ▸ mj_join
theorem any_pi {tg l : Expr} {tl : TE} (e : X.K = K) (hl : PE X l tl) : PI X tg l (iAny K tl) := e ▸ pi_any hl
variable {a b : Expr} {ta tb : TE} {rest : List Expr} {pos : Pos}
theorem orT_k (e : X.K = K) (ha : PE X a ta) (hb : PE X (.BoolOp .Or (b :: rest) pos) tb) : PE X (.BoolOp .Or (a :: b :: rest) pos) (tOrT K ta tb) := e ▸ pe_orT ha hb
theorem andT_k (e : X.K = K) (ha : PE X a ta) (hb : PE X (.BoolOp .And (b :: rest) pos) tb) : PE X (.BoolOp .And (a :: b :: rest) pos) (tAndT K ta tb) := e ▸ pe_andT ha hb
theorem notT_k (e : X.K = K) (ha : PE X a ta) : PE X (.UnaryOp .Not a pos) (tNotT K ta) := e ▸ pe_notT ha
end
theorem ne_fr' {H : Hp} {b D : Addr} (h : BoxAt H b) (n : H D = none) : D ≠ b := by
  obtain ⟨c, s, h⟩ := h
  exact (ne_of_none h n).symm
theorem chg_tr {b : Addr} {H H1 H2 : Hp} (c : Chg b H1 H2) (a : Chg b H H1) : Chg b H H2 := a.trans c
theorem sm_tr {H H1 H2 : Hp} (c : Sm H1 H2) (a : Sm H H1) : Sm H H2 := a.trans c
theorem sm_hid {b : Addr} {H H1 H2 : Hp} (c : Chg b H1 H2) (n : H b = none) (a : Sm H H1) : Sm H H2 := c.sm a n
theorem len_le {n : Nat} (h : n ≤ 1000000) : n ≤ sizeLine := by
  have hl : (1000000 : Nat) ≤ sizeLine := by rw [sizeLine_eq]; decide
  omega
section
variable {σ : St} {H : Hp} {Q : VK} {K : PySem.W.Frag}
theorem r_chain {r r' : R2} {ta tb tc : TE} (h : ta σ H fun x H1 => tb σ H1 fun y H2 => r x y H2 fun z H3 => ∃ k, z = .bl k ∧ (if k = true then tc σ H3 fun w' H4 => r' y w' H4 Q else Q (.bl false) H3)) : tChain r r' ta tb tc σ H Q := h
theorem r_maxF {i j : Int} (k : ∀ m, i ≤ m → j ≤ m → (m = i ∨ m = j) → Q (.int m) H) : rMaxA K [.int i, .int j] H Q := by
  refine r_max (k _ ?_ ?_ ?_) <;> split <;> omega
theorem r_minF {i j : Int} (k : ∀ m, m ≤ i → m ≤ j → (m = i ∨ m = j) → Q (.int m) H) : rMinA K [.int i, .int j] H Q := by
  refine r_min (k _ ?_ ?_ ?_) <;> split <;> omega
theorem r_isB {a b : Bool} (k : Q (.bl (decide (a = b))) H) : rIsB (.bl a) (.bl b) H Q := ⟨a, b, rfl, rfl, k⟩
theorem r_inSt {t : Str} {c : Nat} {z : Str} (e : t = ⟨#[c]⟩) (k : Q (.bl (decide (c ∈ z.cps.toList))) H) : rInA K (.str t) (.str z) H Q := by
  subst e
  exact r_inS k
end
section
variable {σ : St} {H : Hp} {Q : VK} {K : PySem.W.Frag}
/-- an item of a list of ints at a place within -/
theorem r_ixLi {a : Addr} {xs : List V} {i : Int} {ns : List Int} (h : SqL K H a xs) (e : xs = ns.map V.int) (h0 : 0 ≤ i) (h1 : i < (ns.length : Int)) (k : ∀ n, n ∈ ns → Q (.int n) H) : rIx K (.ref a) (.int i) H Q := by
  subst e
  obtain ⟨v, ev, hv⟩ := atI_mem (xs := ns.map V.int) h0 (by rw [List.length_map]; exact h1)
  obtain ⟨n, hn, rfl⟩ := List.mem_map.mp hv
  exact r_ixL h ev (k n hn)
theorem cshl1 {j : Int} (h0 : 0 ≤ j) (h1 : j ≤ 100000) : CShl 1 j := by
  refine ⟨h0, ?_⟩
  have e1 : (Builtin.Int.intBits 1 : Int) = 1 := by decide
  have e2 : (2 : Int) ^ 27 = 134217728 := by decide
  rw [e1, e2]
  omega
theorem pow2_le {a b : Nat} (h : a ≤ b) : (2 : Int) ^ a ≤ 2 ^ b := by
  have := Nat.pow_le_pow_right (show 0 < 2 by decide) h
  have e : ∀ n : Nat, ((2 ^ n : Nat) : Int) = (2 : Int) ^ n := fun n => by rw [Int.natCast_pow]; rfl
  rw [← e, ← e]
  exact Int.ofNat_le.mpr this
theorem ediv_down {l b : Int} (hl : 0 < l) (hb : 2 ≤ b) : 0 ≤ l / b ∧ l / b < l := by
  refine ⟨Int.ediv_nonneg (by omega) (by omega), ?_⟩
  have h1 : l / b * b ≤ l := Int.ediv_mul_le l (by omega)
  have h2 : 0 ≤ l / b := Int.ediv_nonneg (by omega) (by omega)
  rcases Int.lt_or_le (l / b) l with h | h
  · exact h
  · have h3 : l * 2 ≤ l / b * b := Int.mul_le_mul h hb (by omega) h2
    omega
end
theorem Chg.seq {K : PySem.W.Frag} {b : Addr} {H H' : Hp} {a : Addr} {xs : List V} (e : Chg b H H') (n : a ≠ b) (h : SqL K H a xs) : SqL K H' a xs := by
  rcases h with (h | ⟨o, h⟩) | h
  · exact .inl (.inl (e.to _ _ n h))
  · exact .inl (.inr ⟨o, e.to _ _ n h⟩)
  · exact .inr h
theorem Chg.seqT {K : PySem.W.Frag} {b : Addr} {H H' : Hp} {a : Addr} {xs : List V} (e : Chg b H H') (n : a ≠ b) (h : SqT K H a xs) : SqT K H' a xs := by
  rcases h with (h | ⟨o, h⟩) | h
  · exact .inl (.inl (e.to _ _ n h))
  · exact .inl (.inr ⟨o, e.to _ _ n h⟩)
  · exact .inr h
theorem BoxAt.chg {b D : Addr} {H H' : Hp} (e : Chg D H H') (n : b ≠ D) (h : BoxAt H b) : BoxAt H' b := by
  obtain ⟨x, y, h⟩ := h
  exact ⟨x, y, e.to _ _ n h⟩
theorem box_ne {H : Hp} {b D : Addr} (n : H D = none) (h : BoxAt H b) : b ≠ D := (ne_fr' h n).symm
theorem chg_fr {b t : Addr} {H H' : Hp} (n : H' t = none) (hb : BoxAt H' b) (c : Chg b H H') : H t = none := by
  cases q : H t with
  | none => rfl
  | some o =>
    have := c.to t o (ne_fr' hb n) q
    rw [n] at this
    cases this
theorem cutV_mem {xs : List V} {lo hi : Option Int} {v : V} (h : v ∈ cutV xs lo hi) : v ∈ xs := List.mem_of_mem_drop (List.mem_of_mem_take h)
theorem cutV_le (xs : List V) (lo hi : Option Int) : (cutV xs lo hi).length ≤ xs.length := by
  unfold cutV
  rw [List.length_take, List.length_drop]
  omega
section
variable {σ : St} {H : Hp} {Q : VK} {K : PySem.W.Frag} {X : Cx}
theorem rev_pi {tg e : Expr} {te : TE} {p pos : Pos} (ek : X.K = K) (hg : Gl X "reversed") (hm : X.mg "reversed" = none) (he : PE X e te) (hs : starEach [e] X.env = (false, eval e X.env) :: starEach [] X.env := by rfl) : PI X tg (.Call (.Name "reversed" p) [e] [] pos) (RT.iRevA K te) := ek ▸ RT.pi_revA hg hm he hs
theorem r_rev {te : TE} {R : It → Hp → Prop} (h : te σ H fun v H1 => ∃ (a : Addr) (xs : List V), v = .ref a ∧ ((SqL K H1 a xs ∧ R (Itv K a xs.length) H1) ∨ (SqT K H1 a xs ∧ R (RT.ItvT K a xs.length) H1))) : RT.iRevA K te σ H R := h
theorem r_revL {a : Addr} {xs : List V} {P : Addr → List V → Prop} {P' : Addr → List V → Prop} (h : SqL K H a xs) (k : P a xs) : ∃ (b : Addr) (ys : List V), V.ref a = .ref b ∧ ((SqL K H b ys ∧ P b ys) ∨ (SqT K H b ys ∧ P' b ys)) := ⟨a, xs, rfl, .inl ⟨h, k⟩⟩
theorem r_revT {a : Addr} {xs : List V} {P : Addr → List V → Prop} {P' : Addr → List V → Prop} (h : SqT K H a xs) (k : P' a xs) : ∃ (b : Addr) (ys : List V), V.ref a = .ref b ∧ ((SqL K H b ys ∧ P b ys) ∨ (SqT K H b ys ∧ P' b ys)) := ⟨a, xs, rfl, .inr ⟨h, k⟩⟩
/-- an item of a list of ints, by its place -/
theorem r_ixLg {a : Addr} {xs : List V} {i : Int} {ns : List Int} (h : SqL K H a xs) (e : xs = ns.map V.int) (h0 : 0 ≤ i) (h1 : i < (ns.length : Int)) (k : ∀ n, ns[i.toNat]? = some n → Q (.int n) H) : rIx K (.ref a) (.int i) H Q := by
  subst e
  obtain ⟨v, ev, hv⟩ := atI_of (xs := ns.map V.int) h0 (by rw [List.length_map]; exact h1)
  rw [List.getElem?_map] at hv
  cases hn : ns[i.toNat]? with
  | none =>
    rw [hn] at hv
    cases hv
  | some n =>
    rw [hn] at hv
    have e : V.int n = v := Option.some.inj hv
    subst e
    exact r_ixL h ev (k n hn)
end
theorem rep_ints (n : Nat) (x : Int) : (List.replicate n [V.int x]).flatten = (List.replicate n x).map V.int := by
  induction n with
  | zero => rfl
  | succ n ih => rw [List.replicate_succ, List.flatten_cons, ih, List.replicate_succ, List.map_cons]; rfl
/-- lists of ints are equal as data just where they are -/
theorem dps_ints {K : PySem.W.Frag} {H : Hp} : ∀ ns : List Int, DpAll K H (ns.map V.int) (ns.map PyData.int)
  | [] => .nil
  | n :: ns => .cons (.int n) (dps_ints ns)
theorem dp_ints {K : PySem.W.Frag} {H : Hp} {a : Addr} {ns : List Int} (h : SqL K H a (ns.map V.int)) : Dp K H (.ref a) (.list (ns.map PyData.int)) := .lst h (dps_ints ns)
theorem pow_lim {b : Int} {n : Nat} (h0 : 0 ≤ b) (h1 : b ≤ 1099511627776) : (b ^ n).natAbs < 2 ^ (40 * n + 1) := by
  rw [Int.natAbs_pow]
  have h2 : b.natAbs ≤ 2 ^ 40 := by
    have e : (2 : Nat) ^ 40 = 1099511627776 := by decide
    omega
  have h3 := Nat.pow_le_pow_left h2 n
  rw [← Nat.pow_mul] at h3
  have h4 : 2 ^ (40 * n) < 2 ^ (40 * n + 1) := Nat.pow_lt_pow_right (by decide) (by omega)
  omega
theorem lay_ints (ns : List Int) : PyData.canLayAll0 (ns.map PyData.int) = true := by
  induction ns with
  | nil => rfl
  | cons n ns ih => simpa [PyData.canLayAll0, PyData.canLay0] using ih
theorem deep_ints (ns : List Int) : PyData.depthAll (ns.map PyData.int) ≤ 1 := by
  induction ns with
  | nil => decide
  | cons n ns ih => simpa [PyData.depthAll, PyData.depth] using ih
theorem shaped_ints (ns : List Int) : SeqAt.shaped (.list (ns.map PyData.int)) = true := by
  have h := lay_ints ns
  have h2 := deep_ints ns
  simp [SeqAt.shaped, PyData.canLay0, PyData.depth, h]
  omega
theorem eqv_ints (ns : List Int) : PyData.eqv (.list (ns.map PyData.int)) (.list (ns.map PyData.int)) = true := SeqAt.eqv_refl _ (by simpa [PyData.canLay0] using lay_ints ns)
section
variable {H : Hp} {Q : VK} {K : PySem.W.Frag}
/-- two lists of the same ints -/
theorem r_neLL {a b : Addr} {ns : List Int} (ha : SqL K H a (ns.map V.int)) (hb : SqL K H b (ns.map V.int)) (k : Q (.bl false) H) : rNeA K (.ref a) (.ref b) H Q := r_neD (dp_ints ha) (dp_ints hb) (shaped_ints ns) (shaped_ints ns) (by rw [eqv_ints]; exact k)
theorem r_eqLL {a b : Addr} {ns : List Int} (ha : SqL K H a (ns.map V.int)) (hb : SqL K H b (ns.map V.int)) (k : Q (.bl true) H) : rEqA K (.ref a) (.ref b) H Q := r_eqD (dp_ints ha) (dp_ints hb) (shaped_ints ns) (shaped_ints ns) (by rw [eqv_ints]; exact k)
end
section
variable {H : Hp} {Q : VK} {K : PySem.W.Frag}
/-- [x] * n -/
theorem r_repI {a : Addr} {x i : Int} (ha : H a = some (.lst [V.int x])) (h0 : 0 ≤ i) (h1 : i ≤ 1000) (k : ∀ p H', Sm H H' → H p = none → H' p = some (.lst ((List.replicate i.toNat x).map V.int)) → Q (.ref p) H') : rMulA K (.ref a) (.int i) H Q :=
  r_mulL ha (by omega) (by omega) (len_le (by
    show 1 * i.toNat ≤ 1000000
    omega)) fun p H' s n e => k p H' s n (by rw [← rep_ints]; exact e)
/-- two lists of ints, one behind the other -/
theorem r_addLI {a b : Addr} {xs ys : List Int} (ha : H a = some (.lst (xs.map V.int))) (hb : H b = some (.lst (ys.map V.int))) (hz : xs.length + ys.length ≤ 1000000)
    (k : ∀ p H', Sm H H' → H p = none → H' p = some (.lst ((xs ++ ys).map V.int)) → Q (.ref p) H') : rAddA K (.ref a) (.ref b) H Q :=
  r_addL ha hb (len_le (by rw [List.length_map, List.length_map]; exact hz)) fun p H' s n e => k p H' s n (by rw [List.map_append]; exact e)
end
theorem r_ixLm {K : PySem.W.Frag} {H : Hp} {Q : VK} {a : Addr} {xs : List V} {i : Int} (h : SqL K H a xs) (h0 : 0 ≤ i) (h1 : i < (xs.length : Int)) (k : ∀ v, v ∈ xs → Q v H) : rIx K (.ref a) (.int i) H Q := by
  obtain ⟨v, ev, hv⟩ := atI_mem h0 h1
  exact r_ixL h ev (k v hv)
theorem chg_acc2 {b D : Addr} {H1 H4 : Hp} {o : HO} (n : H1 D = none) (c : Chg b H1 H4) : Chg b H1 (upd H4 D o) := chg_acc c n
theorem sm_acc2 {D : Addr} {H1 H4 : Hp} {o : HO} (n : H1 D = none) (c : Sm H1 H4) : Sm H1 (upd H4 D o) := sm_acc c n
end RV

namespace RV
open PySem PySem.Spec L2 PySem.NumText PySem.W
open PyProof.Rows hiding St
/-- the limit on an int's signs is what it was at the start -/
theorem looks_msd {K : PySem.W.Frag} {M : Model} {h : Heap} (X : K.In h) (e : PySem.W.nsIn K cStatics "sys.int_max_str_digits" = some none) : PySem.W.Looks M h Builtin.intMaxStrDigits 4300 :=
  (PySem.W.looks_nsIn X e).andThen .now
theorem from_text {M : Model} {A : Around} {E : Value → Shared → Prop} {s : Shared} {Q : Value → Shared → Prop} {v : Value} {text : List Nat} {n : Int}
    (lk : PySem.W.Looks M s.heap Builtin.intMaxStrDigits 4300) (far : ¬ (text.takeWhile (· != 0)).length ≤ 640)
    (got : (int_private% "readNumeral") 4300 10 (text.takeWhile (· != 0)) = (int_private% "Numeral.value") n)
    (whole : ((text.takeWhile (· != 0)).length == text.length) = true) (k : Q (.int n s.toks) { s with toks := s.toks + 1 }) :
    wpAny M A ((int_private% "intFromText") v text 10) Q E s := by
  obtain ⟨hp, g, d, tk, os⟩ := s
  have lk' : PySem.W.Looks M hp Builtin.intMaxStrDigits 4300 := lk
  clear lk
  repeat (any_goals (first
    | (with_reducible refine wpAny_ite_false (decide_eq_false far) ?_)
    | (with_reducible refine wpAny_ite_true (decide_eq_true whole) ?_)
    | ((with_reducible show wpAny _ _ Builtin.intMaxStrDigits _ _ _); refine PySem.W.Looks.here lk' ?_)
    | assumption
    | wp_step))
  all_goals (try rw [got])
  all_goals (try dsimp only)
  repeat (any_goals (first
    | (with_reducible refine wpAny_ite_true (decide_eq_true whole) ?_)
    | assumption
    | wp_step))
structure Kept (p : Prop) : Prop where
  get : p
theorem whole_text {x : PySem.Str} {u : Tok} {n : Int} (hl : x.length ≤ 16777216) (far : ¬ (numSeenOf x).length ≤ 640) (hn : PySem.intText? x = some n) :
    Meets (Builtin.«int.__new__» ⟨[.type "int", .str x u], []⟩) (fun A R s => (∀ M, PySem.W.Looks M s.heap Builtin.intMaxStrDigits 4300) ∧ R (.ok (.ret (.int n s.toks))) { s with toks := s.toks + 1 }) :=
  .of_wp fun prog w A R s hs => by
    obtain ⟨hp, g, d, tk, os⟩ := s
    obtain ⟨lk, fin⟩ := hs
    have a1 := F.conv_sub_int
    have a2 := F.madeHere_int
    have a3 := PySem.W.KIN.str_int
    have a4 := PySem.W.KIN.str_idx
    have a5 := PySem.W.KIN.str_trunc
    have a6 : typeOf (.str x u) = pure (.type "str") := rfl
    have got : (int_private% "readNumeral") 4300 10 (numSeenOf x) = (int_private% "Numeral.value") n ∧ ((numSeenOf x).length == (numTextOf x).length) = true := by
      have hs : (16777216 : Nat) = sizeLine := by rw [sizeLine_eq]
      rcases read4300 x (by rw [← hs]; exact hl) with ⟨m, h1, h2, h3⟩ | ⟨h1, _⟩
      · rw [hn] at h1
        cases h1
        exact ⟨h3, h2⟩
      · rw [hn] at h1
        cases h1
    have kk := Kept.mk (And.intro far got)
    have lk' := Kept.mk lk
    clear far got hl hn lk
    repeat (any_goals (first
      | assumption
      | ((with_reducible show wpAny _ _ ((int_private% "intFromText") _ _ _) _ _ _); refine from_text (lk'.get _) kk.get.1 kk.get.2.1 kk.get.2.2 ?_)
      | wp_step))
    all_goals first | exact ⟨_, rfl, fin⟩ | skip
section
variable {X : Cx} {K : PySem.W.Frag}
def rIntL : List V → Hp → VK → Prop := fun xs H Q => ∃ a n, xs = [.str a] ∧ PySem.intText? a = some n ∧ ¬ (numSeenOf a).length ≤ 640 ∧ a.length ≤ 16777216 ∧ Q (.int n) H
theorem long_int (e : X.K = K) (zs : PySem.W.nsIn K cStatics "sys.int_max_str_digits" = some none) : CallR X (.type "int") rIntL := by
  intro pins s σ H xs us Q I r h
  obtain ⟨a, n, rfl, hn, far, hl, q⟩ := h
  obtain ⟨u, rfl, t, rfl⟩ := vals1 r
  subst e
  exact call_int_1 (whole_text hl far hn) ⟨fun M => looks_msd I.kIn zs, rfl, ⟨.int n, H, I.tok _, ⟨_, rfl⟩, q⟩⟩
/-- int(..) of an int, a truth, a text of any length -/
def rIntX : List V → Hp → VK → Prop := fun xs H Q => rIntA xs H Q ∨ rIntL xs H Q
theorem int_x (e : X.K = K) (zs : PySem.W.nsIn K cStatics "sys.int_max_str_digits" = some none) : CallR X (.type "int") rIntX := cl_int.or (long_int e zs)
variable {H : Hp} {Q : VK}
theorem x_intI {i : Int} (k : Q (.int i) H) : rIntX [.int i] H Q := .inl (r_intI k)
theorem x_intB {i : Bool} (k : Q (.int (if i then 1 else 0)) H) : rIntX [.bl i] H Q := .inl (r_intB k)
/-- a text of figures alone -/
theorem x_intS {cs : List Nat} {n : Nat} (h : AllDigits cs) (h1 : cs ≠ []) (h2 : cs.length ≤ 4300) (hv : digitsVal cs = n) (k : Q (.int (n : Int)) H) : rIntX [.str (SX.S cs)] H Q := by
  have hl : (SX.S cs).length = cs.length := SX.S_len cs
  have hn : PySem.intText? (SX.S cs) = some (n : Int) := by
    rw [← hv]
    exact intText_digits (x := SX.S cs) h h1 (by rw [hl]; exact h2)
  by_cases far : (SX.S cs).length ≤ 640
  · exact .inl (r_intS hn far k)
  · refine .inr ⟨_, _, rfl, hn, ?_, by omega, k⟩
    rw [(numText_signs (x := SX.S cs) fun c hc => Or.inr (h c hc)).2]
    show ¬ (SX.S cs).cps.toList.length ≤ 640
    rw [← str_len]
    exact far
end
end RV

/-! enumerate over a text, over a tuple, over a list: one rule -/
namespace RV
open PySem PySem.Spec L2
open PyProof.Rows hiding St
/-- places and signs, in new pairs -/
def IteS (x : Str) : It :=
  ⟨fun i _ => i < x.cps.size, fun i H v H' => ∃ T c, v = .ref T ∧ H T = none ∧ H' = upd H T (.tup [.int (i : Nat), .str ⟨#[c]⟩]) ∧ x.cps[i]? = some c, fun i _ => i = x.cps.size⟩
/-- places and items of a tuple, in new pairs -/
def IteT (K : PySem.W.Frag) (a : Addr) : It :=
  ⟨fun i H => ∃ (xs : List V) (x : V), SqT K H a xs ∧ xs[i]? = some x, fun i H v H' => ∃ T x, v = .ref T ∧ H T = none ∧ H' = upd H T (.tup [.int (i : Nat), x]) ∧ ∀ xs, SqT K H a xs → xs[i]? = some x, fun i H => ∃ xs : List V, SqT K H a xs ∧ i = xs.length⟩
section
variable {P : Program} {w : World} {K : PySem.W.Frag} {elts : List Expr} {kk : Nat} {tpos : Pos}
theorem turn_enumS (x : Str) (t : Tok) (e it : Addr) :
    Turn P w K (.Tuple elts kk tpos) (IteS x) [e, it] e (fun i h => (∃ old, IsEnum h e it ((i : Nat) : Int) old) ∧ h.IsStrIter it (strIterType x) x t i ∧ e ≠ it) where
  mem := by simp
  obj := fun i h st b hb => by
    obtain ⟨⟨old, he⟩, ⟨o, ho, hc, hd⟩, _⟩ := st
    have e' : b = e ∨ b = it := by simpa using hb
    rcases e' with z | z
    · subst z
      exact ⟨_, he, fun v q => nomatch q⟩
    · subst z
      exact ⟨o, ho, fun v q => by rw [hd] at q; cases q⟩
  keep := fun i h h' st k => by
    obtain ⟨⟨old, he⟩, ⟨o, ho, r⟩, hne⟩ := st
    exact ⟨⟨old, k e (by simp) _ he⟩, ⟨o, k it (by simp) o ho, r⟩, hne⟩
  item := by
    intro X hP hw hK hc i pins s σ H E I hf st hg
    subst hP hw hK
    obtain ⟨⟨old, he⟩, hit, hne⟩ := st
    have hel : e < s.heap.objs.size := Heap.lt_size he
    have hil : it < s.heap.objs.size := by
      obtain ⟨_, q, _⟩ := hit
      exact Heap.lt_size q
    refine wpAny_pyNext_enum_itemD (Draws.text (A := X.A.in1) (show X.A.in1.handled = none from I.ok.hd hc) it x t) he hit hg hne (by simpa using hne) fun u h' tk hP ho hit' hT hsz hk => ?_
    obtain ⟨c, u', hcx, rfl⟩ := hP
    refine ⟨_, rfl, wpAny_letOwnedTupleGo_enum (s := { s with heap := h', toks := tk + 1 }) ho fun h'' he' sb => ?_⟩
    have hT2 : h''.get? s.heap.objs.size = some { cls := .type "tuple", data := .seq #[.int i tk, .str ⟨#[c]⟩ u'] } := (sb.2 _ (Nat.ne_of_gt hel)).trans hT
    have new : ObjOk X.prog X.w (upd H s.heap.objs.size (.tup [.int (i : Nat), .str ⟨#[c]⟩])) h'' s.heap.objs.size (.tup [.int (i : Nat), .str ⟨#[c]⟩]) :=
      ⟨by show 2 ≤ sizeLine; decide, _, .cons ⟨tk, rfl⟩ (.cons ⟨u', rfl⟩ .nil), ⟨_, hT2, rfl, _, rfl⟩⟩
    have I1 : Inv X pins σ (upd H s.heap.objs.size (.tup [.int (i : Nat), .str ⟨#[c]⟩])) { s with heap := h'', toks := tk + 1 } :=
      I.turnedNew (ch := [e, it]) (fun b ob hb q => (sb.2 b (fun z => hb (by simp [z]))).trans (hk b ob (fun z => hb (by simp [z])) (fun z => hb (by simp [z])) q)) hf (Nat.le_refl _) new
    refine ⟨.ref s.heap.objs.size, _, I1, rfl, ⟨_, c, rfl, I.hok.fresh (Nat.le_refl _), rfl, hcx⟩, ⟨⟨.str ⟨#[c]⟩ u', ?_⟩, ?_, hne⟩, fun b hb => ?_⟩
    · have e1 : ((i + 1 : Nat) : Int) = (i : Int) + 1 := by omega
      rw [e1]
      exact he'
    · obtain ⟨o, q, r⟩ := hit'
      exact ⟨o, (sb.2 it (Ne.symm hne)).trans q, r⟩
    · have hb' : b < s.heap.objs.size := by
        have e' : b = e ∨ b = it := by simpa using hb
        rcases e' with z | z
        · subst z
          exact hel
        · subst z
          exact hil
      rw [upd_ne (Nat.ne_of_lt hb')]
      exact (hf b hb).1
  done := by
    intro X hP hw hK hc i pins s σ H E I hf st hg
    subst hP hw hK
    obtain ⟨⟨old, he⟩, hit, hne⟩ := st
    obtain ⟨f0, f1, f2, f3, f4, f5⟩ := hf it (by simp)
    have hi : i = x.cps.size := hg
    subst hi
    exact wpAny_pyNext_enum_endD (Draws.text (A := X.A.in1) (show X.A.in1.handled = none from I.ok.hd hc) it x t) he hit fun h' eb => ⟨rfl, I.turned (t' := s.toks) (fun b o hb q => eb b o (by simpa using hb) q) f0 f1 f3 f4 f5⟩
  self := fun A i s Q E st h => by
    obtain ⟨⟨_, he⟩, _⟩ := st
    exact wpAny_pyIter_enum he h
theorem turn_enumT (a e it : Addr) :
    Turn P w K (.Tuple elts kk tpos) (IteT K a) [e, it] e (fun i h => (∃ old, IsEnum h e it ((i : Nat) : Int) old) ∧ h.IsTupleIter it a i ∧ e ≠ it) where
  mem := by simp
  obj := fun i h st b hb => by
    obtain ⟨⟨old, he⟩, ⟨o, ho, hc, hd⟩, _⟩ := st
    have e' : b = e ∨ b = it := by simpa using hb
    rcases e' with z | z
    · subst z
      exact ⟨_, he, fun v q => nomatch q⟩
    · subst z
      exact ⟨o, ho, fun v q => by rw [hd] at q; cases q⟩
  keep := fun i h h' st k => by
    obtain ⟨⟨old, he⟩, hi, hne⟩ := st
    exact ⟨⟨old, k e (by simp) _ he⟩, hi.at fun o q => k it (by simp) o q, hne⟩
  item := by
    intro X hP hw hK hc i pins s σ H E I hf st hg
    subst hP hw hK
    obtain ⟨⟨old, he⟩, hit, hne⟩ := st
    obtain ⟨xs, x, hq, hx⟩ := hg
    obtain ⟨its, rv, p, hz⟩ := I.tuple hq
    obtain ⟨u, hu, ru⟩ := rv.get hx
    have hel : e < s.heap.objs.size := Heap.lt_size he
    have hil : it < s.heap.objs.size := by
      obtain ⟨_, q, _⟩ := hit
      exact Heap.lt_size q
    have hil2 : i < its.length := (List.getElem?_eq_some_iff.mp hu).1
    have hai : a ≠ it := by
      intro z
      subst z
      obtain ⟨o1, q1, c1, _⟩ := hit
      obtain ⟨o2, q2, c2, _⟩ := p
      rw [q1] at q2
      cases q2
      rw [c1] at c2
      exact absurd (Value.type.inj c2) (by decide)
    have hae : e ≠ a := by
      intro z
      subst z
      obtain ⟨o2, q2, c2, _⟩ := p
      have q1 := he
      unfold IsEnum at q1
      rw [q1] at q2
      cases q2
      exact absurd (Value.type.inj c2) (by decide)
    have ht := p
    refine wpAny_pyNext_enum_itemD (Draws.tuple (A := X.A.in1) (show X.A.in1.handled = none from I.ok.hd hc) it a hai its.toArray) he ⟨hit, ht⟩ (by simpa using hil2) hne (by simp [hne, hae]) fun u1 h' tk hP ho hit' hT hsz hk => ?_
    have eu : u1 = u := by
      have h1 : its.toArray[i]? = some u1 := hP
      rw [List.getElem?_toArray, hu] at h1
      exact (Option.some.inj h1).symm
    subst eu
    refine ⟨_, rfl, wpAny_letOwnedTupleGo_enum (s := { s with heap := h', toks := tk + 1 }) ho fun h'' he' sb => ?_⟩
    have hT2 : h''.get? s.heap.objs.size = some { cls := .type "tuple", data := .seq #[.int i tk, u1] } := (sb.2 _ (Nat.ne_of_gt hel)).trans hT
    have new : ObjOk X.prog X.w (upd H s.heap.objs.size (.tup [.int (i : Nat), x])) h'' s.heap.objs.size (.tup [.int (i : Nat), x]) :=
      ⟨by show 2 ≤ sizeLine; decide, _, .cons ⟨tk, rfl⟩ (.cons ru .nil), ⟨_, hT2, rfl, _, rfl⟩⟩
    have I1 : Inv X pins σ (upd H s.heap.objs.size (.tup [.int (i : Nat), x])) { s with heap := h'', toks := tk + 1 } :=
      I.turnedNew (ch := [e, it]) (fun b ob hb q => (sb.2 b (fun z => hb (by simp [z]))).trans (hk b ob (fun z => hb (by simp [z])) (fun z => hb (by simp [z])) q)) hf (Nat.le_refl _) new
    refine ⟨.ref s.heap.objs.size, _, I1, rfl, ⟨_, x, rfl, I.hok.fresh (Nat.le_refl _), rfl, fun ys hy => by rw [I.tuple_inj hy hq]; exact hx⟩, ⟨⟨u1, ?_⟩, hit'.1.at fun o q => (sb.2 it (Ne.symm hne)).trans q, hne⟩, fun b hb => ?_⟩
    · have e1 : ((i + 1 : Nat) : Int) = (i : Int) + 1 := by omega
      rw [e1]
      exact he'
    · have hb' : b < s.heap.objs.size := by
        have e' : b = e ∨ b = it := by simpa using hb
        rcases e' with z | z
        · subst z
          exact hel
        · subst z
          exact hil
      rw [upd_ne (Nat.ne_of_lt hb')]
      exact (hf b hb).1
  done := by
    intro X hP hw hK hc i pins s σ H E I hf st hg
    subst hP hw hK
    obtain ⟨⟨old, he⟩, hit, hne⟩ := st
    obtain ⟨xs, hq, hx⟩ := hg
    obtain ⟨its, rv, p, hz⟩ := I.tuple hq
    obtain ⟨f0, f1, f2, f3, f4, f5⟩ := hf it (by simp)
    have hl := rv.length
    have hai : a ≠ it := by
      intro z
      subst z
      obtain ⟨o1, q1, c1, _⟩ := hit
      obtain ⟨o2, q2, c2, _⟩ := p
      rw [q1] at q2
      cases q2
      rw [c1] at c2
      exact absurd (Value.type.inj c2) (by decide)
    have e1 : i = its.toArray.size := by simp; omega
    subst e1
    exact wpAny_pyNext_enum_endD (Draws.tuple (A := X.A.in1) (show X.A.in1.handled = none from I.ok.hd hc) it a hai its.toArray) he ⟨hit, p⟩ fun h' eb => ⟨rfl, I.turned (t' := s.toks) (fun b o hb q => eb b o (by simpa using hb) q) f0 f1 f3 f4 f5⟩
  self := fun A i s Q E st h => by
    obtain ⟨⟨_, he⟩, _⟩ := st
    exact wpAny_pyIter_enum he h
end
section
variable {v : Value} {o : Obj} {Hc : Heap → Prop}
theorem meets_enum1 (B : Begins v o Hc) :
    Meets (Builtin.«enumerate.__new__» ⟨[.type "enumerate", v], []⟩) (fun _ R s => Hc s.heap ∧
      R (.ok (.ret (.ref (s.heap.push o).objs.size))) { s with heap := (s.heap.push o).push { cls := .type "enumerate", data := .fields #[.none, .bool false, .ref s.heap.objs.size, rawInt 0, .none, .none] } }) :=
  .of_wp fun prog w A R s h => by
    obtain ⟨hp, g, d, tk, os⟩ := s
    obtain ⟨h1, h⟩ := h
    have hsub := sub_enumerate
    have q1 : ∀ {A' : Around} {E : Value → Shared → Prop} {Q : Value → Shared → Prop}, Q (.ref hp.objs.size) ⟨hp.push o, g, d, tk, os⟩ → wpAny (model prog w) A' (pyIter v) Q E ⟨hp, g, d, tk, os⟩ :=
      fun q => B.iter prog w _ _ ⟨hp, g, d, tk, os⟩ _ h1 q
    wp_walk using q1
    refine wpAny_stack_any fun st => wpAny_pure ?_
    split
    · rename_i c _ _ _ _ _
      cases (c == Value.type "enumerate") <;> (wp_walk using q1; exact ⟨_, rfl, h⟩)
    · wp_walk using q1
      exact ⟨_, rfl, h⟩
theorem enum1 {prog : Program} {w : World} {A : Around} {E : Value → Shared → Prop} {s : Shared} {Q : Value → Shared → Prop} (B : Begins v o Hc) (h1 : Hc s.heap)
    (h : ∀ h', IsEnum h' (s.heap.objs.size + 1) s.heap.objs.size 0 .none → h'.get? s.heap.objs.size = some o → (∀ b o, s.heap.get? b = some o → h'.get? b = some o) → Q (.ref (s.heap.objs.size + 1)) { s with heap := h' }) :
    wpAny (model prog w) A (call (.type "enumerate") [v]) Q E s := by
  refine callType_new F.called_enumerate (by decide) (F.typeCall_enumerate_1 _) (F.newCall_enumerate_1 _) (fun obj => F.args_object_init_2 obj _) F.entry_enumerate_new (meets_enum1 B) ⟨h1, ?_⟩
  have hz : (s.heap.push o).objs.size = s.heap.objs.size + 1 := Heap.size_push ..
  show _ ∧ _
  rw [hz]
  have he : IsEnum ((s.heap.push o).push { cls := .type "enumerate", data := .fields #[.none, .bool false, .ref s.heap.objs.size, rawInt 0, .none, .none] }) (s.heap.objs.size + 1) s.heap.objs.size 0 .none := by
    have g := Heap.get?_push_size (s.heap.push o) (o := { cls := .type "enumerate", data := .fields #[.none, .bool false, .ref s.heap.objs.size, rawInt 0, .none, .none] }) rfl
    rw [hz] at g
    exact g
  exact ⟨⟨_, he, rfl⟩, h _ he (Heap.get?_push_of_some _ (Heap.get?_push_size _ B.free)) fun b o x => Heap.get?_push_of_some _ (Heap.get?_push_of_some _ x)⟩
end
section
variable {X : Cx} {e : Expr} {ta : TA} {p pos tpos : Pos} {elts : List Expr} {kk : Nat} {K : PySem.W.Frag}
def iEnumS (ta : TA) : TI := fun σ H R => ta σ H fun vs H1 => ∃ x, vs = [.str x] ∧ R (IteS x) H1
def iEnumT (K : PySem.W.Frag) (ta : TA) : TI := fun σ H R => ta σ H fun vs H1 => ∃ a xs, vs = [.ref a] ∧ SqT K H1 a xs ∧ R (IteT K a) H1
theorem pi_enumS (hg : Gl X "enumerate") (hm : X.mg "enumerate" = none) (ha : PA X [e] ta) (hs : starEach [e] X.env = [(false, eval e X.env)] := by rfl) :
    PI X (.Tuple elts kk tpos) (.Call (.Name "enumerate" p) [e] [] pos) (iEnumS ta) := by
  refine ⟨fun pins s σ H R I h => ?_⟩
  refine Call_ (ld_blt I hg hm boot_enumerate (PyProof.Rows.callWith_type1 (thn (ha.run pos pins s σ H _ I h) fun us s1 ⟨vs, H1, I1, r1, q1⟩ => ?_) hs rfl))
  obtain ⟨x, ex, q⟩ := q1
  subst ex
  cases r1 with
  | cons r rr =>
    cases rr
    obtain ⟨t, rfl⟩ := r
    refine enum1 (begins_text x t) trivial fun h' he hit hk => wpAny_pyIter_enum he ?_
    have I2 : Inv X pins σ H1 { s1 with heap := h' } := I1.kept (t' := s1.toks) hk
    refine ⟨s1.heap.objs.size + 1, [s1.heap.objs.size + 1, s1.heap.objs.size], _, _, H1, rfl, I2, turn_enumS x t (s1.heap.objs.size + 1) s1.heap.objs.size, ⟨⟨.none, he⟩, ⟨_, hit, rfl, rfl⟩, Nat.succ_ne_self _⟩, fun b hb => ?_, q⟩
    have e' : b = s1.heap.objs.size + 1 ∨ b = s1.heap.objs.size := by simpa using hb
    have hle : s1.heap.objs.size ≤ b := e'.elim (fun z => z ▸ Nat.le_succ _) (fun z => z ▸ Nat.le_refl _)
    exact I1.fpOk hle (I1.hok.fresh hle)
theorem pi_enumT (hg : Gl X "enumerate") (hm : X.mg "enumerate" = none) (ha : PA X [e] ta) (hs : starEach [e] X.env = [(false, eval e X.env)] := by rfl) :
    PI X (.Tuple elts kk tpos) (.Call (.Name "enumerate" p) [e] [] pos) (iEnumT X.K ta) := by
  refine ⟨fun pins s σ H R I h => ?_⟩
  refine Call_ (ld_blt I hg hm boot_enumerate (PyProof.Rows.callWith_type1 (thn (ha.run pos pins s σ H _ I h) fun us s1 ⟨vs, H1, I1, r1, q1⟩ => ?_) hs rfl))
  obtain ⟨a, xs, ex, hq, q⟩ := q1
  subst ex
  cases r1 with
  | cons r rr =>
    cases rr
    cases r
    obtain ⟨its, rv, p', hz⟩ := I1.tuple hq
    refine enum1 (begins_tuple a its.toArray) p' fun h' he hit hk => wpAny_pyIter_enum he ?_
    have I2 : Inv X pins σ H1 { s1 with heap := h' } := I1.kept (t' := s1.toks) hk
    refine ⟨s1.heap.objs.size + 1, [s1.heap.objs.size + 1, s1.heap.objs.size], _, _, H1, rfl, I2, turn_enumT a (s1.heap.objs.size + 1) s1.heap.objs.size, ⟨⟨.none, he⟩, ⟨_, hit, rfl, rfl⟩, Nat.succ_ne_self _⟩, fun b hb => ?_, q⟩
    have e' : b = s1.heap.objs.size + 1 ∨ b = s1.heap.objs.size := by simpa using hb
    have hle : s1.heap.objs.size ≤ b := e'.elim (fun z => z ▸ Nat.le_succ _) (fun z => z ▸ Nat.le_refl _)
    exact I1.fpOk hle (I1.hok.fresh hle)
end
section
variable {X : Cx} {e : Expr} {te : TE} {p pos tpos : Pos} {elts : List Expr} {kk : Nat} {K : PySem.W.Frag}
/-- enumerate of a list, a tuple or a text -/
def iEnumX (K : PySem.W.Frag) (ta : TA) : TI := fun σ H R => iEnum K ta σ H R ∨ iEnumT K ta σ H R ∨ iEnumS ta σ H R
theorem enum_k {ta : TA} (ek : X.K = K) (hg : Gl X "enumerate") (hm : X.mg "enumerate" = none) (ha : PA X [e] ta) (hs : starEach [e] X.env = [(false, eval e X.env)] := by rfl) :
    PI X (.Tuple elts kk tpos) (.Call (.Name "enumerate" p) [e] [] pos) (iEnumX K ta) := ek ▸ PI.or (pi_enum hg hm ha hs) (PI.or (pi_enumT hg hm ha hs) (pi_enumS hg hm ha hs))
end
section
variable {K : PySem.W.Frag} {a : Addr} {xs : List V}
theorem walk_enumT : Walk (IteT K a) xs.length (fun H => SqT K H a xs) (YPair (fun i => some (.int (i : Nat))) (fun i => xs[i]?)) := by
  refine ⟨fun i _ hi q => ⟨xs, xs[i], q, by simp [hi]⟩, fun _ q => ⟨xs, q, rfl⟩, fun i H v H' _ q y => ?_⟩
  obtain ⟨T, x, h1, h2, h3, h4⟩ := y
  exact ⟨T, .int (i : Nat), x, h1, h2, h3, rfl, h4 xs q⟩
theorem walk_enumS {z : Str} : Walk (IteS z) z.cps.size (fun _ => True) (fun i H v H' => ∃ T c, v = .ref T ∧ H T = none ∧ H' = upd H T (.tup [.int (i : Nat), .str ⟨#[c]⟩]) ∧ z.cps[i]? = some c) :=
  ⟨fun _ _ hi _ => hi, fun _ _ => rfl, fun _ _ _ _ _ _ y => y⟩
variable {ta : TA} {σ : St} {H : Hp} {R : It → Hp → Prop}
theorem r_enumL (h : ta σ H fun vs H1 => ∃ a xs, vs = [.ref a] ∧ SqL K H1 a xs ∧ R (Ite K a) H1) : iEnumX K ta σ H R := .inl h
theorem r_enumT (h : ta σ H fun vs H1 => ∃ a xs, vs = [.ref a] ∧ SqT K H1 a xs ∧ R (IteT K a) H1) : iEnumX K ta σ H R := .inr (.inl h)
theorem r_enumS (h : ta σ H fun vs H1 => ∃ x, vs = [.str x] ∧ R (IteS x) H1) : iEnumX K ta σ H R := .inr (.inr h)
end
end RV

/-! more of the own layer: raises that are never reached, lists that are gathered -/
namespace RV
open PySem PySem.Spec L2
open PyProof.Rows hiding St
section
variable {X : Cx} {K : PySem.W.Frag} {σ : St} {H : Hp} {Q : VK}
theorem r_tru_str {z : Str} {P : Bool → Prop} (h : z.length ≤ sizeLine) (k : P ((z.length : Int) != 0)) : ∃ b, TruV K (.str z) H b ∧ P b := ⟨_, ⟨h, rfl⟩, k⟩
theorem r_tru_lst {a : Addr} {xs : List V} {P : Bool → Prop} (h : SqL K H a xs) (k : P (!xs.isEmpty)) : ∃ b, TruV K (.ref a) H b ∧ P b := ⟨_, .inl ⟨xs, h, rfl⟩, k⟩
theorem r_tru_tup {a : Addr} {xs : List V} {P : Bool → Prop} (h : SqT K H a xs) (k : P (!xs.isEmpty)) : ∃ b, TruV K (.ref a) H b ∧ P b := ⟨_, .inr (.inl ⟨xs, h, rfl⟩), k⟩
theorem r_tru_non {P : Bool → Prop} (k : P false) : ∃ b, TruV K .non H b ∧ P b := ⟨_, rfl, k⟩
theorem r_par3 {D : Ends} {i j l : Nat} {ta : TA} (h : ta σ H fun vs H1 => ∃ u v w, vs = [u, v, w] ∧ D.nx (((σ.set i (some u)).set j (some v)).set l (some w)) H1) : tPar3 i j l ta D σ H := h
theorem r_uvw {u v w : V} {P : V → V → V → Prop} (h : P u v w) : ∃ u' v' w', [u, v, w] = [u', v', w'] ∧ P u' v' w' := ⟨u, v, w, rfl, h⟩
/-! f-strings -/
theorem r_fmtS {te : TE} (h : te σ H fun x H1 => (∃ y : Str, x = .str y ∧ y.length ≤ sizeLine ∧ Q (.str y) H1) ∨ ∃ i : Int, x = .int i ∧ i.natAbs.log2 < 1920 ∧ Q (.str (toString i)) H1) : tFmt te σ H Q := h
theorem r_fS {z : Str} {P : Str → Prop} {R : Prop} (h : z.length ≤ sizeLine) (k : P z) : (∃ y : Str, V.str z = .str y ∧ y.length ≤ sizeLine ∧ P y) ∨ R := .inl ⟨z, rfl, h, k⟩
theorem r_fI {i : Int} {P : Str → Prop} {R : Prop} (h : i.natAbs.log2 < 1920) (k : P (toString i)) : R ∨ (∃ j : Int, V.int i = .int j ∧ j.natAbs.log2 < 1920 ∧ P (toString j)) := .inr ⟨i, rfl, h, k⟩
def tJoined (ts : List TE) : TE := fun σ H Q => tJs ts Str.empty σ H fun out H1 => Q (.str out) H1
theorem pe_joinedN {v1 v2 : Expr} {rest : List Expr} {ts : List TE} {pos : Pos} (h : PJ X (v1 :: v2 :: rest) ts) : PE X (.JoinedStr (v1 :: v2 :: rest) pos) (tJoined ts) := pe_joined h
theorem r_joined {ts : List TE} (h : tJs ts Str.empty σ H fun out H1 => Q (.str out) H1) : tJoined ts σ H Q := h
theorem r_js0 {acc : Str} {R : Str → Hp → Prop} (h : R acc H) : tJs [] acc σ H R := h
theorem r_js1 {t : TE} {ts : List TE} {acc : Str} {R : Str → Hp → Prop} (h : t σ H fun x H1 => ∃ y : Str, x = .str y ∧ (acc ++ y).length ≤ sizeLine ∧ tJs ts (acc ++ y) σ H1 R) : tJs (t :: ts) acc σ H R := h
theorem r_jsS {z acc : Str} {P : Str → Prop} (h : (acc ++ z).length ≤ sizeLine) (k : P z) : ∃ y : Str, V.str z = .str y ∧ (acc ++ y).length ≤ sizeLine ∧ P y := ⟨z, rfl, h, k⟩
end
/-! lists that are gathered -/
structure Kp (P : Hp → V → Prop) : Prop where
  sm : ∀ {H H' : Hp} {x : V}, Sm H H' → P H x → P H' x
  up : ∀ {H : Hp} {A : Addr} {xs : List V} {o : HO} {x : V}, H A = some (.lst xs) → P H x → P (upd H A o) x
theorem Kp.add {P : Hp → V → Prop} (kp : Kp P) {Hi H4 : Hp} {A : Addr} {xs : List V} {y : V} (hA : Hi A = some (.lst xs)) (all : ∀ x ∈ xs, P Hi x) (s : Sm Hi H4) (py : P H4 y) :
    ∀ x ∈ xs ++ [y], P (upd H4 A (.lst (xs ++ [y]))) x := by
  intro x hx
  refine kp.up (s.to _ _ hA) ?_
  rcases List.mem_append.mp hx with hx | hx
  · exact kp.sm s (all x hx)
  · rw [List.mem_singleton.mp hx]
    exact py
theorem cat_mem {xs : List V} {lo hi : Option Int} {x : V} (h : x ∈ xs ++ cutV xs lo hi) : x ∈ xs := by
  rcases List.mem_append.mp h with h | h
  · exact h
  · exact cutV_mem h
theorem cat_len {xs : List V} {lo hi : Option Int} {n : Nat} (h : xs.length ≤ n) (hn : n ≤ 500000) : xs.length + (cutV xs lo hi).length ≤ sizeLine := by
  have := cutV_le xs lo hi
  exact len_le (by omega)
/-- a tuple with such items -/
def TupAt (F : List V → Prop) : Hp → V → Prop := fun H x => ∃ t vs, x = .ref t ∧ H t = some (.tup vs) ∧ F vs
theorem kp_tup (F : List V → Prop) : Kp (TupAt F) := by
  refine ⟨fun s h => ?_, fun hA h => ?_⟩
  · obtain ⟨t, vs, rfl, e, f⟩ := h
    exact ⟨t, vs, rfl, s.to _ _ e, f⟩
  · obtain ⟨t, vs, rfl, e, f⟩ := h
    refine ⟨t, vs, rfl, ?_, f⟩
    rw [upd_ne (ne_of e hA (by intro z; cases z))]
    exact e
/-- values alone -/
def ValAt (F : V → Prop) : Hp → V → Prop := fun _ x => F x
theorem kp_val (F : V → Prop) : Kp (ValAt F) := ⟨fun _ h => h, fun _ h => h⟩
theorem len_lt {n : Nat} (h : n ≤ 900000) : n < sizeLine := by
  have hl : (1000000 : Nat) ≤ sizeLine := by rw [sizeLine_eq]; decide
  omega
theorem cat1 (c : Nat) (l : List Nat) : (⟨#[c]⟩ : Str) ++ SX.S l = SX.S (c :: l) := SX.S_cat [c] l
theorem cat2 (c : Nat) (l : List Nat) : SX.S l ++ (⟨#[c]⟩ : Str) = SX.S (l ++ [c]) := SX.S_cat l [c]
theorem rep48 (n : Nat) (s : Str) (h : s.cps.toList = [48]) : (⟨((List.replicate n s.cps.toList).flatten).toArray⟩ : Str) = SX.S (List.replicate n 48) := by
  rw [h]
  have e : ∀ n : Nat, (List.replicate n [48]).flatten = List.replicate n 48 := fun n => by
    induction n with
    | zero => rfl
    | succ n ih => rw [List.replicate_succ, List.flatten_cons, ih]; rfl
  rw [e]
end RV

namespace RV
/-! bits of whole numbers, by halves -/
theorem and_par (a b : Nat) : (a &&& b) % 2 = a % 2 * (b % 2) := by
  have h := Nat.testBit_and a b 0
  rw [Nat.testBit_zero, Nat.testBit_zero, Nat.testBit_zero] at h
  have ha : a % 2 = 0 ∨ a % 2 = 1 := by omega
  have hb : b % 2 = 0 ∨ b % 2 = 1 := by omega
  have hc : (a &&& b) % 2 = 0 ∨ (a &&& b) % 2 = 1 := by omega
  rcases ha with ha | ha <;> rcases hb with hb | hb <;> rcases hc with hc | hc <;> simp_all
theorem and_half (a b : Nat) : (a &&& b) / 2 = (a / 2) &&& (b / 2) := Nat.and_div_two
/-- what the one has and the other has not -/
def out (a b : Nat) : Nat := a - (a &&& b)
theorem out_le (a b : Nat) : out a b ≤ a := Nat.sub_le _ _
theorem out_half (a b : Nat) : out a b / 2 = out (a / 2) (b / 2) ∧ out a b % 2 = a % 2 * (1 - b % 2) := by
  unfold out
  have h1 := and_half a b
  have h2 := and_par a b
  have h3 : (a &&& b) ≤ a := Nat.and_le_left
  have h4 : (a / 2 &&& b / 2) ≤ a / 2 := Nat.and_le_left
  have ha : a % 2 = 0 ∨ a % 2 = 1 := by omega
  have hb : b % 2 = 0 ∨ b % 2 = 1 := by omega
  generalize a &&& b = c at *
  generalize a / 2 &&& b / 2 = d at *
  rcases ha with ha | ha <;> rcases hb with hb | hb <;> rw [ha, hb] at h2 ⊢ <;> simp only [Nat.mul_zero, Nat.zero_mul, Nat.mul_one, Nat.one_mul, Nat.sub_zero, Nat.sub_self] at h2 ⊢ <;> constructor <;> omega
/-- how many bits are 1 -/
def pop (n : Nat) : Nat := if h : n = 0 then 0 else n % 2 + pop (n / 2)
termination_by n
decreasing_by omega
theorem pop_zero : pop 0 = 0 := by unfold pop; rfl
theorem pop_eq (n : Nat) : pop n = n % 2 + pop (n / 2) := by
  by_cases h : n = 0
  · subst h
    rw [pop_zero]
  · rw [pop, dif_neg h]
/-- where the ones stand, from a place on -/
def onesAt (n k : Nat) : List Nat := if h : n = 0 then [] else (if n % 2 = 1 then [k] else []) ++ onesAt (n / 2) (k + 1)
termination_by n
decreasing_by omega
theorem onesAt_zero (k : Nat) : onesAt 0 k = [] := by unfold onesAt; rfl
theorem onesAt_eq (n k : Nat) : onesAt n k = (if n % 2 = 1 then [k] else []) ++ onesAt (n / 2) (k + 1) := by
  by_cases h : n = 0
  · subst h
    simp [onesAt_zero]
  · rw [onesAt, dif_neg h]
theorem onesAt_len (n : Nat) : ∀ k, (onesAt n k).length = pop n := by
  induction n using Nat.strongRecOn with
  | _ n ih =>
    intro k
    by_cases h : n = 0
    · subst h
      rw [onesAt_zero, pop_zero]
      rfl
    · rw [onesAt_eq, pop_eq, List.length_append, ih (n / 2) (by omega)]
      split <;> simp only [List.length_cons, List.length_nil] <;> omega
theorem onesAt_mem (n : Nat) : ∀ k p, p ∈ onesAt n k ↔ k ≤ p ∧ n.testBit (p - k) = true := by
  induction n using Nat.strongRecOn with
  | _ n ih =>
    intro k p
    by_cases h : n = 0
    · subst h
      rw [onesAt_zero]
      simp
    · rw [onesAt_eq, List.mem_append, ih (n / 2) (by omega)]
      by_cases hp : p = k
      · subst hp
        rw [Nat.sub_self, Nat.testBit_zero]
        by_cases h1 : n % 2 = 1
        · simp [h1]
        · simp only [h1, if_false, List.not_mem_nil, false_or, decide_false]
          constructor
          · rintro ⟨h2, _⟩
            omega
          · rintro ⟨_, h2⟩
            exact absurd h2 Bool.false_ne_true
      · have e : p ∈ (if n % 2 = 1 then [k] else []) ↔ False := by
          split <;> simp [hp]
        rw [e, false_or]
        constructor
        · rintro ⟨h1, h2⟩
          refine ⟨by omega, ?_⟩
          have e2 : p - k = (p - (k + 1)) + 1 := by omega
          rw [e2, Nat.testBit_succ]
          exact h2
        · rintro ⟨h1, h2⟩
          refine ⟨by omega, ?_⟩
          have e2 : p - k = (p - (k + 1)) + 1 := by omega
          rw [e2, Nat.testBit_succ] at h2
          exact h2
/-- the ones that the other has not: how many, and what they come to -/
theorem lone_len (n : Nat) : ∀ m k (M : Nat), (∀ j, M.testBit (j + k) = m.testBit j) → ((onesAt n k).filter fun p => !M.testBit p).length = pop (out n m) := by
  induction n using Nat.strongRecOn with
  | _ n ih =>
    intro m k M hM
    by_cases h : n = 0
    · subst h
      have e : out 0 m = 0 := Nat.le_zero.mp (out_le 0 m)
      rw [onesAt_zero, e, pop_zero]
      rfl
    · have hM2 : ∀ j, M.testBit (j + (k + 1)) = (m / 2).testBit j := fun j => by
        rw [← Nat.testBit_succ, ← hM]
        congr 1
        all_goals omega
      rw [onesAt_eq, List.filter_append, List.length_append, ih (n / 2) (by omega) (m / 2) (k + 1) M hM2, pop_eq (out n m), (out_half n m).1, (out_half n m).2]
      congr 1
      have h0 := hM 0
      rw [Nat.zero_add, Nat.testBit_zero] at h0
      have hb : m % 2 = 0 ∨ m % 2 = 1 := by omega
      have ha : n % 2 = 0 ∨ n % 2 = 1 := by omega
      rcases ha with ha | ha <;> rcases hb with hb | hb <;> simp [ha, hb, h0]
theorem lone_sum (n : Nat) : ∀ m k (M : Nat), (∀ j, M.testBit (j + k) = m.testBit j) → (((onesAt n k).filter fun p => !M.testBit p).map fun p => 2 ^ p).sum = 2 ^ k * out n m := by
  induction n using Nat.strongRecOn with
  | _ n ih =>
    intro m k M hM
    by_cases h : n = 0
    · subst h
      have e : out 0 m = 0 := Nat.le_zero.mp (out_le 0 m)
      rw [onesAt_zero, e]
      rfl
    · have hM2 : ∀ j, M.testBit (j + (k + 1)) = (m / 2).testBit j := fun j => by
        rw [← Nat.testBit_succ, ← hM]
        congr 1
        all_goals omega
      rw [onesAt_eq, List.filter_append, List.map_append, List.sum_append, ih (n / 2) (by omega) (m / 2) (k + 1) M hM2]
      have h0 := hM 0
      rw [Nat.zero_add, Nat.testBit_zero] at h0
      obtain ⟨o1, o2⟩ := out_half n m
      have e : out n m = 2 * out (n / 2) (m / 2) + n % 2 * (1 - m % 2) := by omega
      rw [e, Nat.mul_add, Nat.pow_succ, Nat.mul_assoc, Nat.add_comm]
      congr 1
      have hb : m % 2 = 0 ∨ m % 2 = 1 := by omega
      have ha : n % 2 = 0 ∨ n % 2 = 1 := by omega
      rcases ha with ha | ha <;> rcases hb with hb | hb <;> simp [ha, hb, h0]
theorem out_and (a b : Nat) : out a b &&& a = out a b := by
  induction a using Nat.strongRecOn generalizing b with
  | _ a ih =>
    by_cases h : a = 0
    · subst h
      have e : out 0 b = 0 := Nat.le_zero.mp (out_le 0 b)
      rw [e]
      rfl
    · have h1 := and_half (out a b) a
      have h2 := and_par (out a b) a
      obtain ⟨o1, o2⟩ := out_half a b
      rw [o1, ih (a / 2) (by omega)] at h1
      have ha : a % 2 = 0 ∨ a % 2 = 1 := by omega
      have hb : b % 2 = 0 ∨ b % 2 = 1 := by omega
      generalize out a b &&& a = c at *
      generalize out (a / 2) (b / 2) = d at *
      generalize out a b = f at *
      rcases ha with ha | ha <;> rcases hb with hb | hb <;> rw [ha, hb] at o2 <;> rw [ha] at h2 <;> simp only [Nat.mul_zero, Nat.zero_mul, Nat.mul_one, Nat.one_mul, Nat.sub_zero, Nat.sub_self] at o2 h2 <;> omega
theorem out_zero {a b : Nat} (h : a &&& b = a) : out a b = 0 := by unfold out; rw [h]; omega
theorem out_self_zero {a b : Nat} : out a b = 0 ↔ pop (out a b) = 0 := by
  constructor
  · intro h; rw [h, pop_zero]
  · intro h
    generalize out a b = n at h
    induction n using Nat.strongRecOn with
    | _ n ih =>
      by_cases h0 : n = 0
      · exact h0
      · rw [pop_eq] at h
        have := ih (n / 2) (by omega) (by omega)
        omega
/-- the bits as signs, the greatest first -/
def bin (n : Nat) : List Nat := if h : n < 2 then [48 + n] else bin (n / 2) ++ [48 + n % 2]
termination_by n
decreasing_by omega
theorem bin_small {n : Nat} (h : n < 2) : bin n = [48 + n] := by rw [bin, dif_pos h]
theorem bin_big {n : Nat} (h : 2 ≤ n) : bin n = bin (n / 2) ++ [48 + n % 2] := by rw [bin, dif_neg (by omega)]
theorem dig_bit {d : Nat} (h : d < 2) : (Nat.digitChar d).toNat = 48 + d := by
  have : d = 0 ∨ d = 1 := by omega
  rcases this with rfl | rfl <;> rfl
theorem toDigits_bin (n : Nat) : (Nat.toDigits 2 n).map (fun c => c.toNat) = bin n := by
  induction n using Nat.strongRecOn with
  | _ n ih =>
    by_cases h : n < 2
    · rw [Nat.toDigits_of_lt_base h, bin_small h]
      show [(Nat.digitChar n).toNat] = _
      rw [dig_bit h]
    · rw [Nat.toDigits_of_base_le (by decide) (by omega), bin_big (by omega), List.map_append, ih (n / 2) (by omega)]
      show _ ++ [(Nat.digitChar (n % 2)).toNat] = _
      rw [dig_bit (by omega)]
theorem bin_in (n : Nat) : ∀ c ∈ bin n, c = 48 ∨ c = 49 := by
  induction n using Nat.strongRecOn with
  | _ n ih =>
    intro c hc
    by_cases h : n < 2
    · rw [bin_small h, List.mem_singleton] at hc
      omega
    · rw [bin_big (by omega), List.mem_append, List.mem_singleton] at hc
      rcases hc with hc | hc
      · exact ih (n / 2) (by omega) c hc
      · omega
theorem bin_ne (n : Nat) : bin n ≠ [] := by
  by_cases h : n < 2
  · rw [bin_small h]; simp
  · rw [bin_big (by omega)]; simp
theorem bin_len (n : Nat) : ∀ k, n < 2 ^ (k + 1) → (bin n).length ≤ k + 1 := by
  induction n using Nat.strongRecOn with
  | _ n ih =>
    intro k hk
    by_cases h : n < 2
    · rw [bin_small h]
      simp
    · rw [bin_big (by omega), List.length_append]
      cases k with
      | zero => rw [Nat.zero_add, Nat.pow_one] at hk; omega
      | succ k =>
        rw [Nat.pow_succ] at hk
        have := ih (n / 2) (by omega) k (by omega)
        simp only [List.length_cons, List.length_nil]
        omega
theorem bin_count (n : Nat) : (bin n).count 49 = pop n := by
  induction n using Nat.strongRecOn with
  | _ n ih =>
    by_cases h : n < 2
    · rw [bin_small h]
      have : n = 0 ∨ n = 1 := by omega
      rcases this with rfl | rfl
      · rw [pop_zero]; rfl
      · rw [pop_eq]
        simp [pop_zero]
    · rw [bin_big (by omega), List.count_append, ih (n / 2) (by omega), pop_eq n]
      have : n % 2 = 0 ∨ n % 2 = 1 := by omega
      rcases this with e | e <;> rw [e] <;> simp <;> omega
/-- what signs of bits come to -/
def bitsNum (l : List Nat) : Nat := l.foldl (fun a c => a * 2 + (c - 48)) 0
theorem bitsNum_snoc (l : List Nat) (c : Nat) : bitsNum (l ++ [c]) = bitsNum l * 2 + (c - 48) := by
  unfold bitsNum
  rw [List.foldl_append]
  rfl
theorem bitsNum_bin (n : Nat) : bitsNum (bin n) = n := by
  induction n using Nat.strongRecOn with
  | _ n ih =>
    by_cases h : n < 2
    · rw [bin_small h]
      show 0 * 2 + (48 + n - 48) = n
      omega
    · rw [bin_big (by omega), bitsNum_snoc, ih (n / 2) (by omega)]
      omega
theorem bitsNum_zeros (k : Nat) (l : List Nat) : bitsNum (List.replicate k 48 ++ l) = bitsNum l := by
  induction k with
  | zero => rfl
  | succ k ih =>
    rw [List.replicate_succ, List.cons_append]
    show bitsNum (List.replicate k 48 ++ l) = _
    exact ih
theorem pop_le {n k : Nat} (h : n < 2 ^ k) : pop n ≤ k + 1 := by
  have h3 : 2 ^ k ≤ 2 ^ (k + 1) := Nat.pow_le_pow_right (by decide) (by omega)
  have h1 := bin_len n k (by omega)
  have h2 := List.count_le_length (a := 49) (l := bin n)
  rw [bin_count] at h2
  omega
theorem bit_lt {n k p : Nat} (h : n < 2 ^ k) (hp : n.testBit p = true) : p < k := by
  rcases Nat.lt_or_ge p k with g | g
  · exact g
  · rw [Nat.testBit_lt_two_pow (Nat.lt_of_lt_of_le h (Nat.pow_le_pow_right (by decide) g))] at hp
    cases hp
/-- figures in a base that is a power of 2 -/
theorem and_fig (w : Nat) : ∀ x y r s : Nat, x < 2 ^ w → y < 2 ^ w → (x + 2 ^ w * r) &&& (y + 2 ^ w * s) = (x &&& y) + 2 ^ w * (r &&& s) := by
  induction w with
  | zero =>
    intro x y r s hx hy
    rw [Nat.pow_zero] at hx hy
    have : x = 0 := by omega
    have : y = 0 := by omega
    subst x
    subst y
    rw [Nat.pow_zero, Nat.zero_add, Nat.one_mul, Nat.zero_add, Nat.one_mul, Nat.one_mul]
    show _ = 0 + _
    rw [Nat.zero_add]
  | succ w ih =>
    intro x y r s hx hy
    rw [Nat.pow_succ] at hx hy
    have e : ∀ z t : Nat, (z + 2 ^ (w + 1) * t) / 2 = z / 2 + 2 ^ w * t ∧ (z + 2 ^ (w + 1) * t) % 2 = z % 2 := by
      intro z t
      rw [Nat.pow_succ, Nat.mul_right_comm]
      generalize 2 ^ w * t = u
      omega
    have h1 := and_half (x + 2 ^ (w + 1) * r) (y + 2 ^ (w + 1) * s)
    have h2 := and_par (x + 2 ^ (w + 1) * r) (y + 2 ^ (w + 1) * s)
    rw [(e x r).1, (e y s).1, ih _ _ _ _ (by omega) (by omega), ← and_half] at h1
    rw [(e x r).2, (e y s).2, ← and_par] at h2
    have e3 := e (x &&& y) (r &&& s)
    generalize x + 2 ^ (w + 1) * r &&& y + 2 ^ (w + 1) * s = c at *
    omega
end RV

/-! masks of ints, counts of signs, dicts made of pairs, equal lists of ints -/
namespace RV
open PySem PySem.Spec L2
open PyProof.Rows hiding St
theorem iand {a b : Int} (ha : 0 ≤ a) (hb : 0 ≤ b) : Builtin.bitAnd a b = ((a.toNat &&& b.toNat : Nat) : Int) := bitAnd_pp ha hb
theorem iout {a b : Int} (ha : 0 ≤ a) (hb : 0 ≤ b) : Builtin.bitXor a (Builtin.bitAnd a b) = ((out a.toNat b.toNat : Nat) : Int) := by
  rw [bitXor_and, iand ha hb, iand ha (Int.natCast_nonneg _), Int.toNat_natCast]
  have e : a.toNat &&& (a.toNat &&& b.toNat) = a.toNat &&& b.toNat := by rw [← Nat.and_assoc, Nat.and_self]
  rw [e]
  unfold out
  have := Nat.and_le_left (n := a.toNat) (m := b.toNat)
  omega
theorem iand_le {a b : Int} (ha : 0 ≤ a) (hb : 0 ≤ b) : 0 ≤ Builtin.bitAnd a b ∧ Builtin.bitAnd a b ≤ a ∧ Builtin.bitAnd a b ≤ b := by
  rw [iand ha hb]
  have := Nat.and_le_left (n := a.toNat) (m := b.toNat)
  have := Nat.and_le_right (n := a.toNat) (m := b.toNat)
  omega
theorem ior_le {a b : Int} (ha : 0 ≤ a) (hb : 0 ≤ b) : 0 ≤ Builtin.bitOr a b ∧ Builtin.bitOr a b ≤ a + b := by
  have h := iand_le ha hb
  rw [bitOr_and]
  omega
theorem bits_le {x : Int} {k : Nat} (h0 : 0 ≤ x) (h : x < 2 ^ k) : Builtin.Int.intBits x ≤ k := by
  refine PySem.intBits_le_iff.mpr ?_
  have e : ((2 ^ k : Nat) : Int) = (2 : Int) ^ k := by rw [Int.natCast_pow]; rfl
  have h2 : x.toNat < 2 ^ k := Int.ofNat_lt.mp (by rw [e, Int.toNat_of_nonneg h0]; exact h)
  have h3 : x.natAbs = x.toNat := by omega
  omega
theorem cnt49 : ∀ l : List Nat, cnt 49 l = ((l.count 49 : Nat) : Int)
  | [] => rfl
  | c :: l => by
    rw [cnt_cons, cnt49 l, List.count_cons]
    by_cases h : c = 49
    · subst h
      simp
      omega
    · simp [h]
theorem count_bin (n : Nat) : Txt.count (SX.S (bin n)) (Str.ofString "1") = ((pop n : Nat) : Int) := by
  have e : (Str.ofString "1") = (⟨#[49]⟩ : Str) := by decide +kernel
  rw [e]
  have h := count_is (SX.S (bin n)) 49
  have h2 : countIn (.str ⟨#[49]⟩) ((SX.S (bin n)).cps.toList.map fun n => PyData.str ⟨#[n]⟩) = cnt 49 (bin n) := rfl
  rw [h, h2, cnt49, bin_count]
/-- a dict made of numbers -/
theorem merge_some (n : Int) (v : V) : ∀ (l : List Int) (kvs : List (Key × V)), (valV (mergeK kvs (l.map fun x => ((Sum.inl x : Key), v))) (Sum.inl n : Key)).isSome = ((valV kvs (Sum.inl n : Key)).isSome || decide (n ∈ l))
  | [], kvs => by
    show (valV kvs (Sum.inl n : Key)).isSome = _
    simp
  | x :: l, kvs => by
    show (valV (mergeK (putK kvs (Sum.inl x : Key) v) (l.map fun x => ((Sum.inl x : Key), v))) (Sum.inl n : Key)).isSome = _
    rw [merge_some n v l, valV_put]
    by_cases h : n = x
    · subst h
      simp
    · have h2 : ¬ ((Sum.inl n : Key) = Sum.inl x) := fun z => h (Sum.inl.inj z)
      rw [if_neg h2]
      simp [h]
theorem eqv_lists : ∀ ns ms : List Int, PyData.eqvAll (ns.map PyData.int) (ms.map PyData.int) = decide (ns = ms)
  | [], [] => rfl
  | [], _ :: _ => rfl
  | _ :: _, [] => rfl
  | n :: ns, m :: ms => by
    show ((n == m) && PyData.eqvAll (ns.map PyData.int) (ms.map PyData.int)) = _
    rw [eqv_lists ns ms]
    by_cases h : n = m
    · subst h
      by_cases h2 : ns = ms
      · subst h2
        simp
      · simp [h2]
    · simp [h]
section
variable {H : Hp} {Q : VK} {K : PySem.W.Frag}
/-- two lists of ints -/
theorem r_eqLI {a b : Addr} {ns ms : List Int} (ha : SqL K H a (ns.map V.int)) (hb : SqL K H b (ms.map V.int)) (k : Q (.bl (decide (ns = ms))) H) : rEqA K (.ref a) (.ref b) H Q := r_eqD (dp_ints ha) (dp_ints hb) (shaped_ints ns) (shaped_ints ms) (by
  have e : PyData.eqv (.list (ns.map PyData.int)) (.list (ms.map PyData.int)) = decide (ns = ms) := eqv_lists ns ms
  rw [e]
  exact k)
theorem r_neLI {a b : Addr} {ns ms : List Int} (ha : SqL K H a (ns.map V.int)) (hb : SqL K H b (ms.map V.int)) (k : Q (.bl (!decide (ns = ms))) H) : rNeA K (.ref a) (.ref b) H Q := r_neD (dp_ints ha) (dp_ints hb) (shaped_ints ns) (shaped_ints ms) (by
  have e : PyData.eqv (.list (ns.map PyData.int)) (.list (ms.map PyData.int)) = decide (ns = ms) := eqv_lists ns ms
  rw [e]
  exact k)
theorem r_sum {a : Addr} {ns : List Int} (h : SqL K H a (ns.map V.int)) (k : Q (.int ns.sum) H) : rSum K [.ref a] H Q := ⟨a, ns, rfl, h, k⟩
theorem r_dnotin {σ : St} {ty td : TE} (h : ty σ H fun y H1 => td σ H1 fun x H2 => ∃ a o, x = .ref a ∧ DGet H2 a y o ∧ Q (.bl (!o.isSome)) H2) : tDNotIn ty td σ H Q := h
theorem r_din {σ : St} {ty td : TE} (h : ty σ H fun y H1 => td σ H1 fun x H2 => ∃ a o, x = .ref a ∧ DGet H2 a y o ∧ Q (.bl o.isSome) H2) : tDIn ty td σ H Q := h
theorem r_dgetI {d : Addr} {kvs : List (Key × V)} {n : Int} {P : Option V → Prop} (h : H d = some (.dK kvs)) (k : P (valV kvs (Sum.inl n : Key))) : ∃ a o, V.ref d = .ref a ∧ DGet H a (.int n) o ∧ P o := ⟨d, _, rfl, DGet.k (k := Sum.inl n) h, k⟩
theorem r_dgetS {d : Addr} {kvs : List (Key × V)} {n : Str} {P : Option V → Prop} (h : H d = some (.dK kvs)) (k : P (valV kvs (Sum.inr n : Key))) : ∃ a o, V.ref d = .ref a ∧ DGet H a (.str n) o ∧ P o := ⟨d, _, rfl, DGet.k (k := Sum.inr n) h, k⟩
def rDictP (K : PySem.W.Frag) : List V → Hp → VK → Prop := fun xs H Q => ∃ (a : Addr) (ps : List Addr) (kvs : List (Key × V)), xs = [.ref a] ∧ SqL K H a (ps.map V.ref) ∧ Paired (fun p kv => SqT K H p [kV kv.1, kv.2]) ps kvs ∧ ∀ p, H p = none → Q (.ref p) (upd H p (.dK (mergeK [] kvs)))
theorem dict_k {X : Cx} (e : X.K = K) (hc : X.calm = true) : CallR X (.type "dict") (rDictP K) := e ▸ call_dictP hc
/-- dict(pairs), the pairs numbers with one value -/
theorem r_dictP {a : Addr} {ps : List Addr} {l : List Int} {v : V} (h : SqL K H a (ps.map V.ref)) (hp : Paired (fun p kv => SqT K H p [kV kv.1, kv.2]) ps (l.map fun x => ((Sum.inl x : Key), v)))
    (k : ∀ p, H p = none → Q (.ref p) (upd H p (.dK (mergeK [] (l.map fun x => ((Sum.inl x : Key), v)))))) : rDictP K [.ref a] H Q := ⟨a, ps, _, rfl, h, hp, k⟩
theorem r_bits {σ : St} {to : TE} (h : to σ H fun x H1 => ∃ i, x = .int i ∧ Q (.int (Builtin.Int.intBits i : Nat)) H1) : tBits to σ H Q := h
end
theorem nat_lt {i : Int} {k : Nat} (h0 : 0 ≤ i) (h : i < 2 ^ k) : i.toNat < 2 ^ k := by
  have e : ((2 ^ k : Nat) : Int) = (2 : Int) ^ k := by rw [Int.natCast_pow]; rfl
  exact Int.ofNat_lt.mp (by rw [e, Int.toNat_of_nonneg h0]; exact h)
theorem sum_cast : ∀ l : List Nat, (l.map fun p => (1 * 2 ^ ((p : Nat) : Int).toNat : Int)).sum = (((l.map fun p => 2 ^ p).sum : Nat) : Int)
  | [] => rfl
  | p :: l => by
    rw [List.map_cons, List.sum_cons, sum_cast l, List.map_cons, List.sum_cons, Int.natCast_add, Int.natCast_pow, Int.one_mul, Int.toNat_natCast]
    rfl
theorem mem_cast {l : List Nat} {p : Nat} : ((p : Nat) : Int) ∈ l.map (fun q => ((q : Nat) : Int)) ↔ p ∈ l := by
  rw [List.mem_map]
  constructor
  · rintro ⟨q, hq, e⟩
    have : q = p := by omega
    exact this ▸ hq
  · intro h
    exact ⟨p, h, rfl⟩
end RV

/-! promises of defs that show lists and tuples (repr): kept where nothing is being shown -/
namespace RV
open PySem PySem.Spec L2
open PyProof.Rows hiding St
section
variable {P : Program} {w : World} {K : PySem.W.Frag} {mg : Str → Option Value} {base : Heap} {CX : CXT} {k : Nat} {f : Addr} {fd : FuncData} {ps N : List Str} {sp : Sp}
structure FnG (P : Program) (w : World) (K : PySem.W.Frag) (mg : Str → Option Value) (base : Heap) (CX : CXT) (k : Nat) (f : Addr) (fd : FuncData) (ps : List Str) (sp : Sp) : Prop where
  many : ∀ vs H Q E, sp vs H Q E → vs.length = ps.length
  go : ∀ (A : Around) (outer : List Env) (s : Shared) (H : Hp) (args : Args) (us : List Value) (vs : List V) (Q : VK) (E : XK), A.guards = some [] → Room k A → Env0 P w K mg base A outer s H → BindsTo s fd args (ps.zip us) → Vals vs us → sp vs H Q E →
    codeAny (model P w) A (.call (.ref f) args) (CR CX outer P w H s Q E) s
theorem deeper_guards {A : Around} {env : Env} (h : A.guards = some []) : (A.deeper env).guards = some [] := by
  first
    | exact h
    | simpa [Around.deeper] using h
/-- one entry of a def, by its body -/
theorem entered {name qual : Str} {params : Arguments} {body : List Stmt} {scope : Scope} {dV kV doc pm cdv ct oc : Value} {an od : Option Addr} {osl : Array (Option Value)} {A : Around} {outer : List Env} {s : Shared} {H : Hp} {args : Args} {us : List Value} {vs : List V} {Q : VK} {E : XK}
    (there : K.lookup f = some ⟨oc, od, .func (PySem.W.fnOf name qual params body scope dV kV doc pm an cdv ct), osl⟩) (code : PySem.W.codeIn K cdv qual = true) (S : FnScope N ps scope) (hl : vs.length = ps.length)
    (hr : Room (k + 1) A) (e0 : Env0 P w K mg base A outer s H) (hb : BindsTo s (PySem.W.fnOf name qual params body scope dV kV doc pm an cdv ct) args (ps.zip us)) (r : Vals vs us)
    (t : TS) (ht : PSs (cxOf CX P w K mg base N qual scope f cdv A outer s H E) body t) (hq : t { nx := fun _ H' => Q .non H', rt := Q } (start N vs) H) :
    codeAny (model P w) A (.call (.ref f) args) (CR CX outer P w H s Q E) s := by
  have inK : K.In s.heap := e0.mod.kin.keeps fun b o e => (e0.bs b o e).1
  have free : s.heap.NoLimit := e0.mod.nolimit.keeps fun b o e => (e0.bs b o e).1
  have kinds : ∀ y ∈ ps.zip us, scope.names.lookup y.1 = some .local ∨ (scope.names.lookup y.1 = some .cell ∧ ((cellsFrom (s.heap.objs.size + 1) scope.names []).lookup y.1).isSome = true) := fun y hy =>
    (S.par y.1 (List.of_mem_zip (show (y.1, y.2) ∈ ps.zip us from hy)).1).imp _root_.id fun q => ⟨q, PySem.W.cellsFrom_some _ _ _ (.inl q)⟩
  refine codeAny_call_function hr.depth (inK _ _ there) rfl S.co S.gen rfl (PySem.W.codeRec_of inK code) (hb _ _ _ _ ?_)
  refine wpAny_newFunctionEnv_cells S.kind kinds fun env he s1 x => ?_
  subst he
  refine ⟨free.keeps x.toInCall.keep, codeAny_func ?_⟩
  refine wpAny_mono (ht.run [] s1 (start N vs) H _ (inv_start S hr.hd e0 hl r x) hq) (fun fl s' hs => ?_) fun e s' hs => hs
  cases fl with
  | ret u =>
    obtain ⟨v, σ', H', J, rv, q⟩ := hs
    exact ⟨v, H', J.os, J.bare, J.base, J.hok, rv, q⟩
  | next =>
    obtain ⟨σ', H', J, q⟩ := hs
    exact ⟨.non, H', J.os, J.bare, J.base, J.hok, rfl, q⟩
  | brk => exact hs.elim fun _ z => z.elim fun _ z => z.2.elim
  | cont => exact hs.elim fun _ z => z.elim fun _ z => z.2.elim
theorem okG {x qual : Str} {st : Stmt} (F : Fun K x qual st f fd) (S : FnScope N ps (defScope st)) (many : ∀ vs H Q E, sp vs H Q E → vs.length = ps.length)
    (hbody : ∀ (cdv : Value) (A : Around) (outer : List Env) (s : Shared) (H : Hp) (vs : List V) (Q : VK) (E : XK), Room k (A.deeper (envOfC qual (defScope st) s.heap.objs.size f cdv)) → (A.deeper (envOfC qual (defScope st) s.heap.objs.size f cdv)).guards = some [] → sp vs H Q E →
      ∃ t, PSs (cxOf CX0 P w K mg base N qual (defScope st) f cdv A outer s H E).nox (defBody st) t ∧ t { nx := fun _ H' => Q .non H', rt := Q } (start N vs) H) : FnG P w K mg base CX0 (k + 1) f fd ps sp := by
  obtain ⟨oc, od, kV, doc, pm, an, cdv, ct, osl, rfl, lk, hcd⟩ := F.ex
  refine ⟨many, fun A outer s H args us vs Q E hg hr e0 hb r hsp => ?_⟩
  obtain ⟨t, h, q⟩ := hbody cdv A outer s H vs Q E (hr.deeper _) (deeper_guards hg) hsp
  exact entered lk hcd S (many _ _ _ _ hsp) hr e0 hb r t h.nox q
end
section
variable {X : Cx} {CX : CXT} {k : Nat} {f : Addr} {fd : FuncData} {ps : List Str} {sp : Sp} {E : XK} {x : Str} {p pos : Pos} {e : Expr} {es : List Expr} {t : TA} {K : PySem.W.Frag}
/-- f(a, ..) of such a def -/
theorem pe_callG (F : FnG X.prog X.w X.K X.mg X.base CX k f fd ps sp) (hg0 : X.A.guards = some []) (hr : Room k X.A) (hg : Gl X x) (hm : X.mg x = some (.ref f)) (hk : PySem.W.keepIn X.K (.ref f) = true) (hb : Binds X.K fd ps []) (hx : Passes CX X E)
    (ha : PA X (e :: es) t) (hdb : (x == ("__debug__" : Str)) = false := by decide) (he : starEach (e :: es) X.env = (false, eval e X.env) :: starEach es X.env := by rfl) (hpl : (backTo pos (starEach es X.env)).any (·.1) = false := by rfl) :
    PE X (.Call (.Name x p) (e :: es) [] pos) (tCall sp [] E t) := by
  refine ⟨fun pins s σ H Q I h => wpAny_Call_Name_kw (ld_glob I hg hm ?_ hdb)⟩
  refine PySem.W.callWith_K (h₀ := X.base) I.ok.mod.kin hk (thn (ha.run pos pins s σ H _ I h) fun us s1 ⟨vs, H1, I1, r, q⟩ => ⟨I1.kIn, ?_⟩) he hpl
  have r2 : Vals (vs ++ []) (us ++ []) := r.append .nil
  refine wpAny_call (codeAny_mono (F.go X.A X.stack s1 H1 ⟨us, []⟩ (us ++ []) (vs ++ []) Q E hg0 hr I1.env0 (hb s1 us I1.kIn (by rw [← r2.length]; exact F.many _ _ _ _ q)) r2 q) fun z s' hq => ?_)
  cases z with
  | error er => exact hx pins σ H1 s1 er s' I1 hq
  | ok fl =>
    cases fl with
    | ret u => exact I1.after hq
    | next => exact hq.elim
    | brk => exact hq.elim
    | cont => exact hq.elim
/-! repr of data -/
def rReprD (K : PySem.W.Frag) : List V → Hp → VK → Prop := fun xs H Q => ∃ (a : Addr) (d : PyData), xs = [.ref a] ∧ Dp K H (.ref a) d ∧ d.showable = true ∧ d.hasDict = false ∧ d.depth ≤ 20 ∧ d.shown.length ≤ sizeLine ∧ Q (.str d.shown) H
theorem repr_k (e : X.K = K) (hg : X.A.guards = some []) (hu : X.A.units + 64 < cLine) : CallR X (.builtin "repr") (rReprD K) := by
  intro pins s σ H xs us Q I r h
  obtain ⟨a, d, rfl, hd, h1, h2, h3, h4, q⟩ := h
  obtain ⟨u, rfl, ru⟩ := vals1 r
  subst e
  obtain ⟨as, hr⟩ := Dp.reads I d _ _ hd ru
  obtain rfl : u = Value.ref a := ru
  refine repr_of_reads' hr h1 (PyData.noDict_hsm h2) hg (by omega) (fun b o e => e) (fun h' u tk hk => ?_) h4
  exact ⟨.str d.shown, H, I.kept (t' := tk) hk, ⟨u, rfl⟩, q⟩
end
/-! the law's head for such a def -/
theorem headG {P : Program} {w : World} {K : PySem.W.Frag} {mg mb : Str → Option Value} {CX : CXT} {k : Nat} {fa a : Addr} {fd : FuncData} {x : Str} {sp : Sp} {s1 : Shared} {vs : List Value} {ns : List Int}
    (inK : K.In s1.heap) (gn : s1.heap.Ns mainGlobals mg) (bn : s1.heap.Ns builtinsNs mb) (bb : ∀ y : Str, y ≠ "__name__" → mb y = bootBuiltins y) (free : s1.heap.NoLimit) (g0 : s1.gens = #[])
    (at0 : s1.heap.get? a = some { cls := .type "list", data := .seq vs.toArray }) (nums : IntsAre vs ns) (short : ns.length ≤ sizeLine) (room : Room k callerA)
    (F : ∀ b : Heap, K.In b → b.Ns mainGlobals mg → FnG P w K mg b CX k fa fd [x] sp) (bind : ∀ (s : Shared) (u : Value), BindsTo s fd ⟨[u], []⟩ [(x, u)])
    (asked : ∀ H : Hp, Only H → SqL K H a (ns.map V.int) → sp [.ref a] H (fun v _ => v = .bl true) fun _ _ _ => False)
    (none_out : ∀ H e s', CX [] H s1 (fun _ _ _ => False) e s' → False) :
    codeAny (model P w) callerA (.call (.ref fa) ⟨[.ref a], []⟩) (fun r s' => r = .ok (.ret (.bool true)) ∧ OldK s1.heap s'.heap ∧ s'.os = s1.os ∧ AllBare s'.gens) s1 := by
  have rv := vals_ints nums
  have main : ∀ H : Hp, Only H → SqL K H a (ns.map V.int) → HOk P w H s1.heap → (∀ b u, H b = some u → b = a ∧ K.lookup a = none) →
      codeAny (model P w) callerA (.call (.ref fa) ⟨[.ref a], []⟩) (fun r s' => r = .ok (.ret (.bool true)) ∧ OldK s1.heap s'.heap ∧ s'.os = s1.os ∧ AllBare s'.gens) s1 := by
    intro H only sq hok lone
    have noDict : ∀ {b : Addr} {m : Str → Option Value}, s1.heap.Ns b m → (hidT s1.heap H).Ns b m := fun {b m} ⟨o, es, ep, e, d, z⟩ => ⟨o, es, ep, hidT_get e (by
      cases q : H b with
      | none => rfl
      | some u =>
        obtain ⟨rfl, _⟩ := lone b u q
        rw [at0] at e
        cases e
        cases d), d, z⟩
    have inB : K.In (hidT s1.heap H) := fun b o e => hidT_get (inK b o e) (by
      cases q : H b with
      | none => rfl
      | some u =>
        obtain ⟨rfl, z⟩ := lone b u q
        rw [z] at e
        cases e)
    have mod : Mod K mg (hidT s1.heap H) := ⟨inB, noDict gn, ⟨mb, noDict bn, bb⟩, free.elim fun mc z => ⟨mc, noDict z.1, z.2⟩⟩
    have e0 : Env0 P w K mg (hidT s1.heap H) callerA [] s1 H := ⟨rfl, mod, fun b o e => of_hidT e, Nat.le_of_eq (hidT_size _ _), trivial, (fun b hb => absurd (show b ∈ ([] : List Addr) from hb) List.not_mem_nil), hok, .of_eq g0⟩
    refine codeAny_mono ((F _ inB (noDict gn)).go callerA [] s1 H ⟨[.ref a], []⟩ [.ref a] [.ref a] _ _ rfl room e0 (bind s1 (.ref a)) (.cons rfl .nil) (asked H only sq)) fun r s' z => ?_
    cases r with
    | error e => exact (none_out H e s' z).elim
    | ok fl =>
      cases fl with
      | next => exact z.elim
      | brk => exact z.elim
      | cont => exact z.elim
      | ret u =>
        obtain ⟨v, H', os, bare, un, hok', r', q⟩ := z
        obtain rfl : v = V.bl true := q
        obtain rfl : u = Value.bool true := r'
        refine ⟨rfl, OldK.of_keep fun b o e => ?_, os, bare⟩
        cases q : H b with
        | none => exact un.keep b o e q (fun z => absurd (show b ∈ ([] : List Addr) from z) List.not_mem_nil) List.not_mem_nil
        | some u =>
          rcases only b with z | ⟨ob, xs, z⟩
          · rw [q] at z
            cases z
          · obtain ⟨e1, _⟩ := hok b _ z
            obtain ⟨e2, _⟩ := hok' b _ (un.frzs b ob _ z)
            rw [e] at e1
            cases e1
            exact e2
  cases own : K.lookup a with
  | some o =>
    have e := inK a o own
    rw [at0] at e
    cases e
    exact main (fun _ => none) (fun _ => .inl rfl) (.inr ⟨_, vs.toArray, _, own, rfl, rfl, rfl, by rw [List.size_toArray, nums.length]; exact short, by simpa using rv⟩) (fun b u z => nomatch (show (none : Option HO) = some u from z)) fun b u z => nomatch (show (none : Option HO) = some u from z)
  | none =>
    have tracked : ∀ b u, (fun c => if c = a then some (HO.frz { cls := .type "list", data := .seq vs.toArray } (.lst (ns.map V.int))) else none) b = some u → b = a ∧ u = HO.frz { cls := .type "list", data := .seq vs.toArray } (.lst (ns.map V.int)) := fun b u z => by
      by_cases hb : b = a
      · exact ⟨hb, (Option.some.inj ((if_pos hb).symm.trans z)).symm⟩
      · exact nomatch (if_neg hb).symm.trans z
    refine main (fun c => if c = a then some (.frz { cls := .type "list", data := .seq vs.toArray } (.lst (ns.map V.int))) else none) (fun b => ?_) (.inl (.inr ⟨_, if_pos rfl⟩)) (fun b u z => ?_) fun b u z => ⟨(tracked b u z).1, own⟩
    · by_cases hb : b = a
      · exact .inr ⟨_, _, if_pos hb⟩
      · exact .inl (if_neg hb)
    · obtain ⟨rfl, rfl⟩ := tracked b u z
      exact ⟨at0, by rw [List.length_map]; exact short, vs, _, rv, at0⟩
theorem walkG {l : PySem.W.OpenLaw} {n k : Nat} {q : Program} {loose : List Str} {XP : (Str → Option Value) → Heap → Prop} {YP : World → Heap → Prop} {d : DefRec} {K : Params → PySem.W.Frag} {CX : World → CXT} {sp : World → Sp} {x : Str}
    (hn : l.most = some n) (hn2 : n ≤ sizeLine) (hdf : d.params.defaults = []) (room : Room k callerA) (hY : ∀ (w : World) (h : Heap), YP w h → (K w.params).In h)
    (F : ∀ (w : World) (mg : Str → Option Value) (fa : Addr) (h : Heap), (K w.params).In h → h.Ns mainGlobals mg → mg d.name = some (.ref fa) →
      ∃ fd : FuncData, (∀ (s : Shared) (u : Value), BindsTo s fd ⟨[u], []⟩ [(x, u)]) ∧ ∀ b : Heap, (K w.params).In b → b.Ns mainGlobals mg → FnG l.prog w (K w.params) mg b (CX w) k fa fd [x] (sp w))
    (asked : ∀ (w : World) (H : Hp) (a : Addr) (ns : List Int), ns.length ≤ n → Only H → SqL (K w.params) H a (ns.map V.int) → sp w [.ref a] H (fun v _ => v = .bl true) fun _ _ _ => False)
    (none_out : ∀ (w : World) (H : Hp) (s : Shared) (e : Value) (s' : Shared), CX w [] H s (fun _ _ _ => False) e s' → False) :
    PySem.W.WalkO q loose XP YP l.row.toRowW d [] (fun f vs => PySem.call f vs) := by
  refine Att.attach_call hn hdf fun w s0 s1 mg mb fa o pm cd doc a vs ns G Y _ _ _ named obj nums len g0 => ?_
  have inK := hY w _ Y
  obtain ⟨fd, bind, got⟩ := F w mg fa _ inK G.T.g named
  exact headG inK G.T.g G.T.b G.T.builtins G.T.nolimit g0 obj nums (Nat.le_trans len hn2) room got bind (fun H only sq => asked w H a ns len only sq) fun H e s' => none_out w H s1 e s'
end RV
/-! repr of lists of numbers -/
namespace RV
open PySem PySem.Spec L2
open PyProof.Rows hiding St
theorem showable_ints : ∀ {ns : List Int}, (∀ n ∈ ns, n.natAbs < 2 ^ 64) → PyData.showableAll (ns.map PyData.int) = true
  | [], _ => by simp [PyData.showableAll]
  | n :: ns, h => by
    have h1 := h n List.mem_cons_self
    have h2 : n.natAbs.log2 < 1920 := by
      by_cases z : n.natAbs = 0
      · rw [z]; decide
      · exact Nat.lt_of_lt_of_le ((Nat.log2_lt z).mpr h1) (by decide)
    have h3 := showable_ints fun m hm => h m (List.mem_cons_of_mem _ hm)
    simp only [List.map_cons, PyData.showableAll, PyData.showable, h3, Bool.and_true, decide_eq_true_eq]
    exact h2
theorem noDict_ints (ns : List Int) : (PyData.list (ns.map PyData.int)).hasDict = false := PyData.hasDict_of_canLay _ (by simpa [PyData.canLay0] using lay_ints ns)
theorem sum_ints : ∀ {ns : List Int}, (∀ n ∈ ns, n.natAbs < 2 ^ 64) → ((PyData.shownAll (ns.map PyData.int)).map (·.length)).sum ≤ 65 * ns.length ∧ (PyData.shownAll (ns.map PyData.int)).length = ns.length
  | [], _ => by simp [PyData.shownAll]
  | n :: ns, h => by
    have h1 := h n List.mem_cons_self
    have h2 : n.natAbs.log2 < 64 := by
      by_cases z : n.natAbs = 0
      · rw [z]; decide
      · exact (Nat.log2_lt z).mpr h1
    have h3 := sum_ints fun m hm => h m (List.mem_cons_of_mem _ hm)
    have h4 := int_text_length_le (k := 64) (by decide) h2
    have h5 : (Str.ofString (toString n)).length ≤ 65 := by rw [PySem.ofString_length]; exact h4
    simp only [List.map_cons, PyData.shownAll, PyData.shown, List.sum_cons, List.length_cons]
    refine ⟨?_, by omega⟩
    have h6 : (Str.ofString (toString n)).length + ((PyData.shownAll (ns.map PyData.int)).map (·.length)).sum ≤ 65 * (ns.length + 1) := by omega
    exact h6
theorem shown_ints {ns : List Int} (h : ∀ n ∈ ns, n.natAbs < 2 ^ 64) (hl : ns.length ≤ 1000) : (PyData.list (ns.map PyData.int)).shown.length ≤ sizeLine := by
  have e := sum_ints h
  have e1 := listText_len_le (PyData.shownAll (ns.map PyData.int))
  have e2 : (PyData.list (ns.map PyData.int)).shown.length ≤ 65 * 1000 + 2 * 1000 + 3 := by
    simp only [PyData.shown]
    rw [e.2] at e1
    omega
  exact Nat.le_trans e2 (by rw [sizeLine_eq]; decide)
theorem r_reprL {K : PySem.W.Frag} {H : Hp} {Q : VK} {a : Addr} {ns : List Int} (h : SqL K H a (ns.map V.int)) (hn : ∀ n ∈ ns, n.natAbs < 2 ^ 64) (hl : ns.length ≤ 1000) (k : Q (.str (PyData.list (ns.map PyData.int)).shown) H) : rReprD K [.ref a] H Q :=
  ⟨a, _, rfl, dp_ints h, by simp only [PyData.showable]; exact showable_ints hn, noDict_ints ns, by
    have := deep_ints ns
    simp only [PyData.depth]
    omega, shown_ints hn hl, k⟩
section
variable {X : Cx} {pos : Pos} {K : PySem.W.Frag}
/-- a tuple of targets where the fragment is said by its name: goes in a comprehension's block -/
theorem pgT_k (e : X.K = K) {es : List Expr} {k : Nat} {t : TGs} {n : Nat} (hc : X.calm = true) (h : PGs X es t)
    (hn : (assignEach es X.env).length = n := by rfl) (hst : (assignEach es X.env).findIdx? (·.1) = none := by rfl) : PG X (.Tuple es k pos) (gTup K n t) := e ▸ pg_tup hc h hn hst
end
end RV

/-! repr of nested data and of None -/
namespace RV
open PySem PySem.Spec L2
open PyProof.Rows hiding St
def rReprN (K : PySem.W.Frag) : List V → Hp → VK → Prop := fun xs H Q => rReprD K xs H Q ∨ (xs = [.non] ∧ Q (.str (Str.ofString "None")) H)
theorem repr_n {X : Cx} {K : PySem.W.Frag} (e : X.K = K) (hg : X.A.guards = some []) (hu : X.A.units + 64 < cLine) : CallR X (.builtin "repr") (rReprN K) := by
  refine CallR.or (repr_k e hg hu) ?_
  intro pins s σ H xs us Q I r h
  obtain ⟨rfl, q⟩ := h
  obtain ⟨u, rfl, ru⟩ := vals1 r
  cases (show u = Value.none from ru)
  exact PySem.P.repr_of_none ⟨.str (Str.ofString "None"), H, I.tok _, ⟨_, rfl⟩, q⟩
/-- data that may be shown: at most so many signs, so deep -/
structure Shw (n k : Nat) (d : PyData) : Prop where
  s : d.showable = true
  h : d.hasDict = false
  dp : d.depth ≤ k
  l : d.shown.length ≤ n
theorem Shw.up {n m k j : Nat} {d : PyData} (x : Shw n k d) (h1 : n ≤ m) (h2 : k ≤ j) : Shw m j d := ⟨x.s, x.h, Nat.le_trans x.dp h2, Nat.le_trans x.l h1⟩
theorem shw_int {i : Int} (h : i.natAbs < 2 ^ 64) : Shw 66 0 (.int i) := by
  have h2 : i.natAbs.log2 < 64 := by
    by_cases z : i.natAbs = 0
    · rw [z]; decide
    · exact (Nat.log2_lt z).mpr h
  refine ⟨?_, by simp only [PyData.hasDict], by simp only [PyData.depth]; exact Nat.le_refl _, ?_⟩
  · simp only [PyData.showable]
    exact decide_eq_true (Nat.lt_of_lt_of_le h2 (by decide))
  · have h4 := int_text_length_le (k := 64) (by decide) h2
    have h5 : (Str.ofString (toString i)).length ≤ 65 := by rw [PySem.ofString_length]; exact h4
    simp only [PyData.shown]
    exact Nat.le_succ_of_le h5
theorem shw_str {x : Str} {n : Nat} (h : (reprText x).length ≤ n) : Shw n 0 (.str x) := ⟨by simp only [PyData.showable], by simp only [PyData.hasDict], by simp only [PyData.depth]; exact Nat.le_refl _, by simp only [PyData.shown]; exact h⟩
theorem shw_all {n k : Nat} : ∀ {ds : List PyData}, (∀ d ∈ ds, Shw n k d) → PyData.showableAll ds = true ∧ PyData.hasDictAll ds = false ∧ PyData.depthAll ds ≤ k ∧ ((PyData.shownAll ds).map (·.length)).sum ≤ n * ds.length ∧ (PyData.shownAll ds).length = ds.length
  | [], _ => by
    refine ⟨by simp only [PyData.showableAll], by simp only [PyData.hasDictAll], by simp only [PyData.depthAll]; exact Nat.zero_le _, by simp [PyData.shownAll], by simp [PyData.shownAll]⟩
  | d :: ds, h => by
    have h1 := h d (by simp)
    obtain ⟨a1, a2, a3, a4, a5⟩ := shw_all (ds := ds) fun e he => h e (by simp [he])
    refine ⟨?_, ?_, ?_, ?_, ?_⟩
    · simp only [PyData.showableAll, h1.s, a1, Bool.and_true]
    · simp only [PyData.hasDictAll, h1.h, a2, Bool.or_false]
    · simp only [PyData.depthAll]
      have := h1.dp
      omega
    · simp only [PyData.shownAll, List.map_cons, List.sum_cons, List.length_cons, Nat.mul_succ]
      have := h1.l
      omega
    · simp only [PyData.shownAll, List.length_cons, a5]
theorem shw_tup {n k : Nat} {ds : List PyData} (h : ∀ d ∈ ds, Shw n k d) : Shw (n * ds.length + 2 * ds.length + 3) (k + 1) (.tuple ds) := by
  obtain ⟨a1, a2, a3, a4, a5⟩ := shw_all h
  refine ⟨by simp only [PyData.showable]; exact a1, by simp only [PyData.hasDict]; exact a2, by simp only [PyData.depth]; omega, ?_⟩
  have e := tupleText_len_le (PyData.shownAll ds)
  simp only [PyData.shown]
  rw [a5] at e
  omega
theorem shw_lst {n k : Nat} {ds : List PyData} (h : ∀ d ∈ ds, Shw n k d) : Shw (n * ds.length + 2 * ds.length + 3) (k + 1) (.list ds) := by
  obtain ⟨a1, a2, a3, a4, a5⟩ := shw_all h
  refine ⟨by simp only [PyData.showable]; exact a1, by simp only [PyData.hasDict]; exact a2, by simp only [PyData.depth]; omega, ?_⟩
  have e := listText_len_le (PyData.shownAll ds)
  simp only [PyData.shown]
  rw [a5] at e
  omega
theorem r_reprX {K : PySem.W.Frag} {H : Hp} {Q : VK} {a : Addr} {d : PyData} {n k : Nat} (h : Dp K H (.ref a) d) (x : Shw n k d) (hn : n ≤ 900000) (hk : k ≤ 20) (q : Q (.str d.shown) H) : rReprN K [.ref a] H Q :=
  .inl ⟨a, d, rfl, h, x.s, x.h, Nat.le_trans x.dp hk, len_le (Nat.le_trans x.l (Nat.le_trans hn (by decide))), q⟩
theorem r_reprNone {K : PySem.W.Frag} {H : Hp} {Q : VK} (q : Q (.str (Str.ofString "None")) H) : rReprN K [.non] H Q := .inr ⟨rfl, q⟩
end RV

/-! objects of own classes: len, str, repr, truth, == by their own defs -/
namespace RV
open PySem PySem.Spec L2
open PyProof.Rows hiding St
section
variable {X : Cx} {CX : CXT} {k : Nat} {f C : Addr} {fd : FuncData} {ps : List Str} {sp : Sp} {E : XK} {pins : List (Addr × Obj)} {σ : St} {H : Hp} {s : Shared}
/-- a def called from inside a built-in -/
theorem run_in {A : Around} {Q : VK} {us : List Value} {vs : List V} (F : FnOk X.prog X.w X.K X.mg X.base CX k f fd ps sp) (hr : Room k A) (e0 : Env0 X.prog X.w X.K X.mg X.base A X.stack s H)
    (hb : Binds X.K fd ps []) (hx : Passes CX X E) (I : Inv X pins σ H s) (r : Vals vs us) (h : sp vs H Q E) : wpAny (model X.prog X.w) A (call (.ref f) us) (EP X pins σ Q) X.xe s := by
  have hl : us.length = ps.length := by rw [← r.length]; exact F.len _ _ _ _ h
  refine wpAny_call (codeAny_mono (F.run A X.stack s H ⟨us, []⟩ us vs Q E hr e0 (by
    have z := hb s us I.kIn (by rw [List.append_nil]; exact hl)
    rw [List.append_nil] at z
    exact z) r h) fun r s' hq => ?_)
  cases r with
  | error e => exact hx pins σ H s e s' I hq
  | ok fl =>
    cases fl with
    | ret u => exact I.after hq
    | next => exact False.elim hq
    | brk => exact False.elim hq
    | cont => exact False.elim hq
theorem ins_inst {a dx : Addr} {fs : List (Str × V)} (I : Inv X pins σ H s) (e : H a = some (.ins C dx fs)) : ∃ ox od, PySem.W.InstAt s.heap a ox C od := by
  obtain ⟨mA, O, _⟩ := ins_get I.hok e
  obtain ⟨od, J, _⟩ := O.look
  exact ⟨_, _, J⟩
def rLenOwn (C : Addr) (sp : Sp) (E : XK) : List V → Hp → VK → Prop := fun xs H Q => ∃ a dx fs, xs = [V.ref a] ∧ H a = some (.ins C dx fs) ∧ sp [.ref a] H (fun z H' => ∃ n : Int, z = .int n ∧ (0 ≤ n ∧ n < 2 ^ 63) ∧ Q z H') E
theorem call_lenOwn (hm : Meth X.K C "__len__" f) (F : FnOk X.prog X.w X.K X.mg X.base CX k f fd ps sp) (hr : Room (k + 2) X.A) (hb : Binds X.K fd ps []) (hx : Passes CX X E) : CallR X (.builtin "len") (rLenOwn C sp E) := by
  intro pins s σ H xs us Q I r h
  obtain ⟨a, dx, fs, rfl, e, q⟩ := h
  obtain ⟨u, rfl, ru⟩ := r.one
  cases (show u = Value.ref a from ru)
  obtain ⟨ox, od, J⟩ := ins_inst I e
  obtain ⟨m, hF⟩ := I.fr
  have hr1 : Room k X.A.in1 := (show Room (k + 1) X.A.in1 from Room.in1 hr).mono (Nat.le_succ _)
  refine PySem.W.len_K hF I.ok.mod.kin J hm.at_ hm.fn (wpAny_mono (run_in (us := [.ref a]) (vs := [.ref a]) F hr1 I.env0.in1 hb hx I (.cons rfl .nil) q) (fun w s' z => ?_) fun _ _ x => x)
  obtain ⟨z', H', I', rz, n, en, b, qz⟩ := z
  subst en
  obtain ⟨t, et⟩ := (show ∃ t, w = Value.int n t from rz)
  cases et
  exact ⟨b, .int n, H', I'.tok _, ⟨_, rfl⟩, qz⟩
def rStrOwn (C : Addr) (sp : Sp) (E : XK) : List V → Hp → VK → Prop := fun xs H Q => ∃ a dx fs, xs = [V.ref a] ∧ H a = some (.ins C dx fs) ∧ sp [.ref a] H (fun z H' => ∃ y : Str, z = .str y ∧ Q z H') E
theorem call_reprOwn (hm : Meth X.K C "__repr__" f) (F : FnOk X.prog X.w X.K X.mg X.base CX k f fd ps sp) (hr : Room (k + 2) X.A) (hb : Binds X.K fd ps []) (hx : Passes CX X E) : CallR X (.builtin "repr") (rStrOwn C sp E) := by
  intro pins s σ H xs us Q I r h
  obtain ⟨a, dx, fs, rfl, e, q⟩ := h
  obtain ⟨u, rfl, ru⟩ := r.one
  cases (show u = Value.ref a from ru)
  obtain ⟨ox, od, J⟩ := ins_inst I e
  obtain ⟨m, hF⟩ := I.fr
  have hr0 : Room (k + 1) X.A.in1 := Room.in1 hr
  have hr1 : Room k X.A.in1 := hr0.mono (Nat.le_succ _)
  refine PySem.W.repr_K hr1.units0 hF I.ok.mod.kin J hm.at_ hm.fn (wpAny_mono (run_in (us := [.ref a]) (vs := [.ref a]) F hr1 I.env0.in1 hb hx I (.cons rfl .nil) q) (fun w s' z => ?_) fun _ _ x => x)
  obtain ⟨z', H', I', rz, n, en, qz⟩ := z
  subst en
  obtain ⟨t, et⟩ := (show ∃ t, w = Value.str n t from rz)
  cases et
  exact ⟨.str n, H', I', ⟨_, rfl⟩, qz⟩
theorem call_strOwn (hm : Meth X.K C "__str__" f) (F : FnOk X.prog X.w X.K X.mg X.base CX k f fd ps sp) (hr : Room (k + 2) X.A) (hb : Binds X.K fd ps []) (hx : Passes CX X E) : CallR X (.type "str") (rStrOwn C sp E) := by
  intro pins s σ H xs us Q I r h
  obtain ⟨a, dx, fs, rfl, e, q⟩ := h
  obtain ⟨u, rfl, ru⟩ := r.one
  cases (show u = Value.ref a from ru)
  obtain ⟨ox, od, J⟩ := ins_inst I e
  have hr1 : Room k X.A.in1.in1 := (show Room (k + 1) X.A.in1 from Room.in1 hr).in1
  refine PySem.W.kso_call hr1.units0 I.kIn J hm.at_ hm.fn (wpAny_mono (run_in (us := [.ref a]) (vs := [.ref a]) F hr1 I.env0.in1.in1 hb hx I (.cons rfl .nil) q) (fun w s' z => ?_) fun _ _ x => x)
  obtain ⟨z', H', I', rz, n, en, qz⟩ := z
  subst en
  obtain ⟨t, et⟩ := (show ∃ t, w = Value.str n t from rz)
  cases et
  exact ⟨.str n, H', I', ⟨_, rfl⟩, qz⟩
/-- x == y: x an object with its own def, y anything that is no instance of a class below -/
def rEqOwn (K : PySem.W.Frag) (C : Addr) (sp : Sp) (E : XK) : R2 := fun x y H Q => ∃ a dx fs t, x = .ref a ∧ H a = some (.ins C dx fs) ∧ TyX K H y t ∧ PySem.W.notFirst K C t = true ∧ sp [x, y] H Q E
/-- truth by __len__ -/
theorem truthy_len {prog : Program} {w : World} {A : Around} {E : Value → Shared → Prop} {s : Shared} {K : PySem.W.Frag} {x C f : Addr} {ox : Obj} {od : Option Obj} {Q : Bool → Shared → Prop} (Xk : K.In s.heap) (J : PySem.W.InstAt s.heap x ox C od)
    (hb : PySem.W.findIn K (.ref C) "__bool__" = some none) (hl : PySem.W.findIn K (.ref C) "__len__" = some (some (.ref f))) (hf : PySem.W.isFn K (.ref f) = true)
    (h : wpAny (model prog w) A.in1 (call (.ref f) [.ref x]) (PySem.W.LenBack fun v s' => ∃ n t, v = .int n t ∧ Q (n != 0) s') E s) : wpAny (model prog w) A (truthy (.ref x)) Q E s := by
  have key : wpAny (model prog w) A (runValue (.builtin "len" ⟨[.ref x], []⟩)) (fun r s' => ∃ n t, r = .int n t ∧ Q (n != 0) s') E s := by
    refine wpAny_runValue (codeAny_builtin PySem.entry_len ?_)
    rw [Around.under_plainId PySem.plain_len _]
    refine wpAny_mono (Q := fun fin s' => ∃ r, fin = .done (.ret r) ∧ ∃ n t, r = .int n t ∧ Q (n != 0) s') ?_ (fun fin s' h' => by obtain ⟨r, rfl, hq⟩ := h'; exact hq) fun _ _ e => e
    unfold Builtin.«len»
    refine wpAny_bind (m := oneArg "len" _) (wpAny_pure ?_)
    refine wpAny_bind (m := callSpecial? (.ref x) (Str.ofString "__len__")) (PySem.W.special_fn Xk J hl (beq_iff_eq.mp hf) (wpAny_mono h (fun r s' hr => ?_) fun _ _ y => y))
    cases r <;> first | exact hr.elim | skip
    rename_i n u
    obtain ⟨⟨h0, h1⟩, hq⟩ := hr
    refine wpAny_bind (wpAny_holding (wpAny_pure ?_))
    refine wpAny_bind (wpAny_letGo ?_)
    show wpAny _ _ (if n < 0 then _ else _) _ _ _
    rw [if_neg (by omega)]
    show wpAny _ _ (if n ≥ 2 ^ 63 then _ else _) _ _ _
    rw [if_neg (by omega)]
    exact wpAny_bind (wpAny_mkInt (wpAny_pure ⟨_, rfl, hq⟩))
  unfold truthy
  refine wpAny_bind (m := callSpecial? (.ref x) (Str.ofString "__bool__")) (wpAny_bind (wpAny_bind (J.type.here ((PySem.W.looks_findIn Xk hb).here (wpAny_pure ?_)))))
  refine wpAny_bind (wpAny_bind (J.type.here ((PySem.W.looks_findIn Xk hl).here ?_)))
  show wpAny _ _ (if (some (Value.ref f)).isNone = true then _ else _) _ _ _
  rw [if_neg (by simp)]
  refine wpAny_bind (wpAny_mono key (fun r s' h' => ?_) fun _ _ e => e)
  obtain ⟨n, t, rfl, hq⟩ := h'
  exact wpAny_pure hq
def rBoolOwn (C : Addr) (sp : Sp) (E : XK) : List V → Hp → VK → Prop := fun xs H Q => ∃ a dx fs, xs = [V.ref a] ∧ H a = some (.ins C dx fs) ∧ sp [.ref a] H (fun z H' => ∃ n : Int, z = .int n ∧ (0 ≤ n ∧ n < 2 ^ 63) ∧ Q (.bl (n != 0)) H') E
theorem call_boolOwn (hm : Meth X.K C "__len__" f) (hnb : PySem.W.findIn X.K (.ref C) "__bool__" = some none) (F : FnOk X.prog X.w X.K X.mg X.base CX k f fd ps sp) (hr : Room (k + 3) X.A) (hb : Binds X.K fd ps []) (hx : Passes CX X E) : CallR X (.type "bool") (rBoolOwn C sp E) := by
  intro pins s σ H xs us Q I r h
  obtain ⟨a, dx, fs, rfl, e, q⟩ := h
  obtain ⟨u, rfl, ru⟩ := r.one
  cases (show u = Value.ref a from ru)
  obtain ⟨ox, od, J⟩ := ins_inst I e
  have hr1 : Room k X.A.in1.in1.in1 := (show Room (k + 1) X.A.in1.in1 from (show Room (k + 2) X.A.in1 from Room.in1 hr).in1).in1
  have T : wpAny (model X.prog X.w) X.A.in1.in1 (truthy (.ref a)) (fun b s' => EP X pins σ Q (.bool b) s') X.xe s := by
    refine truthy_len I.kIn J hnb hm.at_ hm.fn (wpAny_mono (run_in (us := [.ref a]) (vs := [.ref a]) F hr1 I.env0.in1.in1.in1 hb hx I (.cons rfl .nil) q) (fun w s' z => ?_) fun _ _ x => x)
    obtain ⟨z', H', I', rz, n, en, b, qz⟩ := z
    subst en
    obtain ⟨t, et⟩ := (show ∃ t, w = Value.int n t from rz)
    cases et
    exact ⟨b, n, _, rfl, .bl (n != 0), H', I'.tok _, rfl, qz⟩
  refine callType_codes (T := "bool") (Bi := Builtin.«object.__init__») (Q₁ := fun r s₁ => ∃ b, r = .bool b ∧ EP X pins σ Q r s₁) PySem.F.called_bool (PySem.F.typeCall_bool_1 _) PySem.F.entry_object_init ?_ ?_
  · refine codeAny_of_tree ?_
    show wpAny _ X.A.in1.in1 (do checkBuiltinCall "bool.__new__" ⟨[.type "bool", .ref a], []⟩; again (.builtin "bool.__new__" ⟨[.type "bool", .ref a], []⟩)) _ _ s
    refine wpAny_bind (wpAny_of_eq (PySem.F.newCall_bool_1 _) (wpAny_pure ⟨plainId_quiet (by decide +kernel) _, codeAny_builtin PySem.F.entry_bool_new ?_⟩))
    rw [Around.under_plainId (by decide +kernel) _]
    unfold Builtin.«bool.__new__»
    refine wpAny_bind (m := isType (.type "bool")) (wpAny_pure ?_)
    refine wpAny_bind (wpAny_of_eq PySem.F.conv_sub_bool ?_)
    refine wpAny_bind (wpAny_pure ?_)
    refine wpAny_bind (wpAny_mono T (fun b s' hb => wpAny_pure ?_) fun _ _ y => y)
    exact ⟨b, rfl, hb⟩
  · rintro obj s₁ ⟨b, rfl, hq⟩
    exact ⟨rfl, PySem.F.args_object_init_2 _ _, object_init_meets PySem.F.called_bool.init.lookup PySem.F.called_bool.made (by decide) X.prog X.w X.A.in1 _ s₁ ⟨rfl, rfl, hq⟩⟩
end
end RV

/-! objects, defaults, written dicts, zip of tuples, dict displays: readings -/
namespace RV
open PySem PySem.Spec L2
open PyProof.Rows hiding St
section
variable {X : Cx} {K : PySem.W.Frag} {w : World}
def rIsC (C : Addr) : List V → Hp → VK → Prop := fun xs H Q => ∃ a dx fs, xs = [V.ref a, V.ref C] ∧ H a = some (.ins C dx fs) ∧ Q (.bl true) H
theorem isC_k {C : Addr} (e : X.K = K) (c : C8.InsC K C) : CallR X (.builtin "isinstance") (rIsC C) := C8.call_isC (e ▸ c)
theorem kdix_k (e : X.K = K) (ew : X.w = w) : IxR X (rIxD K w) := e ▸ ew ▸ ix_kdict
theorem zip_k {elts : List Expr} {kk : Nat} {tpos p pos : Pos} {x y : Expr} {ta : TA} (e : X.K = K) (hg : Gl X "zip") (hm : X.mg "zip" = none) (ha : PA X [x, y] ta) (hs : starEach [x, y] X.env = (false, eval x X.env) :: starEach [y] X.env := by rfl) (hpl : ((backTo pos (starEach [y] X.env)).any fun x => x.1) = false := by rfl) :
    PI X (.Tuple elts kk tpos) (.Call (.Name "zip" p) [x, y] [] pos) (RZ.iZipA K ta) := e ▸ RZ.pi_zipA hg hm ha hs hpl
end
section
variable {X : Cx} {K : PySem.W.Frag} {e : Expr} {te : TE} {k p1 p2 p3 pos}
theorem revL_k (ek : X.K = K) (he : PE X e te) : PE X (.Subscript e (.Slice none none (some (.UnaryOp .USub (.Constant (.int 1) k p1) p2)) p3) pos) (tRevL K te) := ek ▸ pe_revL he
theorem r_revX {σ : St} {H : Hp} {Q : VK} (h : te σ H fun x H1 => ∃ a xs, x = .ref a ∧ SqL K H1 a xs ∧ ∀ p, H1 p = none → Q (.ref p) (upd H1 p (.lst xs.reverse))) : tRevL K te σ H Q := h
end
section
variable {σ : St} {H : Hp} {Q : VK} {D : Ends} {K : PySem.W.Frag} {w : World}
theorem r_fld {te : TE} {f : Str} (h : te σ H fun x H1 => ∃ a C dx fs v, x = .ref a ∧ H1 a = some (.ins C dx fs) ∧ Cls K C ∧ NoAttr K C f ∧ fs.lookup f = some v ∧ Q v H1) : tFld K te f σ H Q := h
theorem r_fldO {a C dx : Addr} {fs : List (Str × V)} {f : Str} {v : V} {P : V → Prop} (e : H a = some (.ins C dx fs)) (c : Cls K C) (n : NoAttr K C f) (l : fs.lookup f = some v) (k : P v) :
    ∃ b C dx fs v, V.ref a = .ref b ∧ H b = some (.ins C dx fs) ∧ Cls K C ∧ NoAttr K C f ∧ fs.lookup f = some v ∧ P v := ⟨a, C, dx, fs, v, rfl, e, c, n, l, k⟩
theorem r_setF {ta tv : TE} {f : Str} (h : tv σ H fun y H1 => ta σ H1 fun x H2 => ∃ a C dx fs, x = .ref a ∧ H2 a = some (.ins C dx fs) ∧ Cls K C ∧ NoAttr K C f ∧ fs.length < 1000 ∧ D.nx σ (upd H2 a (.ins C dx (putF f y fs)))) : sFld K ta tv f D σ H := h
theorem r_setO {a C dx : Addr} {fs : List (Str × V)} {f : Str} {P : Addr → Addr → Addr → List (Str × V) → Prop} (e : H a = some (.ins C dx fs)) (c : Cls K C) (n : NoAttr K C f) (l : fs.length < 1000) (k : P a C dx fs) :
    ∃ b C dx fs, V.ref a = .ref b ∧ H b = some (.ins C dx fs) ∧ Cls K C ∧ NoAttr K C f ∧ fs.length < 1000 ∧ P b C dx fs := ⟨a, C, dx, fs, rfl, e, c, n, l, k⟩
theorem r_make {C : Addr} {sp : Sp} {E : XK} {t : TA} (h : t σ H fun vs H1 => ∀ x dx, H1 x = none → H1 dx = none → dx ≠ x → sp (.ref x :: vs) (upd (upd H1 dx (.own x)) x (.ins C dx [])) (fun v H2 => v = .non ∧ Q (.ref x) H2) E) : tMake C sp [] E t σ H Q := by
  unfold tMake
  have e : (fun (vs : List V) (H1 : Hp) => ∀ x dx, H1 x = none → H1 dx = none → dx ≠ x → sp (.ref x :: (vs ++ [])) (upd (upd H1 dx (.own x)) x (.ins C dx [])) (fun v H2 => v = .non ∧ Q (.ref x) H2) E) = fun vs H1 => ∀ x dx, H1 x = none → H1 dx = none → dx ≠ x → sp (.ref x :: vs) (upd (upd H1 dx (.own x)) x (.ins C dx [])) (fun v H2 => v = .non ∧ Q (.ref x) H2) E := by
    funext vs H1
    rw [List.append_nil]
  rw [e]
  exact h
/-- what an __init__ leaves of the heap that its caller knew -/
theorem made_sm {C x dx : Addr} {H H' : Hp} (nx : H x = none) (nd : H dx = none) (c : Chg x (upd (upd H dx (.own x)) x (.ins C dx [])) H') : Sm H H' := ⟨fun a o e => by
  have h1 : a ≠ x := ne_of_none e nx
  have h2 : a ≠ dx := ne_of_none e nd
  refine c.to a o h1 ?_
  rw [upd_ne h1, upd_ne h2]
  exact e⟩
theorem made_keep {C x dx : Addr} {H : Hp} {a : Addr} {o : HO} (nx : H x = none) (nd : H dx = none) (e : H a = some o) : upd (upd H dx (.own x)) x (.ins C dx []) a = some o := by
  rw [upd_ne (ne_of_none e nx), upd_ne (ne_of_none e nd)]
  exact e
/-! dict displays, d[k] -/
theorem r_disp {trs : List (TE × TE)} (h : ∀ p, H p = none → tPairs trs σ (upd H p (.dK [])) fun ps H2 => H2 p = some (.dK []) ∧ ∃ kvs : List (Key × V), ps = kvs.map (fun kv => (kV kv.1, kv.2)) ∧ kvs.length ≤ 15 ∧ Q (.ref p) (upd H2 p (.dK (mergeK [] kvs)))) : tDisp trs σ H Q := h
theorem r_pairs0 {R : List (V × V) → Hp → Prop} (h : R [] H) : tPairs [] σ H R := h
theorem r_pairs1 {tk tv : TE} {r : List (TE × TE)} {R : List (V × V) → Hp → Prop} (h : tk σ H fun x H1 => tv σ H1 fun y H2 => tPairs r σ H2 fun ps H3 => R ((x, y) :: ps) H3) : tPairs ((tk, tv) :: r) σ H R := h
theorem r_kdix {p : Addr} {es : Array DictEntry} {n : Nat} {z : Str} {u : Value} {v : V} (D : KDict K w p es n) (e : PySem.W.nsIn K p z = some (some u)) (r : RelV v u) (k : Q v H) : rIxD K w (.ref p) (.str z) H Q := ⟨p, z, v, rfl, rfl, ⟨es, n, u, D.at_, D.lit, e, r⟩, k⟩
theorem r_kdnot {p : Addr} {z : Str} {u : Option Value} {P : Bool → Prop} (e : PySem.W.nsIn K p z = some u) (k : P (!u.isSome)) : ∃ (y : Str) (r : Option Value), V.str z = .str y ∧ V.ref p = .ref p ∧ PySem.W.nsIn K p y = some r ∧ P (!r.isSome) := ⟨z, u, rfl, rfl, e, k⟩
theorem r_kdin {p : Addr} {z : Str} {u : Option Value} {P : Bool → Prop} (e : PySem.W.nsIn K p z = some u) (k : P u.isSome) : ∃ (y : Str) (r : Option Value), V.str z = .str y ∧ V.ref p = .ref p ∧ PySem.W.nsIn K p y = some r ∧ P r.isSome := ⟨z, u, rfl, rfl, e, k⟩
theorem r_zip {ta : TA} {R : It → Hp → Prop} (h : ta σ H fun vs H1 => ∃ a b xs ys, vs = [V.ref a, V.ref b] ∧ ((SqL K H1 a xs ∧ SqL K H1 b ys ∧ R (Itz K a b) H1) ∨ (SqT K H1 a xs ∧ SqT K H1 b ys ∧ R (RZ.ItzT K a b) H1))) : RZ.iZipA K ta σ H R := h
theorem r_zT {a b : Addr} {xs ys : List V} {R : Addr → Addr → Prop} {S : Addr → Addr → List V → List V → Prop} (h1 : SqT K H a xs) (h2 : SqT K H b ys) (k : R a b) : ∃ a' b' xs' ys', [V.ref a, V.ref b] = [V.ref a', V.ref b'] ∧ (S a' b' xs' ys' ∨ (SqT K H a' xs' ∧ SqT K H b' ys' ∧ R a' b')) := ⟨a, b, xs, ys, rfl, .inr ⟨h1, h2, k⟩⟩
theorem cut_tail (x : V) (xs : List V) : cutV (x :: xs) (some 1) none = xs := by
  have e1 : HT.sIx (x :: xs).length 0 (some ((1 : Nat) : Int)) = min 1 (x :: xs).length := HT.sIx_nat _ _ _
  have e3 : (some (1 : Int)) = some ((1 : Nat) : Int) := rfl
  unfold cutV
  rw [e3, e1, HT.sIx_none, List.length_cons]
  have e2 : min 1 (xs.length + 1) = 1 := by omega
  rw [e2]
  show xs.take (xs.length + 1 - 1) = xs
  rw [Nat.add_sub_cancel, List.take_length]
theorem r_dg {td ty : TE} (h : td σ H fun x H1 => ty σ H1 fun y H2 => ∃ a v, x = .ref a ∧ DGet H2 a y (some v) ∧ Q v H2) : tDGet td ty σ H Q := h
theorem r_dgS {d : Addr} {kvs : List (Key × V)} {n : Str} {v : V} {P : V → Prop} (h : H d = some (.dK kvs)) (e : valV kvs (Sum.inr n : Key) = some v) (k : P v) : ∃ a u, V.ref d = .ref a ∧ DGet H a (.str n) (some u) ∧ P u := ⟨d, v, rfl, by rw [← e]; exact DGet.k (k := Sum.inr n) h, k⟩
theorem r_notIn {x : V} {p : Addr} {xs : List V} (h : SqL K H p xs ∨ SqT K H p xs) (fx : flatV x = true) (fs : xs.all flatV = true) (k : Q (.bl (!inV x xs)) H) : rNotInA K x (.ref p) H Q := .inr ⟨p, xs, rfl, h, fx, fs, k⟩
theorem r_inV {x : V} {p : Addr} {xs : List V} (h : SqL K H p xs ∨ SqT K H p xs) (fx : flatV x = true) (fs : xs.all flatV = true) (k : Q (.bl (inV x xs)) H) : rInA K x (.ref p) H Q := .inr ⟨p, xs, rfl, h, fx, fs, k⟩
theorem atI_end {xs : List V} {v : V} (h : xs[xs.length - 1]? = some v) : atI xs (-1) = some v := by
  have hl : 0 < xs.length := by
    rcases Nat.eq_zero_or_pos xs.length with e | e
    · rw [e] at h
      have := (List.getElem?_eq_some_iff.mp h).1
      omega
    · exact e
  have e : ixN xs.length (-1) = some (xs.length - 1) := by
    unfold ixN
    rw [if_neg (by decide), if_pos (by omega)]
    congr 1
    omega
  unfold atI
  rw [e]
  exact h
theorem r_addB {a b : Nat} {x y : Str} (ha : x.length ≤ a) (hz : y.length ≤ b) (hab : a + b ≤ 900000) (k : (x ++ y).length ≤ a + b → Q (.str (x ++ y)) H) : rAddA K (.str x) (.str y) H Q := by
  have e : (x ++ y).length = x.length + y.length := by
    show (x.cps ++ y.cps).size = x.cps.size + y.cps.size
    exact Array.size_append
  exact r_addS (len_le (by omega)) (k (by omega))
theorem r_jsB {a b : Nat} {z acc : Str} {P : Prop} (ha : acc.length ≤ a) (hz : z.length ≤ b) (hab : a + b ≤ 900000) (k : (acc ++ z).length ≤ a + b → P) : (acc ++ z).length ≤ sizeLine ∧ P := by
  have e : (acc ++ z).length = acc.length + z.length := by
    show (acc.cps ++ z.cps).size = acc.cps.size + z.cps.size
    exact Array.size_append
  exact ⟨len_le (by omega), k (by omega)⟩
end
/-- gathered in the list at A -/
structure KpA (A : Addr) (P : Hp → V → Prop) : Prop where
  sm : ∀ {H H' : Hp} {x : V}, Sm H H' → P H x → P H' x
  up : ∀ {H : Hp} {xs ys : List V} {x : V}, H A = some (.lst xs) → P H x → P (upd H A (.lst ys)) x
theorem KpA.add {A : Addr} {P : Hp → V → Prop} (kp : KpA A P) {Hi H4 : Hp} {xs : List V} {y : V} (hA : Hi A = some (.lst xs)) (all : ∀ x ∈ xs, P Hi x) (s : Sm Hi H4) (py : P H4 y) :
    ∀ x ∈ xs ++ [y], P (upd H4 A (.lst (xs ++ [y]))) x := by
  intro x hx
  refine kp.up (s.to _ _ hA) ?_
  rcases List.mem_append.mp hx with hx | hx
  · exact kp.sm s (all x hx)
  · rw [List.mem_singleton.mp hx]
    exact py
theorem ixN_zero {n : Nat} (h : 0 < n) : ixN n 0 = some 0 := by
  unfold ixN
  rw [if_pos (Int.le_refl 0), if_pos (by omega)]
  rfl
theorem joinL_len (a : List Nat) : ∀ l : List (List Nat), (TL.joinL a l).length ≤ (l.map (·.length)).sum + l.length * a.length
  | [] => Nat.zero_le _
  | [p] => by
    show p.length ≤ p.length + 0 + 1 * a.length
    omega
  | p :: q :: r => by
    have ih := joinL_len a (q :: r)
    show (p ++ (a ++ TL.joinL a (q :: r))).length ≤ _
    rw [List.length_append, List.length_append]
    simp only [List.map_cons, List.sum_cons, List.length_cons, Nat.add_mul, Nat.one_mul] at ih ⊢
    omega
theorem len_join (sep : Str) (ys : List Str) : (PySem.Txt.join sep ys).length ≤ (ys.map (·.length)).sum + ys.length * sep.length := by
  have h1 : ys = (ys.map fun y => y.cps.toList).map SX.S := by
    rw [List.map_map]
    have : (SX.S ∘ fun y : Str => y.cps.toList) = id := by
      funext y
      exact SX.S_tl y
    rw [this, List.map_id]
  have h2 : sep = SX.S sep.cps.toList := (SX.S_tl sep).symm
  have h3 := joinL_len sep.cps.toList (ys.map fun y => y.cps.toList)
  have h4 : (PySem.Txt.join sep ys).length = (TL.joinL sep.cps.toList (ys.map fun y => y.cps.toList)).length := by
    rw [h1, h2, SX.join_S, SX.S_len, List.map_map, List.map_map]
    rfl
  rw [h4]
  rw [List.map_map, List.length_map] at h3
  have h5 : ((fun l : List Nat => l.length) ∘ fun y : Str => y.cps.toList) = fun y : Str => y.length := by
    funext y
    exact (str_len y).symm
  rw [h5, ← str_len] at h3
  exact h3
theorem not_o {p : Prop} [Decidable p] (h : p) : (!decide p) = false := by rw [decide_eq_true h]; rfl
theorem not_y {p : Prop} [Decidable p] (h : ¬ p) : (!decide p) = true := by rw [decide_eq_false h]; rfl
theorem empty_add (z : Str) : Str.empty ++ z = z := by
  cases z with
  | mk c =>
    show (⟨#[] ++ c⟩ : Str) = ⟨c⟩
    rw [Array.empty_append]
theorem small_text {i : Int} (h0 : 0 ≤ i) (h1 : i < 20) : (toString i : Str).length ≤ 2 := by
  have h : ∀ n : Fin 20, (toString ((n.val : Nat) : Int) : Str).length ≤ 2 := by decide +kernel
  have e := h ⟨i.toNat, by omega⟩
  have e2 : ((i.toNat : Nat) : Int) = i := Int.toNat_of_nonneg h0
  rw [show (((⟨i.toNat, by omega⟩ : Fin 20).val : Nat) : Int) = i from e2] at e
  exact e
theorem small_log {i : Int} (h0 : 0 ≤ i) (h1 : i < 1000) : i.natAbs.log2 < 1920 := by
  have : i.natAbs < 2 ^ 10 := by omega
  by_cases e : i.natAbs = 0
  · rw [e]; decide
  · have := (Nat.log2_lt e).mpr this
    omega
theorem sum_le : ∀ (ys : List Str) (n : Nat), (∀ y ∈ ys, y.length ≤ n) → (ys.map (·.length)).sum ≤ ys.length * n
  | [], n, _ => Nat.zero_le _
  | y :: ys, n, h => by
    have h1 := h y (by simp)
    have h2 := sum_le ys n fun z hz => h z (by simp [hz])
    rw [List.map_cons, List.sum_cons, List.length_cons, Nat.succ_mul]
    omega
theorem noDs {K : PySem.W.Frag} {fd : FuncData} {ps : List Str} (h : ∃ ds, Vals [] ds ∧ Binds K fd ps ds) : Binds K fd ps [] := by
  obtain ⟨ds, r, b⟩ := h
  cases r
  exact b
theorem okD {P : Program} {w : World} {K : PySem.W.Frag} {mg : Str → Option Value} {base : Heap} {x qual : Str} {params : Arguments} {body : List Stmt} {scope : Scope} {dvs : List V} {kws : List (Str × V)} {f : Addr} {fd : FuncData} {N ps : List Str} {k : Nat} {sp : Sp}
    (F : FunD K x qual params body scope dvs kws f fd) (S : FnScope N ps scope) (len : ∀ vs H Q E, sp vs H Q E → vs.length = ps.length)
    (hbody : ∀ (cdv : Value) (A : Around) (outer : List Env) (s : Shared) (H : Hp) (vs : List V) (Q : VK) (E : XK), Room k (A.deeper (envOfC qual scope s.heap.objs.size f cdv)) → sp vs H Q E →
      ∃ t, PSs (cxOf CX0 P w K mg base N qual scope f cdv A outer s H E).nox body t ∧ t { nx := fun _ H' => Q .non H', rt := Q } (start N vs) H) : FnOk P w K mg base CX0 (k + 1) f fd ps sp :=
  F.ok S len fun cdv A outer s H vs Q E hr h => by
    obtain ⟨t, h1, h2⟩ := hbody cdv A outer s H vs Q E hr h
    exact ⟨t, h1.nox, h2⟩
end RV

/-! == and != of objects of own classes, by their own __eq__ -/
namespace RV
open PySem PySem.Spec L2
open PyProof.Rows hiding St
section
open PySem.W PySem.Builtin
variable {prog : PySem.Program} {w : World} {A : Around} {E : Value → Shared → Prop} {s : Shared} {K : PySem.W.Frag} {x C L f : Addr} {h₀ : Heap} {m : Str → Option Value} {ox : Obj} {od : Option Obj} {b tb : Value}
theorem ifBound_B {M : Model} {name : Str} {id : String} {args : List Value} {Q : Option Value → Shared → Prop} (X : K.In s.heap) (I : PySem.W.InstAt s.heap x ox C od) (hs : PySem.W.findIn K (.ref C) name = some (some (.builtin id))) (S : Slot "object" name id)
    (h : wpAny M A (call (.builtin id) (.ref x :: args)) (fun v => Q (some v)) E s) : wpAny M A (callSpecialIfBound? (.ref x) name args) Q E s := by
  simp only [callSpecialIfBound?, bindSpecialIfBound?]
  refine wpAny_holding (wpAny_bind (wpAny_bind (wpAny_bind (I.type.here ((PySem.W.looks_findIn X hs).here ?_)))))
  simp only [S.bind]
  refine wpAny_bind (wpAny_askSetting (wpAny_ite ?_))
  have fin : wpAny M A (call (.builtin id) ([.ref x] ++ args) >>= fun v => pure (some v)) Q E s := wpAny_bind (wpAny_mono h (fun v s' h' => wpAny_pure h') fun _ _ h' => h')
  split
  · exact wpAny_bind (wpAny_pure (wpAny_pure (by exact fin)))
  · exact wpAny_tryCatch (wpAny_bind (wpAny_pure (wpAny_pure (by exact fin))))
theorem ne_entry {Q : Fin → Shared → Prop} (hu : A.units < cLine) (X : K.In s.heap) (I : PySem.W.InstAt s.heap x ox C od)
    (hs : PySem.W.findIn K (.ref C) "__eq__" = some (some (.ref f))) (hf : PySem.W.isFn K (.ref f) = true)
    (h : wpAny (model prog w) A (call (.ref f) [.ref x, b]) (fun v s' => ∃ r, v = .bool r ∧ Q (.done (.ret (.bool (!r)))) s') E s) :
    wpAny (model prog w) A (Builtin.«object.__ne__» ⟨[.ref x, b], []⟩) Q E s := by
  unfold Builtin.«object.__ne__»
  repeat (first
    | with_reducible refine wpAny_cRoomFor hu ?_
    | (refine wpAny_bind (m := callSpecialIfBound? (.ref x) (Str.ofString "__eq__") [b])
        (PySem.W.ifBound_K X I hs hf (wpAny_mono h (fun r s' hr => by
          obtain ⟨b, rfl, hq⟩ := hr
          repeat (first | exact hq | exact wpAny_pure hq | exact wpAny_truthy_bool hq | (refine wpAny_bind (m := truthy (.bool _)) (wpAny_truthy_bool ?_)) | wp_step)) fun _ _ e => e)))
    | wp_step)
theorem ne_try {Q : Option Value → Shared → Prop} (hu : A.units + 1 < cLine) (X : K.In s.heap) (I : PySem.W.InstAt s.heap x ox C od)
    (hne : PySem.W.findIn K (.ref C) "__ne__" = some (some (.builtin "object.__ne__"))) (hob : PySem.W.mroIn K C (.type "object") = some true)
    (hs : PySem.W.findIn K (.ref C) "__eq__" = some (some (.ref f))) (hf : PySem.W.isFn K (.ref f) = true)
    (h : wpAny (model prog w) A.in1 (call (.ref f) [.ref x, b]) (fun v s' => ∃ r, v = .bool r ∧ Q (some (.bool (!r))) s') E s) :
    wpAny (model prog w) A (tryCompare (.ref x) "__ne__" b) Q E s := by
  have FB := F.cmp_object
  have sub : PySem.W.Looks (model prog w) s.heap (isInstance (.ref x) (.type "object")) true := I.type.andThen (PySem.W.looks_mroIn X hob)
  unfold tryCompare
  refine wpAny_bind (ifBound_B X I hne FB.ne (wpAny_call (codeAny_call_builtin FB.ne.plain F.cmpEntry_ne
    (@PySem.W.check_slot (model prog w) _ _ s "object.__ne__" "object" "__ne__" (.ref x) [b] [] _ F.cmpKind_ne F.cmpSplit_ne sub (F.cmpArgs_ne _ _)
      (ne_entry (A := A.in1) hu X I hs hf (wpAny_mono h (fun v s' hv => ?_) fun _ _ e => e))))))
  obtain ⟨b, rfl, hq⟩ := hv
  first | exact ⟨b, rfl, wpAny_pure hq⟩ | exact ⟨b, rfl, wpAny_pure (wpAny_pure hq)⟩ | exact ⟨b, rfl, hq⟩
theorem ne_K {Q : Value → Shared → Prop} (hu : A.units + 1 < cLine) (F : PyProof.Rows.Fr h₀ L s.heap m) (X₀ : K.In h₀) (I : PySem.W.InstAt s.heap x ox C od) (hb : PySem.W.Looks (model prog w) s.heap (typeOf b) tb) (hn : PySem.W.notFirst K C tb = true)
    (hne : PySem.W.findIn K (.ref C) "__ne__" = some (some (.builtin "object.__ne__"))) (hob : PySem.W.mroIn K C (.type "object") = some true)
    (hs : PySem.W.findIn K (.ref C) "__eq__" = some (some (.ref f))) (hf : PySem.W.isFn K (.ref f) = true)
    (h : wpAny (model prog w) A.in1 (call (.ref f) [.ref x, b]) (fun v s' => ∃ r, v = .bool r ∧ Q (.bool (!r)) s') E s) : wpAny (model prog w) A (richCompare .NotEq (.ref x) b) Q E s := by
  have X := X₀.keeps F.keep
  have one : wpAny (model prog w) A (tryCompare (.ref x) (cmpInfo .NotEq).2.1 b) (fun r s' => ∃ v, r = some v ∧ Q v s') E s :=
    ne_try hu X I hne hob hs hf (wpAny_mono h (fun v s' hv => by
      obtain ⟨r, rfl, q⟩ := hv
      exact ⟨r, rfl, _, rfl, q⟩) fun _ _ e => e)
  unfold richCompare
  simp only [oneThing_ref]
  refine wpAny_holding (wpAny_bind (wpAny_cRoomFor (Nat.lt_of_succ_lt hu) ?_))
  refine wpAny_bind (I.type.here (wpAny_bind (hb.here ?_)))
  split
  · rename_i q
    have e : PySem.W.subIn K tb (.ref C) = some false := by
      rcases Bool.or_eq_true_iff.mp hn with e | e
      · rw [beq_iff_eq.mp e] at q; simp at q
      · exact beq_iff_eq.mp e
    refine wpAny_bind ((PySem.W.looks_subIn X e).here ?_)
    simp only [Bool.false_eq_true, if_false]
    refine wpAny_bind (wpAny_mono one (fun r s' z => ?_) fun _ _ e => e)
    obtain ⟨v, rfl, hq⟩ := z
    exact wpAny_pure hq
  · refine wpAny_bind (wpAny_pure ?_)
    simp only [Bool.false_eq_true, if_false]
    refine wpAny_bind (wpAny_mono one (fun r s' z => ?_) fun _ _ e => e)
    obtain ⟨v, rfl, hq⟩ := z
    exact wpAny_pure hq
end
section
variable {X : Cx} {CX : CXT} {k : Nat} {f C : Addr} {fd : FuncData} {ps : List Str} {sp : Sp} {E : XK} {pins : List (Addr × Obj)} {σ : St} {H : Hp} {s : Shared}
/-- what a class with an own __eq__ and no __ne__ says -/
structure EqC (K : PySem.W.Frag) (C f : Addr) : Prop where
  eq : Meth K C "__eq__" f
  ne : PySem.W.findIn K (.ref C) "__ne__" = some (some (.builtin "object.__ne__"))
  ob : PySem.W.mroIn K C (.type "object") = some true
/-- a == b, both of the class at C -/
def rEqI (C : Addr) (sp : Sp) (E : XK) : R2 := fun x y H Q => ∃ a dx fs b dy gs, x = .ref a ∧ y = .ref b ∧ H a = some (.ins C dx fs) ∧ H b = some (.ins C dy gs) ∧ sp [x, y] H (fun z H' => ∃ t : Bool, z = .bl t ∧ Q (.bl t) H') E
def rNeI (C : Addr) (sp : Sp) (E : XK) : R2 := fun x y H Q => ∃ a dx fs b dy gs, x = .ref a ∧ y = .ref b ∧ H a = some (.ins C dx fs) ∧ H b = some (.ins C dy gs) ∧ sp [x, y] H (fun z H' => ∃ t : Bool, z = .bl t ∧ Q (.bl (!t)) H') E
theorem op_eqI (hm : EqC X.K C f) (F : FnOk X.prog X.w X.K X.mg X.base CX k f fd ps sp) (hr : Room (k + 2) X.A) (hb : Binds X.K fd ps []) (hx : Passes CX X E) : OpR X (compareOp .Eq) (rEqI C sp E) := by
  intro pins s σ H x y v u Q I rx ry h
  obtain ⟨a, dx, fs, b, dy, gs, rfl, rfl, ea, eb, q⟩ := h
  cases (show v = Value.ref a from rx)
  cases (show u = Value.ref b from ry)
  obtain ⟨ox, od, J⟩ := ins_inst I ea
  obtain ⟨oy, od2, J2⟩ := ins_inst I eb
  obtain ⟨m, hF⟩ := I.fr
  have hr0 : Room k X.A := hr.mono (by omega)
  show wpAny (model X.prog X.w) X.A (richCompare .Eq (.ref a) (.ref b)) (EP X pins σ Q) X.xe s
  refine PySem.W.cmp_K (op := .Eq) (tb := .ref C) hr0.units0 hF I.ok.mod.kin J J2.type (by simp [PySem.W.notFirst]) hm.eq.at_ hm.eq.fn ?_
  refine wpAny_mono (run_in (us := [.ref a, .ref b]) (vs := [.ref a, .ref b]) F hr0 I.env0 hb hx I (.cons rfl (.cons rfl .nil)) q) (fun w s' z => ?_) fun _ _ x => x
  obtain ⟨z', H', I', rz, t, et, qz⟩ := z
  subst et
  cases (show w = Value.bool t from rz)
  exact ⟨.bl t, H', I', rfl, qz⟩
theorem op_neI (hm : EqC X.K C f) (F : FnOk X.prog X.w X.K X.mg X.base CX k f fd ps sp) (hr : Room (k + 2) X.A) (hb : Binds X.K fd ps []) (hx : Passes CX X E) : OpR X (compareOp .NotEq) (rNeI C sp E) := by
  intro pins s σ H x y v u Q I rx ry h
  obtain ⟨a, dx, fs, b, dy, gs, rfl, rfl, ea, eb, q⟩ := h
  cases (show v = Value.ref a from rx)
  cases (show u = Value.ref b from ry)
  obtain ⟨ox, od, J⟩ := ins_inst I ea
  obtain ⟨oy, od2, J2⟩ := ins_inst I eb
  obtain ⟨m, hF⟩ := I.fr
  have hr1 : Room (k + 1) X.A.in1 := Room.in1 hr
  have hr2 : Room k X.A.in1 := hr1.mono (Nat.le_succ _)
  have hu : X.A.units + 1 < cLine := hr2.units0
  show wpAny (model X.prog X.w) X.A (richCompare .NotEq (.ref a) (.ref b)) (EP X pins σ Q) X.xe s
  refine ne_K (tb := .ref C) hu hF I.ok.mod.kin J J2.type (by simp [PySem.W.notFirst]) hm.ne hm.ob hm.eq.at_ hm.eq.fn ?_
  refine wpAny_mono (run_in (us := [.ref a, .ref b]) (vs := [.ref a, .ref b]) F hr2 I.env0.in1 hb hx I (.cons rfl (.cons rfl .nil)) q) (fun w s' z => ?_) fun _ _ x => x
  obtain ⟨z', H', I', rz, t, et, qz⟩ := z
  subst et
  cases (show w = Value.bool t from rz)
  exact ⟨t, rfl, .bl (!t), H', I', rfl, qz⟩
theorem r_eqIn {Q : VK} {a b dx dy : Addr} {fs gs : List (Str × V)} (ea : H a = some (.ins C dx fs)) (eb : H b = some (.ins C dy gs)) (h : sp [.ref a, .ref b] H (fun z H' => ∃ t : Bool, z = .bl t ∧ Q (.bl t) H') E) : rEqI C sp E (.ref a) (.ref b) H Q := ⟨a, dx, fs, b, dy, gs, rfl, rfl, ea, eb, h⟩
theorem r_neIn {Q : VK} {a b dx dy : Addr} {fs gs : List (Str × V)} (ea : H a = some (.ins C dx fs)) (eb : H b = some (.ins C dy gs)) (h : sp [.ref a, .ref b] H (fun z H' => ∃ t : Bool, z = .bl t ∧ Q (.bl (!t)) H') E) : rNeI C sp E (.ref a) (.ref b) H Q := ⟨a, dx, fs, b, dy, gs, rfl, rfl, ea, eb, h⟩
end
end RV

/-! lists that grow by a tuple's items; items of two lists side by side; terms: nested tuples -/
namespace RV
open PySem PySem.Spec L2
open PyProof.Rows hiding St
section
theorem grow_by_tup (D : Addr) (us : Array Value) (n : Nat) (T : Addr) (ws : Array Value) (m : Nat) (dt : Option Addr) (st : Array (Option Value))
    (room : ¬ (!us.isEmpty && Builtin.List.listTooLong (us.size + ws.size)) = true) (r1 : us.size ≤ sizeLine) (r2 : us.size + ws.size ≤ sizeLine + 1) :
    Meets (Builtin.«list.extend» ⟨[.ref D, .ref T], []⟩)
      (fun _ R s => s.heap.get? D = some { cls := .type "list", dict := none, data := .seq us n, slots := #[] } ∧
        s.heap.get? T = some { cls := .type "tuple", dict := dt, data := .seq ws m, slots := st } ∧
        R (.ok (.ret Value.none)) { s with heap := s.heap.update D (Obj.mapSeq fun x => x ++ ws), toks := s.toks }) :=
  .of_wp fun prog w A R s q => by
    obtain ⟨hp, g, d, tk, os⟩ := s
    obtain ⟨eD, eT, q⟩ := q
    have k1 := AutoSeq1.sub_tuple_tuple
    have k2 := AutoSeq1.sub_tuple_list
    have k3 := AutoSeq1.sub_list_list
    have k4 := AutoSeq1.sub_list_tuple
    have r3 : (us ++ ws).size ≤ sizeLine + 1 := by
      rw [Array.size_append]
      exact r2
    wp_walk using (wpAny_updateSeq eD rfl (hz := r1) (_hz' := r3)), AutoSeq1.wpAny_loadPart' eD, AutoSeq1.wpAny_loadPart' eT
    exact ⟨_, rfl, q⟩
variable {X : Cx}
def rExtT (K : PySem.W.Frag) : V → List V → Hp → VK → Prop := fun x vs H Q => ∃ l b xs zs, x = .ref l ∧ vs = [.ref b] ∧ H l = some (.lst xs) ∧ SqT K H b zs ∧ xs.length + zs.length ≤ sizeLine ∧ Q .non (upd H l (.lst (xs ++ zs)))
theorem mt_extT : MtR X "list.extend" (rExtT X.K) := by
  intro pins s σ H x vs v us Q I rx rv h
  obtain ⟨l, b, xs, zs, rfl, rfl, hH, hB, hz, q⟩ := h
  cases rx
  obtain ⟨u, rfl, ru⟩ := rv.one
  cases ru
  obtain ⟨z, its, n, r, hl, e⟩ := I.lstM hH
  obtain ⟨its2, r2, ⟨⟨cl, dt, da, st⟩, ho, hc, m, hd⟩, hl2⟩ := I.tuple hB
  simp only at hc hd
  subst hc hd
  have h2 := r2.length
  have hsz : its.toArray.size + its2.toArray.size ≤ sizeLine := by rw [List.size_toArray, List.size_toArray]; omega
  have hlong : ¬ (!its.toArray.isEmpty && Builtin.List.listTooLong (its.toArray.size + its2.toArray.size)) = true := by
    rw [notLongL hsz, Bool.and_false]
    exact Bool.false_ne_true
  refine call_meets F.slot_list_extend ⟨_, e, rfl⟩ F.entry_list_extend (F.args_list_extend_2 _ _)
    (grow_by_tup l its.toArray n b its2.toArray m dt st hlong (by rw [List.size_toArray]; omega) (by omega)) ⟨e, ho, ?_⟩
  refine ⟨.non, _, I.lset (its' := its ++ its2) hH e (by simp) (r.append r2) ?_, rfl, q⟩
  rw [List.length_append]
  omega
def rExtA (K : PySem.W.Frag) : V → List V → Hp → VK → Prop := fun x vs H Q => rExtend x vs H Q ∨ rExtT K x vs H Q
theorem mt_extA : MtR X "list.extend" (rExtA X.K) := MtR.or mt_extend mt_extT
theorem ext_k {K : PySem.W.Frag} (e : X.K = K) : MtR X "list.extend" (rExtA K) := e ▸ mt_extA
end
section
variable {H : Hp} {Q : VK} {K : PySem.W.Frag} {σ : St}
theorem r_extT {l b : Addr} {xs zs : List V} (h : H l = some (.lst xs)) (g : SqT K H b zs) (z : xs.length + zs.length ≤ sizeLine) (k : Q .non (upd H l (.lst (xs ++ zs)))) : rExtA K (.ref l) [.ref b] H Q := .inr ⟨l, b, xs, zs, rfl, rfl, h, g, z, k⟩
theorem r_extL {l b : Addr} {xs zs : List V} (h : H l = some (.lst xs)) (g : H b = some (.lst zs)) (z : xs.length + zs.length ≤ sizeLine) (k : Q .non (upd H l (.lst (xs ++ zs)))) : rExtA K (.ref l) [.ref b] H Q := .inl ⟨l, b, xs, zs, rfl, rfl, h, g, z, k⟩
theorem r_pop {l : Addr} {xs : List V} {y : V} (h : H l = some (.lst (xs ++ [y]))) (k : Q y (upd H l (.lst xs))) : rPop (.ref l) [] H Q := by
  refine ⟨l, xs ++ [y], y, rfl, rfl, h, by simp, ?_⟩
  rw [List.dropLast_concat]
  exact k
theorem r_meth0 {T : String} {r : V → List V → Hp → VK → Prop} {to : TE} (h : to σ H fun x H1 => tyV K T x H1 ∧ r x [] H1 Q) : tBM0 K T r to σ H Q := h
theorem r_R2 {ta : TA} {R : It → Hp → Prop} (h : ta σ H fun vs H1 => ∃ i j : Int, vs = [.int i, .int j] ∧ (-(2 ^ 62) ≤ i ∧ i < 2 ^ 62 ∧ -(2 ^ 62) ≤ j ∧ j < 2 ^ 62) ∧ R (Itr i (j - i).toNat) H1) : iRng2 ta σ H R := h
theorem r_rng2 {n m : Int} {P : Int → Int → Prop} (h0 : -4611686018427387904 ≤ n) (h1 : n < 4611686018427387904) (h2 : -4611686018427387904 ≤ m) (h3 : m < 4611686018427387904) (h : P n m) : ∃ i j : Int, [V.int n, V.int m] = [.int i, .int j] ∧ (-(2 ^ 62) ≤ i ∧ i < 2 ^ 62 ∧ -(2 ^ 62) ≤ j ∧ j < 2 ^ 62) ∧ P i j := ⟨n, m, rfl, ⟨by simpa using h0, by simpa using h1, by simpa using h2, by simpa using h3⟩, h⟩
theorem cut_to (xs : List V) (n : Nat) : cutV xs none (some (n : Int)) = xs.take n := by
  unfold cutV
  rw [HT.sIx_none, HT.sIx_nat, List.drop_zero, Nat.sub_zero]
  rcases Nat.le_total n xs.length with h | h
  · rw [Nat.min_eq_left h]
  · rw [Nat.min_eq_right h, List.take_length, List.take_of_length_le h]
theorem all_true (n : Nat) : (List.replicate n true).all id = true := by
  induction n with
  | zero => rfl
  | succ n ih => rw [List.replicate_succ, List.all_cons, ih]; rfl
theorem r_unl {n : Nat} {t : TGs} {a : Addr} {xs : List V} {Q : St → Hp → Prop} (hT : SqL K H a xs) (hn : xs.length = n) (h : t xs σ H Q) : gUnl K n t (.ref a) σ H Q := ⟨a, xs, rfl, hT, hn, h⟩
theorem r_truL {Q : Bool → Prop} {a : Addr} {xs : List V} (h : SqL K H a xs) (k : Q (!xs.isEmpty)) : ∃ k, TruV K (.ref a) H k ∧ Q k := ⟨_, .inl ⟨xs, h, rfl⟩, k⟩
end
theorem ix2V {b : Bool} {x y : V} : atI [x, y] (if b = true then 1 else 0) = some (if b = true then y else x) := by
  cases b <;> rfl
theorem r_ixLz {K : PySem.W.Frag} {H : Hp} {Q : VK} {a : Addr} {xs : List V} {i : Int} {ns : List Str} (h : SqL K H a xs) (e : xs = ns.map V.str) (h0 : 0 ≤ i) (h1 : i < (ns.length : Int)) (k : ∀ n, n ∈ ns → Q (.str n) H) : rIx K (.ref a) (.int i) H Q := by
  subst e
  obtain ⟨v, ev, hv⟩ := atI_mem (xs := ns.map V.str) h0 (by rw [List.length_map]; exact h1)
  obtain ⟨n, hn, rfl⟩ := List.mem_map.mp hv
  exact r_ixL h ev (k n hn)
/-! two lists, item by item -/
def All2 {α : Type} (R : V → α → Prop) : List V → List α → Prop
  | [], [] => True
  | x :: xs, y :: ys => R x y ∧ All2 R xs ys
  | _, _ => False
namespace All2
variable {α : Type} {R S : V → α → Prop}
theorem len : ∀ {xs : List V} {ys : List α}, All2 R xs ys → xs.length = ys.length
  | [], [], _ => rfl
  | _ :: _, _ :: _, h => congrArg Nat.succ (len h.2)
theorem imp (f : ∀ x y, R x y → S x y) : ∀ {xs : List V} {ys : List α}, All2 R xs ys → All2 S xs ys
  | [], [], _ => trivial
  | _ :: _, _ :: _, h => ⟨f _ _ h.1, imp f h.2⟩
theorem app : ∀ {xs us : List V} {ys vs : List α}, All2 R xs ys → All2 R us vs → All2 R (xs ++ us) (ys ++ vs)
  | [], _, [], _, _, h => h
  | _ :: _, _, _ :: _, _, g, h => ⟨g.1, app g.2 h⟩
theorem snoc {xs : List V} {ys : List α} {x : V} {y : α} (h : All2 R xs ys) (r : R x y) : All2 R (xs ++ [x]) (ys ++ [y]) := app h ⟨r, trivial⟩
theorem last : ∀ {xs : List V} {x : V} {ys : List α}, All2 R (xs ++ [x]) ys → ∃ us u, ys = us ++ [u] ∧ All2 R xs us ∧ R x u
  | [], _, [y], h => ⟨[], y, rfl, trivial, h.1⟩
  | [], _, _ :: _ :: _, h => h.2.elim
  | [], _, [], h => h.elim
  | _ :: xs, x, [], h => by
    cases xs <;> exact h.elim
  | a :: xs, x, y :: ys, h => by
    obtain ⟨us, u, e, h1, h2⟩ := last (xs := xs) (x := x) (ys := ys) h.2
    exact ⟨y :: us, u, by rw [e]; rfl, ⟨h.1, h1⟩, h2⟩
theorem get : ∀ {xs : List V} {ys : List α} {i : Nat} {x : V}, All2 R xs ys → xs[i]? = some x → ∃ y, ys[i]? = some y ∧ R x y
  | [], [], _, _, _, e => by simp at e
  | x :: xs, y :: ys, 0, _, h, e => by
    simp at e
    subst e
    exact ⟨y, rfl, h.1⟩
  | x :: xs, y :: ys, i + 1, v, h, e => by
    obtain ⟨z, h1, h2⟩ := get (i := i) h.2 (by simpa using e)
    exact ⟨z, by simpa using h1, h2⟩
theorem take : ∀ {xs : List V} {ys : List α} (n : Nat), All2 R xs ys → All2 R (xs.take n) (ys.take n)
  | [], [], n, _ => by simp [All2]
  | _ :: _, _ :: _, 0, _ => trivial
  | _ :: _, _ :: _, n + 1, h => ⟨h.1, take n h.2⟩
theorem drop : ∀ {xs : List V} {ys : List α} (n : Nat), All2 R xs ys → All2 R (xs.drop n) (ys.drop n)
  | [], [], n, _ => by simp [All2]
  | _ :: _, _ :: _, 0, h => h
  | _ :: _, _ :: _, n + 1, h => drop n h.2
theorem cut {xs : List V} {ys : List α} (lo hi : Option Int) (h : All2 R xs ys) : ∃ zs : List α, All2 R (cutV xs lo hi) zs ∧ (∀ z ∈ zs, z ∈ ys) ∧ zs.length ≤ ys.length := by
  unfold cutV
  refine ⟨_, (h.drop _).take _, fun z hz => List.mem_of_mem_drop (List.mem_of_mem_take hz), ?_⟩
  rw [List.length_take, List.length_drop]
  omega
theorem rep {xs : List V} {ys : List α} (h : All2 R xs ys) : ∀ n : Nat, All2 R (List.replicate n xs).flatten (List.replicate n ys).flatten
  | 0 => trivial
  | n + 1 => by
    rw [List.replicate_succ, List.flatten_cons, List.replicate_succ, List.flatten_cons]
    exact app h (rep h n)
end All2
theorem in_two (z a b : Str) : inV (V.str z) [V.str a, V.str b] = decide (z = a ∨ z = b) := by
  show ((a == z) || ((b == z) || false)) = _
  rw [Bool.or_false]
  by_cases h1 : z = a
  · rw [beq_iff_eq.mpr h1.symm, decide_eq_true (.inl h1)]
    rfl
  · rw [beq_eq_false_iff_ne.mpr (Ne.symm h1), Bool.false_or]
    by_cases h2 : z = b
    · rw [beq_iff_eq.mpr h2.symm, decide_eq_true (.inr h2)]
    · rw [beq_eq_false_iff_ne.mpr (Ne.symm h2), decide_eq_false fun q => q.elim h1 h2]
/-! tuples stay -/
structure TK (H H' : Hp) : Prop where
  to : ∀ t xs, H t = some (.tup xs) → H' t = some (.tup xs)
theorem Sm.tk {H H' : Hp} (e : Sm H H') : TK H H' := ⟨fun t xs h => e.to _ _ h⟩
theorem box_tuple {H : Hp} {b t : Addr} {xs : List V} (hb : BoxAt H b) (h : H t = some (.tup xs)) : t ≠ b := by
  obtain ⟨c, s, e⟩ := hb
  exact ne_of h e (by intro z; cases z)
theorem Chg.tk {b : Addr} {H H' : Hp} (hb : BoxAt H b) (e : Chg b H H') : TK H H' := ⟨fun t xs h => e.to _ _ (box_tuple hb h) h⟩
theorem TK.trans {H H1 H2 : Hp} (a : TK H H1) (b : TK H1 H2) : TK H H2 := ⟨fun t xs h => b.to _ _ (a.to _ _ h)⟩
theorem lst_tk {H : Hp} {D : Addr} {xs ys : List V} (h : H D = some (.lst xs)) : TK H (upd H D (.lst ys)) := ⟨fun t zs e => by
  rw [upd_ne (ne_of e h (by intro z; cases z))]
  exact e⟩
/-- a tuple stays where a list alone is changed -/
theorem Chg.tupL {K : PySem.W.Frag} {A q : Addr} {H H' : Hp} {ys its : List V} (e : Chg A H H') (hA : H A = some (.lst ys)) (h : SqT K H q its) : SqT K H' q its := by
  rcases h with (z | ⟨o, z⟩) | z
  · exact .inl (.inl (e.to _ _ (ne_of z hA (by intro y; cases y)) z))
  · exact .inl (.inr ⟨o, e.to _ _ (ne_of z hA (by intro y; cases y)) z⟩)
  · exact .inr z
/-! terms -/
inductive Op3 where
  | plus | times | power
  deriving DecidableEq
def Op3.word : Op3 → Str
  | .plus => Str.ofString "plus"
  | .times => Str.ofString "times"
  | .power => Str.ofString "power"
inductive Trm where
  | num (i : Int) | name (z : Str) | op (o : Op3) (a b : Trm)
  deriving DecidableEq
namespace Trm
def size : Trm → Nat
  | .num _ => 1
  | .name _ => 1
  | .op _ a b => 1 + a.size + b.size
def deep : Trm → Nat
  | .num _ => 0
  | .name _ => 0
  | .op _ a b => 1 + max a.deep b.deep
def kids : Trm → List Trm
  | .op _ a b => [a, b]
  | _ => []
def data : Trm → PyData
  | .num i => .tuple [.str (Str.ofString "num"), .int i]
  | .name z => .tuple [.str (Str.ofString "name"), .str z]
  | .op o a b => .tuple [.str o.word, a.data, b.data]
/-- its names can be written -/
def okN : Trm → Prop
  | .num _ => True
  | .name z => PyData.strOk z = true
  | .op _ a b => a.okN ∧ b.okN
theorem size_pos : ∀ t : Trm, 1 ≤ t.size
  | .num _ => Nat.le_refl 1
  | .name _ => Nat.le_refl 1
  | .op _ a b => by
    show 1 ≤ 1 + a.size + b.size
    omega
end Trm
def TmAt (H : Hp) : Trm → V → Prop
  | .num i, v => ∃ a, v = .ref a ∧ H a = some (.tup [.str (Str.ofString "num"), .int i])
  | .name z, v => ∃ a, v = .ref a ∧ H a = some (.tup [.str (Str.ofString "name"), .str z])
  | .op o s t, v => ∃ a x y, v = .ref a ∧ H a = some (.tup [.str o.word, x, y]) ∧ TmAt H s x ∧ TmAt H t y
abbrev TmsAt (H : Hp) : List V → List Trm → Prop := All2 fun v t => TmAt H t v
theorem TmAt.tk {H H' : Hp} (e : TK H H') : ∀ {t : Trm} {v : V}, TmAt H t v → TmAt H' t v
  | .num i, v, h => by
    obtain ⟨a, h1, h2⟩ := h
    exact ⟨a, h1, e.to _ _ h2⟩
  | .name z, v, h => by
    obtain ⟨a, h1, h2⟩ := h
    exact ⟨a, h1, e.to _ _ h2⟩
  | .op o s t, v, h => by
    obtain ⟨a, x, y, h1, h2, h3, h4⟩ := h
    exact ⟨a, x, y, h1, e.to _ _ h2, TmAt.tk e h3, TmAt.tk e h4⟩
theorem TmAt.sm {H H' : Hp} (e : Sm H H') {t : Trm} {v : V} (h : TmAt H t v) : TmAt H' t v := h.tk e.tk
theorem TmsAt.tk {H H' : Hp} {xs : List V} {ts : List Trm} (e : TK H H') (h : TmsAt H xs ts) : TmsAt H' xs ts := h.imp fun _ _ z => z.tk e
theorem TmsAt.sm {H H' : Hp} {xs : List V} {ts : List Trm} (e : Sm H H') (h : TmsAt H xs ts) : TmsAt H' xs ts := h.tk e.tk
/-- a term is a tuple of a word and something -/
theorem TmAt.tuple {H : Hp} {t : Trm} {v : V} (h : TmAt H t v) : ∃ a z xs, v = .ref a ∧ H a = some (.tup (.str z :: xs)) ∧ xs.length ≤ 2 ∧ (z = Str.ofString "num" ∨ z = Str.ofString "name" → t.kids = []) ∧ (¬ (z = Str.ofString "num" ∨ z = Str.ofString "name") → TmsAt H xs t.kids) := by
  cases t with
  | num i =>
    obtain ⟨a, h1, h2⟩ := h
    exact ⟨a, _, _, h1, h2, Nat.le_succ 1, fun _ => rfl, fun n => absurd (.inl rfl) n⟩
  | name z =>
    obtain ⟨a, h1, h2⟩ := h
    exact ⟨a, _, _, h1, h2, Nat.le_succ 1, fun _ => rfl, fun n => absurd (.inr rfl) n⟩
  | op o s t =>
    obtain ⟨a, x, y, h1, h2, h3, h4⟩ := h
    refine ⟨a, _, _, h1, h2, Nat.le_refl 2, fun n => ?_, fun _ => ⟨h3, h4, trivial⟩⟩
    exfalso
    cases o <;> rcases n with n | n <;> exact absurd n (by decide +kernel)
theorem TmAt.items {H : Hp} {t : Trm} {v : V} (h : TmAt H t v) : ∃ a z xs, v = .ref a ∧ H a = some (.tup (.str z :: xs)) ∧ xs.length ≤ 2 ∧ ((t.kids = [] ∧ ∀ x ∈ xs, (∃ i, x = .int i) ∨ ∃ z, x = .str z) ∨ TmsAt H xs t.kids) := by
  cases t with
  | num i =>
    obtain ⟨a, h1, h2⟩ := h
    exact ⟨a, _, _, h1, h2, Nat.le_succ 1, .inl ⟨rfl, fun x hx => .inl ⟨i, List.mem_singleton.mp hx⟩⟩⟩
  | name z =>
    obtain ⟨a, h1, h2⟩ := h
    exact ⟨a, _, _, h1, h2, Nat.le_succ 1, .inl ⟨rfl, fun x hx => .inr ⟨z, List.mem_singleton.mp hx⟩⟩⟩
  | op o s t =>
    obtain ⟨a, x, y, h1, h2, h3, h4⟩ := h
    exact ⟨a, _, _, h1, h2, Nat.le_refl 2, .inr ⟨h3, h4, trivial⟩⟩
theorem TmAt.dp {K : PySem.W.Frag} {H : Hp} : ∀ {t : Trm} {v : V}, TmAt H t v → Dp K H v t.data
  | .num i, v, h => by
    obtain ⟨a, rfl, h2⟩ := h
    exact .tup (SqT.of h2) (.cons (.str _) (.cons (.int _) .nil))
  | .name z, v, h => by
    obtain ⟨a, rfl, h2⟩ := h
    exact .tup (SqT.of h2) (.cons (.str _) (.cons (.str _) .nil))
  | .op o s t, v, h => by
    obtain ⟨a, x, y, rfl, h2, h3, h4⟩ := h
    exact .tup (SqT.of h2) (.cons (.str _) (.cons (TmAt.dp h3) (.cons (TmAt.dp h4) .nil)))
theorem TmsAt.dps {K : PySem.W.Frag} {H : Hp} : ∀ {xs : List V} {ts : List Trm}, TmsAt H xs ts → DpAll K H xs (ts.map Trm.data)
  | [], [], _ => .nil
  | _ :: _, _ :: _, h => .cons (TmAt.dp h.1) (TmsAt.dps h.2)
theorem Op3.lay (o : Op3) : PyData.strOk o.word = true := by
  cases o
  · show PyData.strOk (Str.ofString "plus") = true
    decide +kernel
  · show PyData.strOk (Str.ofString "times") = true
    decide +kernel
  · show PyData.strOk (Str.ofString "power") = true
    decide +kernel
theorem Trm.lay : ∀ {t : Trm}, t.okN → PyData.canLay0 t.data = true
  | .num i, _ => by
    show (PyData.strOk (Str.ofString "num") && true) = true
    decide +kernel
  | .name z, h => by
    have h : PyData.strOk z = true := h
    show (PyData.strOk (Str.ofString "name") && (PyData.strOk z && true)) = true
    rw [h]
    decide +kernel
  | .op o a b, h => by
    show (PyData.strOk o.word && (PyData.canLay0 a.data && (PyData.canLay0 b.data && true))) = true
    rw [Op3.lay, Trm.lay h.1, Trm.lay h.2]
    rfl
theorem Trm.low : ∀ t : Trm, PyData.depth t.data ≤ t.deep + 1
  | .num i => Nat.le_refl 1
  | .name z => Nat.le_refl 1
  | .op o a b => by
    have h1 := Trm.low a
    have h2 := Trm.low b
    show max 0 (max (PyData.depth a.data) (max (PyData.depth b.data) 0)) + 1 ≤ 1 + max a.deep b.deep + 1
    omega
theorem Trm.shaped {t : Trm} (h : t.okN) (d : t.deep ≤ 63) : SeqAt.shaped t.data = true := by
  have h1 := Trm.lay h
  have h2 := Trm.low t
  have h3 : PyData.depth t.data ≤ 64 := by omega
  cases t with
  | num i => exact Bool.and_eq_true_iff.mpr ⟨h1, decide_eq_true h3⟩
  | name z => exact Bool.and_eq_true_iff.mpr ⟨h1, decide_eq_true h3⟩
  | op o a b => exact Bool.and_eq_true_iff.mpr ⟨h1, decide_eq_true h3⟩
theorem tms_lay : ∀ {ts : List Trm}, (∀ t ∈ ts, t.okN) → PyData.canLayAll0 (ts.map Trm.data) = true
  | [], _ => rfl
  | t :: ts, h => by
    show (PyData.canLay0 t.data && PyData.canLayAll0 (ts.map Trm.data)) = true
    rw [Trm.lay (h t (by simp)), tms_lay fun s hs => h s (by simp [hs])]
    rfl
theorem tms_low : ∀ {ts : List Trm} {n : Nat}, (∀ t ∈ ts, t.deep ≤ n) → PyData.depthAll (ts.map Trm.data) ≤ n + 1
  | [], _, _ => Nat.zero_le _
  | t :: ts, n, h => by
    have h1 := Trm.low t
    have h2 := h t (by simp)
    have h3 := tms_low (ts := ts) (n := n) fun s hs => h s (by simp [hs])
    show max (PyData.depth t.data) (PyData.depthAll (ts.map Trm.data)) ≤ n + 1
    omega
theorem tms_shaped {ts : List Trm} (h : ∀ t ∈ ts, t.okN) (d : ∀ t ∈ ts, t.deep ≤ 62) : SeqAt.shaped (.list (ts.map Trm.data)) = true := by
  have h3 : PyData.depth (.list (ts.map Trm.data)) ≤ 64 := by
    have := tms_low d
    show PyData.depthAll (ts.map Trm.data) + 1 ≤ 64
    omega
  exact Bool.and_eq_true_iff.mpr ⟨tms_lay h, decide_eq_true h3⟩
section
variable {K : PySem.W.Frag} {H : Hp} {Q : VK}
theorem r_eqTm {t : Trm} {x y : V} (hx : TmAt H t x) (hy : TmAt H t y) (h : t.okN) (d : t.deep ≤ 63) (k : Q (.bl true) H) : rEqA K x y H Q :=
  r_eqD hx.dp hy.dp (Trm.shaped h d) (Trm.shaped h d) (by rw [SeqAt.eqv_refl _ (Trm.lay h)]; exact k)
theorem r_neTm {t : Trm} {x y : V} (hx : TmAt H t x) (hy : TmAt H t y) (h : t.okN) (d : t.deep ≤ 63) (k : Q (.bl false) H) : rNeA K x y H Q :=
  r_neD hx.dp hy.dp (Trm.shaped h d) (Trm.shaped h d) (by rw [SeqAt.eqv_refl _ (Trm.lay h)]; exact k)
theorem r_neTms {ts : List Trm} {a b : Addr} {xs ys : List V} (ha : H a = some (.lst xs)) (hb : H b = some (.lst ys)) (hx : TmsAt H xs ts) (hy : TmsAt H ys ts) (h : ∀ t ∈ ts, t.okN) (d : ∀ t ∈ ts, t.deep ≤ 62) (k : Q (.bl false) H) : rNeA K (.ref a) (.ref b) H Q :=
  r_neD (.lst (SqL.of ha) hx.dps) (.lst (SqL.of hb) hy.dps) (tms_shaped h d) (tms_shaped h d) (by
    have e : PyData.eqv (.list (ts.map Trm.data)) (.list (ts.map Trm.data)) = true := SeqAt.eqv_refl _ (tms_lay h)
    rw [e]
    exact k)
/-- tuples of ints -/
theorem r_neTI {a b : Addr} {ns : List Int} (ha : SqT K H a (ns.map V.int)) (hb : SqT K H b (ns.map V.int)) (k : Q (.bl false) H) : rNeA K (.ref a) (.ref b) H Q := by
  have h1 := lay_ints ns
  have h2 := deep_ints ns
  have h3 : PyData.depth (.tuple (ns.map PyData.int)) ≤ 64 := by
    show PyData.depthAll (ns.map PyData.int) + 1 ≤ 64
    omega
  have h4 : SeqAt.shaped (.tuple (ns.map PyData.int)) = true := Bool.and_eq_true_iff.mpr ⟨h1, decide_eq_true h3⟩
  have e : PyData.eqv (.tuple (ns.map PyData.int)) (.tuple (ns.map PyData.int)) = true := SeqAt.eqv_refl _ h1
  exact r_neD (.tup ha (dps_ints ns)) (.tup hb (dps_ints ns)) h4 h4 (by rw [e]; exact k)
end
/-! what is left to look at: terms, each so far down -/
abbrev DmsAt (H : Hp) : List V → List (Trm × Nat) → Prop := All2 fun v t => ∃ p x, v = .ref p ∧ H p = some (.tup [x, .int (t.2 : Int)]) ∧ TmAt H t.1 x
theorem DmsAt.tk {H H' : Hp} {xs : List V} {ts : List (Trm × Nat)} (e : TK H H') (h : DmsAt H xs ts) : DmsAt H' xs ts := h.imp fun _ _ ⟨p, x, a, b, c⟩ => ⟨p, x, a, e.to _ _ b, c.tk e⟩
def sizes : List Trm → Nat
  | [] => 0
  | t :: ts => t.size + sizes ts
theorem sizes_app : ∀ s t : List Trm, sizes (s ++ t) = sizes s + sizes t
  | [], t => by simp [sizes]
  | a :: s, t => by
    show a.size + sizes (s ++ t) = a.size + sizes s + sizes t
    rw [sizes_app s t]
    omega
theorem sizes_len : ∀ s : List Trm, s.length ≤ sizes s
  | [] => Nat.le_refl 0
  | a :: s => by
    have h1 := a.size_pos
    have h2 := sizes_len s
    show s.length + 1 ≤ a.size + sizes s
    omega
theorem size_kids (t : Trm) : t.size = 1 + sizes t.kids := by
  cases t with
  | num i => rfl
  | name z => rfl
  | op o a b =>
    show 1 + a.size + b.size = 1 + (a.size + (b.size + 0))
    omega
theorem kids_len (t : Trm) : t.kids.length ≤ 2 := by cases t <;> simp [Trm.kids]
/-- the farthest step down of all that is left, and of what was found -/
structure Far (D : Nat) (m : Nat) (ts : List (Trm × Nat)) : Prop where
  le : m ≤ D
  all : ∀ t ∈ ts, t.2 + t.1.deep ≤ D
  some : m = D ∨ ∃ t ∈ ts, t.2 + t.1.deep = D
theorem Far.one (t : Trm) : Far t.deep 0 [(t, 0)] := ⟨Nat.zero_le _, fun s h => by
  rw [List.mem_singleton.mp h]
  show 0 + t.deep ≤ t.deep
  omega, .inr ⟨(t, 0), List.mem_singleton.mpr rfl, Nat.zero_add _⟩⟩
theorem Far.none {D m : Nat} (h : Far D m []) : m = D := by
  rcases h.some with e | ⟨t, ht, _⟩
  · exact e
  · cases ht
theorem Far.step {D m d k : Nat} {t : Trm} {ts : List (Trm × Nat)} (h : Far D m (ts ++ [(t, d)])) (h1 : m ≤ k) (h2 : d ≤ k) (h3 : k = m ∨ k = d) : Far D k (ts ++ t.kids.map fun s => (s, d + 1)) := by
  have ht : d + t.deep ≤ D := h.all (t, d) (by simp)
  have hk : ∀ s ∈ t.kids, d + 1 + s.deep ≤ d + t.deep := by
    intro s hs
    cases t with
    | num i => cases hs
    | name z => cases hs
    | op o a b =>
      have e : (Trm.op o a b).deep = 1 + max a.deep b.deep := rfl
      rw [e]
      rcases List.mem_cons.mp hs with rfl | hs
      · omega
      · rw [List.mem_singleton.mp hs]
        omega
  refine ⟨?_, ?_, ?_⟩
  · have := h.le
    rcases h3 with e | e <;> omega
  · intro s hs
    rcases List.mem_append.mp hs with hs | hs
    · exact h.all s (by simp [hs])
    · obtain ⟨u, hu, rfl⟩ := List.mem_map.mp hs
      have := hk u hu
      show d + 1 + u.deep ≤ D
      omega
  · rcases h.some with e | ⟨s, hs, e⟩
    · have := h.le
      left
      rcases h3 with e | e <;> omega
    · rcases List.mem_append.mp hs with hs | hs
      · exact .inr ⟨s, by simp [hs], e⟩
      · have es : s = (t, d) := List.mem_singleton.mp hs
        subst es
        have e : d + t.deep = D := e
        cases t with
        | num i =>
          left
          have e2 : (Trm.num i).deep = 0 := rfl
          have := h.le
          rcases h3 with e | e <;> omega
        | name z =>
          left
          have e2 : (Trm.name z).deep = 0 := rfl
          have := h.le
          rcases h3 with e | e <;> omega
        | op o a b =>
          have e2 : (Trm.op o a b).deep = 1 + max a.deep b.deep := rfl
          rcases Nat.le_total a.deep b.deep with g | g
          · exact .inr ⟨(b, d + 1), by simp [Trm.kids], by show d + 1 + b.deep = D; omega⟩
          · exact .inr ⟨(a, d + 1), by simp [Trm.kids], by show d + 1 + a.deep = D; omega⟩
theorem Trm.size_le : ∀ t : Trm, t.size + 1 ≤ 2 ^ (t.deep + 1)
  | .num _ => Nat.le_refl 2
  | .name _ => Nat.le_refl 2
  | .op _ a b => by
    have h1 := Trm.size_le a
    have h2 := Trm.size_le b
    have h3 : 2 ^ (a.deep + 1) ≤ 2 ^ (1 + max a.deep b.deep) := Nat.pow_le_pow_right (by decide) (by omega)
    have h4 : 2 ^ (b.deep + 1) ≤ 2 ^ (1 + max a.deep b.deep) := Nat.pow_le_pow_right (by decide) (by omega)
    show 1 + a.size + b.size + 1 ≤ 2 ^ (1 + max a.deep b.deep + 1)
    rw [Nat.pow_succ]
    omega
theorem rep_one (c n : Nat) : (⟨((List.replicate n (SX.S [c]).cps.toList).flatten).toArray⟩ : Str) = SX.S (List.replicate n c) := by
  have e : (SX.S [c]).cps.toList = [c] := rfl
  have h : ∀ n : Nat, (List.replicate n [c]).flatten = List.replicate n c := fun n => by
    induction n with
    | zero => rfl
    | succ n ih => rw [List.replicate_succ, List.flatten_cons, ih]; rfl
  rw [e, h]
theorem sizes_pos {s : List Trm} (h : s ≠ []) : 1 ≤ sizes s := by
  cases s with
  | nil => exact absurd rfl h
  | cons a s =>
    have := a.size_pos
    show 1 ≤ a.size + sizes s
    omega
theorem deep_lt_size : ∀ t : Trm, t.deep < t.size
  | .num _ => Nat.lt_succ_self 0
  | .name _ => Nat.lt_succ_self 0
  | .op _ a b => by
    have h1 := deep_lt_size a
    have h2 := deep_lt_size b
    show 1 + max a.deep b.deep < 1 + a.size + b.size
    omega
def dsz (ts : List (Trm × Nat)) : Nat := sizes (ts.map Prod.fst)
theorem dsz_app (a b : List (Trm × Nat)) : dsz (a ++ b) = dsz a + dsz b := by
  unfold dsz
  rw [List.map_append, sizes_app]
theorem dsz_kids (t : Trm) (d : Nat) : dsz (t.kids.map fun s => (s, d)) = sizes t.kids := by
  unfold dsz
  rw [List.map_map]
  have e : (Prod.fst ∘ fun s : Trm => (s, d)) = id := rfl
  rw [e, List.map_id]
theorem dsz_len (a : List (Trm × Nat)) : a.length ≤ dsz a := by
  have := sizes_len (a.map Prod.fst)
  rw [List.length_map] at this
  exact this
/-! sums from the left -/
def sumT : List Trm → Trm
  | [] => .num 0
  | t :: ts => ts.foldl (fun a b => .op .plus a b) t
theorem fold_take {ts : List Trm} {t u : Trm} {i : Nat} (h : ts[i]? = some u) : (ts.take (i + 1)).foldl (fun a b => Trm.op .plus a b) t = .op .plus ((ts.take i).foldl (fun a b => Trm.op .plus a b) t) u := by
  rw [List.take_add_one, h, List.foldl_append]
  rfl
theorem sumT_take {ts : List Trm} {u : Trm} {i : Nat} (h : ts[i + 1]? = some u) : sumT (ts.take (i + 2)) = .op .plus (sumT (ts.take (i + 1))) u := by
  cases ts with
  | nil => simp at h
  | cons t ts => exact fold_take (by simpa using h)
theorem sumT_one {ts : List Trm} {u : Trm} (h : ts[0]? = some u) : sumT (ts.take 1) = u := by
  cases ts with
  | nil => simp at h
  | cons t ts => exact Option.some.inj h
theorem fold_okN : ∀ {ts : List Trm} {t : Trm}, t.okN → (∀ u ∈ ts, u.okN) → (ts.foldl (fun a b => Trm.op .plus a b) t).okN
  | [], _, h, _ => h
  | u :: ts, t, h, g => fold_okN (ts := ts) (t := .op .plus t u) ⟨h, g u (by simp)⟩ fun v hv => g v (by simp [hv])
theorem sumT_okN {ts : List Trm} (h : ∀ u ∈ ts, u.okN) : (sumT ts).okN := by
  cases ts with
  | nil => trivial
  | cons t ts => exact fold_okN (h t (by simp)) fun u hu => h u (by simp [hu])
theorem fold_deep {d : Nat} : ∀ {ts : List Trm} {t : Trm} {n : Nat}, t.deep ≤ d + n → (∀ u ∈ ts, u.deep ≤ d) → (ts.foldl (fun a b => Trm.op .plus a b) t).deep ≤ d + n + ts.length
  | [], _, _, h, _ => h
  | u :: ts, t, n, h, g => by
    have h1 := g u (by simp)
    have h2 : (Trm.op .plus t u).deep ≤ d + (n + 1) := by
      show 1 + max t.deep u.deep ≤ _
      omega
    have h3 := fold_deep (ts := ts) (t := .op .plus t u) (n := n + 1) h2 fun v hv => g v (by simp [hv])
    rw [List.foldl_cons, List.length_cons]
    omega
theorem sumT_deep {d : Nat} {ts : List Trm} (h : ∀ u ∈ ts, u.deep ≤ d) : (sumT ts).deep ≤ d + ts.length := by
  cases ts with
  | nil => exact Nat.zero_le _
  | cons t ts =>
    have := fold_deep (d := d) (n := 0) (ts := ts) (t := t) (h t (by simp)) fun u hu => h u (by simp [hu])
    rw [List.length_cons]
    show (ts.foldl (fun a b => Trm.op .plus a b) t).deep ≤ _
    omega
/-- a full term -/
def fullT (z : Str) : Nat → Trm
  | 0 => .name z
  | n + 1 => .op .plus (fullT z n) (fullT z n)
theorem fullT_deep (z : Str) : ∀ n, (fullT z n).deep = n
  | 0 => rfl
  | n + 1 => by
    show 1 + max (fullT z n).deep (fullT z n).deep = n + 1
    rw [fullT_deep z n]
    omega
/-! texts of written signs -/
theorem digits_fold : ∀ (cs : List Nat) (m : Nat), NumText.AllDigits cs → cs.foldl (fun n c => n * 10 + (c - 48)) m + 1 ≤ (m + 1) * 10 ^ cs.length
  | [], m, _ => by simp
  | c :: cs, m, h => by
    have h1 := digits_fold cs (m * 10 + (c - 48)) (fun d hd => h d (by simp [hd]))
    have h2 : 48 ≤ c ∧ c ≤ 57 := h c (by simp)
    have h3 : m * 10 + (c - 48) + 1 ≤ (m + 1) * 10 := by omega
    have h4 : (m * 10 + (c - 48) + 1) * 10 ^ cs.length ≤ (m + 1) * 10 * 10 ^ cs.length := Nat.mul_le_mul_right _ h3
    rw [List.foldl_cons, List.length_cons, Nat.pow_succ, Nat.mul_comm (10 ^ cs.length) 10, ← Nat.mul_assoc]
    exact Nat.le_trans h1 h4
theorem digits_lt {cs : List Nat} (h : NumText.AllDigits cs) : NumText.digitsVal cs < 10 ^ cs.length := by
  have := digits_fold cs 0 h
  rw [Nat.zero_add, Nat.one_mul] at this
  exact this
/-- one figure -/
theorem fig_text {i : Int} (h0 : 0 ≤ i) (h1 : i < 10) : Str.ofString (toString i) = SX.S [48 + i.toNat] := by
  obtain ⟨n, rfl⟩ := Int.eq_ofNat_of_zero_le h0
  have h : ∀ n : Fin 10, Str.ofString (toString ((n.val : Nat) : Int)) = SX.S [48 + n.val] := by decide +kernel
  exact h ⟨n, by omega⟩
theorem S_app (a b : List Nat) : (SX.S a ++ SX.S b : Str) = SX.S (a ++ b) := SX.S_cat a b
theorem cutS_to (l : List Nat) {i : Int} (h0 : 0 ≤ i) : cutS (SX.S l) none (some i) = SX.S (l.take i.toNat) := by
  obtain ⟨n, rfl⟩ := Int.eq_ofNat_of_zero_le h0
  have e1 : (SX.S l).cps.toList = l := by show l.toArray.toList = l; simp
  unfold cutS
  rw [HT.sIx_none, HT.sIx_nat, e1, SX.S_len, Int.toNat_natCast, List.drop_zero, Nat.sub_zero]
  show (⟨(l.take (min n l.length)).toArray⟩ : Str) = ⟨(l.take n).toArray⟩
  rcases Nat.le_total n l.length with h | h
  · rw [Nat.min_eq_left h]
  · rw [Nat.min_eq_right h, List.take_length, List.take_of_length_le h]
theorem cutS_from (l : List Nat) {i : Int} (h0 : 0 ≤ i) : cutS (SX.S l) (some i) none = SX.S (l.drop i.toNat) := by
  obtain ⟨n, rfl⟩ := Int.eq_ofNat_of_zero_le h0
  have e1 : (SX.S l).cps.toList = l := by show l.toArray.toList = l; simp
  unfold cutS
  rw [HT.sIx_none, HT.sIx_nat, e1, SX.S_len, Int.toNat_natCast]
  show (⟨((l.drop (min n l.length)).take (l.length - min n l.length)).toArray⟩ : Str) = ⟨(l.drop n).toArray⟩
  rcases Nat.le_total n l.length with h | h
  · rw [Nat.min_eq_left h, List.take_of_length_le (by rw [List.length_drop]; exact Nat.le_refl _)]
  · rw [Nat.min_eq_right h, Nat.sub_self, List.take_zero, List.drop_eq_nil_of_le h]
/-- signs of the written ones -/
def Low (l : List Nat) : Prop := ∀ c ∈ l, c < 128
theorem Low.ok {l : List Nat} (h : Low l) : PyData.strOk (SX.S l) = true := by
  show l.toArray.all (· < 0x110000) = true
  rw [List.all_toArray, List.all_eq_true]
  intro c hc
  have := h c hc
  exact decide_eq_true (by omega)
theorem Low.app {a b : List Nat} (h : Low a) (g : Low b) : Low (a ++ b) := fun c hc => (List.mem_append.mp hc).elim (h c) (g c)
theorem Low.take {a : List Nat} (h : Low a) (n : Nat) : Low (a.take n) := fun c hc => h c (List.mem_of_mem_take hc)
theorem Low.drop {a : List Nat} (h : Low a) (n : Nat) : Low (a.drop n) := fun c hc => h c (List.mem_of_mem_drop hc)
theorem Low.one {c : Nat} (h : c < 128) : Low [c] := fun d hd => by
  rw [List.mem_singleton.mp hd]
  exact h
end RV

/-! lists of own objects, item by item equal: == is True, != is False -/
namespace RV
open PySem PySem.Spec L2
open PyProof.Rows hiding St
section
open PySem.SeqAt AutoSeq1 MeetsSeq MeetsSeq2 MeetsSeq3 SeqRoads2
variable {prog : PySem.Program} {w : World} {A : Around} {R : Result → Shared → Prop}
theorem unlike_loop (l b : Addr) (N : Nat) (I : Nat → Shared → Prop) (hl : GQ.ListI prog w A (fun e s' => R (.error e) s') l b N I)
    (fin : ∀ s, I N s → R (.ok (.ret (.bool false))) s) : ∀ (k i : Nat), N - i = k → i ≤ N → ∀ s, I i s →
      wpAny (model prog w) A.in1 (Builtin.«list.__eq__.loop» ⟨[.ref l, .ref b, rawInt i, rawInt 3], []⟩) (GQ.FinOf prog w A R) (fun e s' => R (.error e) s') s := by
  intro k
  induction k with
  | zero =>
    intro i hk hi s hI
    obtain ⟨us, vs, n1, n2, e1, e2, z1, z2, _⟩ := hl i s hI
    have hR : R (.ok (.ret (.bool false))) s := by
      refine fin s ?_
      rw [show N = i by omega]
      exact hI
    cases s with
    | mk hp g d tk os =>
      wp_walk using wpAny_loadPart' e1, wpAny_loadPart' e2
      have g1 : us[((i : Nat) : Int).toNat]? = none := by
        simp
        omega
      have g2 : vs[((i : Nat) : Int).toNat]? = none := by
        simp
        omega
      rw [g1, g2]
      wp_walk using wpAny_loadPart' e1, wpAny_loadPart' e2
      show R (.ok (.ret (.bool (us.size != vs.size)))) _
      rw [z1, z2]
      simpa using hR
  | succ k ih =>
    intro i hk hi s hI
    obtain ⟨us, vs, n1, n2, e1, e2, z1, z2, one⟩ := hl i s hI
    have y1 : i < us.size := by omega
    have y2 : i < vs.size := by omega
    have it := one y1 y2
    cases s with
    | mk hp g d tk os =>
      wp_walk using wpAny_loadPart' e1, wpAny_loadPart' e2
      have g1 : us[((i : Nat) : Int).toNat]? = some us[i] := by simp [y1]
      have g2 : vs[((i : Nat) : Int).toNat]? = some vs[i] := by simp [y2]
      have up : ((i : Int) + 1) = ((i + 1 : Nat) : Int) := by omega
      rw [g1, g2]
      refine wpAny_bind (wpAny_mono it (fun r s2 q2 => ?_) fun _ _ x => x)
      obtain ⟨hr, q2⟩ := q2
      subst hr
      have on := ih (i + 1) (by omega) (by omega) s2 q2
      cases s2 with
      | mk hp2 g2 d2 tk2 os2 =>
        wp_walk
        rw [up]
        refine ⟨plainId_quiet plain_eq_loop _, codeAny_builtin entry_eq_loop ?_⟩
        rw [Around.under_plainId plain_eq_loop _]
        exact on
theorem unlike_list (l b : Addr) (N : Nat) (I : Nat → Shared → Prop) (hl : GQ.ListI prog w A (fun e s' => R (.error e) s') l b N I)
    (fin : ∀ s, I N s → R (.ok (.ret (.bool false))) s) {s : Shared} (h0 : I 0 s) :
    wpAny (model prog w) A.in1 (Builtin.«list.__ne__» ⟨[.ref l, .ref b], []⟩) (GQ.FinOf prog w A R) (fun e s' => R (.error e) s') s := by
  obtain ⟨us, vs, n1, n2, e1, e2, z1, z2, _⟩ := hl 0 s h0
  have on := unlike_loop (A := A) (R := R) l b N I hl fin N 0 rfl (Nat.zero_le _) s h0
  cases s with
  | mk hp g d tk os =>
    have k1 := AutoSeq1.sub_list_list
    have same : ¬ (us.size != vs.size) = true := by simp [z1, z2]
    wp_walk using wpAny_loadPart' e1, wpAny_loadPart' e2
    refine ⟨plainId_quiet plain_eq_loop _, codeAny_builtin entry_eq_loop ?_⟩
    rw [Around.under_plainId plain_eq_loop _]
    exact on
theorem unlike_rc {E : Value → Shared → Prop} {s : Shared} {l b : Addr} {N : Nat} {Q : Value → Shared → Prop} (hu : A.units < cLine) (I : Nat → Shared → Prop) (hl : GQ.ListI prog w A E l b N I)
    (fin : ∀ s, I N s → Q (.bool false) s) (h : I 0 s) : wpAny (model prog w) A (richCompare .NotEq (.ref l) (.ref b)) Q E s := by
  obtain ⟨us, vs, n1, n2, e1, e2, _, _, _⟩ := hl 0 s h
  refine wpAny_richCompare_same_room (op := .NotEq) ⟨_, e1, rfl⟩ ⟨_, e2, rfl⟩ F.slot_list_ne (GQ.call_here F.slot_list_ne ⟨_, e1, rfl⟩ F.entry_list_ne (F.args_list_ne_2 _ _) ?_) hu
  exact unlike_list (R := wants (fun v s' => v ≠ .notImplemented ∧ Q v s') E) l b N I hl (fun s' q => ⟨(fun x => nomatch x), fin s' q⟩) h
end
section
variable {X : Cx} {n : Nat} {D : Eqv}
/-- x != y of two lists, item by item equal -/
def rNeG (D : Eqv) : R2 := fun x y H Q => DList D x y H ∧ ∀ H', Ext H H' → Q (.bl false) H'
theorem op_neG (hD : Mon D) (h : EqG X n D) (hr : Room (n + 1) X.A) : OpR X (compareOp .NotEq) (rNeG D) := by
  intro pins s σ H x y v u Q I rx ry hq
  obtain ⟨⟨a, b, xs, ys, rfl, rfl, ha, hb, p⟩, q⟩ := hq
  cases rx
  cases ry
  have sb : Sub X (n + 1) X.A := ⟨hr, rfl⟩
  show wpAny (model X.prog X.w) X.A (richCompare .NotEq (.ref a) (.ref b)) (EP X pins σ Q) X.xe s
  refine unlike_rc (N := xs.length) sb.room.units0 (fun _ s' => LoopI X pins σ H s') (fun i s' z => ?_) (fun s' z => ?_) ⟨H, I, Ext.rfl'⟩
  · obtain ⟨H1, I1, e1⟩ := id z
    obtain ⟨z1, us, k1, r1, o1⟩ := I1.hok a _ (e1 _ _ ha)
    obtain ⟨z2, vs, k2, r2, o2⟩ := I1.hok b _ (e1 _ _ hb)
    refine ⟨us.toArray, vs.toArray, k1, k2, o1, o2, by rw [List.size_toArray, ← r1.length], by rw [List.size_toArray, ← r2.length, ← p.1], fun y1 y2 => ?_⟩
    exact turnG hD h sb p r1 r2 i y1 y2 s' z
  · obtain ⟨H1, I1, e1⟩ := z
    exact ⟨.bl false, H1, I1, rfl, q H1 e1⟩
theorem op_eqLG (hD : Mon D) (h : EqG X n D) (hr : Room (n + 1) X.A) : OpR X (compareOp .Eq) (rEqG (DList D)) := op_eqG (rcG_list hD h) hr
end
section
variable {H : Hp} {Q : VK} {D : Eqv} {a b : Addr} {xs ys : List V}
theorem r_neG (ha : H a = some (.lst xs)) (hb : H b = some (.lst ys)) (p : Prs D xs ys H) (k : ∀ H', Sm H H' → Q (.bl false) H') : rNeG D (.ref a) (.ref b) H Q := ⟨⟨a, b, xs, ys, rfl, rfl, ha, hb, p⟩, fun H' e => k H' ⟨e⟩⟩
theorem r_eqG (ha : H a = some (.lst xs)) (hb : H b = some (.lst ys)) (p : Prs D xs ys H) (k : ∀ H', Sm H H' → Q (.bl true) H') : rEqG (DList D) (.ref a) (.ref b) H Q := ⟨⟨a, b, xs, ys, rfl, rfl, ha, hb, p⟩, fun H' e => k H' ⟨e⟩⟩
end
end RV

/-! sayings: objects of a word and two terms; terms shown -/
namespace RV
open PySem PySem.Spec L2
open PyProof.Rows hiding St
def Trm.word : Trm → Str
  | .num _ => Str.ofString "num"
  | .name _ => Str.ofString "name"
  | .op o _ _ => o.word
theorem w_num_name : ¬ Str.ofString "num" = Str.ofString "name" := by decide +kernel
theorem w_num_op (o : Op3) : ¬ Str.ofString "num" = o.word := by
  cases o
  · show ¬ Str.ofString "num" = Str.ofString "plus"
    decide +kernel
  · show ¬ Str.ofString "num" = Str.ofString "times"
    decide +kernel
  · show ¬ Str.ofString "num" = Str.ofString "power"
    decide +kernel
theorem w_name_op (o : Op3) : ¬ Str.ofString "name" = o.word := by
  cases o
  · show ¬ Str.ofString "name" = Str.ofString "plus"
    decide +kernel
  · show ¬ Str.ofString "name" = Str.ofString "times"
    decide +kernel
  · show ¬ Str.ofString "name" = Str.ofString "power"
    decide +kernel
theorem Op3.word_inj {o o2 : Op3} (h : o.word = o2.word) : o = o2 := by
  cases o <;> cases o2 <;> first
    | rfl
    | exact absurd (show Str.ofString "plus" = Str.ofString "times" from h) (by decide +kernel)
    | exact absurd (show Str.ofString "plus" = Str.ofString "power" from h) (by decide +kernel)
    | exact absurd (show Str.ofString "times" = Str.ofString "plus" from h) (by decide +kernel)
    | exact absurd (show Str.ofString "times" = Str.ofString "power" from h) (by decide +kernel)
    | exact absurd (show Str.ofString "power" = Str.ofString "plus" from h) (by decide +kernel)
    | exact absurd (show Str.ofString "power" = Str.ofString "times" from h) (by decide +kernel)
theorem TmAt.head {H : Hp} {t : Trm} {v : V} (h : TmAt H t v) : ∃ a xs, v = .ref a ∧ H a = some (.tup (.str t.word :: xs)) := by
  cases t with
  | num i =>
    obtain ⟨a, h1, h2⟩ := h
    exact ⟨a, _, h1, h2⟩
  | name z =>
    obtain ⟨a, h1, h2⟩ := h
    exact ⟨a, _, h1, h2⟩
  | op o s t =>
    obtain ⟨a, x, y, h1, h2, _⟩ := h
    exact ⟨a, _, h1, h2⟩
theorem TmAt.inj {H : Hp} : ∀ {t u : Trm} {v : V}, TmAt H t v → TmAt H u v → t = u
  | .num i, u, v, h, g => by
    obtain ⟨a, rfl, e⟩ := h
    obtain ⟨b, xs, e2, e3⟩ := g.head
    cases e2
    rw [e] at e3
    cases u with
    | num j =>
      obtain ⟨b, e4, e5⟩ := g
      cases e4
      rw [e] at e5
      cases e5
      rfl
    | name z =>
      have := (List.cons.inj (HO.tup.inj (Option.some.inj e3))).1
      exact absurd (V.str.inj this) w_num_name
    | op o s t =>
      have := (List.cons.inj (HO.tup.inj (Option.some.inj e3))).1
      exact absurd (V.str.inj this) (w_num_op o)
  | .name y, u, v, h, g => by
    obtain ⟨a, rfl, e⟩ := h
    obtain ⟨b, xs, e2, e3⟩ := g.head
    cases e2
    rw [e] at e3
    cases u with
    | num j =>
      have := (List.cons.inj (HO.tup.inj (Option.some.inj e3))).1
      exact absurd (V.str.inj this) (fun e => w_num_name e.symm)
    | name z =>
      obtain ⟨b, e4, e5⟩ := g
      cases e4
      rw [e] at e5
      cases e5
      rfl
    | op o s t =>
      have := (List.cons.inj (HO.tup.inj (Option.some.inj e3))).1
      exact absurd (V.str.inj this) (w_name_op o)
  | .op o s t, u, v, h, g => by
    obtain ⟨a, x, y, rfl, e, h1, h2⟩ := h
    obtain ⟨b, xs, e2, e3⟩ := g.head
    cases e2
    rw [e] at e3
    cases u with
    | num j =>
      have := (List.cons.inj (HO.tup.inj (Option.some.inj e3))).1
      exact absurd (V.str.inj this) (fun e => w_num_op o e.symm)
    | name z =>
      have := (List.cons.inj (HO.tup.inj (Option.some.inj e3))).1
      exact absurd (V.str.inj this) (fun e => w_name_op o e.symm)
    | op o2 s2 t2 =>
      obtain ⟨b, x2, y2, e4, e5, g1, g2⟩ := g
      cases e4
      rw [e] at e5
      have e6 := HO.tup.inj (Option.some.inj e5)
      have e7 := V.str.inj (List.cons.inj e6).1
      have e8 := List.cons.inj (List.cons.inj e6).2
      have e9 := (List.cons.inj e8.2).1
      have eo : o = o2 := Op3.word_inj e7
      obtain rfl := e8.1
      obtain rfl := e9
      rw [eo, TmAt.inj h1 g1, TmAt.inj h2 g2]
/-- two terms side by side, to be held against one another -/
abbrev PmsAt (H : Hp) : List V → List (Trm × Trm) → Prop := All2 fun v p => ∃ q x y, v = .ref q ∧ H q = some (.tup [x, y]) ∧ TmAt H p.1 x ∧ TmAt H p.2 y
theorem PmsAt.tk {H H' : Hp} {xs : List V} {ps : List (Trm × Trm)} (e : TK H H') (h : PmsAt H xs ps) : PmsAt H' xs ps := h.imp fun _ _ ⟨q, x, y, a, b, c, d⟩ => ⟨q, x, y, a, e.to _ _ b, c.tk e, d.tk e⟩
def psz (ps : List (Trm × Trm)) : Nat := sizes (ps.map Prod.fst)
theorem psz_app (a b : List (Trm × Trm)) : psz (a ++ b) = psz a + psz b := by
  unfold psz
  rw [List.map_append, sizes_app]
theorem psz_len (a : List (Trm × Trm)) : a.length ≤ psz a := by
  have := sizes_len (a.map Prod.fst)
  rw [List.length_map] at this
  exact this
theorem op_eq_iff {o o2 : Op3} {a b c d : Trm} (h : o = o2) : (Trm.op o a b = Trm.op o2 c d) ↔ (b = d ∧ a = c) := by
  subst h
  exact ⟨fun e => by cases e; exact ⟨rfl, rfl⟩, fun e => by rw [e.1, e.2]⟩
/-! terms shown: not too long -/
def Trm.okS : Trm → Prop
  | .num i => i.natAbs < 2 ^ 64
  | .name z => ∃ l, z = SX.S l ∧ Low l ∧ l.length ≤ 12
  | .op _ a b => a.okS ∧ b.okS
theorem Trm.okS.okN : ∀ {t : Trm}, t.okS → t.okN
  | .num _, _ => trivial
  | .name z, h => by
    obtain ⟨l, e, h1, _⟩ := h
    show PyData.strOk z = true
    rw [e]
    exact h1.ok
  | .op _ _ _, h => ⟨okN h.1, okN h.2⟩
theorem shw_low {l : List Nat} (h : Low l) : Shw (10 * l.length + 2) 0 (.str (SX.S l)) := by
  refine shw_str ?_
  have e := StrLaws.reprText_len (SX.S l) (fun c hc => ?_)
  · rw [SX.S_len] at e
    exact e
  · have h1 : (SX.S l).cps.toList = l := by show l.toArray.toList = l; simp
    rw [h1] at hc
    have := h c hc
    exact Nat.lt_trans this (by decide)
theorem shw_two {n1 n2 k : Nat} {a b : PyData} (h1 : Shw n1 k a) (h2 : Shw n2 k b) : Shw (n1 + n2 + 7) (k + 1) (.tuple [a, b]) := by
  have e := tupleText_len_le (PyData.shownAll [a, b])
  simp only [PyData.shownAll, List.map_cons, List.map_nil, List.sum_cons, List.sum_nil, List.length_cons, List.length_nil] at e
  have l1 := h1.l
  have l2 := h2.l
  have d1 := h1.dp
  have d2 := h2.dp
  refine ⟨by simp only [PyData.showable, PyData.showableAll, h1.s, h2.s, Bool.and_true], by simp only [PyData.hasDict, PyData.hasDictAll, h1.h, h2.h, Bool.or_false], by simp only [PyData.depth, PyData.depthAll]; omega, ?_⟩
  simp only [PyData.shown, PyData.shownAll]
  omega
theorem shw_three {n1 n2 n3 k : Nat} {a b c : PyData} (h1 : Shw n1 k a) (h2 : Shw n2 k b) (h3 : Shw n3 k c) : Shw (n1 + n2 + n3 + 9) (k + 1) (.tuple [a, b, c]) := by
  have e := tupleText_len_le (PyData.shownAll [a, b, c])
  simp only [PyData.shownAll, List.map_cons, List.map_nil, List.sum_cons, List.sum_nil, List.length_cons, List.length_nil] at e
  have l1 := h1.l
  have l2 := h2.l
  have l3 := h3.l
  have d1 := h1.dp
  have d2 := h2.dp
  have d3 := h3.dp
  refine ⟨by simp only [PyData.showable, PyData.showableAll, h1.s, h2.s, h3.s, Bool.and_true], by simp only [PyData.hasDict, PyData.hasDictAll, h1.h, h2.h, h3.h, Bool.or_false], by simp only [PyData.depth, PyData.depthAll]; omega, ?_⟩
  simp only [PyData.shown, PyData.shownAll]
  omega
theorem shw_op (o : Op3) : Shw 60 0 (.str o.word) := by
  refine shw_str ?_
  cases o
  · show (reprText (Str.ofString "plus")).length ≤ 60
    decide +kernel
  · show (reprText (Str.ofString "times")).length ≤ 60
    decide +kernel
  · show (reprText (Str.ofString "power")).length ≤ 60
    decide +kernel
theorem Trm.shw : ∀ {t : Trm}, t.okS → Shw (180 * t.size) (t.deep + 1) t.data
  | .num i, h => by
    have h1 : Shw 60 0 (.str (Str.ofString "num")) := shw_str (by decide +kernel)
    have h2 := shw_int (i := i) h
    exact (shw_two h1 h2).up (by show 60 + 66 + 7 ≤ 180 * 1; decide) (Nat.le_refl 1)
  | .name z, h => by
    obtain ⟨l, e, h1, h2⟩ := h
    subst e
    have h3 : Shw 51 0 (.str (Str.ofString "name")) := shw_str (by decide +kernel)
    have h4 := shw_low h1
    exact (shw_two h3 h4).up (by show 51 + (10 * l.length + 2) + 7 ≤ 180 * 1; omega) (Nat.le_refl 1)
  | .op o a b, h => by
    have h1 := Trm.shw h.1
    have h2 := Trm.shw h.2
    have k1 : Shw (180 * a.size) (max a.deep b.deep + 1) a.data := h1.up (Nat.le_refl _) (by omega)
    have k2 : Shw (180 * b.size) (max a.deep b.deep + 1) b.data := h2.up (Nat.le_refl _) (by omega)
    have k3 : Shw 60 (max a.deep b.deep + 1) (.str o.word) := (shw_op o).up (Nat.le_refl _) (by omega)
    refine (shw_three k3 k1 k2).up ?_ ?_
    · show 60 + 180 * a.size + 180 * b.size + 9 ≤ 180 * (1 + a.size + b.size)
      omega
    · show max a.deep b.deep + 1 + 1 ≤ 1 + max a.deep b.deep + 1
      omega
/-! repr of data that are nested deeply -/
def rReprDeep (K : PySem.W.Frag) : List V → Hp → VK → Prop := fun xs H Q => ∃ (a : Addr) (d : PyData), xs = [.ref a] ∧ Dp K H (.ref a) d ∧ d.showable = true ∧ d.hasDict = false ∧ d.depth ≤ 180 ∧ d.shown.length ≤ sizeLine ∧ Q (.str d.shown) H
theorem repr_deep {X : Cx} {K : PySem.W.Frag} (e : X.K = K) (hg : X.A.guards = some []) (hu : X.A.units + 200 < cLine) : CallR X (.builtin "repr") (rReprDeep K) := by
  intro pins s σ H xs us Q I r h
  obtain ⟨a, d, rfl, hd, h1, h2, h3, h4, q⟩ := h
  obtain ⟨u, rfl, ru⟩ := vals1 r
  subst e
  obtain ⟨as, hr⟩ := Dp.reads I d _ _ hd ru
  obtain rfl : u = Value.ref a := ru
  refine repr_of_reads' hr h1 (PyData.noDict_hsm h2) hg (by omega) (fun b o e => e) (fun h' u tk hk => ?_) h4
  exact ⟨.str d.shown, H, I.kept (t' := tk) hk, ⟨u, rfl⟩, q⟩
theorem units200 {k : Nat} {A : Around} (r : Room k A) : A.units + 200 < cLine := by
  have := r.un
  omega
theorem r_reprDeep {K : PySem.W.Frag} {H : Hp} {Q : VK} {a : Addr} {d : PyData} {n k : Nat} (h : Dp K H (.ref a) d) (x : Shw n k d) (hn : n ≤ 16000000) (hk : k ≤ 180) (q : Q (.str d.shown) H) : rReprDeep K [.ref a] H Q :=
  ⟨a, d, rfl, h, x.s, x.h, Nat.le_trans x.dp hk, Nat.le_trans x.l (Nat.le_trans hn (Nat.le_trans (by decide) line24)), q⟩
theorem fld_k {X : Cx} {K : PySem.W.Frag} {e : Expr} {f : Str} {pos : Pos} {ta : TE} (ek : X.K = K) (he : PE X e ta) (hb : attributeBase e f X.env (eval e X.env) = eval e X.env) : PE X (.Attribute e f pos) (tFld K ta f) := ek ▸ pe_fld he hb
/-! sayings -/
theorem put_say (w : Str) (x y : V) : putF "right" y (putF "left" x (putF "word" (.str w) [])) = ([("word", .str w), ("left", x), ("right", y)] : List (Str × V)) := by
  have n1 : ¬ (("word" : Str) = "left") := by decide +kernel
  have n2 : ¬ (("word" : Str) = "right") := by decide +kernel
  have n3 : ¬ (("left" : Str) = "right") := by decide +kernel
  have e1 : putF "left" x (putF "word" (.str w) []) = ([("word", .str w), ("left", x)] : List (Str × V)) := by
    show (if ("word" : Str) = "left" then _ else (("word" : Str), V.str w) :: putF "left" x []) = _
    rw [if_neg n1]
    rfl
  rw [e1]
  show (if ("word" : Str) = "right" then _ else (("word" : Str), V.str w) :: (if ("left" : Str) = "right" then _ else (("left" : Str), x) :: putF "right" y [])) = _
  rw [if_neg n2, if_neg n3]
  rfl
theorem get_word (w : Str) (x y : V) : ([("word", .str w), ("left", x), ("right", y)] : List (Str × V)).lookup ("word" : Str) = some (.str w) := by
  have n1 : ¬ (("word" : Str) = "left") := by decide +kernel
  have n2 : ¬ (("word" : Str) = "right") := by decide +kernel
  rw [← put_say, lookup_putF, if_neg n2, lookup_putF, if_neg n1, lookup_putF, if_pos rfl]
theorem get_left (w : Str) (x y : V) : ([("word", .str w), ("left", x), ("right", y)] : List (Str × V)).lookup ("left" : Str) = some x := by
  have n3 : ¬ (("left" : Str) = "right") := by decide +kernel
  rw [← put_say, lookup_putF, if_neg n3, lookup_putF, if_pos rfl]
theorem get_right (w : Str) (x y : V) : ([("word", .str w), ("left", x), ("right", y)] : List (Str × V)).lookup ("right" : Str) = some y := by
  rw [← put_say, lookup_putF, if_pos rfl]
/-- one saying, of these two sides -/
def SayAt (C : Addr) (H : Hp) (p : Addr) (w : Str) (l r : Trm) : Prop := ∃ dx x y, H p = some (.ins C dx [("word", .str w), ("left", x), ("right", y)]) ∧ TmAt H l x ∧ TmAt H r y
theorem SayAt.sm {C : Addr} {H H' : Hp} {p : Addr} {w : Str} {l r : Trm} (e : Sm H H') (h : SayAt C H p w l r) : SayAt C H' p w l r := by
  obtain ⟨dx, x, y, a, b, c⟩ := h
  exact ⟨dx, x, y, e.to _ _ a, b.sm e, c.sm e⟩
theorem SayAt.chgL {C A : Addr} {H H' : Hp} {p : Addr} {w : Str} {l r : Trm} {xs : List V} (hA : H A = some (.lst xs)) (e : Chg A H H') (h : SayAt C H p w l r) : SayAt C H' p w l r := by
  obtain ⟨dx, x, y, a, b, c⟩ := h
  have tk : TK H H' := ⟨fun t zs g => e.to _ _ (ne_of g hA (by intro z; cases z)) g⟩
  exact ⟨dx, x, y, e.to _ _ (ne_of a hA (by intro z; cases z)) a, b.tk tk, c.tk tk⟩
theorem SayAt.chgB {C b : Addr} {H H' : Hp} {p : Addr} {w : Str} {l r : Trm} (hB : BoxAt H b) (e : Chg b H H') (h : SayAt C H p w l r) : SayAt C H' p w l r := by
  obtain ⟨c, s, hb⟩ := hB
  exact h.chgL hb e
theorem SayAt.ins {C : Addr} {H : Hp} {p : Addr} {z : Str} {l r : Trm} (h : SayAt C H p z l r) : ∃ dx fs, H p = some (.ins C dx fs) := by
  obtain ⟨dx, x, y, e, _⟩ := h
  exact ⟨dx, _, e⟩
/-- a tuple of a word and two terms -/
def SdAt (H : Hp) (z : Str) (p : Trm × Trm) (v : V) : Prop := ∃ a x y, v = .ref a ∧ H a = some (.tup [.str z, x, y]) ∧ TmAt H p.1 x ∧ TmAt H p.2 y
theorem SdAt.tk {H H' : Hp} {z : Str} {p : Trm × Trm} {v : V} (e : TK H H') (h : SdAt H z p v) : SdAt H' z p v := by
  obtain ⟨a, x, y, h1, h2, h3, h4⟩ := h
  exact ⟨a, x, y, h1, e.to _ _ h2, h3.tk e, h4.tk e⟩
theorem SdAt.sm {H H' : Hp} {z : Str} {p : Trm × Trm} {v : V} (e : Sm H H') (h : SdAt H z p v) : SdAt H' z p v := h.tk e.tk
theorem strs_ne {H : Hp} {b l : Addr} {zs : List Str} (hB : BoxAt H b) (hL : H l = some (.lst (zs.map V.str))) : l ≠ b := by
  rintro rfl
  obtain ⟨c, s, e⟩ := hB
  rw [hL] at e
  have e2 := HO.lst.inj (Option.some.inj e)
  cases zs with
  | nil => cases e2
  | cons z zs => cases e2
def sayData (z : Str) (l r : Trm) : PyData := .tuple [.str z, l.data, r.data]
theorem dp_say {K : PySem.W.Frag} {H : Hp} {a : Addr} {z : Str} {l r : Trm} {x y : V} (h : H a = some (.tup [.str z, x, y])) (hl : TmAt H l x) (hr : TmAt H r y) : Dp K H (.ref a) (sayData z l r) := .tup (SqT.of h) (.cons (.str _) (.cons hl.dp (.cons hr.dp .nil)))
theorem shw_say {z : Str} {l r : Trm} {d n : Nat} (hz : Shw 60 0 (.str z)) (hl : l.okS) (hr : r.okS) (d1 : l.deep ≤ d) (d2 : r.deep ≤ d) (n1 : l.size ≤ n) (n2 : r.size ≤ n) : Shw (69 + 360 * n) (d + 2) (sayData z l r) := by
  have h1 : Shw (180 * n) (d + 1) l.data := (Trm.shw hl).up (Nat.mul_le_mul_left _ n1) (by omega)
  have h2 : Shw (180 * n) (d + 1) r.data := (Trm.shw hr).up (Nat.mul_le_mul_left _ n2) (by omega)
  exact (shw_three (hz.up (Nat.le_refl _) (Nat.zero_le _)) h1 h2).up (by omega) (Nat.le_refl _)
theorem shw_same : Shw 60 0 (.str (Str.ofString "same")) := shw_str (by decide +kernel)
theorem shw_under : Shw 60 0 (.str (Str.ofString "under")) := shw_str (by decide +kernel)
theorem made_sm3 {H H1 : Hp} {x dx C : Addr} (nx : H x = none) (nd : H dx = none) (c : Chg x (upd (upd H dx (.own x)) x (.ins C dx [])) H1) : Sm H H1 := made_sm nx nd c
end RV

/-! own exceptions over ValueError: made with a field, caught, looked at -/
namespace RV
open PySem PySem.Spec L2
open PyProof.Rows hiding St
section
variable {X : Cx} {a D : Addr} {oe : Obj} {pn : List (Addr × Obj)} {cls : Value} {d : Option Addr}
/-- the dict of a caught exception -/
def DAt (H : Hp) (d : Option Addr) : Prop := ∃ dd fs, d = some dd ∧ H dd = some (.xd fs)
/-- isinstance(e, c) | isinstance(e, (c, ..)), e the exception that the suite holds -/
def rIsE2 (K : PySem.W.Frag) (D a : Addr) (cls : Value) (d : Option Addr) : List V → Hp → VK → Prop := fun xs H Q => ∃ (c : V) (b : Bool), xs = [.ref a, c] ∧ cls = .ref D ∧ DAt H d ∧
  ((∃ cv, ClsV c cv ∧ PySem.W.kitOne K (.ref D) cv = some b) ∨ ∃ tp cs ws, c = .ref tp ∧ H tp = some (.tup cs) ∧ Paired ClsV cs ws ∧ PySem.W.kitAny K (.ref D) ws = some b) ∧ Q (.bl b) H
theorem call_isE2 (C : ExcC X.K D) (hz : Zc cls d oe) (hf : ∃ vs, oe.data = .fields vs) : CallR (X.suite a ((a, oe) :: pn)) (.builtin "isinstance") (rIsE2 X.K D a cls d) := by
  intro pins s σ H xs us Q I r h
  obtain ⟨c, b, rfl, ec, ⟨dd, fs, ed, ea⟩, hcase, q⟩ := h
  subst ec
  subst ed
  obtain ⟨u1, u2, rfl, r1, r2⟩ := vals2 r
  cases (show u1 = Value.ref a from r1)
  obtain ⟨ha, _⟩ := I.pin (a, oe) (List.mem_append_left _ List.mem_cons_self)
  obtain ⟨vs, hd⟩ := hf
  have hx : ObjOk X.prog X.w H s.heap dd (.xd fs) := I.hok dd _ ea
  obtain ⟨mA, hns, hr⟩ := hx
  obtain ⟨od, ho, hl⟩ := lookIn_ns hns
  have J : PySem.W.InstAt s.heap a oe D (some od) := ⟨ha, hz.1, by unfold PySem.W.notCls; rw [hd] <;> rfl, by rw [hz.2]; exact ho⟩
  have hcl : (PySem.W.clsIn X.K D).isSome = true := by
    obtain ⟨cd, hc, _⟩ := PySem.W.any_some C.hd
    rw [hc]
    rfl
  have Z := PySem.W.kitx_exc (x := a) (ox := oe) (od := some od) hcl C.hg C.hk C.hs C.ha C.hn C.ht C.hm
  rcases hcase with ⟨cv, hcv, e⟩ | ⟨tp, cs, ws, rfl, hT, k, e⟩
  · cases hcv.eq r2
    exact PySem.W.kia_one Z I.kIn J e (fun z => nomatch z) fun tk => ⟨.bl b, H, I.tok tk, rfl, q⟩
  · cases (show u2 = Value.ref tp from r2)
    obtain ⟨_, its, rv, o, h1, h2, n, h3⟩ := (show ObjOk X.prog X.w H s.heap tp (.tup cs) from I.hok tp _ hT)
    have e3 := ClsV.all k rv
    subst e3
    obtain ⟨oc, od2, dt, sl⟩ := o
    simp only at h2 h3
    subst h2 h3
    exact PySem.W.kia_tup Z I.kIn J h1 e (fun z => nomatch z) fun tk => ⟨.bl b, H, I.tok tk, rfl, q⟩
/-- an error of the class at S is what «except S» names -/
theorem exm_self {K : PySem.W.Frag} {S : Addr} (h1 : PySem.W.subIn K (.ref S) (.type "BaseException") = some true) (h2 : PySem.W.isClsIn K S = true) (h3 : PySem.W.typeIn K (.ref S) = some (.type "type")) (h4 : PySem.W.subIn K (.ref S) (.ref S) = some true) :
    PySem.W.exmOne K (.ref S) (.ref S) = some true := by
  have e1 : (PySem.W.subIn K (.ref S) (.type "BaseException") == some true) = true := by rw [h1] <;> rfl
  have e2 : ((PySem.W.clsIn K S).isSome && PySem.W.typeIn K (.ref S) == some (.type "type")) = true := by
    have h2' : (PySem.W.clsIn K S).isSome = true := h2
    rw [h2', h3] <;> rfl
  show (if (PySem.W.subIn K (.ref S) (.type "BaseException") == some true) = true then (if ((PySem.W.clsIn K S).isSome && PySem.W.typeIn K (.ref S) == some (.type "type")) = true then PySem.W.subIn K (.ref S) (.ref S) else none) else none) = some true
  rw [if_pos e1, if_pos e2]
  exact h4
end
section
variable {K : PySem.W.Frag} {σ : St} {H : Hp} {Q : VK}
/-- the heap behind an exception that was made -/
theorem made_heap {H : Hp} {a dx C : Addr} {fs : List (Str × V)} (na : H a = none) (ne : dx ≠ a) :
    upd (del (upd (upd (upd H a (exo a C none)) dx (exd dx fs)) a (exo a C (some dx))) a) dx (.xd fs) = upd H dx (.xd fs) := by
  funext b
  by_cases h1 : b = dx
  · subst h1
    rw [upd_same, upd_same]
  · rw [upd_ne h1, upd_ne h1]
    by_cases h2 : b = a
    · subst h2
      rw [del_same, na]
    · rw [del_ne h2, upd_ne h2, upd_ne h1, upd_ne h2]
/-- __init__(self, v): self.f = v -/
def spInit1 (C : Addr) (f : Str) : Sp := fun vs H Q _ => ∃ (a : Addr) (v : V), vs = [.ref a, v] ∧ H a = some (exo a C none) ∧ ∀ dx, H dx = none → dx ≠ a → Q .non (upd (upd H dx (exd dx [(f, v)])) a (exo a C (some dx)))
theorem r_mkO {C : Addr} {sp : Sp} {dvs : List V} {ta : TA} {R : XK} (h : ta σ H fun vs H1 => vs.length ≤ 1000 ∧ ∀ a, H1 a = none → sp (.ref a :: (vs ++ dvs)) (upd H1 a (exo a C none))
    (fun v H2 => v = .non ∧ ∃ (d : Addr) (fs : List (Str × V)), H2 a = some (exo a C (some d)) ∧ H2 d = some (exd d fs) ∧ H1 d = none ∧ R (.ref C) (some d) (upd (del H2 a) d (.xd fs))) (fun _ _ _ => False)) : tMkO C sp dvs ta σ H R := h
/-- C(v), with one field -/
theorem mk_init1 {C a : Addr} {f : Str} {v : V} {R : XK} (na : H a = none) (k : ∀ d, H d = none → R (.ref C) (some d) (upd H d (.xd [(f, v)]))) :
    spInit1 C f [.ref a, v] (upd H a (exo a C none)) (fun v' H2 => v' = .non ∧ ∃ (d : Addr) (fs : List (Str × V)), H2 a = some (exo a C (some d)) ∧ H2 d = some (exd d fs) ∧ H d = none ∧ R (.ref C) (some d) (upd (del H2 a) d (.xd fs))) (fun _ _ _ => False) := by
  refine ⟨a, v, rfl, upd_same, fun dx nd ne => ⟨rfl, dx, [(f, v)], upd_same, by rw [upd_ne ne]; exact upd_same, by rw [upd_ne ne] at nd; exact nd, ?_⟩⟩
  rw [made_heap na ne]
  rw [upd_ne ne] at nd
  exact k dx nd
theorem r_ost {K : PySem.W.Frag} {D : Ends} {f : Str} {to te : TE} (h : te σ H fun y H1 => to σ H1 fun x H2 => ∃ a C : Addr, x = .ref a ∧ OexC K C ∧ PySem.W.findIn K (.ref C) f = some none ∧
  ((H2 a = some (exo a C none) ∧ ∀ dx, H2 dx = none → dx ≠ a → D.nx σ (upd (upd H2 dx (exd dx [(f, y)])) a (exo a C (some dx)))) ∨
    ∃ (dx : Addr) (fs : List (Str × V)), H2 a = some (exo a C (some dx)) ∧ H2 dx = some (exd dx fs) ∧ fs.length ≤ 900 ∧ D.nx σ (upd H2 dx (exd dx ((f, y) :: fs))))) : tOst K f to te D σ H := h
/-- e.f of a caught exception with one field -/
theorem r_xf1 {a C dd : Addr} {cls : Value} {d : Option Addr} {f : Str} {te : TE} {v : V} (h : te σ H fun x H1 => x = .ref a ∧ cls = .ref C ∧ d = some dd ∧ H1 dd = some (.xd [(f, v)]) ∧ Q v H1)
    (mono : ∀ {R R' : VK}, (∀ z H1, R z H1 → R' z H1) → te σ H R → te σ H R') : tXf a cls d C f te σ H Q := mono (fun z H1 ⟨e1, e2, e3, e4, q⟩ => ⟨e1, e2, dd, [(f, v)], v, e3, e4, by simp [List.lookup], q⟩) h
theorem r_xf {a C : Addr} {cls : Value} {d : Option Addr} {f : Str} {te : TE} (h : te σ H fun x H1 => x = .ref a ∧ cls = .ref C ∧ ∃ (dd : Addr) (fs : List (Str × V)) (v : V), d = some dd ∧ H1 dd = some (.xd fs) ∧ fs.lookup f = some v ∧ Q v H1) : tXf a cls d C f te σ H Q := h
theorem r_callS {sp : Sp} {E : St → XK} {t : TA} (h : t σ H fun vs H1 => sp vs H1 Q (E σ)) : tCallS sp E t σ H Q := h
theorem kitAny_no {K : PySem.W.Frag} {t c : Value} {cs : List Value} (h : PySem.W.kitOne K t c = some false) (r : PySem.W.kitAny K t cs = some false) : PySem.W.kitAny K t (c :: cs) = some false := by
  unfold PySem.W.kitAny
  rw [h]
  exact r
theorem kitAny_end {K : PySem.W.Frag} {t : Value} : PySem.W.kitAny K t [] = some false := rfl
/-- isinstance(e, (C1, ..)) -/
theorem r_isEt {K : PySem.W.Frag} {D a p dd : Addr} {fs : List (Str × V)} {cs : List V} {ws : List Value} {b : Bool} (hd : H dd = some (.xd fs)) (hp : H p = some (.tup cs)) (hc : Paired ClsV cs ws) (e : PySem.W.kitAny K (.ref D) ws = some b) (k : Q (.bl b) H) :
    rIsE2 K D a (.ref D) (some dd) [.ref a, .ref p] H Q := ⟨.ref p, b, rfl, rfl, ⟨dd, fs, rfl, hd⟩, .inr ⟨p, cs, ws, rfl, hp, hc, e⟩, k⟩
/-- isinstance(e, T) -/
theorem r_isEo {K : PySem.W.Frag} {D a dd : Addr} {fs : List (Str × V)} {c : V} {cv : Value} {b : Bool} (hd : H dd = some (.xd fs)) (hc : ClsV c cv) (e : PySem.W.kitOne K (.ref D) cv = some b) (k : Q (.bl b) H) :
    rIsE2 K D a (.ref D) (some dd) [.ref a, c] H Q := ⟨c, b, rfl, rfl, ⟨dd, fs, rfl, hd⟩, .inl ⟨cv, hc, e⟩, k⟩
end
end RV

/-! a call, within try, of a local name that holds one of several defs -/
namespace RV
open PySem PySem.Spec L2
open PyProof.Rows hiding St
/-- the slot i holds a def of which S says what it promises -/
def tCallSL (i : Nat) (S : Addr → Sp → Prop) (E : St → XK) (t : TA) : TE := fun σ H Q => ∃ f sp, σ[i]? = some (some (.ref f)) ∧ S f sp ∧ t σ H fun vs H1 => sp vs H1 Q (E σ)
structure HeldX (P : PySem.Program) (w : World) (K : PySem.W.Frag) (mg : Str → Option Value) (base : Heap) (k : Nat) (f : Addr) (sp : Sp) : Prop where
  ex : ∃ (fd : FuncData) (ps : List Str), FnOk P w K mg base (L2.CX P w) k f fd ps sp ∧ PySem.W.keepIn K (.ref f) = true ∧ Binds K fd ps []
section
variable {X : Cx} {k i : Nat} {x : Str} {p pos : Pos} {e : Expr} {es : List Expr} {t : TA} {E : St → XK} {S : Addr → Sp → Prop}
theorem pe_callSL (A : ∀ f sp, S f sp → HeldX X.prog X.w X.K X.mg X.base k f sp) (hr : Room k X.A) (hN : X.N[i]? = some x) (hv : Vis X.env.scope x) (hx : ∀ σ, PassesAt (L2.CX X.prog X.w) X σ (E σ)) (ha : PA X (e :: es) t)
    (hdb : (x == ("__debug__" : Str)) = false := by decide) (hcd : (x == ("__classdict__" : Str)) = false := by decide)
    (he : starEach (e :: es) X.env = (false, eval e X.env) :: starEach es X.env := by rfl) (hpl : (backTo pos (starEach es X.env)).any (·.1) = false := by rfl) : PE X (.Call (.Name x p) (e :: es) [] pos) (tCallSL i S E t) := by
  refine ⟨fun pins s σ H Q I h => ?_⟩
  obtain ⟨f, sp, hs, hS, ht⟩ := h
  obtain ⟨fd, ps, F, hk, hb⟩ := (A f sp hS).ex
  refine wpAny_Call_Name_kw (thn ((pe_var (pos := p) hN hv hdb hcd).run pins s σ H (fun v H1 => v = .ref f ∧ H1 = H) I ⟨.ref f, hs, rfl, rfl⟩) fun u s1 ⟨v, H1, I1, r1, q1⟩ => ?_)
  obtain ⟨ev, eH⟩ := q1
  subst ev eH
  cases r1
  refine PySem.W.callWith_K (h₀ := X.base) I.ok.mod.kin hk (thn (ha.run pos pins s1 σ _ _ I1 ht) fun us s2 ⟨vs, H2, I2, r, q⟩ => ⟨I2.kIn, ?_⟩) he hpl
  exact run_fnSD (dvs := []) F hr hb .nil (hx σ) I2 r (by rw [List.append_nil]; exact q)
variable {σ : St} {H : Hp} {Q : VK}
theorem r_callSL {f : Addr} {sp : Sp} (hs : σ[i]? = some (some (.ref f))) (hS : S f sp) (h : t σ H fun vs H1 => sp vs H1 Q (E σ)) : tCallSL i S E t σ H Q := ⟨f, sp, hs, hS, h⟩
end
end RV


namespace K71



open PySem PySem.Spec L2 RV
open PyProof.Rows hiding St
def topS (i : Nat) : Stmt := PySem.Challenge.pw_runsums_k71_not_made_one.main.body.getD i (.Pass ⟨0, 0, 0, 0⟩)
abbrev s_box : Stmt := topS 36
theorem sc_box : FnScope ["script", "k", "cell", "seed"] ["script", "k"] (defScope s_box) := ⟨rfl, rfl, rfl, by decide +kernel, rfl, by decide +kernel, by decide +kernel⟩
abbrev s_take : Stmt := topS 37
theorem sc_take : FnScope ["box", "wide", "digit", "one"] ["box", "wide"] (defScope s_take) := ⟨rfl, rfl, rfl, by decide +kernel, rfl, by decide +kernel, by decide +kernel⟩
abbrev s_pool : Stmt := topS 38
theorem sc_pool : FnScope ["box", "many", "signs", "head", "k", "stem", "first", "at", "found", "name"] ["box", "many"] (defScope s_pool) := ⟨rfl, rfl, rfl, by decide +kernel, rfl, by decide +kernel, by decide +kernel⟩
abbrev s_Saying_init : Stmt := inClass (topS 24) 0
theorem sc_Saying_init : FnScope ["self", "word", "left", "right"] ["self", "word", "left", "right"] (defScope s_Saying_init) := ⟨rfl, rfl, rfl, by decide +kernel, rfl, by decide +kernel, by decide +kernel⟩
abbrev s_NoOne_init : Stmt := inClass (topS 5) 0
theorem sc_NoOne_init : FnScope ["self", "at"] ["self", "at"] (defScope s_NoOne_init) := ⟨rfl, rfl, rfl, by decide +kernel, rfl, by decide +kernel, by decide +kernel⟩
abbrev s_p_check_words : Stmt := topS 34
theorem sc_p_check_words : FnScope ["sayings", "at", "saying"] ["sayings"] (defScope s_p_check_words) := ⟨rfl, rfl, rfl, by decide +kernel, rfl, by decide +kernel, by decide +kernel⟩
abbrev s_p_same : Stmt := topS 30
theorem sc_p_same : FnScope ["left", "right"] ["left", "right"] (defScope s_p_same) := ⟨rfl, rfl, rfl, by decide +kernel, rfl, by decide +kernel, by decide +kernel⟩
abbrev s_p_plus : Stmt := topS 28
theorem sc_p_plus : FnScope ["left", "right"] ["left", "right"] (defScope s_p_plus) := ⟨rfl, rfl, rfl, by decide +kernel, rfl, by decide +kernel, by decide +kernel⟩
abbrev s_p_times : Stmt := topS 29
theorem sc_p_times : FnScope ["left", "right"] ["left", "right"] (defScope s_p_times) := ⟨rfl, rfl, rfl, by decide +kernel, rfl, by decide +kernel, by decide +kernel⟩
abbrev s_p_sum_of : Stmt := topS 14
theorem sc_p_sum_of : FnScope ["terms", "total", "term"] ["terms"] (defScope s_p_sum_of) := ⟨rfl, rfl, rfl, by decide +kernel, rfl, by decide +kernel, by decide +kernel⟩
abbrev s_p_num : Stmt := topS 27
theorem sc_p_num : FnScope ["number"] ["number"] (defScope s_p_num) := ⟨rfl, rfl, rfl, by decide +kernel, rfl, by decide +kernel, by decide +kernel⟩
abbrev s_p_made_one : Stmt := topS 32
theorem sc_p_made_one : FnScope ["sayings", "saying", "squares", "taken_off"] ["sayings"] (defScope s_p_made_one) := ⟨rfl, rfl, rfl, by decide +kernel, rfl, by decide +kernel, by decide +kernel⟩
abbrev s_p_either : Stmt := topS 33
theorem sc_p_either : FnScope ["one", "other"] ["one", "other"] (defScope s_p_either) := ⟨rfl, rfl, rfl, by decide +kernel, rfl, by decide +kernel, by decide +kernel⟩
abbrev s_both : Stmt := topS 41
theorem sc_both : FnScope ["things"] ["things"] (defScope s_both) := ⟨rfl, rfl, rfl, by decide +kernel, rfl, by decide +kernel, by decide +kernel⟩
abbrev s_said : Stmt := topS 40
theorem sc_said : FnScope ["call", "things", "said", "e", "other"] ["call", "things"] (defScope s_said) := ⟨rfl, rfl, rfl, by decide +kernel, rfl, by decide +kernel, by decide +kernel⟩
abbrev s_due : Stmt := topS 42
theorem sc_due : FnScope ["some", "at", "saying"] ["some"] (defScope s_due) := ⟨rfl, rfl, rfl, by decide +kernel, rfl, by decide +kernel, by decide +kernel⟩
abbrev s_term : Stmt := topS 39
theorem sc_term : FnScope ["box", "pool", "down", "form", "one"] ["box", "pool", "down"] (defScope s_term) := ⟨rfl, rfl, rfl, by decide +kernel, rfl, by decide +kernel, by decide +kernel⟩
abbrev s_law : Stmt := topS 43
theorem sc_law : FnScope ["script", "box", "pool", "some", "k", "one", "word", "saying", "good", "at", "other"] ["script"] (defScope s_law) := ⟨rfl, rfl, rfl, by decide +kernel, rfl, by decide +kernel, by decide +kernel⟩
structure Txt (K : PySem.W.Frag) (mg : Str → Option Value) (w : World) where
  C_Saying : Addr
  C_NoAnswer : Addr
  C_NoBegin : Addr
  C_NoHeld : Addr
  C_NoNumber : Addr
  C_NoOne : Addr
  C_NoProgram : Addr
  C_NoRow : Addr
  C_NoText : Addr
  C_NoWord : Addr
  C_TooGreat : Addr
  C_Unknown : Addr
  C_Wrong : Addr
  f_box : Addr
  d_box : FuncData
  F_box : Fun K "_law_box" "_law_box" s_box f_box d_box
  g_box : mg "_law_box" = some (.ref f_box)
  b_box : Binds K d_box ["script", "k"] []
  f_take : Addr
  d_take : FuncData
  F_take : Fun K "_law_take" "_law_take" s_take f_take d_take
  g_take : mg "_law_take" = some (.ref f_take)
  b_take : Binds K d_take ["box", "wide"] []
  f_pool : Addr
  d_pool : FuncData
  F_pool : Fun K "_law_pool" "_law_pool" s_pool f_pool d_pool
  g_pool : mg "_law_pool" = some (.ref f_pool)
  b_pool : Binds K d_pool ["box", "many"] []
  f_Saying_init : Addr
  d_Saying_init : FuncData
  F_Saying_init : Fun K "__init__" "Saying.__init__" s_Saying_init f_Saying_init d_Saying_init
  m_Saying_init : Meth K C_Saying "__init__" f_Saying_init
  b_Saying_init : Binds K d_Saying_init ["self", "word", "left", "right"] []
  f_NoOne_init : Addr
  d_NoOne_init : FuncData
  F_NoOne_init : Fun K "__init__" "NoOne.__init__" s_NoOne_init f_NoOne_init d_NoOne_init
  m_NoOne_init : Meth K C_NoOne "__init__" f_NoOne_init
  b_NoOne_init : Binds K d_NoOne_init ["self", "at"] []
  f_p_check_words : Addr
  d_p_check_words : FuncData
  F_p_check_words : Fun K "_check_words" "_check_words" s_p_check_words f_p_check_words d_p_check_words
  g_p_check_words : mg "_check_words" = some (.ref f_p_check_words)
  b_p_check_words : Binds K d_p_check_words ["sayings"] []
  f_p_same : Addr
  d_p_same : FuncData
  F_p_same : Fun K "same" "same" s_p_same f_p_same d_p_same
  g_p_same : mg "same" = some (.ref f_p_same)
  b_p_same : Binds K d_p_same ["left", "right"] []
  f_p_plus : Addr
  d_p_plus : FuncData
  F_p_plus : Fun K "plus" "plus" s_p_plus f_p_plus d_p_plus
  g_p_plus : mg "plus" = some (.ref f_p_plus)
  b_p_plus : Binds K d_p_plus ["left", "right"] []
  f_p_times : Addr
  d_p_times : FuncData
  F_p_times : Fun K "times" "times" s_p_times f_p_times d_p_times
  g_p_times : mg "times" = some (.ref f_p_times)
  b_p_times : Binds K d_p_times ["left", "right"] []
  f_p_sum_of : Addr
  d_p_sum_of : FuncData
  F_p_sum_of : Fun K "sum_of" "sum_of" s_p_sum_of f_p_sum_of d_p_sum_of
  g_p_sum_of : mg "sum_of" = some (.ref f_p_sum_of)
  b_p_sum_of : Binds K d_p_sum_of ["terms"] []
  f_p_num : Addr
  d_p_num : FuncData
  F_p_num : Fun K "num" "num" s_p_num f_p_num d_p_num
  g_p_num : mg "num" = some (.ref f_p_num)
  b_p_num : Binds K d_p_num ["number"] []
  f_p_made_one : Addr
  d_p_made_one : FuncData
  F_p_made_one : Fun K "made_one" "made_one" s_p_made_one f_p_made_one d_p_made_one
  g_p_made_one : mg "made_one" = some (.ref f_p_made_one)
  b_p_made_one : Binds K d_p_made_one ["sayings"] []
  f_p_either : Addr
  d_p_either : FuncData
  F_p_either : Fun K "either" "either" s_p_either f_p_either d_p_either
  g_p_either : mg "either" = some (.ref f_p_either)
  b_p_either : Binds K d_p_either ["one", "other"] []
  f_both : Addr
  d_both : FuncData
  F_both : Fun K "_law_both" "_law_both" s_both f_both d_both
  g_both : mg "_law_both" = some (.ref f_both)
  b_both : Binds K d_both ["things"] []
  f_said : Addr
  d_said : FuncData
  F_said : Fun K "_law_said" "_law_said" s_said f_said d_said
  g_said : mg "_law_said" = some (.ref f_said)
  b_said : Binds K d_said ["call", "things"] []
  f_due : Addr
  d_due : FuncData
  F_due : Fun K "_law_due" "_law_due" s_due f_due d_due
  g_due : mg "_law_due" = some (.ref f_due)
  b_due : Binds K d_due ["some"] []
  f_term : Addr
  d_term : FuncData
  F_term : Fun K "_law_term" "_law_term" s_term f_term d_term
  g_term : mg "_law_term" = some (.ref f_term)
  b_term : Binds K d_term ["box", "pool", "down"] []
  f_law : Addr
  d_law : FuncData
  F_law : Fun K "law" "law" s_law f_law d_law
  g_law : mg "law" = some (.ref f_law)
  b_law : Binds K d_law ["script"] []
  cl_Saying : Cls K C_Saying
  g_Saying : mg "Saying" = some (.ref C_Saying)
  n_Saying_word : NoAttr K C_Saying "word"
  n_Saying_left : NoAttr K C_Saying "left"
  n_Saying_right : NoAttr K C_Saying "right"
  mk_Saying : Mk K C_Saying f_Saying_init
  g_NoAnswer : mg "NoAnswer" = some (.ref C_NoAnswer)
  g_NoBegin : mg "NoBegin" = some (.ref C_NoBegin)
  g_NoHeld : mg "NoHeld" = some (.ref C_NoHeld)
  g_NoNumber : mg "NoNumber" = some (.ref C_NoNumber)
  g_NoOne : mg "NoOne" = some (.ref C_NoOne)
  ox_NoOne : OexC K C_NoOne
  xi_NoOne : PySem.W.findIn K (.ref C_NoOne) "__init__" = some (some (.ref f_NoOne_init))
  xt_NoOne : PySem.W.typeIn K (.ref f_NoOne_init) = some (.type "function")
  no_NoOne_at : PySem.W.findIn K (.ref C_NoOne) "at" = some none
  xf_NoOne : XfC K C_NoOne
  te_NoOne : PySem.W.exmOne K (.ref C_NoOne) (.ref C_NoOne) = some true
  xc_NoOne : ExcC K C_NoOne
  kx_NoOne_NoAnswer : PySem.W.kitOne K (.ref C_NoOne) (.ref C_NoAnswer) = some false
  kx_NoOne_NoBegin : PySem.W.kitOne K (.ref C_NoOne) (.ref C_NoBegin) = some false
  kx_NoOne_NoHeld : PySem.W.kitOne K (.ref C_NoOne) (.ref C_NoHeld) = some false
  kx_NoOne_NoNumber : PySem.W.kitOne K (.ref C_NoOne) (.ref C_NoNumber) = some false
  kx_NoOne_NoProgram : PySem.W.kitOne K (.ref C_NoOne) (.ref C_NoProgram) = some false
  kx_NoOne_NoRow : PySem.W.kitOne K (.ref C_NoOne) (.ref C_NoRow) = some false
  kx_NoOne_NoText : PySem.W.kitOne K (.ref C_NoOne) (.ref C_NoText) = some false
  kx_NoOne_NoWord : PySem.W.kitOne K (.ref C_NoOne) (.ref C_NoWord) = some false
  kx_NoOne_TooGreat : PySem.W.kitOne K (.ref C_NoOne) (.ref C_TooGreat) = some false
  kx_NoOne_Unknown : PySem.W.kitOne K (.ref C_NoOne) (.ref C_Unknown) = some false
  kx_NoOne_ValueError : PySem.W.kitOne K (.ref C_NoOne) (.type "ValueError") = some true
  kx_NoOne_Wrong : PySem.W.kitOne K (.ref C_NoOne) (.ref C_Wrong) = some false
  g_NoProgram : mg "NoProgram" = some (.ref C_NoProgram)
  g_NoRow : mg "NoRow" = some (.ref C_NoRow)
  g_NoText : mg "NoText" = some (.ref C_NoText)
  g_NoWord : mg "NoWord" = some (.ref C_NoWord)
  g_TooGreat : mg "TooGreat" = some (.ref C_TooGreat)
  g_Unknown : mg "Unknown" = some (.ref C_Unknown)
  g_Wrong : mg "Wrong" = some (.ref C_Wrong)
  w_MARKS : Addr
  we_MARKS : Array DictEntry
  wn_MARKS : Nat
  wk_MARKS : KDict K w w_MARKS we_MARKS wn_MARKS
  g_MARKS : mg "MARKS" = some (.ref w_MARKS)
  wv_MARKS_0 : Value
  wf_MARKS_0 : PySem.W.nsIn K w_MARKS (Str.ofString "same") = some (some wv_MARKS_0)
  wr_MARKS_0 : RelV (V.str (Str.ofString "=")) wv_MARKS_0
  wv_MARKS_1 : Value
  wf_MARKS_1 : PySem.W.nsIn K w_MARKS (Str.ofString "under") = some (some wv_MARKS_1)
  wr_MARKS_1 : RelV (V.str (Str.ofString "under")) wv_MARKS_1
  z_ValueError : mg "ValueError" = none
  z_bool : mg "bool" = none
  z_enumerate : mg "enumerate" = none
  z_int : mg "int" = none
  z_isinstance : mg "isinstance" = none
  z_len : mg "len" = none
  z_max : mg "max" = none
  z_min : mg "min" = none
  z_range : mg "range" = none
  z_tuple : mg "tuple" = none
section
variable {P : Program} {w : World} {K : PySem.W.Frag} {mg : Str → Option Value} {base : Heap}
/-! the reading, step by step: own words, by strings -/
local macro_rules | `(tactic| tm_at "ne") => `(tactic| with_reducible first
  | assumption
  | exact Ne.symm (by assumption)
  | exact ne_fr (by assumption) (by tm_at "mv")
  | exact box_ne (by assumption) (by tm_at "mv")
  | exact (ne_fr (by assumption) (by tm_at "mv")).symm
  | exact (box_ne (by assumption) (by tm_at "mv")).symm)
local macro_rules | `(tactic| tm_at "mv") => `(tactic| with_reducible first
  | assumption
  | (show upd _ _ _ _ = some _; first
    | exact upd_same
    | exact (sm_upd (by assumption)).to _ _ (by tm_at "mv")
    | exact chg_upd.to _ _ (by tm_at "ne") (by tm_at "mv"))
  | (show _ = some _; first
    | exact Sm.to (by assumption) _ _ (by tm_at "mv")
    | exact Chg.to (by assumption) _ _ (by tm_at "ne") (by tm_at "mv"))
  | (show SqL _ (upd _ _ _) _ _; first
    | exact SqL.of (by assumption)
    | exact SqL.of upd_same
    | exact (sm_upd (by assumption)).seq (by tm_at "mv")
    | exact chg_upd.seq (by tm_at "ne") (by tm_at "mv"))
  | (show SqL _ _ _ _; first
    | exact SqL.of (by assumption)
    | exact Sm.seq (by assumption) (by tm_at "mv")
    | exact Chg.seq (by assumption) (by tm_at "ne") (by tm_at "mv"))
  | (show SqT _ (upd _ _ _) _ _; first
    | exact SqT.of (by assumption)
    | exact SqT.of upd_same
    | exact (sm_upd (by assumption)).seqT (by tm_at "mv")
    | exact chg_upd.seqT (by tm_at "ne") (by tm_at "mv"))
  | (show SqT _ _ _ _; first
    | exact SqT.of (by assumption)
    | exact Sm.seqT (by assumption) (by tm_at "mv")
    | exact Chg.seqT (by assumption) (by tm_at "ne") (by tm_at "mv"))
  | (show Dp _ (upd _ _ _) _ _; exact (sm_upd (by assumption)).dp (by tm_at "mv"))
  | (show Dp _ _ _ _; exact Sm.dp (by assumption) (by tm_at "mv"))
  | (show BoxAt (upd _ _ _) _; first
    | exact BoxAt.sm (sm_upd (by assumption)) (by tm_at "mv")
    | exact BoxAt.chg chg_upd (by tm_at "ne") (by tm_at "mv"))
  | (show BoxAt _ _; first
    | exact BoxAt.sm (by assumption) (by tm_at "mv")
    | exact BoxAt.chg (by assumption) (by tm_at "ne") (by tm_at "mv")))
local macro_rules | `(tactic| tm_at "sd") => `(tactic| first
  | assumption
  | exact cmul_l (by decide)
  | exact cmul_r (by decide)
  | exact cshl1 (by omega) (by omega)
  | exact cdiv_s (by omega) (by omega)
  | exact cmul_r (by omega)
  | exact cmul_l (by omega)
  | (show (0 : Int) < _; first | decide | omega)
  | omega
  | exact ⟨by decide, by decide, by decide⟩
  | exact sz_le (by simp only [List.length_cons, List.length_nil]; omega))
local macro_rules | `(tactic| tm_at "if") => `(tactic| with_reducible first
  | refine ite_y rfl ?_
  | refine ite_o rfl ?_
  | refine ite_y (decide_eq_true (by first | assumption | omega)) ?_
  | refine ite_o (decide_eq_false (by first | assumption | omega)) ?_)
local macro_rules | `(tactic| tm_at "1") => `(tactic| with_reducible first
  | refine r_seq ?_
  | refine r_nx ?_
  | refine r_rt ?_
  | refine r_next ?_
  | refine r_op ?_
  | refine r_var rfl ?_
  | refine r_C ?_
  | refine r_asg ?_
  | refine r_gN ?_
  | refine r_cons ?_
  | refine r_nil ?_
  | refine r_call ?_
  | refine r_CB ?_
  | refine r_ret ?_
  | refine r_if ?_
  | refine r_test ?_
  | refine r_bl ?_
  | refine r_addI ?_
  | refine r_I0 ?_
  | refine r_eqI ?_
  | refine r_neI ?_
  | refine r_eqS ?_
  | refine r_neS ?_
  | refine r_eqB ?_
  | refine r_neB ?_
  | refine r_un ?_
  | refine r_U ?_
  | refine r_drop ?_
  | refine r_lst ?_
  | refine r_tup ?_
  | refine r_par ?_
  | refine r_vw ?_
  | refine r_aug rfl ?_
  | refine r_ip ?_
  | refine r_and ?_
  | refine r_or ?_
  | refine r_not ?_
  | refine r_notT ?_
  | refine r_orT ?_
  | refine r_andT ?_
  | refine r_tru_bl ?_
  | refine r_tru_int ?_
  | refine r_ifE ?_
  | refine r_gS ?_
  | refine r_gC ?_
  | refine r_g0 ?_
  | refine r_retN ?_
  | refine r_sl ?_
  | refine r_noPart ?_
  | refine r_part ?_
  | refine r_exI ?_
  | refine r_callK ?_
  | refine r_bm ?_
  | refine r_chain ?_
  | refine r_isB ?_
  | refine r_isi_int rfl ?_
  | refine r_isi_bl rfl ?_
  | refine r_isi_str rfl ?_
  | refine r_inS ?_
  | refine r_notInS ?_
  | refine r_bmS ?_
  | refine r_lc ?_
  | refine r_for ?_
  | refine r_R1 ?_
  | refine r_yes ?_
  | refine r_aS ?_
  | refine r_intB ?_
  | refine r_intI ?_
  | refine r_strS ?_)
local macro_rules | `(tactic| tm_at "h") => `(tactic| first
  | ((with_reducible show rI _ _ (V.int _) (V.int _) _ _); refine r_I (by tm_at "sd") ?_)
  | ((with_reducible show rMulA _ (V.int _) (V.int _) _ _); refine r_mulS (by tm_at "sd") ?_)
  | ((with_reducible show rIx _ (V.ref _) (V.int _) _ _); first
    | ((with_reducible show rIx _ (V.ref _) (V.int 0) _ _); first | refine r_ixL0 (by tm_at "mv") ?_ | refine r_ixT0 (by tm_at "mv") ?_)
    | ((with_reducible show rIx _ (V.ref _) (V.int 1) _ _); first | refine r_ixL1 (by tm_at "mv") ?_ | refine r_ixT1 (by tm_at "mv") ?_)
    | ((with_reducible show rIx _ (V.ref _) (V.int 2) _ _); first | refine r_ixL2 (by tm_at "mv") ?_ | refine r_ixT2 (by tm_at "mv") ?_))
  | ((with_reducible show rLenA _ [V.ref _] _ _); first
    | refine r_lenL (by tm_at "mv") ?_
    | refine r_lenT (by tm_at "mv") ?_)
  | ((with_reducible show rSetL (V.ref _) (V.int _) _ _ _); first | refine r_setB0 (by tm_at "mv") ?_ | refine r_setB1 (by tm_at "mv") ?_)
  | ((with_reducible show gTup _ _ _ (V.ref _) _ _ _); refine r_gT (by tm_at "mv") (by exact rfl) ?_)
  | ((with_reducible show tyV _ "list" (V.ref _) _ ∧ _); refine r_bmL (by tm_at "mv") ?_)
  | ((with_reducible show tAug _ _ _ _ _ _); refine r_aug (by exact rfl) ?_)
  | ((with_reducible show rMaxA _ [V.int _, V.int _] _ _); refine r_maxF ?_; intro _ _ _ _)
  | ((with_reducible show rMinA _ [V.int _, V.int _] _ _); refine r_minF ?_; intro _ _ _ _)
  | ((with_reducible show wipe _ _ = wipe _ _ ∧ _); refine r_wipe (by exact rfl) ?_)
  | ((with_reducible show ∃ j, [V.int _] = [V.int j] ∧ _); refine r_rng (by omega) (by omega) ?_)
  | ((with_reducible show tVar _ _ _ _); refine r_var (by exact rfl) ?_))
local macro_rules | `(tactic| tm_at "sm") => `(tactic| with_reducible first
  | exact Sm.refl _
  | assumption
  | (show Sm _ (upd _ _ _); first
    | exact sm_tr (sm_upd (by assumption)) (by tm_at "sm")
    | exact sm_acc2 (by assumption) (by tm_at "sm"))
  | exact sm_tr (by assumption) (by tm_at "sm")
  | exact sm_hid (by assumption) (by assumption) (by tm_at "sm"))
local macro_rules | `(tactic| tm_at "fr") => `(tactic| with_reducible first
  | assumption
  | exact fr_of (by assumption) (by tm_at "sm"))
local macro_rules | `(tactic| tm_at "al") => `(tactic| (refine ⟨by tm_at "sd", fun p np => ?_⟩))
local macro_rules | `(tactic| tm_at "rv") => `(tactic| repeat (first | tm_at "1" | tm_at "h" | tm_at "if" | ((with_reducible show _ ≤ sizeLine ∧ ∀ _, _); refine ⟨by tm_at "sd", fun p np => ?_⟩)))
local macro_rules | `(tactic| tm_at "ch") => `(tactic| with_reducible first
  | exact Chg.refl _ _
  | assumption
  | (show Chg _ _ (upd _ _ _); first
    | exact chg_tr (sm_upd (by assumption)).chg (by tm_at "ch")
    | exact chg_acc2 (by assumption) (by tm_at "ch")
    | exact chg_tr chg_upd (by tm_at "ch"))
  | exact chg_tr (by assumption) (by tm_at "ch")
  | exact chg_tr (Sm.chg (by assumption)) (by tm_at "ch"))

local macro_rules | `(tactic| tm_at "1") => `(tactic| with_reducible first
  | refine r_bin ?_
  | refine r_par3 ?_
  | refine r_uvw ?_
  | refine r_tru_non ?_
  | refine r_joined ?_
  | refine r_js0 ?_
  | refine r_js1 ?_
  | refine r_fmtS ?_)


local macro_rules | `(tactic| tm_at "1") => `(tactic| with_reducible first
  | refine r_bits ?_
  | refine r_tB ?_
  | refine r_dnotin ?_
  | refine r_din ?_)

local macro_rules | `(tactic| tm_at "1") => `(tactic| with_reducible first
  | refine r_fld ?_
  | refine r_setF ?_
  | refine r_make ?_
  | refine r_pairs0 ?_
  | refine r_pairs1 ?_
  | refine r_dg ?_
  | refine r_zip ?_)
local macro_rules | `(tactic| tm_at "if") => `(tactic| with_reducible first
  | refine ite_o (not_o (by first | assumption | omega)) ?_
  | refine ite_y (not_y (by first | assumption | omega)) ?_)
local macro_rules | `(tactic| tm_at "if") => `(tactic| ((with_reducible show if decide (Str.ofString _ = Str.ofString _) = true then _ else _); first | refine ite_y (by decide +kernel) ?_ | refine ite_o (by decide +kernel) ?_))

/-! the program's own: sums, parts, depths -/
def sp_p_sum_of (K : PySem.W.Frag) : Sp := fun vs H Q _ => ∃ (a : Addr) (xs : List V) (ts : List Trm), vs = [.ref a] ∧ (SqL K H a xs ∨ SqT K H a xs) ∧ TmsAt H xs ts ∧ ts.length ≤ 1000 ∧ ∀ v H', Sm H H' → TmAt H' (sumT ts) v → Q v H'
theorem use_sum_of {H : Hp} {Q : VK} {E : XK} {a : Addr} {xs : List V} {ts : List Trm} (h : SqL K H a xs ∨ SqT K H a xs) (g : TmsAt H xs ts) (l : ts.length ≤ 1000) (k : ∀ v H', Sm H H' → TmAt H' (sumT ts) v → Q v H') : sp_p_sum_of K [.ref a] H Q E := ⟨a, xs, ts, rfl, h, g, l, k⟩
theorem ok_p_sum_of (T : Txt K mg w) : FnOk P w K mg base CX0 1 T.f_p_sum_of T.d_p_sum_of ["terms"] (sp_p_sum_of K) := by
  refine T.F_p_sum_of.ok sc_p_sum_of (fun vs H Q E h => ?_) (fun cdv A outer s H vs Q E hr h => ?_)
  · obtain ⟨a, xs, ts, rfl, _⟩ := h
    rfl
  · obtain ⟨a, xs, ts, rfl, hS, hT, hl, k⟩ := h
    refine ⟨_, (pss_cons (ps_if (pt_cmpR (eq_k (K := K) rfl hr.units) (pe_callB (len_k (K := K) rfl) (by rfl) T.z_len (by decide +kernel) (pa_cons (pv 0) pa_nil)) pe_int (nomark _))
      (pss_one (ps_ret (pe_tup (pa_cons pe_str (pa_cons pe_int pa_nil))))) pss_nil)
      (pss_cons (ps_set (i := 1) sc_p_sum_of.nd rfl (Or.inl rfl) (pe_ix (ix_k (K := K) rfl) (pv 0) pe_int (fun _ _ => rfl)))
      (pss_cons (ps_for PassesOwn.never rfl (any_pi (K := K) rfl (pe_slice (sl_k (K := K) rfl) (pv 0) (po_some pe_int) po_none)) (pg_name (i := 2) sc_p_sum_of.nd rfl (Or.inl rfl))
      (pss_one (ps_set (i := 1) sc_p_sum_of.nd rfl (Or.inl rfl) (pe_tup (pa_cons pe_str (pa_cons (pv 1) (pa_cons (pv 2) pa_nil)))))))
      (pss_one (ps_ret (pv 1)))))), ?_⟩
    have hlen := hT.len
    cases ts with
    | nil =>
      obtain rfl : xs = [] := List.length_eq_zero_iff.mp hlen
      tm_at "rv"
      refine hS.elim (fun z => r_lenL z ?_) (fun z => r_lenT z ?_)
      · tm_at "rv"
        rename_i p np
        exact k _ _ (sm_upd np) ⟨_, rfl, upd_same⟩
      · tm_at "rv"
        rename_i p np
        exact k _ _ (sm_upd np) ⟨_, rfl, upd_same⟩
    | cons t ts =>
      cases xs with
      | nil => simp at hlen
      | cons x xs =>
        have hne : ¬ (((x :: xs).length : Nat) : Int) = 0 := by rw [List.length_cons]; omega
        have hl2 : xs.length = ts.length := by simpa using hlen
        rcases hS with hS | hS
        · tm_at "rv"
          refine r_iL ?_
          tm_at "rv"
          refine r_slL hS fun p np => ?_
          have s1 : Sm H (upd H p (.lst (cutV (x :: xs) (some 1) none))) := sm_upd np
          have e1 := upd_same (H := H) (a := p) (o := .lst (cutV (x :: xs) (some 1) none))
          generalize upd H p (.lst (cutV (x :: xs) (some 1) none)) = H1 at s1 e1 ⊢
          rw [cut_tail] at e1
          refine r_aL (SqL.of e1) ?_
          refine for_list (K := K) (a := p) (xs := xs) (fun i σ H' => (∃ tv x2, σ = [some (.ref a), some tv, x2] ∧ TmAt H' ((ts.take i).foldl (fun a b => Trm.op .plus a b) t) tv) ∧ Sm H1 H') ⟨⟨_, _, rfl, hT.1.sm s1⟩, Sm.refl _⟩ (fun i σ H' _ h => h.2.seq (SqL.of e1)) ?_ ?_
          · rintro i y σ H2 hy ⟨⟨tv, x2, rfl, hv⟩, s2⟩
            obtain ⟨u, hu, hy2⟩ := All2.get hT.2 hy
            tm_at "rv"
            rename_i q nq
            refine ⟨⟨_, _, rfl, ?_⟩, s2.trans (sm_upd nq)⟩
            rw [fold_take hu]
            exact ⟨q, _, _, rfl, upd_same, hv.sm (sm_upd nq), hy2.sm ((s1.trans s2).trans (sm_upd nq))⟩
          · rintro σ H2 ⟨⟨tv, x2, rfl, hv⟩, s2⟩
            tm_at "rv"
            rw [hl2, List.take_length] at hv
            exact k _ _ (s1.trans s2) hv
        · tm_at "rv"
          refine r_iT ?_
          tm_at "rv"
          refine r_slT hS fun p H1 s1 e1 => ?_
          rw [cut_tail] at e1
          refine r_aT (id e1) ?_
          refine for_tup (K := K) (a := p) (xs := xs) (fun i σ H' => (∃ tv x2, σ = [some (.ref a), some tv, x2] ∧ TmAt H' ((ts.take i).foldl (fun a b => Trm.op .plus a b) t) tv) ∧ Sm H1 H') ⟨⟨_, _, rfl, hT.1.sm s1⟩, Sm.refl _⟩ (fun i σ H' _ h => h.2.seqT (id e1)) ?_ ?_
          · rintro i y σ H2 hy ⟨⟨tv, x2, rfl, hv⟩, s2⟩
            obtain ⟨u, hu, hy2⟩ := All2.get hT.2 hy
            tm_at "rv"
            rename_i q nq
            refine ⟨⟨_, _, rfl, ?_⟩, s2.trans (sm_upd nq)⟩
            rw [fold_take hu]
            exact ⟨q, _, _, rfl, upd_same, hv.sm (sm_upd nq), hy2.sm ((s1.trans s2).trans (sm_upd nq))⟩
          · rintro σ H2 ⟨⟨tv, x2, rfl, hv⟩, s2⟩
            tm_at "rv"
            rw [hl2, List.take_length] at hv
            exact k _ _ (s1.trans s2) hv

/-! a Saying made of a good word -/
def sp_Saying_init (C : Addr) : Sp := fun vs H Q _ => ∃ (p dx : Addr) (w : Str) (x y : V), vs = [.ref p, .str w, x, y] ∧ H p = some (.ins C dx []) ∧ (w = Str.ofString "same" ∨ w = Str.ofString "under") ∧
  ∀ H', Chg p H H' → H' p = some (.ins C dx [("word", .str w), ("left", x), ("right", y)]) → Q .non H'
theorem marks_of (T : Txt K mg w) {z : Str} (h : z = Str.ofString "same" ∨ z = Str.ofString "under") : ∃ u, PySem.W.nsIn K T.w_MARKS z = some (some u) := by
  rcases h with rfl | rfl
  · exact ⟨_, T.wf_MARKS_0⟩
  · exact ⟨_, T.wf_MARKS_1⟩
theorem ok_Saying_init (T : Txt K mg w) : FnOk P w K mg base CX0 1 T.f_Saying_init T.d_Saying_init ["self", "word", "left", "right"] (sp_Saying_init T.C_Saying) := by
  refine T.F_Saying_init.ok sc_Saying_init (fun vs H Q E h => ?_) (fun cdv A outer s H vs Q E hr h => ?_)
  · obtain ⟨p, dx, w, x, y, rfl, _⟩ := h
    rfl
  · obtain ⟨p, dx, w, x, y, rfl, hp, hw, k⟩ := h
    refine ⟨_, (pss_cons (ps_if (pt_cmpR (op_notIn_kd T.wk_MARKS) (pv 1) (pe_glob (v := .ref T.w_MARKS) (by rfl) T.g_MARKS rfl) (by rfl))
      (pss_one ps_never) pss_nil)
      (pss_cons (ps_fld (pv 0) (pv 1) rfl)
      (pss_cons (ps_fld (pv 0) (pv 2) rfl)
      (pss_one (ps_fld (pv 0) (pv 3) rfl))))), ?_⟩
    obtain ⟨u, hu⟩ := marks_of T hw
    tm_at "rv"
    refine ⟨_, _, rfl, rfl, hu, ?_⟩
    tm_at "rv"
    refine r_setO hp T.cl_Saying T.n_Saying_word (by show 0 < 1000; decide) ?_
    tm_at "rv"
    refine r_setO upd_same T.cl_Saying T.n_Saying_left (by show 1 < 1000; decide) ?_
    tm_at "rv"
    refine r_setO upd_same T.cl_Saying T.n_Saying_right (by show 2 < 1000; decide) ?_
    tm_at "rv"
    rw [put_say]
    exact k _ ((chg_upd.trans chg_upd).trans chg_upd) upd_same
/-- the making, for a caller -/
theorem say_use {C p dx : Addr} {H : Hp} {R : Hp → Prop} {E : XK} {z : Str} {l r : Trm} {x y : V} (np : H p = none) (nd : H dx = none) (hz : z = Str.ofString "same" ∨ z = Str.ofString "under") (hl : TmAt H l x) (hr : TmAt H r y)
    (k : ∀ H', Sm H H' → SayAt C H' p z l r → R H') : sp_Saying_init C [.ref p, .str z, x, y] (upd (upd H dx (.own p)) p (.ins C dx [])) (fun v H2 => v = .non ∧ R H2) E := by
  refine ⟨p, dx, z, x, y, rfl, upd_same, hz, fun H' c e => ?_⟩
  have s := made_sm np nd c
  exact ⟨rfl, k H' s ⟨dx, x, y, e, hl.sm s, hr.sm s⟩⟩

/-! the drawer -/
def sp_take : Sp := fun vs H Q _ => ∃ (b : Addr) (wide : Int), vs = [.ref b, .int wide] ∧ BoxAt H b ∧ 0 < wide ∧ CDivW 0 wide ∧ ∀ d H', Chg b H H' → BoxAt H' b → 0 ≤ d → d < wide → Q (.int d) H'
theorem use_take {H : Hp} {Q : VK} {E : XK} {b : Addr} {wide : Int} (h : BoxAt H b) (h0 : 0 < wide) (h1 : CDivW 0 wide) (k : ∀ d H', Chg b H H' → BoxAt H' b → 0 ≤ d → d < wide → Q (.int d) H') : sp_take [.ref b, .int wide] H Q E := ⟨b, wide, rfl, h, h0, h1, k⟩
theorem ok_take (T : Txt K mg w) : FnOk P w K mg base CX0 1 T.f_take T.d_take ["box", "wide"] sp_take := by
  refine T.F_take.ok sc_take (fun vs H Q E h => ?_) (fun cdv A outer s H vs Q E hr h => ?_)
  · obtain ⟨b, wide, rfl, _⟩ := h
    rfl
  · obtain ⟨b, wide, rfl, ⟨c, z, hb⟩, hw, hd, k⟩ := h
    refine ⟨_, (pss_cons (ps_if (pt_cmpR op_gt (pe_ix (ix_k (K := K) rfl) (pv 0) pe_int (fun _ _ => rfl)) pe_int (nomark _))
      (pss_cons (ps_set (i := 2) sc_take.nd rfl (Or.inl rfl) (pe_op op_mod (pe_ix (ix_k (K := K) rfl) (pv 0) pe_int (fun _ _ => rfl)) (pv 1)))
      (pss_cons (ps_asg (pe_op op_fdivW (pe_ix (ix_k (K := K) rfl) (pv 0) pe_int (fun _ _ => rfl)) (pv 1)) (pg_sub (pv 0) pe_int set_list))
      (pss_one (ps_ret (pv 2))))) pss_nil)
      (pss_cons (ps_set (i := 3) sc_take.nd rfl (Or.inl rfl) (pe_op op_mod (pe_op (mul_k (K := K) rfl) (pe_ix (ix_k (K := K) rfl) (pv 0) pe_int (fun _ _ => rfl)) pe_int) pe_int))
      (pss_cons (ps_asg (pe_op (add_k (K := K) rfl) (pe_op op_mod (pe_op (add_k (K := K) rfl) (pe_op (mul_k (K := K) rfl) (pv 3) pe_int) pe_int) pe_int) pe_int) (pg_sub (pv 0) pe_int set_list))
      (pss_one (ps_ret (pe_op op_mod (pe_op op_fdivW (pe_op (add_k (K := K) rfl) (pe_op (mul_k (K := K) rfl) (pv 3) pe_int) (pe_ix (ix_k (K := K) rfl) (pv 0) pe_int (fun _ _ => rfl))) pe_int) (pv 1))))))), ?_⟩
    tm_at "rv"
    refine ite_d (fun e => ?_) (fun e => ?_)
    · tm_at "rv"
      exact k _ _ chg_upd ⟨_, _, upd_same⟩ (Int.emod_nonneg _ (by omega)) (Int.emod_lt_of_pos _ hw)
    · tm_at "rv"
      exact k _ _ chg_upd ⟨_, _, upd_same⟩ (Int.emod_nonneg _ (by omega)) (Int.emod_lt_of_pos _ hw)

/-! the drawer made -/
def sp_box (K : PySem.W.Frag) : Sp := fun vs H Q _ => ∃ (a : Addr) (k : Int) (ns : List Int), vs = [.ref a, .int k] ∧ SqL K H a (ns.map V.int) ∧ 0 ≤ k ∧ ∀ b H', Sm H H' → H b = none → BoxAt H' b → Q (.ref b) H'
theorem use_box {H : Hp} {Q : VK} {E : XK} {a : Addr} {i : Int} {ns : List Int} (h : SqL K H a (ns.map V.int)) (h0 : 0 ≤ i) (k : ∀ b H', Sm H H' → H b = none → BoxAt H' b → Q (.ref b) H') : sp_box K [.ref a, .int i] H Q E := ⟨a, i, ns, rfl, h, h0, k⟩
theorem ok_box (T : Txt K mg w) : FnOk P w K mg base CX0 1 T.f_box T.d_box ["script", "k"] (sp_box K) := by
  refine T.F_box.ok sc_box (fun vs H Q E h => ?_) (fun cdv A outer s H vs Q E hr h => ?_)
  · obtain ⟨a, k, ns, rfl, _⟩ := h
    rfl
  · obtain ⟨a, k, ns, rfl, hS, h0, q⟩ := h
    have item : ∀ i : Int, 0 ≤ i → i < ((ns.map V.int).length : Int) → ∃ n, atI (ns.map V.int) i = some (V.int n) := fun i a b => by
      obtain ⟨v, e, m⟩ := atI_mem a b
      obtain ⟨n, _, rfl⟩ := List.mem_map.mp m
      exact ⟨n, e⟩
    refine ⟨_, (pss_cons (ps_set (i := 2) sc_box.nd rfl (Or.inl rfl) (pe_op (add_k (K := K) rfl) (pe_op (mul_k (K := K) rfl) pe_int (pv 1)) pe_int))
      (pss_cons (ps_if (pt_cmpR op_lt (pv 1) (pe_callB (len_k (K := K) rfl) (by rfl) T.z_len (by decide +kernel) (pa_cons (pv 0) pa_nil)) (nomark _))
      (pss_one (ps_set (i := 2) sc_box.nd rfl (Or.inl rfl) (pe_ix (ix_k (K := K) rfl) (pv 0) (pv 1) (fun _ _ => rfl)))) (pss_one (ps_if (pt_cmpR op_gt (pe_callB (len_k (K := K) rfl) (by rfl) T.z_len (by decide +kernel) (pa_cons (pv 0) pa_nil)) pe_int (nomark _))
      (pss_one (ps_set (i := 2) sc_box.nd rfl (Or.inl rfl) (pe_op (add_k (K := K) rfl) (pv 2) (pe_op (mul_k (K := K) rfl) (pe_op op_mod (pe_ix (ix_k (K := K) rfl) (pv 0) (pe_op op_mod (pv 1) (pe_callB (len_k (K := K) rfl) (by rfl) T.z_len (by decide +kernel) (pa_cons (pv 0) pa_nil))) (fun _ _ => rfl)) pe_int) pe_int)))) pss_nil)))
      (pss_cons (ps_set (i := 3) sc_box.nd rfl (Or.inl rfl) (pe_op (add_k (K := K) rfl) (pe_op op_mod (pe_op (add_k (K := K) rfl) (pe_op (mul_k (K := K) rfl) (pe_op op_mod (pv 2) pe_int) pe_int) (pe_op (mul_k (K := K) rfl) pe_int (pv 1))) pe_int) pe_int))
      (pss_one (ps_ret (pe_lst (pa_cons (pe_ix (ix_k (K := K) rfl) (pe_lst (pa_cons pe_int (pa_cons (pv 2) pa_nil))) (pe_callTy cl_int (by rfl) T.z_int (by decide +kernel) (pa_cons (pe_cmpR op_ge (pv 2) (pe_op op_pow pe_int pe_int) (nomark _)) pa_nil)) (fun _ _ => rfl)) (pa_cons (pv 3) pa_nil)))))))), ?_⟩
    tm_at "rv"
    have hlen : ((ns.map V.int).length : Int) = (ns.length : Int) := by rw [List.length_map]
    refine ite_d (fun e1 => ?_) (fun e1 => ?_)
    · tm_at "rv"
      obtain ⟨n, en⟩ := item k h0 e1
      refine r_ixL (by tm_at "mv") en ?_
      tm_at "rv"
      refine r_ixL (by tm_at "mv") ix2 ?_
      tm_at "rv"
      exact q _ _ (by tm_at "sm") (by tm_at "fr") ⟨_, _, upd_same⟩
    · tm_at "rv"
      refine ite_d (fun e2 => ?_) (fun e2 => ?_)
      · tm_at "rv"
        obtain ⟨n, en⟩ := item (k % ((ns.map V.int).length : Int)) (Int.emod_nonneg _ (by omega)) (Int.emod_lt_of_pos _ e2)
        refine r_ixL (by tm_at "mv") en ?_
        tm_at "rv"
        refine r_ixL (by tm_at "mv") ix2 ?_
        tm_at "rv"
        exact q _ _ (by tm_at "sm") (by tm_at "fr") ⟨_, _, upd_same⟩
      · tm_at "rv"
        refine r_ixL (by tm_at "mv") ix2 ?_
        tm_at "rv"
        exact q _ _ (by tm_at "sm") (by tm_at "fr") ⟨_, _, upd_same⟩

/-! names of a pool -/
def NamesL (zs : List Str) : Prop := ∀ z ∈ zs, ∃ l, z = SX.S l ∧ Low l ∧ 1 ≤ l.length ∧ l.length ≤ 10
def sp_pool : Sp := fun vs H Q _ => ∃ (b : Addr) (many : Int), vs = [.ref b, .int many] ∧ BoxAt H b ∧ 0 ≤ many ∧ many ≤ 100 ∧ ∀ l H' zs, Chg b H H' → BoxAt H' b → H l = none → H' l = some (.lst (zs.map V.str)) → (zs.length : Int) = many → NamesL zs → Q (.ref l) H'
theorem use_pool {H : Hp} {Q : VK} {E : XK} {b : Addr} {many : Int} (h : BoxAt H b) (h0 : 0 ≤ many) (h1 : many ≤ 100) (k : ∀ l H' zs, Chg b H H' → BoxAt H' b → H l = none → H' l = some (.lst (zs.map V.str)) → (zs.length : Int) = many → NamesL zs → Q (.ref l) H') : sp_pool [.ref b, .int many] H Q E := ⟨b, many, rfl, h, h0, h1, k⟩
theorem low36 : Low (Str.ofString "abcdefghijklmnopqrstuvwxyz0123456789").cps.toList := by
  intro c hc
  have h : ((Str.ofString "abcdefghijklmnopqrstuvwxyz0123456789").cps.toList.all fun c => decide (c < 128)) = true := by decide +kernel
  exact of_decide_eq_true (List.all_eq_true.mp h c hc)
theorem ok_pool (T : Txt K mg w) : FnOk P w K mg base CX0 2 T.f_pool T.d_pool ["box", "many"] sp_pool := by
  refine T.F_pool.ok sc_pool (fun vs H Q E h => ?_) (fun cdv A outer s H vs Q E hr h => ?_)
  · obtain ⟨b, many, rfl, _⟩ := h
    rfl
  · obtain ⟨b, many, rfl, hB, hm0, hm1, k⟩ := h
    refine ⟨_, (pss_cons (ps_set (i := 2) sc_pool.nd rfl (Or.inr rfl) pe_str)
      (pss_cons (ps_set (i := 3) sc_pool.nd rfl (Or.inl rfl) (pe_ix (ix_k (K := K) rfl) (pv 2) (pe_call (ok_take T) hr (by rfl) T.g_take T.F_take.kp T.b_take .nil pass0 (pa_cons (pv 0) (pa_cons pe_int pa_nil))) (fun _ _ => rfl)))
      (pss_cons (ps_set (i := 5) sc_pool.nd rfl (Or.inl rfl) (pe_bm PySem.F.plainAttrs_str PySem.F.slot_str_join PySem.F.type_str_join (join_k (K := K) rfl) pe_str (pa_cons (pe_lc (own := [("k", 4)]) rfl sc_pool.nd (pi_range1 (by rfl) T.z_range (pa_cons (pe_call (ok_take T) hr (by rfl) T.g_take T.F_take.kp T.b_take .nil pass0 (pa_cons (pv 0) (pa_cons pe_int pa_nil))) pa_nil)) (blkOk_by (N := ["box", "many", "signs", "head", "k", "stem", "first", "at", "found", "name"]) (sc := defScope s_pool) (own := [("k", 4)]) (by decide +kernel)) (fun _ _ _ _ _ => (pg_name (i := 4) sc_pool.nd rfl (Or.inl rfl))) (fun _ _ _ _ _ => pts_nil) (fun _ _ _ _ _ => (pe_ix (ix_k (K := K) rfl) (pv 2) (pe_call (ok_take T) hr (by rfl) T.g_take T.F_take.kp T.b_take .nil pass0 (pa_cons (pv 0) (pa_cons pe_int pa_nil))) (fun _ _ => rfl)))) pa_nil)))
      (pss_cons (ps_par (i := 6) (j := 7) rfl sc_pool.nd rfl rfl (by decide) rfl rfl (pa_cons (pe_call (ok_take T) hr (by rfl) T.g_take T.F_take.kp T.b_take .nil pass0 (pa_cons (pv 0) (pa_cons pe_int pa_nil))) (pa_cons (pe_call (ok_take T) hr (by rfl) T.g_take T.F_take.kp T.b_take .nil pass0 (pa_cons (pv 0) (pa_cons (pe_op (add_k (K := K) rfl) (pe_callB (len_k (K := K) rfl) (by rfl) T.z_len (by decide +kernel) (pa_cons (pv 5) pa_nil)) pe_int) pa_nil))) pa_nil)) (by rfl))
      (pss_cons (ps_set (i := 8) sc_pool.nd rfl (Or.inl rfl) (pe_lst pa_nil))
      (pss_cons (ps_for PassesOwn.never rfl (pi_range1 (by rfl) T.z_range (pa_cons (pv 1) pa_nil)) (pg_name (i := 4) sc_pool.nd rfl (Or.inl rfl))
      (pss_cons (ps_set (i := 9) sc_pool.nd rfl (Or.inl rfl) (pe_op (add_k (K := K) rfl) (pe_op (add_k (K := K) rfl) (pv 3) (pe_slice (sl_k (K := K) rfl) (pv 5) po_none (po_some (pv 7)))) (pe_ix (ix_k (K := K) rfl) (pv 2) (pe_op op_mod (pe_op (add_k (K := K) rfl) (pv 6) (pe_op (mul_k (K := K) rfl) pe_int (pv 4))) pe_int) (fun _ _ => rfl))))
      (pss_one (ps_expr (pe_bm PySem.F.plainAttrs_list PySem.F.slot_list_append PySem.F.type_list_append mt_append (pv 8) (pa_cons (pe_op (add_k (K := K) rfl) (pe_op (add_k (K := K) rfl) (pv 9) (pe_slice (sl_k (K := K) rfl) (pv 5) (po_some (pv 7)) po_none)) (pe_op (mul_k (K := K) rfl) pe_str (pe_op op_mod (pv 4) pe_int))) pa_nil))))))
      (pss_one (ps_ret (pv 8))))))))), ?_⟩
    have h36 : (Str.ofString "abcdefghijklmnopqrstuvwxyz0123456789").length = 36 := by decide +kernel
    have hlow := low36
    generalize Str.ofString "abcdefghijklmnopqrstuvwxyz0123456789" = signs at h36 hlow ⊢
    tm_at "rv"
    refine use_take (by tm_at "mv") (by decide) (cdiv_s (by decide) (by decide)) fun d H1 c1 b1 l1 u1 => ?_
    refine r_ixSn (n := 36) h36 (by decide) l1 (by omega) fun f hf => ?_
    have lf : Low [f] := Low.one (hlow f (List.mem_of_getElem? hf))
    tm_at "rv"
    refine use_take (by tm_at "mv") (by decide) (cdiv_s (by decide) (by decide)) fun m H2 c2 b2 l2 u2 => ?_
    tm_at "rv"
    intro D nD
    refine lc_range (lo := 0) (n := m.toNat) (fun i H' => ∃ cs : List Nat, H' D = some (.lst (cs.map fun c => V.str ⟨#[c]⟩)) ∧ cs.length = i ∧ Low cs ∧ Chg b H2 H' ∧ BoxAt H' b) ⟨[], upd_same, rfl, fun c hc => (by cases hc), (sm_upd nD).chg, b2.sm (sm_upd nD)⟩ ?_ ?_
    · rintro i Hi hi ⟨cs, hD, hc, hlo, ci, bi⟩
      tm_at "rv"
      refine use_take (by tm_at "mv") (by decide) (cdiv_s (by decide) (by decide)) fun d4 H4 c4 b4 l4 u4 => ?_
      tm_at "rv"
      refine r_ixSn (n := 36) h36 (by decide) l4 (by omega) fun s4 hs4 => ?_
      tm_at "rv"
      have hne : D ≠ b := ne_fr' b2 nD
      refine r_acc (c4.to _ _ hne hD) (small1000 (by rw [List.length_map]; omega)) ⟨cs ++ [s4], ?_, ?_, hlo.app (Low.one (hlow s4 (List.mem_of_getElem? hs4))), ?_, ?_⟩
      · rw [upd_same, List.map_append]
        rfl
      · rw [List.length_append, hc]
        rfl
      · tm_at "ch"
      · obtain ⟨x, y, e⟩ := b4
        exact ⟨x, y, by rw [upd_ne hne.symm]; exact e⟩
    · rintro Hi ⟨cs, hD, hc, hlo, ci, bi⟩
      tm_at "rv"
      refine r_join1 hD (by omega) ?_
      have hj : (SX.S cs).length = cs.length := SX.S_len cs
      tm_at "rv"
      refine use_take bi (by decide) (cdiv_s (by decide) (by decide)) fun tn H3 c3 b3 l3 u3 => ?_
      tm_at "rv"
      refine r_lenS (len_le (by omega)) ?_
      tm_at "rv"
      refine use_take b3 (by omega) (cdiv_s (by omega) (by omega)) fun at' H4 c4 b4 l4 u4 => ?_
      tm_at "rv"
      rename_i S nS4
      have s5 : Sm H4 (upd H4 S (.lst [])) := sm_upd nS4
      have eS := upd_same (H := H4) (a := S) (o := .lst [])
      generalize upd H4 S (.lst []) = H5 at s5 eS ⊢
      have hne : S ≠ b := ne_fr' b4 nS4
      refine for_range (lo := 0) (n := many.toNat) (fun i σ H' => (∃ x4 x9, σ = [some (.ref b), some (.int many), some (.str signs), some (.str ⟨#[f]⟩), x4, some (.str (SX.S cs)), some (.int tn), some (.int at'), some (.ref S), x9]) ∧ ∃ zs : List Str, H' S = some (.lst (zs.map V.str)) ∧ zs.length = i ∧ NamesL zs ∧ Chg b H4 H' ∧ BoxAt H' b) ⟨⟨_, _, rfl⟩, [], eS, rfl, fun z hz => (by cases hz), s5.chg, b4.sm s5⟩ ?_ ?_
      · rintro i σ Hj hi ⟨⟨x4, x9, rfl⟩, zs, hS, hzl, hns, cj, bj⟩
        tm_at "rv"
        have lc : ∀ n, (cs.take n).length ≤ 8 := fun n => by rw [List.length_take]; omega
        have ld : ∀ n, (cs.drop n).length ≤ 8 := fun n => by rw [List.length_drop]; omega
        have lt : (cs.take at'.toNat).length + (cs.drop at'.toNat).length = cs.length := by rw [List.length_take, List.length_drop]; omega
        refine r_slS (len_le (by omega)) ?_
        rw [cutS_to cs l4]
        refine r_addS (len_le (by
          have := lc at'.toNat
          have h9 := SX.S_len (cs.take at'.toNat)
          show 1 + (SX.S (cs.take at'.toNat)).length ≤ _
          omega)) ?_
        rw [show (⟨#[f]⟩ : Str) = SX.S [f] from rfl, S_app]
        tm_at "rv"
        refine r_ixSn (n := 36) h36 (by decide) (Int.emod_nonneg _ (by decide)) (Int.emod_lt_of_pos _ (by decide)) fun g hg => ?_
        have lg : Low [g] := Low.one (hlow g (List.mem_of_getElem? hg))
        have h1 : ([f] ++ cs.take at'.toNat).length ≤ 9 := by
          rw [List.length_append]
          have := lc at'.toNat
          show 1 + _ ≤ _
          omega
        refine r_addS (len_le (by
          have h9 := SX.S_len ([f] ++ cs.take at'.toNat)
          show (SX.S ([f] ++ cs.take at'.toNat)).length + 1 ≤ _
          omega)) ?_
        rw [show (⟨#[g]⟩ : Str) = SX.S [g] from rfl, S_app]
        tm_at "rv"
        refine r_slS (len_le (by omega)) ?_
        rw [cutS_from cs l4]
        have h2 : ([f] ++ cs.take at'.toNat ++ [g]).length = (cs.take at'.toNat).length + 2 := by
          rw [List.length_append, List.length_append]
          show 1 + _ + 1 = _
          omega
        refine r_addS (len_le (by
          rw [SX.S_len, SX.S_len]
          have := ld at'.toNat
          omega)) ?_
        rw [S_app]
        tm_at "rv"
        have hm0 : 0 ≤ (0 + (i : Int)) % 2 := Int.emod_nonneg _ (by decide)
        have hm1 : (0 + (i : Int)) % 2 < 2 := Int.emod_lt_of_pos _ (by decide)
        obtain ⟨zn, hzn⟩ := Int.eq_ofNat_of_zero_le hm0
        rw [hzn]
        have hz1 : zn ≤ 1 := by omega
        refine r_mulStr (n := zn) rfl (by
          show 1 * zn ≤ 16777216
          omega) (by omega) ?_
        rw [show (Str.ofString "0") = SX.S [48] by decide +kernel, rep_one]
        have h3 : ([f] ++ cs.take at'.toNat ++ [g] ++ cs.drop at'.toNat).length = cs.length + 2 := by
          rw [List.length_append, h2]
          omega
        have h4 : (List.replicate zn 48).length = zn := List.length_replicate
        refine r_addS (len_le (by
          rw [SX.S_len, SX.S_len]
          omega)) ?_
        rw [S_app]
        tm_at "rv"
        refine r_app hS (len_lt (by rw [List.length_map]; omega)) ?_
        tm_at "rv"
        refine ⟨⟨_, _, rfl⟩, zs ++ [SX.S ([f] ++ cs.take at'.toNat ++ [g] ++ cs.drop at'.toNat ++ List.replicate zn 48)], ?_, ?_, ?_, ?_, ?_⟩
        · rw [upd_same, List.map_append]
          rfl
        · rw [List.length_append, hzl]
          rfl
        · intro z hz
          rcases List.mem_append.mp hz with hz | hz
          · exact hns z hz
          · refine ⟨_, List.mem_singleton.mp hz, (((lf.app (hlo.take _)).app lg).app (hlo.drop _)).app (fun c hc => by rw [List.eq_of_mem_replicate hc]; decide), ?_, ?_⟩
            · rw [List.length_append]
              omega
            · rw [List.length_append, h3, h4]
              omega
        · tm_at "ch"
        · obtain ⟨x, y, e⟩ := bj
          exact ⟨x, y, by rw [upd_ne hne.symm]; exact e⟩
      · rintro σ Hj ⟨⟨x4, x9, rfl⟩, zs, hS, hzl, hns, cj, bj⟩
        tm_at "rv"
        exact k S Hj zs (by tm_at "ch") bj (chg_fr nS4 b4 (by tm_at "ch")) hS (by omega) hns
/-! terms of such names -/
theorem NamesL.okS {zs : List Str} (h : NamesL zs) {z : Str} (hz : z ∈ zs) : (Trm.name z).okS := by
  obtain ⟨l, rfl, h1, _, h2⟩ := h z hz
  exact ⟨l, rfl, h1, by omega⟩
def sp_term (n : Nat) : Sp := fun vs H Q _ => ∃ (b l : Addr) (zs : List Str) (down : Int), vs = [.ref b, .ref l, .int down] ∧ BoxAt H b ∧ H l = some (.lst (zs.map V.str)) ∧ (1 ≤ zs.length ∧ zs.length ≤ 100) ∧ NamesL zs ∧ 0 ≤ down ∧ down < (n : Int) ∧
  ∀ v H' t, Chg b H H' → BoxAt H' b → TmAt H' t v → t.okS → (t.deep : Int) ≤ down → Q v H'
theorem use_term {H : Hp} {Q : VK} {E : XK} {b l : Addr} {zs : List Str} {down : Int} {n : Nat} (h : BoxAt H b) (hL : H l = some (.lst (zs.map V.str))) (hz : 1 ≤ zs.length ∧ zs.length ≤ 100) (hn : NamesL zs) (d0 : 0 ≤ down) (d1 : down < (n : Int))
    (k : ∀ v H' t, Chg b H H' → BoxAt H' b → TmAt H' t v → t.okS → (t.deep : Int) ≤ down → Q v H') : sp_term n [.ref b, .ref l, .int down] H Q E := ⟨b, l, zs, down, rfl, h, hL, hz, hn, d0, d1, k⟩
theorem ok_term (T : Txt K mg w) : ∀ n : Nat, FnOk P w K mg base CX0 (2 + n) T.f_term T.d_term ["box", "pool", "down"] (sp_term n)
  | 0 => by
    refine T.F_term.ok sc_term (fun vs H Q E h => ?_) (fun cdv A outer s H vs Q E hr h => ?_)
    · obtain ⟨b, l, zs, down, rfl, _⟩ := h
      rfl
    · obtain ⟨b, l, zs, down, _, _, _, _, _, d0, d1, _⟩ := h
      exact absurd d1 (by omega)
  | n + 1 => by
    have ih := ok_term T n
    refine T.F_term.ok sc_term (fun vs H Q E h => ?_) (fun cdv A outer s H vs Q E hr h => ?_)
    · obtain ⟨b, l, zs, down, rfl, _⟩ := h
      rfl
    · obtain ⟨b, l, zs, down, rfl, hB, hL, hz, hn, d0, d1, k⟩ := h
      refine ⟨_, (pss_cons (ps_set (i := 3) sc_term.nd rfl (Or.inl rfl) (pe_call (ok_take T) (hr.mono (Nat.le_trans (by decide) (Nat.le_add_right 2 n))) (by rfl) T.g_take T.F_take.kp T.b_take .nil pass0 (pa_cons (pv 0) (pa_cons pe_int pa_nil))))
      (pss_cons (ps_if (PW.pt (pw_or (pt_cmpR op_lt (pv 2) pe_int (nomark _)) (pw_or1 (pt_cmpR op_lt (pv 3) pe_int (nomark _)))))
      (pss_one (ps_ret (pe_tup (pa_cons pe_str (pa_cons (pe_call (ok_take T) (hr.mono (Nat.le_trans (by decide) (Nat.le_add_right 2 n))) (by rfl) T.g_take T.F_take.kp T.b_take .nil pass0 (pa_cons (pv 0) (pa_cons (pe_ix (ix_k (K := K) rfl) (pe_lst (pa_cons pe_int (pa_cons pe_int (pa_cons pe_int pa_nil)))) (pe_call (ok_take T) (hr.mono (Nat.le_trans (by decide) (Nat.le_add_right 2 n))) (by rfl) T.g_take T.F_take.kp T.b_take .nil pass0 (pa_cons (pv 0) (pa_cons pe_int pa_nil))) (fun _ _ => rfl)) pa_nil))) pa_nil))))) pss_nil)
      (pss_cons (ps_if (pt_cmpR op_lt (pv 3) pe_int (nomark _))
      (pss_one (ps_ret (pe_tup (pa_cons pe_str (pa_cons (pe_ix (ix_k (K := K) rfl) (pv 1) (pe_call (ok_take T) (hr.mono (Nat.le_trans (by decide) (Nat.le_add_right 2 n))) (by rfl) T.g_take T.F_take.kp T.b_take .nil pass0 (pa_cons (pv 0) (pa_cons (pe_callB (len_k (K := K) rfl) (by rfl) T.z_len (by decide +kernel) (pa_cons (pv 1) pa_nil)) pa_nil))) (fun _ _ => rfl)) pa_nil))))) pss_nil)
      (pss_cons (ps_set (i := 4) sc_term.nd rfl (Or.inl rfl) (pe_call (ih) hr (by rfl) T.g_term T.F_term.kp T.b_term .nil pass0 (pa_cons (pv 0) (pa_cons (pv 1) (pa_cons (pe_op op_sub (pv 2) pe_int) pa_nil)))))
      (pss_cons (ps_if (pt_cmpR (eq_k (K := K) rfl hr.units) (pv 3) pe_int (nomark _))
      (pss_one (ps_ret (pe_tup (pa_cons pe_str (pa_cons (pv 4) (pa_cons (pe_tup (pa_cons pe_str (pa_cons (pe_call (ok_take T) (hr.mono (Nat.le_trans (by decide) (Nat.le_add_right 2 n))) (by rfl) T.g_take T.F_take.kp T.b_take .nil pass0 (pa_cons (pv 0) (pa_cons pe_int pa_nil))) pa_nil))) pa_nil)))))) pss_nil)
      (pss_one (ps_ret (pe_tup (pa_cons (pe_ix (ix_k (K := K) rfl) (pe_lst (pa_cons pe_str (pa_cons pe_str (pa_cons pe_str pa_nil)))) (pe_op op_sub (pv 3) pe_int) (fun _ _ => rfl)) (pa_cons (pv 4) (pa_cons (pe_call (ih) hr (by rfl) T.g_term T.F_term.kp T.b_term .nil pass0 (pa_cons (pv 0) (pa_cons (pv 1) (pa_cons (pe_op op_sub (pv 2) pe_int) pa_nil)))) pa_nil))))))))))), ?_⟩
      have hlb := strs_ne hB hL
      have hzl : (zs.map V.str).length = zs.length := List.length_map _
      tm_at "rv"
      refine use_take (by tm_at "mv") (by decide) (cdiv_s (by decide) (by decide)) fun form H1 c1 b1 l1 u1 => ?_
      have hL1 := c1.to _ _ hlb hL
      have hc : (down < 1 ∨ (¬ down < 1 ∧ form < 1)) ∨ (¬ down < 1 ∧ ¬ form < 1) := by omega
      rcases hc with hc | ⟨g1, g2⟩
      · rcases hc with g1 | ⟨g1, g2⟩
        all_goals
          tm_at "rv"
          rename_i p2 n2
          refine use_take (by tm_at "mv") (by decide) (cdiv_s (by decide) (by decide)) fun d2 H2 c2 b2 l2 u2 => ?_
          refine r_ixLi (ns := [3, 10, 1000]) (by tm_at "mv") (by rfl) l2 u2 fun x hx => ?_
          have hx : 1 ≤ x ∧ x ≤ 1000 := by
            have z : ∀ n ∈ ([3, 10, 1000] : List Int), 1 ≤ n ∧ n ≤ 1000 := by decide
            exact z x hx
          tm_at "rv"
          refine use_take b2 (by omega) (cdiv_s (by omega) (by omega)) fun N H3 c3 b3 l3 u3 => ?_
          tm_at "rv"
          rename_i p np
          exact k _ _ (.num N) (by tm_at "ch") (b3.sm (sm_upd np)) ⟨p, rfl, upd_same⟩ (by show N.natAbs < 18446744073709551616; omega) d0
      · tm_at "rv"
        refine ite_d (fun g3 => ?_) (fun g3 => ?_)
        · tm_at "rv"
          refine use_take b1 (by omega) (cdiv_s (by omega) (by omega)) fun d3 H3 c3 b3 l3 u3 => ?_
          have hL3 := c3.to _ _ hlb hL1
          refine r_ixLz (ns := zs) (SqL.of hL3) rfl l3 (by omega) fun z hzm => ?_
          tm_at "rv"
          rename_i p np
          exact k _ _ (.name z) (by tm_at "ch") (b3.sm (sm_upd np)) ⟨p, rfl, upd_same⟩ (hn.okS hzm) d0
        · tm_at "rv"
          refine use_term (n := n) b1 hL1 hz hn (by omega) (by omega) fun va H3 ta c3 b3 hta oka da => ?_
          have hL3 := c3.to _ _ hlb hL1
          tm_at "rv"
          refine ite_d (fun g4 => ?_) (fun g4 => ?_)
          · tm_at "rv"
            refine use_take b3 (by decide) (cdiv_s (by decide) (by decide)) fun N H4 c4 b4 l4 u4 => ?_
            tm_at "rv"
            rename_i p np q nq
            have s5 := (sm_upd (o := .tup [V.str (Str.ofString "num"), V.int N]) np).trans (sm_upd (o := .tup [V.str (Str.ofString "power"), va, V.ref p]) nq)
            refine k _ _ (.op .power ta (.num N)) (by tm_at "ch") (b4.sm s5) ⟨q, va, .ref p, rfl, upd_same, (hta.tk (Chg.tk b3 c4)).sm s5, ⟨p, rfl, (sm_upd nq).to _ _ upd_same⟩⟩ ⟨oka, by show N.natAbs < 18446744073709551616; omega⟩ ?_
            show ((1 + max ta.deep 0 : Nat) : Int) ≤ down
            omega
          · tm_at "rv"
            rename_i p np
            refine r_ixLz (ns := [Str.ofString "plus", Str.ofString "times", Str.ofString "plus"]) (by tm_at "mv") (by rfl) (by omega) (by simp only [List.length_cons, List.length_nil]; omega) fun word hw => ?_
            obtain ⟨o, rfl⟩ : ∃ o : Op3, word = o.word := by
              rcases List.mem_cons.mp hw with rfl | hw
              · exact ⟨.plus, rfl⟩
              rcases List.mem_cons.mp hw with rfl | hw
              · exact ⟨.times, rfl⟩
              · exact ⟨.plus, List.mem_singleton.mp hw⟩
            tm_at "rv"
            have sp := sm_upd (o := .lst [V.str (Str.ofString "plus"), V.str (Str.ofString "times"), V.str (Str.ofString "plus")]) np
            refine use_term (n := n) (b3.sm sp) (sp.to _ _ hL3) hz hn (by omega) (by omega) fun vb H5 tb c5 b5 htb okb db => ?_
            tm_at "rv"
            rename_i q nq
            have c6 : Chg b H3 (upd H5 q (.tup [V.str o.word, va, vb])) := by tm_at "ch"
            refine k _ _ (.op o ta tb) (by tm_at "ch") (b5.sm (sm_upd nq)) ⟨q, va, vb, rfl, upd_same, hta.tk (Chg.tk b3 c6), htb.sm (sm_upd nq)⟩ ⟨oka, okb⟩ ?_
            show ((1 + max ta.deep tb.deep : Nat) : Int) ≤ down
            omega

/-! terms and sayings made -/
def sp_p_plus : Sp := fun vs H Q _ => ∃ (x y : V) (s t : Trm), vs = [x, y] ∧ TmAt H s x ∧ TmAt H t y ∧ ∀ v H', Sm H H' → TmAt H' (.op .plus s t) v → Q v H'
theorem use_plus {H : Hp} {Q : VK} {E : XK} {x y : V} {s t : Trm} (h : TmAt H s x) (g : TmAt H t y) (k : ∀ v H', Sm H H' → TmAt H' (.op .plus s t) v → Q v H') : sp_p_plus [x, y] H Q E := ⟨x, y, s, t, rfl, h, g, k⟩
theorem ok_p_plus (T : Txt K mg w) : FnOk P w K mg base CX0 1 T.f_p_plus T.d_p_plus ["left", "right"] sp_p_plus := by
  refine T.F_p_plus.ok sc_p_plus (fun vs H Q E h => ?_) (fun cdv A outer s' H vs Q E hr h => ?_)
  · obtain ⟨x, y, s, t, rfl, _⟩ := h
    rfl
  · obtain ⟨x, y, s, t, rfl, hs, ht, k⟩ := h
    refine ⟨_, (pss_one (ps_ret (pe_tup (pa_cons pe_str (pa_cons (pv 0) (pa_cons (pv 1) pa_nil)))))), ?_⟩
    tm_at "rv"
    rename_i p np
    exact k _ _ (sm_upd np) ⟨p, x, y, rfl, upd_same, hs.sm (sm_upd np), ht.sm (sm_upd np)⟩
def sp_p_times : Sp := fun vs H Q _ => ∃ (x y : V) (s t : Trm), vs = [x, y] ∧ TmAt H s x ∧ TmAt H t y ∧ ∀ v H', Sm H H' → TmAt H' (.op .times s t) v → Q v H'
theorem use_times {H : Hp} {Q : VK} {E : XK} {x y : V} {s t : Trm} (h : TmAt H s x) (g : TmAt H t y) (k : ∀ v H', Sm H H' → TmAt H' (.op .times s t) v → Q v H') : sp_p_times [x, y] H Q E := ⟨x, y, s, t, rfl, h, g, k⟩
theorem ok_p_times (T : Txt K mg w) : FnOk P w K mg base CX0 1 T.f_p_times T.d_p_times ["left", "right"] sp_p_times := by
  refine T.F_p_times.ok sc_p_times (fun vs H Q E h => ?_) (fun cdv A outer s' H vs Q E hr h => ?_)
  · obtain ⟨x, y, s, t, rfl, _⟩ := h
    rfl
  · obtain ⟨x, y, s, t, rfl, hs, ht, k⟩ := h
    refine ⟨_, (pss_one (ps_ret (pe_tup (pa_cons pe_str (pa_cons (pv 0) (pa_cons (pv 1) pa_nil)))))), ?_⟩
    tm_at "rv"
    rename_i p np
    exact k _ _ (sm_upd np) ⟨p, x, y, rfl, upd_same, hs.sm (sm_upd np), ht.sm (sm_upd np)⟩
def sp_p_same (C : Addr) : Sp := fun vs H Q _ => ∃ (x y : V) (s t : Trm), vs = [x, y] ∧ TmAt H s x ∧ TmAt H t y ∧ ∀ p H', Sm H H' → SayAt C H' p (Str.ofString "same") s t → Q (.ref p) H'
theorem use_same {C : Addr} {H : Hp} {Q : VK} {E : XK} {x y : V} {s t : Trm} (h : TmAt H s x) (g : TmAt H t y) (k : ∀ p H', Sm H H' → SayAt C H' p (Str.ofString "same") s t → Q (.ref p) H') : sp_p_same C [x, y] H Q E := ⟨x, y, s, t, rfl, h, g, k⟩
theorem ok_p_same (T : Txt K mg w) : FnOk P w K mg base CX0 3 T.f_p_same T.d_p_same ["left", "right"] (sp_p_same T.C_Saying) := by
  refine T.F_p_same.ok sc_p_same (fun vs H Q E h => ?_) (fun cdv A outer s' H vs Q E hr h => ?_)
  · obtain ⟨x, y, s, t, rfl, _⟩ := h
    rfl
  · obtain ⟨x, y, s, t, rfl, hs, ht, k⟩ := h
    refine ⟨_, (pss_one (ps_ret (pe_make T.mk_Saying (ok_Saying_init T) (hr.mono (by decide)) (by rfl) T.g_Saying T.b_Saying_init .nil pass0 (pa_cons pe_str (pa_cons (pv 0) (pa_cons (pv 1) pa_nil)))))), ?_⟩
    tm_at "rv"
    intro p dxp np ndp _
    refine say_use np ndp (.inl rfl) hs ht fun H1 s1 hS => ?_
    tm_at "rv"
    exact k p _ s1 hS

def sp_law (K : PySem.W.Frag) : Sp := fun vs H Q _ => ∃ (a : Addr) (ns : List Int), vs = [.ref a] ∧ SqL K H a (ns.map V.int) ∧ ns.length ≤ 63 ∧ ∀ H', Q (.bl true) H'
theorem sp_law_of {K : PySem.W.Frag} {H : Hp} {a : Addr} {ns : List Int} (h1 : ns.length ≤ 63) (h : SqL K H a (ns.map V.int)) : sp_law K [.ref a] H (fun v _ => v = .bl true) fun _ _ _ => False := ⟨a, ns, rfl, h, h1, fun _ => rfl⟩

/-! many made one -/
abbrev sqT (p : Trm × Trm) : Trm := .op .plus (.op .times p.1 p.1) (.op .times p.2 p.2)
abbrev prT (p : Trm × Trm) : Trm := .op .times (.num 2) (.op .times p.1 p.2)
abbrev SaysAt (C : Addr) (H : Hp) : List V → List (Trm × Trm) → Prop := All2 fun v p => ∃ q, v = .ref q ∧ SayAt C H q (Str.ofString "same") p.1 p.2
theorem SaysAt.sm {C : Addr} {H H' : Hp} {xs : List V} {ps : List (Trm × Trm)} (e : Sm H H') (h : SaysAt C H xs ps) : SaysAt C H' xs ps := h.imp fun _ _ ⟨q, a, b⟩ => ⟨q, a, b.sm e⟩
def sp_p_num : Sp := fun vs H Q _ => ∃ i : Int, vs = [.int i] ∧ ∀ v H', Sm H H' → TmAt H' (.num i) v → Q v H'
theorem use_num {H : Hp} {Q : VK} {E : XK} {i : Int} (k : ∀ v H', Sm H H' → TmAt H' (.num i) v → Q v H') : sp_p_num [.int i] H Q E := ⟨i, rfl, k⟩
theorem ok_p_num (T : Txt K mg w) : FnOk P w K mg base CX0 1 T.f_p_num T.d_p_num ["number"] sp_p_num := by
  refine T.F_p_num.ok sc_p_num (fun vs H Q E h => ?_) (fun cdv A outer s' H vs Q E hr h => ?_)
  · obtain ⟨i, rfl, _⟩ := h
    rfl
  · obtain ⟨i, rfl, k⟩ := h
    refine ⟨_, (pss_one (ps_ret (pe_tup (pa_cons pe_str (pa_cons (pv 0) pa_nil))))), ?_⟩
    tm_at "rv"
    rename_i p np
    exact k _ _ (sm_upd np) ⟨p, rfl, upd_same⟩
/-! sayings of either word -/
abbrev Wd := Str × (Trm × Trm)
abbrev SaysW (C : Addr) (H : Hp) : List V → List Wd → Prop := All2 fun v p => ∃ q, v = .ref q ∧ SayAt C H q p.1 p.2.1 p.2.2
theorem SaysW.sm {C : Addr} {H H' : Hp} {xs : List V} {ps : List Wd} (e : Sm H H') (h : SaysW C H xs ps) : SaysW C H' xs ps := h.imp fun _ _ ⟨q, a, b⟩ => ⟨q, a, b.sm e⟩
def fstU : List Wd → Option Nat
  | [] => none
  | p :: r => if p.1 = Str.ofString "same" then (fstU r).map (· + 1) else some 0
theorem fstU_none : ∀ {ws : List Wd}, (∀ p ∈ ws, p.1 = Str.ofString "same") → fstU ws = none
  | [], _ => rfl
  | p :: r, h => by
    show (if p.1 = Str.ofString "same" then (fstU r).map (· + 1) else some 0) = none
    rw [if_pos (h p (by simp)), fstU_none fun q hq => h q (by simp [hq])]
    rfl
theorem fstU_same : ∀ {ws : List Wd}, fstU ws = none → ∀ p ∈ ws, p.1 = Str.ofString "same"
  | [], _, p, hp => by cases hp
  | p :: r, h, q, hq => by
    have h : (if p.1 = Str.ofString "same" then (fstU r).map (· + 1) else some 0) = none := h
    by_cases e : p.1 = Str.ofString "same"
    · rw [if_pos e] at h
      rcases List.mem_cons.mp hq with rfl | hq
      · exact e
      · exact fstU_same (by simpa using h) q hq
    · rw [if_neg e] at h
      cases h
theorem fstU_some : ∀ {ws : List Wd} {i : Nat} {p : Wd}, (∀ k q, k < i → ws[k]? = some q → q.1 = Str.ofString "same") → ws[i]? = some p → ¬ p.1 = Str.ofString "same" → fstU ws = some i
  | [], i, p, _, h, _ => by simp at h
  | p :: r, 0, q, _, h, n => by
    have e : p = q := Option.some.inj h
    subst e
    show (if p.1 = Str.ofString "same" then (fstU r).map (· + 1) else some 0) = some 0
    rw [if_neg n]
  | p :: r, i + 1, q, hk, h, n => by
    show (if p.1 = Str.ofString "same" then (fstU r).map (· + 1) else some 0) = some (i + 1)
    rw [if_pos (hk 0 p (by omega) rfl), fstU_some (ws := r) (i := i) (p := q) (fun k x hx e => hk (k + 1) x (by omega) (by simpa using e)) (by simpa using h) n]
    rfl
theorem SaysW.same {C : Addr} {H : Hp} : ∀ {xs : List V} {ws : List Wd}, fstU ws = none → SaysW C H xs ws → SaysAt C H xs (ws.map Prod.snd)
  | [], [], _, _ => trivial
  | x :: xs, p :: ws, h, g => by
    have hs := fstU_same h
    have h2 : fstU ws = none := fstU_none fun q hq => hs q (by simp [hq])
    obtain ⟨q, e, hq⟩ := g.1
    refine ⟨⟨q, e, ?_⟩, SaysW.same h2 g.2⟩
    rw [hs p (by simp)] at hq
    exact hq
theorem ok_NoOne_init (T : Txt K mg w) : FnOk P w K mg base CX0 1 T.f_NoOne_init T.d_NoOne_init ["self", "at"] (spInit1 T.C_NoOne "at") := by
  refine T.F_NoOne_init.ok sc_NoOne_init (fun vs H Q E h => ?_) (fun cdv A outer s H vs Q E hr h => ?_)
  · obtain ⟨a, v, rfl, _⟩ := h
    rfl
  · obtain ⟨a, v, rfl, ea, k⟩ := h
    refine ⟨_, (pss_one (ps_ost (pv 0) (pv 1))), ?_⟩
    refine r_ost ?_
    tm_at "rv"
    refine ⟨a, T.C_NoOne, rfl, T.ox_NoOne, T.no_NoOne_at, .inl ⟨ea, fun dx nd ne => ?_⟩⟩
    tm_at "rv"
    exact k dx nd ne
def sp_checkX (K : PySem.W.Frag) (C CN : Addr) : Sp := fun vs H Q E => ∃ (a : Addr) (xs : List V) (ws : List Wd), vs = [.ref a] ∧ (SqL K H a xs ∨ SqT K H a xs) ∧ SaysW C H xs ws ∧ ws.length ≤ 999 ∧
  (∀ i, fstU ws = some i → ∀ H' d, Sm H H' → H' d = none → E (.ref CN) (some d) (upd H' d (.xd [("at", .int (i : Nat))]))) ∧ (fstU ws = none → ∀ H', Sm H H' → Q .non H')
theorem use_checkX {C CN : Addr} {H : Hp} {Q : VK} {E : XK} {a : Addr} {xs : List V} {ws : List Wd} (h : SqL K H a xs ∨ SqT K H a xs) (g : SaysW C H xs ws) (l : ws.length ≤ 999)
    (kE : ∀ i, fstU ws = some i → ∀ H' d, Sm H H' → H' d = none → E (.ref CN) (some d) (upd H' d (.xd [("at", .int (i : Nat))]))) (kQ : fstU ws = none → ∀ H', Sm H H' → Q .non H') : sp_checkX K C CN [.ref a] H Q E := ⟨a, xs, ws, rfl, h, g, l, kE, kQ⟩
theorem ok_p_check_words (T : Txt K mg w) : FnOk P w K mg base (L2.CX P w) 3 T.f_p_check_words T.d_p_check_words ["sayings"] (sp_checkX K T.C_Saying T.C_NoOne) := by
  refine T.F_p_check_words.okX sc_p_check_words (fun vs H Q E h => ?_) (fun cdv A outer s' H vs Q E hr h => ?_)
  · obtain ⟨a, xs, ws, rfl, _⟩ := h
    rfl
  · obtain ⟨a, xs, ws, rfl, hS, hA, hl, kE, kQ⟩ := h
    refine ⟨_, (pss_one (ps_for (passes_of rfl) rfl (enum_k (K := K) rfl (by rfl) T.z_enumerate (pa_cons (pv 0) pa_nil)) (pg_tup rfl (pgs_cons (pg_name (i := 1) sc_p_check_words.nd rfl (Or.inl rfl)) (pgs_cons (pg_name (i := 2) sc_p_check_words.nd rfl (Or.inl rfl)) pgs_nil)))
      (pss_one (ps_if (pt_cmpR (ne_k (K := K) rfl hr.units) (fld_k (K := K) rfl (pv 2) rfl) pe_str (nomark _))
      (pss_one (ps_raise rfl (takes_of rfl rfl rfl rfl) (pmk_oex T.ox_NoOne T.xi_NoOne T.xt_NoOne (ok_NoOne_init T) (hr.mono (by decide)) T.b_NoOne_init .nil pass0 (by rfl) T.g_NoOne (pa_cons (pv 1) pa_nil)))) pss_nil)))), ?_⟩
    have hlen := hA.len
    have last : (∀ k q, k < xs.length → ws[k]? = some q → q.1 = Str.ofString "same") → fstU ws = none := fun h => fstU_none fun p hp => by
      obtain ⟨k, hk⟩ := List.getElem?_of_mem hp
      exact h k p (by rw [hlen]; exact (List.getElem?_eq_some_iff.mp hk).1) hk
    rcases hS with hS | hS
    · tm_at "rv"
      refine r_enumL ?_
      tm_at "rv"
      refine ⟨a, _, rfl, hS, ?_⟩
      refine for_it walk_enum (fun j σ H' => (∃ x1 x2, σ = [some (.ref a), x1, x2]) ∧ Sm H H' ∧ ∀ k q, k < j → ws[k]? = some q → q.1 = Str.ofString "same") ⟨⟨_, _, rfl⟩, Sm.refl _, fun k q hk _ => absurd hk (by omega)⟩ (fun j σ H' _ h => h.2.1.seq hS) ?_ ?_
      · rintro j x σ H1 H2 hj ⟨⟨x1, x2, rfl⟩, s1, hk⟩ ⟨tn, u, v, rfl, nt, rfl, hu, hv⟩
        have hu : u = .int (j : Nat) := (Option.some.inj hu).symm
        subst hu
        have hv : xs[j]? = some v := hv
        obtain ⟨p, hp, q, rfl, hq⟩ := All2.get hA hv
        have st := sm_upd (o := .tup [V.int (j : Nat), V.ref q]) nt
        have et := upd_same (H := H1) (a := tn) (o := .tup [V.int (j : Nat), V.ref q])
        generalize upd H1 tn (.tup [V.int (j : Nat), V.ref q]) = H3 at st et ⊢
        obtain ⟨dx, y1, y2, e1, _⟩ := hq.sm (s1.trans st)
        tm_at "rv"
        refine r_fldO e1 T.cl_Saying T.n_Saying_word (get_word _ _ _) ?_
        tm_at "rv"
        by_cases hw : p.1 = Str.ofString "same"
        · refine ite_o (not_o hw) ?_
          tm_at "rv"
          refine ⟨⟨_, _, rfl⟩, s1.trans st, fun k q hk2 e => ?_⟩
          rcases Nat.lt_succ_iff_lt_or_eq.mp hk2 with h | h
          · exact hk k q h e
          · subst h
            rw [hp] at e
            exact (Option.some.inj e) ▸ hw
        · refine ite_y (not_y hw) ?_
          refine r_mkO ?_
          tm_at "rv"
          refine ⟨by show 1 ≤ 1000; decide, fun b nb => ?_⟩
          exact mk_init1 nb fun d nd => kE j (fstU_some hk hp hw) _ d (s1.trans st) nd
      · rintro σ H1 ⟨⟨x1, x2, rfl⟩, s1, hk⟩
        tm_at "rv"
        exact kQ (last hk) _ s1
    · tm_at "rv"
      refine r_enumT ?_
      tm_at "rv"
      refine ⟨a, _, rfl, hS, ?_⟩
      refine for_it walk_enumT (fun j σ H' => (∃ x1 x2, σ = [some (.ref a), x1, x2]) ∧ Sm H H' ∧ ∀ k q, k < j → ws[k]? = some q → q.1 = Str.ofString "same") ⟨⟨_, _, rfl⟩, Sm.refl _, fun k q hk _ => absurd hk (by omega)⟩ (fun j σ H' _ h => h.2.1.seqT hS) ?_ ?_
      · rintro j x σ H1 H2 hj ⟨⟨x1, x2, rfl⟩, s1, hk⟩ ⟨tn, u, v, rfl, nt, rfl, hu, hv⟩
        have hu : u = .int (j : Nat) := (Option.some.inj hu).symm
        subst hu
        have hv : xs[j]? = some v := hv
        obtain ⟨p, hp, q, rfl, hq⟩ := All2.get hA hv
        have st := sm_upd (o := .tup [V.int (j : Nat), V.ref q]) nt
        have et := upd_same (H := H1) (a := tn) (o := .tup [V.int (j : Nat), V.ref q])
        generalize upd H1 tn (.tup [V.int (j : Nat), V.ref q]) = H3 at st et ⊢
        obtain ⟨dx, y1, y2, e1, _⟩ := hq.sm (s1.trans st)
        tm_at "rv"
        refine r_fldO e1 T.cl_Saying T.n_Saying_word (get_word _ _ _) ?_
        tm_at "rv"
        by_cases hw : p.1 = Str.ofString "same"
        · refine ite_o (not_o hw) ?_
          tm_at "rv"
          refine ⟨⟨_, _, rfl⟩, s1.trans st, fun k q hk2 e => ?_⟩
          rcases Nat.lt_succ_iff_lt_or_eq.mp hk2 with h | h
          · exact hk k q h e
          · subst h
            rw [hp] at e
            exact (Option.some.inj e) ▸ hw
        · refine ite_y (not_y hw) ?_
          refine r_mkO ?_
          tm_at "rv"
          refine ⟨by show 1 ≤ 1000; decide, fun b nb => ?_⟩
          exact mk_init1 nb fun d nd => kE j (fstU_some hk hp hw) _ d (s1.trans st) nd
      · rintro σ H1 ⟨⟨x1, x2, rfl⟩, s1, hk⟩
        tm_at "rv"
        exact kQ (last hk) _ s1
/-- of a list, told or refused -/
def sp_onX (K : PySem.W.Frag) (C CN : Addr) : Sp := fun vs H Q E => ∃ (a : Addr) (xs : List V) (ws : List Wd), vs = [.ref a] ∧ (SqL K H a xs ∨ SqT K H a xs) ∧ SaysW C H xs ws ∧ ws.length ≤ 999 ∧
  (∀ i, fstU ws = some i → ∀ H' d, Sm H H' → H' d = none → E (.ref CN) (some d) (upd H' d (.xd [("at", .int (i : Nat))]))) ∧ (fstU ws = none → ∀ f H' l r, Sm H H' → SayAt C H' f (Str.ofString "same") l r → Q (.ref f) H')
theorem ok_p_made_one (T : Txt K mg w) : FnOk P w K mg base (L2.CX P w) 4 T.f_p_made_one T.d_p_made_one ["sayings"] (sp_onX K T.C_Saying T.C_NoOne) := by
  refine T.F_p_made_one.okX sc_p_made_one (fun vs H Q E h => ?_) (fun cdv A outer s' H vs Q E hr h => ?_)
  · obtain ⟨a, xs, ws, rfl, _⟩ := h
    rfl
  · obtain ⟨a, xs, ws, rfl, hS, hW0, hl, kE, kQ⟩ := h
    refine ⟨_, (pss_cons (ps_expr (pe_call (ok_p_check_words T) hr (by rfl) T.g_p_check_words T.F_p_check_words.kp T.b_p_check_words .nil (L2.passes_call (takes_of rfl rfl rfl rfl) (fun _ _ _ _ h => h)) (pa_cons (pv 0) pa_nil)))
      (pss_cons (ps_setLc (i := 2) (own := [("saying", 1)]) rfl sc_p_made_one.nd rfl rfl (sw_true rfl rfl rfl (by decide +kernel)) (any_pi (K := K) rfl (pv 0)) (blkOk_by (N := ["sayings", "saying", "squares", "taken_off"]) (sc := defScope s_p_made_one) (own := [("saying", 1)]) (by decide +kernel)) (fun _ _ _ _ _ => (pg_name (i := 1) sc_p_made_one.nd rfl (Or.inl rfl))) (fun _ _ _ _ _ => pts_nil) (fun _ _ _ _ _ => (pe_call (ok_p_plus T) (hr.mono (by decide)) (by rfl) T.g_p_plus T.F_p_plus.kp T.b_p_plus .nil pass0 (pa_cons (pe_call (ok_p_times T) (hr.mono (by decide)) (by rfl) T.g_p_times T.F_p_times.kp T.b_p_times .nil pass0 (pa_cons (fld_k (K := K) rfl (pv 1) rfl) (pa_cons (fld_k (K := K) rfl (pv 1) rfl) pa_nil))) (pa_cons (pe_call (ok_p_times T) (hr.mono (by decide)) (by rfl) T.g_p_times T.F_p_times.kp T.b_p_times .nil pass0 (pa_cons (fld_k (K := K) rfl (pv 1) rfl) (pa_cons (fld_k (K := K) rfl (pv 1) rfl) pa_nil))) pa_nil)))))
      (pss_cons (ps_setLc (i := 3) (own := [("saying", 1)]) rfl sc_p_made_one.nd rfl rfl (sw_true rfl rfl rfl (by decide +kernel)) (any_pi (K := K) rfl (pv 0)) (blkOk_by (N := ["sayings", "saying", "squares", "taken_off"]) (sc := defScope s_p_made_one) (own := [("saying", 1)]) (by decide +kernel)) (fun _ _ _ _ _ => (pg_name (i := 1) sc_p_made_one.nd rfl (Or.inl rfl))) (fun _ _ _ _ _ => pts_nil) (fun _ _ _ _ _ => (pe_call (ok_p_times T) (hr.mono (by decide)) (by rfl) T.g_p_times T.F_p_times.kp T.b_p_times .nil pass0 (pa_cons (pe_call (ok_p_num T) (hr.mono (by decide)) (by rfl) T.g_p_num T.F_p_num.kp T.b_p_num .nil pass0 (pa_cons pe_int pa_nil)) (pa_cons (pe_call (ok_p_times T) (hr.mono (by decide)) (by rfl) T.g_p_times T.F_p_times.kp T.b_p_times .nil pass0 (pa_cons (fld_k (K := K) rfl (pv 1) rfl) (pa_cons (fld_k (K := K) rfl (pv 1) rfl) pa_nil))) pa_nil)))))
      (pss_one (ps_ret (pe_call (ok_p_same T) hr (by rfl) T.g_p_same T.F_p_same.kp T.b_p_same .nil pass0 (pa_cons (pe_call (ok_p_sum_of T) (hr.mono (by decide)) (by rfl) T.g_p_sum_of T.F_p_sum_of.kp T.b_p_sum_of .nil pass0 (pa_cons (pv 2) pa_nil)) (pa_cons (pe_call (ok_p_sum_of T) (hr.mono (by decide)) (by rfl) T.g_p_sum_of T.F_p_sum_of.kp T.b_p_sum_of .nil pass0 (pa_cons (pv 3) pa_nil)) pa_nil)))))))), ?_⟩
    obtain ⟨ps, hps⟩ : ∃ ps, ps = ws.map Prod.snd := ⟨_, rfl⟩
    have hpl : ps.length = ws.length := by rw [hps, List.length_map]
    have hlen : xs.length = ps.length := by rw [hpl]; exact hW0.len
    have hl2 : ws.length ≤ 999 := hl
    have hl : ps.length ≤ 1000 := by omega
    rcases hS with hS | hS
    · tm_at "rv"
      refine use_checkX (.inl hS) hW0 hl2 kE fun hnone H1 s1 => ?_
      have hA : SaysAt T.C_Saying H xs ps := by rw [hps]; exact SaysW.same hnone hW0
      have hS1 := s1.seq hS
      have hA1 := SaysAt.sm s1 hA
      tm_at "rv"
      refine r_iL ?_
      tm_at "rv"
      refine r_aL hS1 ?_
      intro D nD
      refine lc_list (K := K) (a := a) (xs := xs) (fun i H' => ∃ ws, H' D = some (.lst ws) ∧ TmsAt H' ws ((ps.take i).map sqT) ∧ Sm H1 H') ⟨[], upd_same, by simp [All2], sm_upd nD⟩ (fun i H' _ h => by
        obtain ⟨_, _, _, s⟩ := h
        exact s.seq hS1) ?_ ?_
      · rintro i x H2 hx ⟨ws, hD, hW, s2⟩
        obtain ⟨p, hp, q, rfl, hq⟩ := All2.get hA1 hx
        have hi := (List.getElem?_eq_some_iff.mp hx).1
        have hwl := hW.len
        rw [List.length_map, List.length_take] at hwl
        obtain ⟨dx, x1, y1, e1, hx1, hy1⟩ := hq.sm s2
        tm_at "rv"
        refine r_fldO e1 T.cl_Saying T.n_Saying_left (get_left _ _ _) ?_
        tm_at "rv"
        refine r_fldO e1 T.cl_Saying T.n_Saying_left (get_left _ _ _) ?_
        tm_at "rv"
        refine use_times hx1 hx1 fun v3 H3 s3 h3 => ?_
        have e1 := s3.to _ _ e1
        tm_at "rv"
        refine r_fldO e1 T.cl_Saying T.n_Saying_right (get_right _ _ _) ?_
        tm_at "rv"
        refine r_fldO e1 T.cl_Saying T.n_Saying_right (get_right _ _ _) ?_
        tm_at "rv"
        refine use_times (hy1.sm s3) (hy1.sm s3) fun v4 H4 s4 h4 => ?_
        tm_at "rv"
        refine use_plus (h3.sm s4) h4 fun v5 H5 s5 h5 => ?_
        tm_at "rv"
        have s35 := (s3.trans s4).trans s5
        have hD5 := s35.to _ _ hD
        have tD := lst_tk (ys := ws ++ [v5]) hD5
        refine r_acc hD5 (small1000 (by omega)) ⟨ws ++ [v5], upd_same, ?_, sm_acc (s2.trans s35) nD⟩
        rw [List.take_add_one, hp, List.map_append]
        exact TmsAt.tk tD ((TmsAt.sm s35 hW).snoc h5)
      rintro H2 ⟨ws, hD, hW, s2⟩
      rw [hlen, List.take_length] at hW
      have hS2 := s2.seq hS1
      have hA2 := SaysAt.sm s2 hA1
      tm_at "rv"
      refine r_iL ?_
      tm_at "rv"
      refine r_aL hS2 ?_
      intro R nR
      refine lc_list (K := K) (a := a) (xs := xs) (fun i H' => ∃ vs, H' R = some (.lst vs) ∧ TmsAt H' vs ((ps.take i).map prT) ∧ Sm H2 H') ⟨[], upd_same, by simp [All2], sm_upd nR⟩ (fun i H' _ h => by
        obtain ⟨_, _, _, s⟩ := h
        exact s.seq hS2) ?_ ?_
      · rintro i x H3 hx ⟨vs, hR, hV, s3⟩
        obtain ⟨p, hp, q, rfl, hq⟩ := All2.get hA2 hx
        have hi := (List.getElem?_eq_some_iff.mp hx).1
        have hvl := hV.len
        rw [List.length_map, List.length_take] at hvl
        tm_at "rv"
        refine use_num fun v4 H4 s4 h4 => ?_
        obtain ⟨dx, x1, y1, e1, hx1, hy1⟩ := hq.sm (s3.trans s4)
        tm_at "rv"
        refine r_fldO e1 T.cl_Saying T.n_Saying_left (get_left _ _ _) ?_
        tm_at "rv"
        refine r_fldO e1 T.cl_Saying T.n_Saying_right (get_right _ _ _) ?_
        tm_at "rv"
        refine use_times hx1 hy1 fun v5 H5 s5 h5 => ?_
        tm_at "rv"
        refine use_times (h4.sm s5) h5 fun v6 H6 s6 h6 => ?_
        tm_at "rv"
        have s46 := (s4.trans s5).trans s6
        have hR6 := s46.to _ _ hR
        have tR := lst_tk (ys := vs ++ [v6]) hR6
        refine r_acc hR6 (small1000 (by omega)) ⟨vs ++ [v6], upd_same, ?_, sm_acc (s3.trans s46) nR⟩
        rw [List.take_add_one, hp, List.map_append]
        exact TmsAt.tk tR ((TmsAt.sm s46 hV).snoc h6)
      rintro H3 ⟨vs, hR, hV, s3⟩
      rw [hlen, List.take_length] at hV
      have hW3 := TmsAt.sm s3 hW
      have hD3 := s3.to _ _ hD
      tm_at "rv"
      refine use_sum_of (.inl (SqL.of hD3)) hW3 (by rw [List.length_map]; exact hl) fun v4 H4 s4 h4 => ?_
      tm_at "rv"
      refine use_sum_of (.inl (SqL.of (s4.to _ _ hR))) (TmsAt.sm s4 hV) (by rw [List.length_map]; exact hl) fun v5 H5 s5 h5 => ?_
      tm_at "rv"
      refine use_same (h4.sm s5) h5 fun f H6 s6 h6 => ?_
      tm_at "rv"
      exact kQ hnone f _ _ _ (((s1.trans s2).trans s3).trans ((s4.trans s5).trans s6)) h6
    · tm_at "rv"
      refine use_checkX (.inr hS) hW0 hl2 kE fun hnone H1 s1 => ?_
      have hA : SaysAt T.C_Saying H xs ps := by rw [hps]; exact SaysW.same hnone hW0
      have hS1 := s1.seqT hS
      have hA1 := SaysAt.sm s1 hA
      tm_at "rv"
      refine r_iT ?_
      tm_at "rv"
      refine r_aT hS1 ?_
      intro D nD
      refine lc_tup (K := K) (a := a) (xs := xs) (fun i H' => ∃ ws, H' D = some (.lst ws) ∧ TmsAt H' ws ((ps.take i).map sqT) ∧ Sm H1 H') ⟨[], upd_same, by simp [All2], sm_upd nD⟩ (fun i H' _ h => by
        obtain ⟨_, _, _, s⟩ := h
        exact s.seqT hS1) ?_ ?_
      · rintro i x H2 hx ⟨ws, hD, hW, s2⟩
        obtain ⟨p, hp, q, rfl, hq⟩ := All2.get hA1 hx
        have hi := (List.getElem?_eq_some_iff.mp hx).1
        have hwl := hW.len
        rw [List.length_map, List.length_take] at hwl
        obtain ⟨dx, x1, y1, e1, hx1, hy1⟩ := hq.sm s2
        tm_at "rv"
        refine r_fldO e1 T.cl_Saying T.n_Saying_left (get_left _ _ _) ?_
        tm_at "rv"
        refine r_fldO e1 T.cl_Saying T.n_Saying_left (get_left _ _ _) ?_
        tm_at "rv"
        refine use_times hx1 hx1 fun v3 H3 s3 h3 => ?_
        have e1 := s3.to _ _ e1
        tm_at "rv"
        refine r_fldO e1 T.cl_Saying T.n_Saying_right (get_right _ _ _) ?_
        tm_at "rv"
        refine r_fldO e1 T.cl_Saying T.n_Saying_right (get_right _ _ _) ?_
        tm_at "rv"
        refine use_times (hy1.sm s3) (hy1.sm s3) fun v4 H4 s4 h4 => ?_
        tm_at "rv"
        refine use_plus (h3.sm s4) h4 fun v5 H5 s5 h5 => ?_
        tm_at "rv"
        have s35 := (s3.trans s4).trans s5
        have hD5 := s35.to _ _ hD
        have tD := lst_tk (ys := ws ++ [v5]) hD5
        refine r_acc hD5 (small1000 (by omega)) ⟨ws ++ [v5], upd_same, ?_, sm_acc (s2.trans s35) nD⟩
        rw [List.take_add_one, hp, List.map_append]
        exact TmsAt.tk tD ((TmsAt.sm s35 hW).snoc h5)
      rintro H2 ⟨ws, hD, hW, s2⟩
      rw [hlen, List.take_length] at hW
      have hS2 := s2.seqT hS1
      have hA2 := SaysAt.sm s2 hA1
      tm_at "rv"
      refine r_iT ?_
      tm_at "rv"
      refine r_aT hS2 ?_
      intro R nR
      refine lc_tup (K := K) (a := a) (xs := xs) (fun i H' => ∃ vs, H' R = some (.lst vs) ∧ TmsAt H' vs ((ps.take i).map prT) ∧ Sm H2 H') ⟨[], upd_same, by simp [All2], sm_upd nR⟩ (fun i H' _ h => by
        obtain ⟨_, _, _, s⟩ := h
        exact s.seqT hS2) ?_ ?_
      · rintro i x H3 hx ⟨vs, hR, hV, s3⟩
        obtain ⟨p, hp, q, rfl, hq⟩ := All2.get hA2 hx
        have hi := (List.getElem?_eq_some_iff.mp hx).1
        have hvl := hV.len
        rw [List.length_map, List.length_take] at hvl
        tm_at "rv"
        refine use_num fun v4 H4 s4 h4 => ?_
        obtain ⟨dx, x1, y1, e1, hx1, hy1⟩ := hq.sm (s3.trans s4)
        tm_at "rv"
        refine r_fldO e1 T.cl_Saying T.n_Saying_left (get_left _ _ _) ?_
        tm_at "rv"
        refine r_fldO e1 T.cl_Saying T.n_Saying_right (get_right _ _ _) ?_
        tm_at "rv"
        refine use_times hx1 hy1 fun v5 H5 s5 h5 => ?_
        tm_at "rv"
        refine use_times (h4.sm s5) h5 fun v6 H6 s6 h6 => ?_
        tm_at "rv"
        have s46 := (s4.trans s5).trans s6
        have hR6 := s46.to _ _ hR
        have tR := lst_tk (ys := vs ++ [v6]) hR6
        refine r_acc hR6 (small1000 (by omega)) ⟨vs ++ [v6], upd_same, ?_, sm_acc (s3.trans s46) nR⟩
        rw [List.take_add_one, hp, List.map_append]
        exact TmsAt.tk tR ((TmsAt.sm s46 hV).snoc h6)
      rintro H3 ⟨vs, hR, hV, s3⟩
      rw [hlen, List.take_length] at hV
      have hW3 := TmsAt.sm s3 hW
      have hD3 := s3.to _ _ hD
      tm_at "rv"
      refine use_sum_of (.inl (SqL.of hD3)) hW3 (by rw [List.length_map]; exact hl) fun v4 H4 s4 h4 => ?_
      tm_at "rv"
      refine use_sum_of (.inl (SqL.of (s4.to _ _ hR))) (TmsAt.sm s4 hV) (by rw [List.length_map]; exact hl) fun v5 H5 s5 h5 => ?_
      tm_at "rv"
      refine use_same (h4.sm s5) h5 fun f H6 s6 h6 => ?_
      tm_at "rv"
      exact kQ hnone f _ _ _ (((s1.trans s2).trans s3).trans ((s4.trans s5).trans s6)) h6
def sp_eitherX (C CN : Addr) : Sp := fun vs H Q E => ∃ (a b : Addr) (p q : Wd), vs = [.ref a, .ref b] ∧ SayAt C H a p.1 p.2.1 p.2.2 ∧ SayAt C H b q.1 q.2.1 q.2.2 ∧
  (∀ i, fstU [p, q] = some i → ∀ H' d, Sm H H' → H' d = none → E (.ref CN) (some d) (upd H' d (.xd [("at", .int (i : Nat))]))) ∧ (fstU [p, q] = none → ∀ f H' l r, Sm H H' → SayAt C H' f (Str.ofString "same") l r → Q (.ref f) H')
theorem ok_p_either (T : Txt K mg w) : FnOk P w K mg base (L2.CX P w) 4 T.f_p_either T.d_p_either ["one", "other"] (sp_eitherX T.C_Saying T.C_NoOne) := by
  refine T.F_p_either.okX sc_p_either (fun vs H Q E h => ?_) (fun cdv A outer s' H vs Q E hr h => ?_)
  · obtain ⟨a, b, p, q, rfl, _⟩ := h
    rfl
  · obtain ⟨a, b, p, q, rfl, ha, hb, kE, kQ⟩ := h
    refine ⟨_, (pss_cons (ps_expr (pe_call (ok_p_check_words T) hr (by rfl) T.g_p_check_words T.F_p_check_words.kp T.b_p_check_words .nil (L2.passes_call (takes_of rfl rfl rfl rfl) (fun _ _ _ _ h => h)) (pa_cons (pe_lst (pa_cons (pv 0) (pa_cons (pv 1) pa_nil))) pa_nil)))
      (pss_one (ps_ret (pe_call (ok_p_same T) hr (by rfl) T.g_p_same T.F_p_same.kp T.b_p_same .nil pass0 (pa_cons (pe_call (ok_p_plus T) (hr.mono (by decide)) (by rfl) T.g_p_plus T.F_p_plus.kp T.b_p_plus .nil pass0 (pa_cons (pe_call (ok_p_times T) (hr.mono (by decide)) (by rfl) T.g_p_times T.F_p_times.kp T.b_p_times .nil pass0 (pa_cons (fld_k (K := K) rfl (pv 0) rfl) (pa_cons (fld_k (K := K) rfl (pv 1) rfl) pa_nil))) (pa_cons (pe_call (ok_p_times T) (hr.mono (by decide)) (by rfl) T.g_p_times T.F_p_times.kp T.b_p_times .nil pass0 (pa_cons (fld_k (K := K) rfl (pv 0) rfl) (pa_cons (fld_k (K := K) rfl (pv 1) rfl) pa_nil))) pa_nil))) (pa_cons (pe_call (ok_p_plus T) (hr.mono (by decide)) (by rfl) T.g_p_plus T.F_p_plus.kp T.b_p_plus .nil pass0 (pa_cons (pe_call (ok_p_times T) (hr.mono (by decide)) (by rfl) T.g_p_times T.F_p_times.kp T.b_p_times .nil pass0 (pa_cons (fld_k (K := K) rfl (pv 0) rfl) (pa_cons (fld_k (K := K) rfl (pv 1) rfl) pa_nil))) (pa_cons (pe_call (ok_p_times T) (hr.mono (by decide)) (by rfl) T.g_p_times T.F_p_times.kp T.b_p_times .nil pass0 (pa_cons (fld_k (K := K) rfl (pv 0) rfl) (pa_cons (fld_k (K := K) rfl (pv 1) rfl) pa_nil))) pa_nil))) pa_nil)))))), ?_⟩
    tm_at "rv"
    rename_i d nd
    have s1 := sm_upd (o := .lst [V.ref a, V.ref b]) nd
    have e1 := upd_same (H := H) (a := d) (o := .lst [V.ref a, V.ref b])
    generalize upd H d (.lst [V.ref a, V.ref b]) = H1 at s1 e1 ⊢
    refine use_checkX (ws := [p, q]) (.inl (SqL.of e1)) ⟨⟨a, rfl, ha.sm s1⟩, ⟨b, rfl, hb.sm s1⟩, trivial⟩ (by show 2 ≤ 999; decide) (fun i hi H' d sm nd => kE i hi H' d (s1.trans sm) nd) fun hnone H2 s2 => ?_
    have s12 := s1.trans s2
    obtain ⟨dx, x1, y1, f1, hx1, hy1⟩ := ha.sm s12
    obtain ⟨dy, x2, y2, f2, hx2, hy2⟩ := hb.sm s12
    tm_at "rv"
    refine r_fldO f1 T.cl_Saying T.n_Saying_left (get_left _ _ _) ?_
    tm_at "rv"
    refine r_fldO f2 T.cl_Saying T.n_Saying_left (get_left _ _ _) ?_
    tm_at "rv"
    refine use_times hx1 hx2 fun v3 H3 s3 h3 => ?_
    have f1 := s3.to _ _ f1
    have f2 := s3.to _ _ f2
    tm_at "rv"
    refine r_fldO f1 T.cl_Saying T.n_Saying_right (get_right _ _ _) ?_
    tm_at "rv"
    refine r_fldO f2 T.cl_Saying T.n_Saying_right (get_right _ _ _) ?_
    tm_at "rv"
    refine use_times (hy1.sm s3) (hy2.sm s3) fun v4 H4 s4 h4 => ?_
    have f1 := s4.to _ _ f1
    have f2 := s4.to _ _ f2
    tm_at "rv"
    refine use_plus (h3.sm s4) h4 fun v5 H5 s5 h5 => ?_
    have f1 := s5.to _ _ f1
    have f2 := s5.to _ _ f2
    have s345 := (s3.trans s4).trans s5
    tm_at "rv"
    refine r_fldO f1 T.cl_Saying T.n_Saying_left (get_left _ _ _) ?_
    tm_at "rv"
    refine r_fldO f2 T.cl_Saying T.n_Saying_right (get_right _ _ _) ?_
    tm_at "rv"
    refine use_times (hx1.sm s345) (hy2.sm s345) fun v6 H6 s6 h6 => ?_
    have f1 := s6.to _ _ f1
    have f2 := s6.to _ _ f2
    tm_at "rv"
    refine r_fldO f1 T.cl_Saying T.n_Saying_right (get_right _ _ _) ?_
    tm_at "rv"
    refine r_fldO f2 T.cl_Saying T.n_Saying_left (get_left _ _ _) ?_
    tm_at "rv"
    refine use_times (hy1.sm (s345.trans s6)) (hx2.sm (s345.trans s6)) fun v7 H7 s7 h7 => ?_
    tm_at "rv"
    refine use_plus (h6.sm s7) h7 fun v8 H8 s8 h8 => ?_
    tm_at "rv"
    refine use_same (h5.sm ((s6.trans s7).trans s8)) h8 fun f H9 s9 h9 => ?_
    tm_at "rv"
    exact kQ hnone f _ _ _ ((s12.trans s345).trans (((s6.trans s7).trans s8).trans s9)) h9
def sp_two (K : PySem.W.Frag) (C CN : Addr) : Sp := fun vs H Q E => ∃ (a : Addr) (xs : List V) (ws : List Wd), vs = [.ref a] ∧ SqL K H a xs ∧ SaysW C H xs ws ∧ ws.length = 2 ∧
  (∀ i, fstU ws = some i → ∀ H' d, Sm H H' → H' d = none → E (.ref CN) (some d) (upd H' d (.xd [("at", .int (i : Nat))]))) ∧ (fstU ws = none → ∀ f H' l r, Sm H H' → SayAt C H' f (Str.ofString "same") l r → Q (.ref f) H')
theorem ok_both (T : Txt K mg w) : FnOk P w K mg base (L2.CX P w) 5 T.f_both T.d_both ["things"] (sp_two K T.C_Saying T.C_NoOne) := by
  refine T.F_both.okX sc_both (fun vs H Q E h => ?_) (fun cdv A outer s' H vs Q E hr h => ?_)
  · obtain ⟨a, xs, ws, rfl, _⟩ := h
    rfl
  · obtain ⟨a, xs, ws, rfl, hS, hW, hl, kE, kQ⟩ := h
    refine ⟨_, (pss_one (ps_ret (pe_call (ok_p_either T) hr (by rfl) T.g_p_either T.F_p_either.kp T.b_p_either .nil (L2.passes_call (takes_of rfl rfl rfl rfl) (fun _ _ _ _ h => h)) (pa_cons (pe_ix (ix_k (K := K) rfl) (pv 0) pe_int (fun _ _ => rfl)) (pa_cons (pe_ix (ix_k (K := K) rfl) (pv 0) pe_int (fun _ _ => rfl)) pa_nil))))), ?_⟩
    obtain ⟨p, q, rfl⟩ : ∃ p q, ws = [p, q] := by
      match ws, hl with
      | [p, q], _ => exact ⟨p, q, rfl⟩
    obtain ⟨u, v, rfl⟩ : ∃ u v, xs = [u, v] := by
      have := hW.len
      match xs, this with
      | [u, v], _ => exact ⟨u, v, rfl⟩
    obtain ⟨⟨a1, rfl, h1⟩, ⟨a2, rfl, h2⟩, _⟩ := hW
    tm_at "rv"
    refine ⟨a1, a2, p, q, rfl, h1, h2, kE, fun hnone f H' l r sm hF => ?_⟩
    tm_at "rv"
    exact kQ hnone f H' l r sm hF
/-! told or refused, as a pair -/
def SelSaid (K : PySem.W.Frag) (T : Txt K mg w) (f : Addr) (sp : Sp) : Prop := (f = T.f_p_made_one ∧ sp = sp_onX K T.C_Saying T.C_NoOne) ∨ (f = T.f_both ∧ sp = sp_two K T.C_Saying T.C_NoOne)
theorem held_said (T : Txt K mg w) : ∀ f sp, SelSaid K T f sp → HeldX P w K mg base (6 - 1) f sp := by
  rintro f sp (⟨rfl, rfl⟩ | ⟨rfl, rfl⟩)
  · exact ⟨_, _, (ok_p_made_one T).mono (by decide), T.F_p_made_one.kp, T.b_p_made_one⟩
  · exact ⟨_, _, (ok_both T).mono (by decide), T.F_both.kp, T.b_both⟩
/-- which def, and of what -/
def SelAt (K : PySem.W.Frag) (T : Txt K mg w) (f : Addr) (H : Hp) (a : Addr) (xs : List V) (n : Nat) : Prop := (f = T.f_p_made_one ∧ (SqL K H a xs ∨ SqT K H a xs)) ∨ (f = T.f_both ∧ SqL K H a xs ∧ n = 2)
theorem sel_use {T : Txt K mg w} {f a : Addr} {H : Hp} {xs : List V} {ws : List Wd} (h : SelAt K T f H a xs ws.length) : ∃ sp, SelSaid K T f sp ∧ ∀ {Q : VK} {E : XK}, SaysW T.C_Saying H xs ws → ws.length ≤ 999 →
    (∀ i, fstU ws = some i → ∀ H' d, Sm H H' → H' d = none → E (.ref T.C_NoOne) (some d) (upd H' d (.xd [("at", .int (i : Nat))]))) → (fstU ws = none → ∀ f H' l r, Sm H H' → SayAt T.C_Saying H' f (Str.ofString "same") l r → Q (.ref f) H') → sp [.ref a] H Q E := by
  rcases h with ⟨rfl, hS⟩ | ⟨rfl, hS, hl⟩
  · exact ⟨_, .inl ⟨rfl, rfl⟩, fun hW hl kE kQ => ⟨a, xs, ws, rfl, hS, hW, hl, kE, kQ⟩⟩
  · exact ⟨_, .inr ⟨rfl, rfl⟩, fun hW _ kE kQ => ⟨a, xs, ws, rfl, hS, hW, hl, kE, kQ⟩⟩
def dueV : Option Nat → List V
  | none => [.str (Str.ofString "told"), .str (Str.ofString "same")]
  | some i => [.str (Str.ofString "none"), .int (i : Nat)]
def sp_said (K : PySem.W.Frag) (T : Txt K mg w) : Sp := fun vs H Q _ => ∃ (f a : Addr) (xs : List V) (ws : List Wd), vs = [.ref f, .ref a] ∧ SelAt K T f H a xs ws.length ∧ SaysW T.C_Saying H xs ws ∧ ws.length ≤ 999 ∧ ∀ q H', Sm H H' → H' q = some (.tup (dueV (fstU ws))) → Q (.ref q) H'
theorem use_said {T : Txt K mg w} {H : Hp} {Q : VK} {E : XK} {f a : Addr} {xs : List V} {ws : List Wd} (h : SelAt K T f H a xs ws.length) (g : SaysW T.C_Saying H xs ws) (l : ws.length ≤ 999) (k : ∀ q H', Sm H H' → H' q = some (.tup (dueV (fstU ws))) → Q (.ref q) H') : sp_said K T [.ref f, .ref a] H Q E := ⟨f, a, xs, ws, rfl, h, g, l, k⟩
theorem ok_said (T : Txt K mg w) : FnOk P w K mg base CX0 6 T.f_said T.d_said ["call", "things"] (sp_said K T) := by
  refine T.F_said.ok sc_said (fun vs H Q E h => ?_) (fun cdv A outer s H vs Q E hr h => ?_)
  · obtain ⟨f, a, xs, ws, rfl, _⟩ := h
    rfl
  · obtain ⟨f, a, xs, ws, rfl, hsel, hW, hl, k⟩ := h
    refine ⟨_, (pss_cons (ps_set (i := 2) sc_said.nd rfl (Or.inl rfl) (pe_tup (pa_cons pe_str pa_nil)))
      (pss_cons (ps_try_as (i := 3) (tb := fun W => _) (ts := fun a cls d => (tSeq (tAsg (tCB (rIsE2 K T.C_NoOne a cls d) (tCons (tVar 3) (tCons (tTup (tCons (tC (.ref T.C_NoAnswer)) (tCons (tC (.ref T.C_NoBegin)) (tCons (tC (.ref T.C_NoHeld)) (tCons (tC (.ref T.C_NoNumber)) (tCons (tC (.ref T.C_NoProgram)) (tCons (tC (.ref T.C_NoRow)) (tCons (tC (.ref T.C_NoText)) (tCons (tC (.ref T.C_NoWord)) (tCons (tC (.ref T.C_TooGreat)) tNil)))))))))) tNil))) (gName 4)) (tSeq (tAsg (tOrT K (tVar 4) (tOrT K (tCB (rIsE2 K T.C_NoOne a cls d) (tCons (tVar 3) (tCons (tTup (tCons (tC (.ref T.C_Unknown)) (tCons (tC (.ref T.C_Wrong)) tNil))) tNil))) (tCB (rIsi K) (tCons (tXf a cls d T.C_NoOne "at" (tVar 3)) (tCons (tC (.ty "bool")) tNil))))) (gName 4)) (tIfS (tAnd (fun σ H Q => (tCB (rIsE2 K T.C_NoOne a cls d) (tCons (tVar 3) (tCons (tC (.ty "ValueError")) tNil))) σ H fun x H' => ∃ k, TruV K x H' k ∧ Q k H') (tNot (fun σ H Q => (tVar 4) σ H fun x H' => ∃ k, TruV K x H' k ∧ Q k H'))) (tAsg (tTup (tCons (tC (.str (Str.ofString "none"))) (tCons (tXf a cls d T.C_NoOne "at" (tVar 3)) tNil))) (gName 2)) tNext)))) (Wout := fun _ _ _ _ => False) rfl rfl sc_said.nd rfl rfl ⟨rfl, by decide, Or.inl T.g_NoOne⟩ takes0
      (fun W pn xe tk _ => by exact (pss_one (ps_set (i := 2) sc_said.nd rfl (Or.inl rfl) (pe_tup (pa_cons pe_str (pa_cons (fld_k (K := K) rfl (pe_callSL (i := 0) (held_said T) (hr.mono (by decide)) rfl (Or.inl rfl) (fun σ => passAt tk σ) (pa_cons (pv 1) pa_nil)) rfl) pa_nil))))))
      (fun a oe cls d pn hz hf => by exact (pss_cons (ps_set (i := 4) sc_said.nd rfl (Or.inl rfl) (pe_callB (call_isE2 T.xc_NoOne hz hf) (by rfl) T.z_isinstance (by decide +kernel) (pa_cons (pv 3) (pa_cons (pe_tup (pa_cons (pe_glob (v := .ref T.C_NoAnswer) (by rfl) T.g_NoAnswer rfl) (pa_cons (pe_glob (v := .ref T.C_NoBegin) (by rfl) T.g_NoBegin rfl) (pa_cons (pe_glob (v := .ref T.C_NoHeld) (by rfl) T.g_NoHeld rfl) (pa_cons (pe_glob (v := .ref T.C_NoNumber) (by rfl) T.g_NoNumber rfl) (pa_cons (pe_glob (v := .ref T.C_NoProgram) (by rfl) T.g_NoProgram rfl) (pa_cons (pe_glob (v := .ref T.C_NoRow) (by rfl) T.g_NoRow rfl) (pa_cons (pe_glob (v := .ref T.C_NoText) (by rfl) T.g_NoText rfl) (pa_cons (pe_glob (v := .ref T.C_NoWord) (by rfl) T.g_NoWord rfl) (pa_cons (pe_glob (v := .ref T.C_TooGreat) (by rfl) T.g_TooGreat rfl) pa_nil)))))))))) pa_nil))))
      (pss_cons (ps_set (i := 4) sc_said.nd rfl (Or.inl rfl) (orT_k (K := K) rfl (pv 4) (orT_k (K := K) rfl (pe_callB (call_isE2 T.xc_NoOne hz hf) (by rfl) T.z_isinstance (by decide +kernel) (pa_cons (pv 3) (pa_cons (pe_tup (pa_cons (pe_glob (v := .ref T.C_Unknown) (by rfl) T.g_Unknown rfl) (pa_cons (pe_glob (v := .ref T.C_Wrong) (by rfl) T.g_Wrong rfl) pa_nil))) pa_nil))) (pe_one (pe_callB (isi_k (K := K) rfl) (by rfl) T.z_isinstance (by decide +kernel) (pa_cons (pe_xf T.xf_NoOne T.no_NoOne_at hz hf (pv 3)) (pa_cons (pe_bltn (v := .ty "bool") (by rfl) T.z_bool (by decide +kernel) rfl) pa_nil)))))))
      (pss_one (ps_if (PW.pt (pw_and (pt_truth (pe_callB (call_isE2 T.xc_NoOne hz hf) (by rfl) T.z_isinstance (by decide +kernel) (pa_cons (pv 3) (pa_cons (pe_bltn (v := .ty "ValueError") (by rfl) T.z_ValueError (by decide +kernel) rfl) pa_nil))) (by intro _; rfl)) (pw_and1 (pt_not (pt_truth (pv 4) (by intro _; rfl))))))
      (pss_one (ps_set (i := 2) sc_said.nd rfl (Or.inl rfl) (pe_tup (pa_cons pe_str (pa_cons (pe_xf T.xf_NoOne T.no_NoOne_at hz hf (pv 3)) pa_nil))))) pss_nil))))))
      (pss_one (ps_ret (pv 2))))), ?_⟩
    tm_at "rv"
    rename_i p0 n0
    have s0 := sm_upd (o := .tup [V.str (Str.ofString "other")]) n0
    generalize upd H p0 (.tup [V.str (Str.ofString "other")]) = H0 at s0 ⊢
    have hsel0 : SelAt K T f H0 a xs ws.length := hsel.imp (fun h => ⟨h.1, h.2.imp s0.seq s0.seqT⟩) fun h => ⟨h.1, s0.seq h.2.1, h.2.2⟩
    obtain ⟨sp, hSp, huse⟩ := sel_use hsel0
    refine r_callSL rfl hSp ?_
    tm_at "rv"
    refine huse (SaysW.sm s0 hW) hl (fun i hi H' d sm nd => ?_) (fun hnone f H' l r sm hF => ?_)
    · refine ⟨true, T.te_NoOne, fun _ a na => ?_, fun q => Bool.noConfusion q⟩
      have ed := upd_same (H := H') (a := d) (o := .xd [((Str.ofString "at"), V.int (i : Nat))])
      have sd : Sm H (upd H' d (.xd [((Str.ofString "at"), V.int (i : Nat))])) := (s0.trans sm).trans (sm_upd nd)
      generalize upd H' d (.xd [((Str.ofString "at"), V.int (i : Nat))]) = H2 at ed sd na ⊢
      tm_at "rv"
      rename_i p1 np1
      refine r_isEt ((sm_upd np1).to _ _ ed) upd_same (.cons (.own _) (.cons (.own _) (.cons (.own _) (.cons (.own _) (.cons (.own _) (.cons (.own _) (.cons (.own _) (.cons (.own _) (.cons (.own _) .nil)))))))))
        (kitAny_no T.kx_NoOne_NoAnswer (kitAny_no T.kx_NoOne_NoBegin (kitAny_no T.kx_NoOne_NoHeld (kitAny_no T.kx_NoOne_NoNumber (kitAny_no T.kx_NoOne_NoProgram (kitAny_no T.kx_NoOne_NoRow (kitAny_no T.kx_NoOne_NoText (kitAny_no T.kx_NoOne_NoWord (kitAny_no T.kx_NoOne_TooGreat kitAny_end))))))))) ?_
      tm_at "rv"
      rename_i p2 np2
      have ed2 := (sm_upd (o := .tup [V.ref T.C_Unknown, V.ref T.C_Wrong]) np2).to _ _ ((sm_upd np1).to _ _ ed)
      refine r_isEt ed2 upd_same (.cons (.own _) (.cons (.own _) .nil)) (kitAny_no T.kx_NoOne_Unknown (kitAny_no T.kx_NoOne_Wrong kitAny_end)) ?_
      tm_at "rv"
      refine r_xf ?_
      tm_at "rv"
      refine ⟨rfl, rfl, d, _, .int (i : Nat), rfl, ed2, by simp [List.lookup], ?_⟩
      tm_at "rv"
      refine r_isEo ed2 (.ty _) T.kx_NoOne_ValueError ?_
      tm_at "rv"
      refine r_xf ?_
      tm_at "rv"
      refine ⟨rfl, rfl, d, _, .int (i : Nat), rfl, ed2, by simp [List.lookup], ?_⟩
      tm_at "rv"
      rename_i q nq
      exact k q _ (((sd.trans (sm_upd np1)).trans (sm_upd np2)).trans (sm_upd nq)) (by rw [upd_same, hi]; rfl)
    · obtain ⟨df, x1, y1, e1, _⟩ := hF
      refine r_fldO e1 T.cl_Saying T.n_Saying_word (get_word _ _ _) ?_
      tm_at "rv"
      rename_i q nq
      exact k q _ ((s0.trans sm).trans (sm_upd nq)) (by rw [upd_same, hnone]; rfl)
/-! what is due -/
def Gw (ws : List Wd) : Prop := ∀ p ∈ ws, p.1 = Str.ofString "same" ∨ p.1 = Str.ofString "under"
theorem not_under : ¬ Str.ofString "same" = Str.ofString "under" := by decide +kernel
def sp_due (K : PySem.W.Frag) (C : Addr) : Sp := fun vs H Q _ => ∃ (a : Addr) (xs : List V) (ws : List Wd), vs = [.ref a] ∧ SqL K H a xs ∧ SaysW C H xs ws ∧ Gw ws ∧ ∀ q H', Sm H H' → H' q = some (.tup (dueV (fstU ws))) → Q (.ref q) H'
theorem use_due {C : Addr} {H : Hp} {Q : VK} {E : XK} {a : Addr} {xs : List V} {ws : List Wd} (h : SqL K H a xs) (g : SaysW C H xs ws) (l : Gw ws) (k : ∀ q H', Sm H H' → H' q = some (.tup (dueV (fstU ws))) → Q (.ref q) H') : sp_due K C [.ref a] H Q E := ⟨a, xs, ws, rfl, h, g, l, k⟩
theorem ok_due (T : Txt K mg w) : FnOk P w K mg base CX0 1 T.f_due T.d_due ["some"] (sp_due K T.C_Saying) := by
  refine T.F_due.ok sc_due (fun vs H Q E h => ?_) (fun cdv A outer s' H vs Q E hr h => ?_)
  · obtain ⟨a, xs, ws, rfl, _⟩ := h
    rfl
  · obtain ⟨a, xs, ws, rfl, hS, hA, hg, k⟩ := h
    refine ⟨_, (pss_cons (ps_for PassesOwn.never rfl (enum_k (K := K) rfl (by rfl) T.z_enumerate (pa_cons (pv 0) pa_nil)) (pg_tup rfl (pgs_cons (pg_name (i := 1) sc_due.nd rfl (Or.inl rfl)) (pgs_cons (pg_name (i := 2) sc_due.nd rfl (Or.inl rfl)) pgs_nil)))
      (pss_one (ps_if (pt_cmpR (eq_k (K := K) rfl hr.units) (fld_k (K := K) rfl (pv 2) rfl) pe_str (nomark _))
      (pss_one (ps_ret (pe_tup (pa_cons pe_str (pa_cons (pv 1) pa_nil))))) pss_nil)))
      (pss_one (ps_ret (pe_tup (pa_cons pe_str (pa_cons pe_str pa_nil)))))), ?_⟩
    have hlen := hA.len
    have last : (∀ k q, k < xs.length → ws[k]? = some q → q.1 = Str.ofString "same") → fstU ws = none := fun h => fstU_none fun p hp => by
      obtain ⟨k, hk⟩ := List.getElem?_of_mem hp
      exact h k p (by rw [hlen]; exact (List.getElem?_eq_some_iff.mp hk).1) hk
    tm_at "rv"
    refine r_enumL ?_
    tm_at "rv"
    refine ⟨a, _, rfl, hS, ?_⟩
    refine for_it walk_enum (fun j σ H' => (∃ x1 x2, σ = [some (.ref a), x1, x2]) ∧ Sm H H' ∧ ∀ k q, k < j → ws[k]? = some q → q.1 = Str.ofString "same") ⟨⟨_, _, rfl⟩, Sm.refl _, fun k q hk _ => absurd hk (by omega)⟩ (fun j σ H' _ h => h.2.1.seq hS) ?_ ?_
    · rintro j x σ H1 H2 hj ⟨⟨x1, x2, rfl⟩, s1, hk⟩ ⟨tn, u, v, rfl, nt, rfl, hu, hv⟩
      have hu : u = .int (j : Nat) := (Option.some.inj hu).symm
      subst hu
      have hv : xs[j]? = some v := hv
      obtain ⟨p, hp, q, rfl, hq⟩ := All2.get hA hv
      have st := sm_upd (o := .tup [V.int (j : Nat), V.ref q]) nt
      have et := upd_same (H := H1) (a := tn) (o := .tup [V.int (j : Nat), V.ref q])
      generalize upd H1 tn (.tup [V.int (j : Nat), V.ref q]) = H3 at st et ⊢
      obtain ⟨dx, y1, y2, e1, _⟩ := hq.sm (s1.trans st)
      tm_at "rv"
      refine r_fldO e1 T.cl_Saying T.n_Saying_word (get_word _ _ _) ?_
      tm_at "rv"
      rcases hg p (List.mem_of_getElem? hp) with hw | hw
      · refine ite_o (decide_eq_false fun e => not_under (hw.symm.trans e)) ?_
        tm_at "rv"
        refine ⟨⟨_, _, rfl⟩, s1.trans st, fun k q hk2 e => ?_⟩
        rcases Nat.lt_succ_iff_lt_or_eq.mp hk2 with h | h
        · exact hk k q h e
        · subst h
          rw [hp] at e
          exact (Option.some.inj e) ▸ hw
      · refine ite_y (decide_eq_true hw) ?_
        tm_at "rv"
        rename_i q2 nq2
        refine k q2 _ ((s1.trans st).trans (sm_upd nq2)) ?_
        rw [upd_same, fstU_some hk hp (fun e => not_under (e.symm.trans hw))]
        rfl
    · rintro σ H1 ⟨⟨x1, x2, rfl⟩, s1, hk⟩
      tm_at "rv"
      rename_i q2 nq2
      refine k q2 _ (s1.trans (sm_upd nq2)) ?_
      rw [upd_same, last hk]
      rfl
/-- pairs, alike -/
def dueD : Option Nat → PyData
  | none => .tuple [.str (Str.ofString "told"), .str (Str.ofString "same")]
  | some i => .tuple [.str (Str.ofString "none"), .int (i : Nat)]
theorem due_dp {H : Hp} {q : Addr} {o : Option Nat} (h : H q = some (.tup (dueV o))) : Dp K H (.ref q) (dueD o) := by
  cases o with
  | none => exact .tup (SqT.of h) (.cons (.str _) (.cons (.str _) .nil))
  | some i => exact .tup (SqT.of h) (.cons (.str _) (.cons (.int _) .nil))
theorem due_lay (o : Option Nat) : PyData.canLay0 (dueD o) = true := by
  cases o with
  | none =>
    show (PyData.strOk (Str.ofString "told") && (PyData.strOk (Str.ofString "same") && true)) = true
    decide +kernel
  | some i =>
    show (PyData.strOk (Str.ofString "none") && true) = true
    decide +kernel
theorem due_shaped (o : Option Nat) : SeqAt.shaped (dueD o) = true := by
  have h := due_lay o
  cases o with
  | none => exact Bool.and_eq_true_iff.mpr ⟨h, by decide⟩
  | some i => exact Bool.and_eq_true_iff.mpr ⟨h, decide_eq_true (show max 0 (max 0 0) + 1 ≤ 64 by decide)⟩
theorem r_neDue {H : Hp} {Q : VK} {a b : Addr} {o : Option Nat} (ha : H a = some (.tup (dueV o))) (hb : H b = some (.tup (dueV o))) (k : Q (.bl false) H) : rNeA K (.ref a) (.ref b) H Q :=
  r_neD (due_dp ha) (due_dp hb) (due_shaped o) (due_shaped o) (by rw [SeqAt.eqv_refl _ (due_lay o)]; exact k)
theorem r_eqDue {H : Hp} {Q : VK} {a b : Addr} {o : Option Nat} (ha : H a = some (.tup (dueV o))) (hb : H b = some (.tup (dueV o))) (k : Q (.bl true) H) : rEqA K (.ref a) (.ref b) H Q :=
  r_eqD (due_dp ha) (due_dp hb) (due_shaped o) (due_shaped o) (by rw [SeqAt.eqv_refl _ (due_lay o)]; exact k)
theorem Gw.of {ws vs : List Wd} (h : Gw ws) (g : ∀ z ∈ vs, z ∈ ws) : Gw vs := fun p hp => h p (g p hp)
theorem SaysW.chgL {C A : Addr} {H H' : Hp} {xs ys : List V} {ps : List Wd} (hA : H A = some (.lst ys)) (e : Chg A H H') (h : SaysW C H xs ps) : SaysW C H' xs ps := h.imp fun _ _ ⟨q, a, b⟩ => ⟨q, a, b.chgL hA e⟩
theorem ok_law (T : Txt K mg w) : FnOk P w K mg base CX0 7 T.f_law T.d_law ["script"] (sp_law K) := by
  refine T.F_law.ok sc_law (fun vs H Q E h => ?_) (fun cdv A outer s H vs Q E hr h => ?_)
  · obtain ⟨a, ns, rfl, _⟩ := h
    rfl
  · obtain ⟨a, ns, rfl, hS, hn, k⟩ := h
    refine ⟨_, (pss_cons (ps_set (i := 1) sc_law.nd rfl (Or.inl rfl) (pe_call (ok_box T) (hr.mono (by decide)) (by rfl) T.g_box T.F_box.kp T.b_box .nil pass0 (pa_cons (pv 0) (pa_cons pe_int pa_nil))))
      (pss_cons (ps_par (i := 2) (j := 3) rfl sc_law.nd rfl rfl (by decide) rfl rfl (pa_cons (pe_call (ok_pool T) (hr.mono (by decide)) (by rfl) T.g_pool T.F_pool.kp T.b_pool .nil pass0 (pa_cons (pv 1) (pa_cons pe_int pa_nil))) (pa_cons (pe_lst pa_nil) pa_nil)) (by rfl))
      (pss_cons (ps_for PassesOwn.never rfl (pi_range2 (by rfl) T.z_range (pa_cons pe_int (pa_cons (pe_callB (max_k (K := K) rfl rfl) (by rfl) T.z_max (by decide +kernel) (pa_cons pe_int (pa_cons (pe_callB (min_k (K := K) rfl rfl) (by rfl) T.z_min (by decide +kernel) (pa_cons pe_int (pa_cons (pe_callB (len_k (K := K) rfl) (by rfl) T.z_len (by decide +kernel) (pa_cons (pv 0) pa_nil)) pa_nil))) pa_nil))) pa_nil))) (pg_name (i := 4) sc_law.nd rfl (Or.inl rfl))
      (pss_cons (ps_set (i := 5) sc_law.nd rfl (Or.inl rfl) (pe_call (ok_box T) (hr.mono (by decide)) (by rfl) T.g_box T.F_box.kp T.b_box .nil pass0 (pa_cons (pv 0) (pa_cons (pv 4) pa_nil))))
      (pss_cons (ps_set (i := 6) sc_law.nd rfl (Or.inl rfl) (pe_ix (ix_k (K := K) rfl) (pe_lst (pa_cons pe_str (pa_cons pe_str (pa_cons pe_str (pa_cons pe_str pa_nil))))) (pe_call (ok_take T) (hr.mono (by decide)) (by rfl) T.g_take T.F_take.kp T.b_take .nil pass0 (pa_cons (pv 5) (pa_cons pe_int pa_nil))) (fun _ _ => rfl)))
      (pss_one (ps_expr (pe_bm PySem.F.plainAttrs_list PySem.F.slot_list_append PySem.F.type_list_append mt_append (pv 3) (pa_cons (pe_make T.mk_Saying (ok_Saying_init T) (hr.mono (by decide)) (by rfl) T.g_Saying T.b_Saying_init .nil pass0 (pa_cons (pv 6) (pa_cons (pe_call (ok_term T 3) (hr.mono (by decide)) (by rfl) T.g_term T.F_term.kp T.b_term .nil pass0 (pa_cons (pv 5) (pa_cons (pv 2) (pa_cons pe_int pa_nil)))) (pa_cons (pe_call (ok_term T 3) (hr.mono (by decide)) (by rfl) T.g_term T.F_term.kp T.b_term .nil pass0 (pa_cons (pv 5) (pa_cons (pv 2) (pa_cons pe_int pa_nil)))) pa_nil)))) pa_nil)))))))
      (pss_cons (ps_setLc (i := 8) (own := [("saying", 7)]) rfl sc_law.nd rfl rfl (sw_true rfl rfl rfl (by decide +kernel)) (any_pi (K := K) rfl (pv 3)) (blkOk_by (N := ["script", "box", "pool", "some", "k", "one", "word", "saying", "good", "at", "other"]) (sc := defScope s_law) (own := [("saying", 7)]) (by decide +kernel)) (fun _ _ _ _ _ => (pg_name (i := 7) sc_law.nd rfl (Or.inl rfl))) (fun _ _ _ _ _ => (pts_one (pt_cmpR (eq_k (K := K) rfl hr.units) (fld_k (K := K) rfl (pv 7) rfl) pe_str (nomark _)))) (fun _ _ _ _ _ => (pv 7)))
      (pss_cons (ps_for PassesOwn.never rfl (pi_range1 (by rfl) T.z_range (pa_cons (pe_op (add_k (K := K) rfl) (pe_callB (len_k (K := K) rfl) (by rfl) T.z_len (by decide +kernel) (pa_cons (pv 3) pa_nil)) pe_int) pa_nil)) (pg_name (i := 9) sc_law.nd rfl (Or.inl rfl))
      (pss_one (ps_if (PW.pt (pw_or (pt_cmpR (ne_k (K := K) rfl hr.units) (pe_call (ok_said T) hr (by rfl) T.g_said T.F_said.kp T.b_said .nil pass0 (pa_cons (pe_glob (v := .ref T.f_p_made_one) (by rfl) T.g_p_made_one rfl) (pa_cons (pe_slice (sl_k (K := K) rfl) (pv 3) (po_some (pv 9)) po_none) pa_nil))) (pe_call (ok_due T) (hr.mono (by decide)) (by rfl) T.g_due T.F_due.kp T.b_due .nil pass0 (pa_cons (pe_slice (sl_k (K := K) rfl) (pv 3) (po_some (pv 9)) po_none) pa_nil)) (nomark _)) (pw_or1 (pt_cmpR (ne_k (K := K) rfl hr.units) (pe_call (ok_said T) hr (by rfl) T.g_said T.F_said.kp T.b_said .nil pass0 (pa_cons (pe_glob (v := .ref T.f_p_made_one) (by rfl) T.g_p_made_one rfl) (pa_cons (pv 8) pa_nil))) (pe_tup (pa_cons pe_str (pa_cons pe_str pa_nil))) (nomark _)))))
      (pss_one (ps_ret pe_bl)) pss_nil)))
      (pss_cons (ps_for PassesOwn.never rfl (any_pi (K := K) rfl (pe_slice (sl_k (K := K) rfl) (pv 3) po_none (po_some pe_int))) (pg_name (i := 5) sc_law.nd rfl (Or.inl rfl))
      (pss_one (ps_for PassesOwn.never rfl (any_pi (K := K) rfl (pe_slice (sl_k (K := K) rfl) (pv 3) (po_some (pe_un un_neg pe_int)) po_none)) (pg_name (i := 10) sc_law.nd rfl (Or.inl rfl))
      (pss_one (ps_if (pt_cmpR (ne_k (K := K) rfl hr.units) (pe_call (ok_said T) hr (by rfl) T.g_said T.F_said.kp T.b_said .nil pass0 (pa_cons (pe_glob (v := .ref T.f_both) (by rfl) T.g_both rfl) (pa_cons (pe_lst (pa_cons (pv 5) (pa_cons (pv 10) pa_nil))) pa_nil))) (pe_call (ok_due T) (hr.mono (by decide)) (by rfl) T.g_due T.F_due.kp T.b_due .nil pass0 (pa_cons (pe_lst (pa_cons (pv 5) (pa_cons (pv 10) pa_nil))) pa_nil)) (nomark _))
      (pss_one (ps_ret pe_bl)) pss_nil)))))
      (pss_one (ps_ret (pe_cmpR (eq_k (K := K) rfl hr.units) (pe_call (ok_said T) hr (by rfl) T.g_said T.F_said.kp T.b_said .nil pass0 (pa_cons (pe_glob (v := .ref T.f_p_made_one) (by rfl) T.g_p_made_one rfl) (pa_cons (pe_callTy (tuple_k (K := K) rfl) (by rfl) T.z_tuple (by decide +kernel) (pa_cons (pv 3) pa_nil)) pa_nil))) (pe_call (ok_due T) (hr.mono (by decide)) (by rfl) T.g_due T.F_due.kp T.b_due .nil pass0 (pa_cons (pv 3) pa_nil)) (nomark _)))))))))), ?_⟩
    have hlen : (ns.map V.int).length = ns.length := List.length_map _
    tm_at "rv"
    refine use_box hS (by decide) fun b0 H1 s1 n1 b1 => ?_
    tm_at "rv"
    refine use_pool b1 (by decide) (by decide) fun l H2 zs c2 b2 nl hL hzl hns => ?_
    have hlb := strs_ne b2 hL
    have s02 : Sm H H2 := Chg.sm s1 n1 c2
    tm_at "rv"
    rename_i S nS
    have sS := sm_upd (o := .lst []) nS
    have eS0 := upd_same (H := H2) (a := S) (o := .lst [])
    generalize upd H2 S (.lst []) = H3 at sS eS0 ⊢
    have hS3 := (s02.trans sS).seq hS
    refine r_R2 ?_
    tm_at "rv"
    rename_i mn _ _ _ mx _ _ _
    refine r_rng2 (by decide) (by decide) (by omega) (by omega) ?_
    refine for_range (lo := 1) (n := (mx - 1).toNat) (fun i σ H' => (∃ x4 x5 x6 x7 x8 x9 x10, σ = [some (.ref a), some (.ref b0), some (.ref l), some (.ref S), x4, x5, x6, x7, x8, x9, x10]) ∧ (∃ vs ws, H' S = some (.lst vs) ∧ SaysW T.C_Saying H' vs ws ∧ Gw ws ∧ ws.length = i) ∧ Sm H2 H') ⟨⟨_, _, _, _, _, _, _, rfl⟩, ⟨[], [], eS0, trivial, fun p hp => (by cases hp), rfl⟩, sS⟩ ?_ ?_
    · rintro i σ Hi hi ⟨⟨x4, x5, x6, x7, x8, x9, x10, rfl⟩, ⟨vs, ws, eS, hW, hg, hl⟩, si⟩
      have hwl := hW.len
      tm_at "rv"
      refine use_box ((s02.trans si).seq hS) (by omega) fun b H4 s4 n4 b4 => ?_
      have hL4 := (si.trans s4).to _ _ hL
      have hlb4 := strs_ne b4 hL4
      tm_at "rv"
      rename_i p5 n5
      have s5 := sm_upd (o := .lst [V.str (Str.ofString "same"), V.str (Str.ofString "same"), V.str (Str.ofString "same"), V.str (Str.ofString "under")]) n5
      have e5 := upd_same (H := H4) (a := p5) (o := .lst [V.str (Str.ofString "same"), V.str (Str.ofString "same"), V.str (Str.ofString "same"), V.str (Str.ofString "under")])
      generalize upd H4 p5 (.lst [V.str (Str.ofString "same"), V.str (Str.ofString "same"), V.str (Str.ofString "same"), V.str (Str.ofString "under")]) = H5 at s5 e5 ⊢
      have b5 := b4.sm s5
      have hpb : p5 ≠ b := (ne_fr' b4 n5)
      refine use_take b5 (by decide) (cdiv_s (by decide) (by decide)) fun d6 H6 c6 b6 l6 u6 => ?_
      refine r_ixLz (ns := [Str.ofString "same", Str.ofString "same", Str.ofString "same", Str.ofString "under"]) (SqL.of (c6.to _ _ hpb e5)) (by rfl) l6 u6 fun word hw => ?_
      have hword : word = Str.ofString "same" ∨ word = Str.ofString "under" := by
        simp only [List.mem_cons, List.not_mem_nil, or_false] at hw
        rcases hw with h | h | h | h <;> simp [h]
      have hL6 := c6.to _ _ hlb4 (s5.to _ _ hL4)
      tm_at "rv"
      refine use_term (n := 3) b6 hL6 (by omega) hns (by decide) (by decide) fun va H7 ta c7 b7 hta oka da => ?_
      tm_at "rv"
      refine use_term (n := 3) b7 (c7.to _ _ hlb4 hL6) (by omega) hns (by decide) (by decide) fun vb H8 tb c8 b8 htb okb db => ?_
      tm_at "rv"
      intro m dm nm ndm _
      refine say_use nm ndm hword (hta.tk (Chg.tk b7 c8)) htb fun H9 s9 hM => ?_
      have si9 : Sm Hi H9 := Chg.sm s4 n4 ((s5.chg.trans (c6.trans (c7.trans c8))).trans s9.chg)
      have eS9 := si9.to _ _ eS
      have c10 : Chg S H9 (upd H9 S (.lst (vs ++ [V.ref m]))) := chg_upd
      tm_at "rv"
      refine r_app eS9 (len_lt (by omega)) ?_
      tm_at "rv"
      refine ⟨⟨_, _, _, _, _, _, _, rfl⟩, ⟨_, ws ++ [(word, ta, tb)], upd_same, SaysW.chgL eS9 c10 ((SaysW.sm si9 hW).snoc ⟨m, rfl, hM⟩), ?_, by rw [List.length_append, hl]; rfl⟩, Chg.sm (si.trans si9) nS c10⟩
      intro p hp
      rcases List.mem_append.mp hp with hp | hp
      · exact hg p hp
      · rw [List.mem_singleton.mp hp]
        exact hword
    rintro σ H4 ⟨⟨x4, x5, x6, x7, x8, x9, x10, rfl⟩, ⟨vs, ws, eS, hW, hg, hl⟩, s4⟩
    have hwl := hW.len
    tm_at "rv"
    have hl10 : ws.length ≤ 10 := by omega
    refine r_iL ?_
    tm_at "rv"
    refine r_aL (SqL.of eS) ?_
    intro D nD
    refine lc_list (K := K) (a := S) (xs := vs) (fun i H' => ∃ gs wg, H' D = some (.lst gs) ∧ SaysW T.C_Saying H' gs wg ∧ (∀ p ∈ wg, p.1 = Str.ofString "same") ∧ wg.length ≤ i ∧ Sm H4 H') ⟨[], [], upd_same, trivial, fun p hp => (by cases hp), Nat.le_refl 0, sm_upd nD⟩ (fun i H' _ h => by
      obtain ⟨_, _, _, _, _, _, s⟩ := h
      exact SqL.of (s.to _ _ eS)) ?_ ?_
    · rintro i x H5 hx ⟨gs, wg, hD, hG, hgs, hgl, s5⟩
      have hi := (List.getElem?_eq_some_iff.mp hx).1
      have hgl2 := hG.len
      obtain ⟨p, hp, q, rfl, hq⟩ := All2.get hW hx
      have hq := hq.sm s5
      obtain ⟨dx, y1, y2, e1, _⟩ := id hq
      tm_at "rv"
      refine r_fldO e1 T.cl_Saying T.n_Saying_word (get_word _ _ _) ?_
      tm_at "rv"
      refine ite_d (fun e => ?_) (fun e => ?_)
      · tm_at "rv"
        have c6 : Chg D H5 (upd H5 D (.lst (gs ++ [V.ref q]))) := chg_upd
        refine r_acc hD (len_lt (by omega)) ⟨_, wg ++ [p], upd_same, SaysW.chgL hD c6 (hG.snoc ⟨q, rfl, hq⟩), ?_, by rw [List.length_append]; show wg.length + 1 ≤ i + 1; omega, sm_acc s5 nD⟩
        intro r hr
        rcases List.mem_append.mp hr with hr | hr
        · exact hgs r hr
        · rw [List.mem_singleton.mp hr]
          exact e
      · exact ⟨gs, wg, hD, hG, hgs, by omega, s5⟩
    rintro H5 ⟨gs, wg, hD, hG, hgs, hgl, s5⟩
    have hgnone : fstU wg = none := fstU_none hgs
    have hW5 := SaysW.sm s5 hW
    have eS5 := s5.to _ _ eS
    tm_at "rv"
    refine for_range (lo := 0) (n := ((vs.length : Int) + 1).toNat) (fun i σ H' => (∃ x4 x5 x6 x7 x9 x10, σ = [some (.ref a), some (.ref b0), some (.ref l), some (.ref S), x4, x5, x6, x7, some (.ref D), x9, x10]) ∧ Sm H5 H') ⟨⟨_, _, _, _, _, _, rfl⟩, Sm.refl _⟩ ?_ ?_
    · rintro i σ H6 hi ⟨⟨x4, x5, x6, x7, x9, x10, rfl⟩, s6⟩
      have eS6 := s6.to _ _ eS5
      have hW6 := SaysW.sm s6 hW5
      have hD6 := s6.to _ _ hD
      obtain ⟨zs1, hz1, hm1, hz1l⟩ := hW6.cut (some (0 + (i : Int))) none
      tm_at "rv"
      refine r_slL (SqL.of eS6) fun p7 n7 => ?_
      have s7 := sm_upd (o := .lst (cutV vs (some (0 + (i : Int))) none)) n7
      have e7 := upd_same (H := H6) (a := p7) (o := .lst (cutV vs (some (0 + (i : Int))) none))
      generalize upd H6 p7 (.lst (cutV vs (some (0 + (i : Int))) none)) = H7 at s7 e7 ⊢
      tm_at "rv"
      refine use_said (ws := zs1) (.inl ⟨rfl, .inl (SqL.of e7)⟩) (SaysW.sm s7 hz1) (by omega) fun q1 H8 s8 f1 => ?_
      tm_at "rv"
      refine r_slL (SqL.of (s8.to _ _ (s7.to _ _ eS6))) fun p9 n9 => ?_
      have s9 := sm_upd (o := .lst (cutV vs (some (0 + (i : Int))) none)) n9
      have e9 := upd_same (H := H8) (a := p9) (o := .lst (cutV vs (some (0 + (i : Int))) none))
      generalize upd H8 p9 (.lst (cutV vs (some (0 + (i : Int))) none)) = H9 at s9 e9 ⊢
      have s79 := (s7.trans s8).trans s9
      tm_at "rv"
      refine use_due (ws := zs1) (SqL.of e9) (SaysW.sm s79 hz1) (hg.of hm1) fun q2 H10 s10 f2 => ?_
      refine r_neDue (s10.to _ _ (s9.to _ _ f1)) f2 ?_
      tm_at "rv"
      have s610 := s79.trans s10
      refine use_said (ws := wg) (.inl ⟨rfl, .inl (SqL.of (s610.to _ _ hD6))⟩) (SaysW.sm (s6.trans s610) hG) (by omega) fun q3 H11 s11 f3 => ?_
      rw [hgnone] at f3
      tm_at "rv"
      rename_i q4 n4
      have s12 := sm_upd (o := .tup [V.str (Str.ofString "told"), V.str (Str.ofString "same")]) n4
      refine r_neDue (o := none) (s12.to _ _ f3) upd_same ?_
      tm_at "rv"
      exact ⟨⟨_, _, _, _, _, _, rfl⟩, ((s6.trans s610).trans s11).trans s12⟩
    rintro σ H6 ⟨⟨x4, x5, x6, x7, x9, x10, rfl⟩, s6⟩
    have eS6 := s6.to _ _ eS5
    have hW6 := SaysW.sm s6 hW5
    obtain ⟨zs1, hz1, hm1, hz1l⟩ := hW6.cut none (some 4)
    tm_at "rv"
    refine r_iL ?_
    tm_at "rv"
    refine r_slL (SqL.of eS6) fun p7 n7 => ?_
    have s7 := sm_upd (o := .lst (cutV vs none (some 4))) n7
    have e7 := upd_same (H := H6) (a := p7) (o := .lst (cutV vs none (some 4)))
    generalize upd H6 p7 (.lst (cutV vs none (some 4))) = H7 at s7 e7 ⊢
    have hz1 := SaysW.sm s7 hz1
    refine r_aL (SqL.of e7) ?_
    refine for_list (K := K) (a := p7) (xs := cutV vs none (some 4)) (fun i σ H' => (∃ x4 x5 x6 x7 x9 x10, σ = [some (.ref a), some (.ref b0), some (.ref l), some (.ref S), x4, x5, x6, x7, some (.ref D), x9, x10]) ∧ Sm H7 H') ⟨⟨_, _, _, _, _, _, rfl⟩, Sm.refl _⟩ (fun i σ H' _ h => h.2.seq (SqL.of e7)) ?_ ?_
    · rintro i x σ H8 hx ⟨⟨x4, x5, x6, x7, x9, x10, rfl⟩, s8⟩
      obtain ⟨p, hp, q, rfl, hq⟩ := All2.get hz1 hx
      have hq := hq.sm s8
      have eS8 := s8.to _ _ (s7.to _ _ eS6)
      have hW8 := SaysW.sm (s7.trans s8) hW6
      obtain ⟨zs2, hz2, hm2, hz2l⟩ := hW8.cut (some (-4)) none
      tm_at "rv"
      refine r_iL ?_
      tm_at "rv"
      refine r_slL (SqL.of eS8) fun p9 n9 => ?_
      have s9 := sm_upd (o := .lst (cutV vs (some (-4)) none)) n9
      have e9 := upd_same (H := H8) (a := p9) (o := .lst (cutV vs (some (-4)) none))
      generalize upd H8 p9 (.lst (cutV vs (some (-4)) none)) = H9 at s9 e9 ⊢
      have hz2 := SaysW.sm s9 hz2
      refine r_aL (SqL.of e9) ?_
      refine for_list (K := K) (a := p9) (xs := cutV vs (some (-4)) none) (fun i σ H' => (∃ x4 x6 x7 x9 x10, σ = [some (.ref a), some (.ref b0), some (.ref l), some (.ref S), x4, some (.ref q), x6, x7, some (.ref D), x9, x10]) ∧ Sm H9 H') ⟨⟨_, _, _, _, _, rfl⟩, Sm.refl _⟩ (fun i σ H' _ h => h.2.seq (SqL.of e9)) ?_ ?_
      · rintro j y σ H10 hy ⟨⟨x4, x6, x7, x9, x10, rfl⟩, s10⟩
        obtain ⟨p', hp', q', rfl, hq'⟩ := All2.get hz2 hy
        have hq' := hq'.sm s10
        have hq10 := hq.sm (s9.trans s10)
        have hgg : Gw [p, p'] := by
          intro r hr
          rcases List.mem_cons.mp hr with rfl | hr
          · exact hg _ (hm1 _ (List.mem_of_getElem? hp))
          · rw [List.mem_singleton.mp hr]
            exact hg _ (hm2 _ (List.mem_of_getElem? hp'))
        tm_at "rv"
        rename_i p11 n11
        have s11 := sm_upd (o := .lst [V.ref q, V.ref q']) n11
        have e11 := upd_same (H := H10) (a := p11) (o := .lst [V.ref q, V.ref q'])
        generalize upd H10 p11 (.lst [V.ref q, V.ref q']) = H11 at s11 e11 ⊢
        have hpair : SaysW T.C_Saying H11 [V.ref q, V.ref q'] [p, p'] := ⟨⟨q, rfl, hq10.sm s11⟩, ⟨q', rfl, hq'.sm s11⟩, trivial⟩
        refine use_said (ws := [p, p']) (.inr ⟨rfl, SqL.of e11, rfl⟩) hpair (by show 2 ≤ 999; decide) fun q1 H12 s12 f1 => ?_
        tm_at "rv"
        rename_i p13 n13
        have s13 := sm_upd (o := .lst [V.ref q, V.ref q']) n13
        have e13 := upd_same (H := H12) (a := p13) (o := .lst [V.ref q, V.ref q'])
        generalize upd H12 p13 (.lst [V.ref q, V.ref q']) = H13 at s13 e13 ⊢
        refine use_due (ws := [p, p']) (SqL.of e13) (SaysW.sm (s12.trans s13) hpair) hgg fun q2 H14 s14 f2 => ?_
        refine r_neDue (s14.to _ _ (s13.to _ _ f1)) f2 ?_
        tm_at "rv"
        exact ⟨⟨_, _, _, _, _, rfl⟩, (((s10.trans s11).trans s12).trans s13).trans s14⟩
      · rintro σ H10 ⟨⟨x4, x6, x7, x9, x10, rfl⟩, s10⟩
        exact ⟨⟨_, _, _, _, _, _, rfl⟩, (s8.trans s9).trans s10⟩
    rintro σ H8 ⟨⟨x4, x5, x6, x7, x9, x10, rfl⟩, s8⟩
    have eS8 := s8.to _ _ (s7.to _ _ eS6)
    have hW8 := SaysW.sm (s7.trans s8) hW6
    tm_at "rv"
    refine r_tupleL (SqL.of eS8) fun q5 m5 => ?_
    have s9 := sm_upd (o := .tup vs) m5
    have e9 := upd_same (H := H8) (a := q5) (o := .tup vs)
    generalize upd H8 q5 (.tup vs) = H9 at s9 e9 ⊢
    tm_at "rv"
    refine use_said (ws := ws) (.inl ⟨rfl, .inr (SqT.of e9)⟩) (SaysW.sm s9 hW8) (by omega) fun q1 H10 s10 f1 => ?_
    tm_at "rv"
    refine use_due (ws := ws) (SqL.of (s10.to _ _ (s9.to _ _ eS8))) (SaysW.sm (s9.trans s10) hW8) hg fun q2 H11 s11 f2 => ?_
    refine r_eqDue (s11.to _ _ f1) f2 ?_
    tm_at "rv"
    exact k _
end
theorem all_mk {l : PySem.W.OpenLaw} {w : World} {K : PySem.W.Frag} {h : Heap} {mg : Str → Option Value} {fa : Addr} (X : K.In h) (G : h.Ns mainGlobals mg) (hfa : mg "law" = some (.ref fa))
    {C_Saying : Addr}
    {C_NoAnswer : Addr}
    {C_NoBegin : Addr}
    {C_NoHeld : Addr}
    {C_NoNumber : Addr}
    {C_NoOne : Addr}
    {C_NoProgram : Addr}
    {C_NoRow : Addr}
    {C_NoText : Addr}
    {C_NoWord : Addr}
    {C_TooGreat : Addr}
    {C_Unknown : Addr}
    {C_Wrong : Addr}
    {f0 : Addr}
    {od0 an0 : Option Addr}
    {sl0 : Array (Option Value)}
    {oc0 kV0 dc0 pm0 cd0 ct0 : Value}
    {f1 : Addr}
    {od1 an1 : Option Addr}
    {sl1 : Array (Option Value)}
    {oc1 kV1 dc1 pm1 cd1 ct1 : Value}
    {f2 : Addr}
    {od2 an2 : Option Addr}
    {sl2 : Array (Option Value)}
    {oc2 kV2 dc2 pm2 cd2 ct2 : Value}
    {f3 : Addr}
    {od3 an3 : Option Addr}
    {sl3 : Array (Option Value)}
    {oc3 kV3 dc3 pm3 cd3 ct3 : Value}
    {f4 : Addr}
    {od4 an4 : Option Addr}
    {sl4 : Array (Option Value)}
    {oc4 kV4 dc4 pm4 cd4 ct4 : Value}
    {f5 : Addr}
    {od5 an5 : Option Addr}
    {sl5 : Array (Option Value)}
    {oc5 kV5 dc5 pm5 cd5 ct5 : Value}
    {f6 : Addr}
    {od6 an6 : Option Addr}
    {sl6 : Array (Option Value)}
    {oc6 kV6 dc6 pm6 cd6 ct6 : Value}
    {f7 : Addr}
    {od7 an7 : Option Addr}
    {sl7 : Array (Option Value)}
    {oc7 kV7 dc7 pm7 cd7 ct7 : Value}
    {f8 : Addr}
    {od8 an8 : Option Addr}
    {sl8 : Array (Option Value)}
    {oc8 kV8 dc8 pm8 cd8 ct8 : Value}
    {f9 : Addr}
    {od9 an9 : Option Addr}
    {sl9 : Array (Option Value)}
    {oc9 kV9 dc9 pm9 cd9 ct9 : Value}
    {f10 : Addr}
    {od10 an10 : Option Addr}
    {sl10 : Array (Option Value)}
    {oc10 kV10 dc10 pm10 cd10 ct10 : Value}
    {f11 : Addr}
    {od11 an11 : Option Addr}
    {sl11 : Array (Option Value)}
    {oc11 kV11 dc11 pm11 cd11 ct11 : Value}
    {f12 : Addr}
    {od12 an12 : Option Addr}
    {sl12 : Array (Option Value)}
    {oc12 kV12 dc12 pm12 cd12 ct12 : Value}
    {f13 : Addr}
    {od13 an13 : Option Addr}
    {sl13 : Array (Option Value)}
    {oc13 kV13 dc13 pm13 cd13 ct13 : Value}
    {f14 : Addr}
    {od14 an14 : Option Addr}
    {sl14 : Array (Option Value)}
    {oc14 kV14 dc14 pm14 cd14 ct14 : Value}
    {f15 : Addr}
    {od15 an15 : Option Addr}
    {sl15 : Array (Option Value)}
    {oc15 kV15 dc15 pm15 cd15 ct15 : Value}
    {f16 : Addr}
    {od16 an16 : Option Addr}
    {sl16 : Array (Option Value)}
    {oc16 kV16 dc16 pm16 cd16 ct16 : Value}
    {f17 : Addr}
    {od17 an17 : Option Addr}
    {sl17 : Array (Option Value)}
    {oc17 kV17 dc17 pm17 cd17 ct17 : Value}
    {nm_NoOne q_NoOne : Str}
    {N_NoOne : Addr}
    {bs_NoOne : List Value}
    {sn_NoOne : List Str}
    {su_NoOne : List Value}
    {ab_NoOne : Bool}
    {co_NoOne : Option Bool}
    {dd_NoOne : Option Addr}
    {m0_NoOne m1_NoOne m2_NoOne m3_NoOne m5_NoOne : Option Value}
    {w_MARKS : Addr}
    {we_MARKS : Array DictEntry}
    {wn_MARKS : Nat}
    {wv_MARKS_0 : Value}
    {wv_MARKS_1 : Value}
    (aC_Saying : PySem.W.nsIn K mainGlobals "Saying" = some (some (.ref C_Saying)))
    (aC_NoAnswer : PySem.W.nsIn K mainGlobals "NoAnswer" = some (some (.ref C_NoAnswer)))
    (aC_NoBegin : PySem.W.nsIn K mainGlobals "NoBegin" = some (some (.ref C_NoBegin)))
    (aC_NoHeld : PySem.W.nsIn K mainGlobals "NoHeld" = some (some (.ref C_NoHeld)))
    (aC_NoNumber : PySem.W.nsIn K mainGlobals "NoNumber" = some (some (.ref C_NoNumber)))
    (aC_NoOne : PySem.W.nsIn K mainGlobals "NoOne" = some (some (.ref C_NoOne)))
    (aC_NoProgram : PySem.W.nsIn K mainGlobals "NoProgram" = some (some (.ref C_NoProgram)))
    (aC_NoRow : PySem.W.nsIn K mainGlobals "NoRow" = some (some (.ref C_NoRow)))
    (aC_NoText : PySem.W.nsIn K mainGlobals "NoText" = some (some (.ref C_NoText)))
    (aC_NoWord : PySem.W.nsIn K mainGlobals "NoWord" = some (some (.ref C_NoWord)))
    (aC_TooGreat : PySem.W.nsIn K mainGlobals "TooGreat" = some (some (.ref C_TooGreat)))
    (aC_Unknown : PySem.W.nsIn K mainGlobals "Unknown" = some (some (.ref C_Unknown)))
    (aC_Wrong : PySem.W.nsIn K mainGlobals "Wrong" = some (some (.ref C_Wrong)))
    (a0 : PySem.W.nsIn K mainGlobals "_law_box" = some (some (.ref f0)))
    (l0 : K.lookup f0 = some ⟨oc0, od0, .func (PySem.W.fnOf "_law_box" "_law_box" (defArgs s_box) (defBody s_box) (defScope s_box) .none kV0 dc0 pm0 an0 cd0 ct0), sl0⟩)
    (c0 : PySem.W.codeIn K cd0 "_law_box" = true)
    (k0 : PySem.W.keepIn K (.ref f0) = true)
    (a1 : PySem.W.nsIn K mainGlobals "_law_take" = some (some (.ref f1)))
    (l1 : K.lookup f1 = some ⟨oc1, od1, .func (PySem.W.fnOf "_law_take" "_law_take" (defArgs s_take) (defBody s_take) (defScope s_take) .none kV1 dc1 pm1 an1 cd1 ct1), sl1⟩)
    (c1 : PySem.W.codeIn K cd1 "_law_take" = true)
    (k1 : PySem.W.keepIn K (.ref f1) = true)
    (a2 : PySem.W.nsIn K mainGlobals "_law_pool" = some (some (.ref f2)))
    (l2 : K.lookup f2 = some ⟨oc2, od2, .func (PySem.W.fnOf "_law_pool" "_law_pool" (defArgs s_pool) (defBody s_pool) (defScope s_pool) .none kV2 dc2 pm2 an2 cd2 ct2), sl2⟩)
    (c2 : PySem.W.codeIn K cd2 "_law_pool" = true)
    (k2 : PySem.W.keepIn K (.ref f2) = true)
    (a3 : PySem.W.findIn K (.ref C_Saying) "__init__" = some (some (.ref f3)))
    (i3 : PySem.W.isFn K (.ref f3) = true)
    (l3 : K.lookup f3 = some ⟨oc3, od3, .func (PySem.W.fnOf "__init__" "Saying.__init__" (defArgs s_Saying_init) (defBody s_Saying_init) (defScope s_Saying_init) .none kV3 dc3 pm3 an3 cd3 ct3), sl3⟩)
    (c3 : PySem.W.codeIn K cd3 "Saying.__init__" = true)
    (k3 : PySem.W.keepIn K (.ref f3) = true)
    (a4 : PySem.W.findIn K (.ref C_NoOne) "__init__" = some (some (.ref f4)))
    (i4 : PySem.W.isFn K (.ref f4) = true)
    (l4 : K.lookup f4 = some ⟨oc4, od4, .func (PySem.W.fnOf "__init__" "NoOne.__init__" (defArgs s_NoOne_init) (defBody s_NoOne_init) (defScope s_NoOne_init) .none kV4 dc4 pm4 an4 cd4 ct4), sl4⟩)
    (c4 : PySem.W.codeIn K cd4 "NoOne.__init__" = true)
    (k4 : PySem.W.keepIn K (.ref f4) = true)
    (a5 : PySem.W.nsIn K mainGlobals "_check_words" = some (some (.ref f5)))
    (l5 : K.lookup f5 = some ⟨oc5, od5, .func (PySem.W.fnOf "_check_words" "_check_words" (defArgs s_p_check_words) (defBody s_p_check_words) (defScope s_p_check_words) .none kV5 dc5 pm5 an5 cd5 ct5), sl5⟩)
    (c5 : PySem.W.codeIn K cd5 "_check_words" = true)
    (k5 : PySem.W.keepIn K (.ref f5) = true)
    (a6 : PySem.W.nsIn K mainGlobals "same" = some (some (.ref f6)))
    (l6 : K.lookup f6 = some ⟨oc6, od6, .func (PySem.W.fnOf "same" "same" (defArgs s_p_same) (defBody s_p_same) (defScope s_p_same) .none kV6 dc6 pm6 an6 cd6 ct6), sl6⟩)
    (c6 : PySem.W.codeIn K cd6 "same" = true)
    (k6 : PySem.W.keepIn K (.ref f6) = true)
    (a7 : PySem.W.nsIn K mainGlobals "plus" = some (some (.ref f7)))
    (l7 : K.lookup f7 = some ⟨oc7, od7, .func (PySem.W.fnOf "plus" "plus" (defArgs s_p_plus) (defBody s_p_plus) (defScope s_p_plus) .none kV7 dc7 pm7 an7 cd7 ct7), sl7⟩)
    (c7 : PySem.W.codeIn K cd7 "plus" = true)
    (k7 : PySem.W.keepIn K (.ref f7) = true)
    (a8 : PySem.W.nsIn K mainGlobals "times" = some (some (.ref f8)))
    (l8 : K.lookup f8 = some ⟨oc8, od8, .func (PySem.W.fnOf "times" "times" (defArgs s_p_times) (defBody s_p_times) (defScope s_p_times) .none kV8 dc8 pm8 an8 cd8 ct8), sl8⟩)
    (c8 : PySem.W.codeIn K cd8 "times" = true)
    (k8 : PySem.W.keepIn K (.ref f8) = true)
    (a9 : PySem.W.nsIn K mainGlobals "sum_of" = some (some (.ref f9)))
    (l9 : K.lookup f9 = some ⟨oc9, od9, .func (PySem.W.fnOf "sum_of" "sum_of" (defArgs s_p_sum_of) (defBody s_p_sum_of) (defScope s_p_sum_of) .none kV9 dc9 pm9 an9 cd9 ct9), sl9⟩)
    (c9 : PySem.W.codeIn K cd9 "sum_of" = true)
    (k9 : PySem.W.keepIn K (.ref f9) = true)
    (a10 : PySem.W.nsIn K mainGlobals "num" = some (some (.ref f10)))
    (l10 : K.lookup f10 = some ⟨oc10, od10, .func (PySem.W.fnOf "num" "num" (defArgs s_p_num) (defBody s_p_num) (defScope s_p_num) .none kV10 dc10 pm10 an10 cd10 ct10), sl10⟩)
    (c10 : PySem.W.codeIn K cd10 "num" = true)
    (k10 : PySem.W.keepIn K (.ref f10) = true)
    (a11 : PySem.W.nsIn K mainGlobals "made_one" = some (some (.ref f11)))
    (l11 : K.lookup f11 = some ⟨oc11, od11, .func (PySem.W.fnOf "made_one" "made_one" (defArgs s_p_made_one) (defBody s_p_made_one) (defScope s_p_made_one) .none kV11 dc11 pm11 an11 cd11 ct11), sl11⟩)
    (c11 : PySem.W.codeIn K cd11 "made_one" = true)
    (k11 : PySem.W.keepIn K (.ref f11) = true)
    (a12 : PySem.W.nsIn K mainGlobals "either" = some (some (.ref f12)))
    (l12 : K.lookup f12 = some ⟨oc12, od12, .func (PySem.W.fnOf "either" "either" (defArgs s_p_either) (defBody s_p_either) (defScope s_p_either) .none kV12 dc12 pm12 an12 cd12 ct12), sl12⟩)
    (c12 : PySem.W.codeIn K cd12 "either" = true)
    (k12 : PySem.W.keepIn K (.ref f12) = true)
    (a13 : PySem.W.nsIn K mainGlobals "_law_both" = some (some (.ref f13)))
    (l13 : K.lookup f13 = some ⟨oc13, od13, .func (PySem.W.fnOf "_law_both" "_law_both" (defArgs s_both) (defBody s_both) (defScope s_both) .none kV13 dc13 pm13 an13 cd13 ct13), sl13⟩)
    (c13 : PySem.W.codeIn K cd13 "_law_both" = true)
    (k13 : PySem.W.keepIn K (.ref f13) = true)
    (a14 : PySem.W.nsIn K mainGlobals "_law_said" = some (some (.ref f14)))
    (l14 : K.lookup f14 = some ⟨oc14, od14, .func (PySem.W.fnOf "_law_said" "_law_said" (defArgs s_said) (defBody s_said) (defScope s_said) .none kV14 dc14 pm14 an14 cd14 ct14), sl14⟩)
    (c14 : PySem.W.codeIn K cd14 "_law_said" = true)
    (k14 : PySem.W.keepIn K (.ref f14) = true)
    (a15 : PySem.W.nsIn K mainGlobals "_law_due" = some (some (.ref f15)))
    (l15 : K.lookup f15 = some ⟨oc15, od15, .func (PySem.W.fnOf "_law_due" "_law_due" (defArgs s_due) (defBody s_due) (defScope s_due) .none kV15 dc15 pm15 an15 cd15 ct15), sl15⟩)
    (c15 : PySem.W.codeIn K cd15 "_law_due" = true)
    (k15 : PySem.W.keepIn K (.ref f15) = true)
    (a16 : PySem.W.nsIn K mainGlobals "_law_term" = some (some (.ref f16)))
    (l16 : K.lookup f16 = some ⟨oc16, od16, .func (PySem.W.fnOf "_law_term" "_law_term" (defArgs s_term) (defBody s_term) (defScope s_term) .none kV16 dc16 pm16 an16 cd16 ct16), sl16⟩)
    (c16 : PySem.W.codeIn K cd16 "_law_term" = true)
    (k16 : PySem.W.keepIn K (.ref f16) = true)
    (a17 : PySem.W.nsIn K mainGlobals "law" = some (some (.ref f17)))
    (l17 : K.lookup f17 = some ⟨oc17, od17, .func (PySem.W.fnOf "law" "law" (defArgs s_law) (defBody s_law) (defScope s_law) .none kV17 dc17 pm17 an17 cd17 ct17), sl17⟩)
    (c17 : PySem.W.codeIn K cd17 "law" = true)
    (k17 : PySem.W.keepIn K (.ref f17) = true)
    (pg_Saying : PySem.W.plainGet K C_Saying Str.empty = true)
    (hd_Saying : PySem.W.hasDictIn K C_Saying = true)
    (po_Saying : PySem.W.plainOver K C_Saying = true)
    (sa_Saying : PySem.W.findIn K (.ref C_Saying) "__setattr__" = some (some (.builtin "object.__setattr__")))
    (kc_Saying : PySem.W.keepIn K (.ref C_Saying) = true)
    (nword_Saying : PySem.W.findIn K (.ref C_Saying) "word" = some none)
    (nleft_Saying : PySem.W.findIn K (.ref C_Saying) "left" = some none)
    (nright_Saying : PySem.W.findIn K (.ref C_Saying) "right" = some none)
    (mk_Saying : PySem.W.makesIn K C_Saying = true)
    (xL_NoOne : K.lookup C_NoOne = some (excClassObj nm_NoOne q_NoOne C_NoOne N_NoOne bs_NoOne [.type "ValueError", .type "Exception", .type "BaseException", .type "object"] true sn_NoOne su_NoOne ab_NoOne co_NoOne dd_NoOne m0_NoOne m1_NoOne m2_NoOne m3_NoOne m5_NoOne "ValueError.__new__"))
    (sa_NoOne : PySem.W.findIn K (.ref C_NoOne) "__setattr__" = some (some (.builtin "object.__setattr__")))
    (eC_NoOne : PySem.W.subIn K (.ref C_NoOne) (.type "BaseException") = some true)
    (tC_NoOne : PySem.W.typeIn K (.ref C_NoOne) = some (.type "type"))
    (kC_NoOne : PySem.W.keepIn K (.ref C_NoOne) = true)
    (ga_NoOne : PySem.W.findIn K (.ref C_NoOne) "__getattribute__" = some (some (.builtin "BaseException.__getattribute__")))
    (gg_NoOne : PySem.W.findIn K (.ref C_NoOne) "__getattr__" = some none)
    (hC_NoOne : PySem.W.hasDictIn K C_NoOne = true)
    (noat_NoOne : PySem.W.findIn K (.ref C_NoOne) "at" = some none)
    (iC_NoOne : PySem.W.isClsIn K C_NoOne = true)
    (sC_NoOne : PySem.W.subIn K (.ref C_NoOne) (.ref C_NoOne) = some true)
    (ca_NoOne : PySem.W.findIn K (.ref C_NoOne) "__class__" = some (some (.builtin "object.__class__")))
    (cn_NoOne : PySem.W.specialIn K (.builtin "object.__class__") "__get__" = some (some (.builtin "getset_descriptor.__get__")))
    (cb_NoOne : PySem.W.takesIn K (.builtin "object.__class__") = some true)
    (cm_NoOne : PySem.W.mroIn K C_NoOne (.type "object") = some true)
    (kx_NoAnswer_NoOne : PySem.W.kitOne K (.ref C_NoOne) (.ref C_NoAnswer) = some false)
    (kx_NoBegin_NoOne : PySem.W.kitOne K (.ref C_NoOne) (.ref C_NoBegin) = some false)
    (kx_NoHeld_NoOne : PySem.W.kitOne K (.ref C_NoOne) (.ref C_NoHeld) = some false)
    (kx_NoNumber_NoOne : PySem.W.kitOne K (.ref C_NoOne) (.ref C_NoNumber) = some false)
    (kx_NoProgram_NoOne : PySem.W.kitOne K (.ref C_NoOne) (.ref C_NoProgram) = some false)
    (kx_NoRow_NoOne : PySem.W.kitOne K (.ref C_NoOne) (.ref C_NoRow) = some false)
    (kx_NoText_NoOne : PySem.W.kitOne K (.ref C_NoOne) (.ref C_NoText) = some false)
    (kx_NoWord_NoOne : PySem.W.kitOne K (.ref C_NoOne) (.ref C_NoWord) = some false)
    (kx_TooGreat_NoOne : PySem.W.kitOne K (.ref C_NoOne) (.ref C_TooGreat) = some false)
    (kx_Unknown_NoOne : PySem.W.kitOne K (.ref C_NoOne) (.ref C_Unknown) = some false)
    (kx_ValueError_NoOne : PySem.W.kitOne K (.ref C_NoOne) (.type "ValueError") = some true)
    (kx_Wrong_NoOne : PySem.W.kitOne K (.ref C_NoOne) (.ref C_Wrong) = some false)
    (wa_MARKS : PySem.W.nsIn K mainGlobals "MARKS" = some (some (.ref w_MARKS)))
    (wl_MARKS : K.lookup w_MARKS = some ⟨.type "dict", none, .dict we_MARKS wn_MARKS, #[]⟩)
    (wt_MARKS : PySem.W.KeysLit w.params we_MARKS.toList)
    (wo_MARKS : (w_MARKS == sysModules) = false)
    (wf_MARKS_0 : PySem.W.nsIn K w_MARKS (Str.ofString "same") = some (some wv_MARKS_0))
    (wr_MARKS_0 : RelV (V.str (Str.ofString "=")) wv_MARKS_0)
    (wf_MARKS_1 : PySem.W.nsIn K w_MARKS (Str.ofString "under") = some (some wv_MARKS_1))
    (wr_MARKS_1 : RelV (V.str (Str.ofString "under")) wv_MARKS_1)
    (z0 : PySem.W.nsIn K mainGlobals "ValueError" = some none)
    (z1 : PySem.W.nsIn K mainGlobals "bool" = some none)
    (z2 : PySem.W.nsIn K mainGlobals "enumerate" = some none)
    (z3 : PySem.W.nsIn K mainGlobals "int" = some none)
    (z4 : PySem.W.nsIn K mainGlobals "isinstance" = some none)
    (z5 : PySem.W.nsIn K mainGlobals "len" = some none)
    (z6 : PySem.W.nsIn K mainGlobals "max" = some none)
    (z7 : PySem.W.nsIn K mainGlobals "min" = some none)
    (z8 : PySem.W.nsIn K mainGlobals "range" = some none)
    (z9 : PySem.W.nsIn K mainGlobals "tuple" = some none)
    : ∃ fd : FuncData, (∀ (s : Shared) (v : Value), BindsTo s fd ⟨[v], []⟩ [("script", v)]) ∧ ∀ base : Heap, K.In base → base.Ns mainGlobals mg → FnOk l.prog w K mg base CX0 7 fa fd ["script"] (sp_law K) := by
  have e := hfa.symm.trans (PySem.W.mg_of X G a17)
  cases e
  have F0 := fun_mk (st := s_box) l0 c0 k0
  have b0 := F0.binds (ps := ["script", "k"]) fun _ _ _ _ _ _ us hl => match us, hl with | [_, _], _ => rfl
  have F1 := fun_mk (st := s_take) l1 c1 k1
  have b1 := F1.binds (ps := ["box", "wide"]) fun _ _ _ _ _ _ us hl => match us, hl with | [_, _], _ => rfl
  have F2 := fun_mk (st := s_pool) l2 c2 k2
  have b2 := F2.binds (ps := ["box", "many"]) fun _ _ _ _ _ _ us hl => match us, hl with | [_, _], _ => rfl
  have F3 := fun_mk (st := s_Saying_init) l3 c3 k3
  have b3 := F3.binds (ps := ["self", "word", "left", "right"]) fun _ _ _ _ _ _ us hl => match us, hl with | [_, _, _, _], _ => rfl
  have F4 := fun_mk (st := s_NoOne_init) l4 c4 k4
  have b4 := F4.binds (ps := ["self", "at"]) fun _ _ _ _ _ _ us hl => match us, hl with | [_, _], _ => rfl
  have F5 := fun_mk (st := s_p_check_words) l5 c5 k5
  have b5 := F5.binds (ps := ["sayings"]) fun _ _ _ _ _ _ us hl => match us, hl with | [_], _ => rfl
  have F6 := fun_mk (st := s_p_same) l6 c6 k6
  have b6 := F6.binds (ps := ["left", "right"]) fun _ _ _ _ _ _ us hl => match us, hl with | [_, _], _ => rfl
  have F7 := fun_mk (st := s_p_plus) l7 c7 k7
  have b7 := F7.binds (ps := ["left", "right"]) fun _ _ _ _ _ _ us hl => match us, hl with | [_, _], _ => rfl
  have F8 := fun_mk (st := s_p_times) l8 c8 k8
  have b8 := F8.binds (ps := ["left", "right"]) fun _ _ _ _ _ _ us hl => match us, hl with | [_, _], _ => rfl
  have F9 := fun_mk (st := s_p_sum_of) l9 c9 k9
  have b9 := F9.binds (ps := ["terms"]) fun _ _ _ _ _ _ us hl => match us, hl with | [_], _ => rfl
  have F10 := fun_mk (st := s_p_num) l10 c10 k10
  have b10 := F10.binds (ps := ["number"]) fun _ _ _ _ _ _ us hl => match us, hl with | [_], _ => rfl
  have F11 := fun_mk (st := s_p_made_one) l11 c11 k11
  have b11 := F11.binds (ps := ["sayings"]) fun _ _ _ _ _ _ us hl => match us, hl with | [_], _ => rfl
  have F12 := fun_mk (st := s_p_either) l12 c12 k12
  have b12 := F12.binds (ps := ["one", "other"]) fun _ _ _ _ _ _ us hl => match us, hl with | [_, _], _ => rfl
  have F13 := fun_mk (st := s_both) l13 c13 k13
  have b13 := F13.binds (ps := ["things"]) fun _ _ _ _ _ _ us hl => match us, hl with | [_], _ => rfl
  have F14 := fun_mk (st := s_said) l14 c14 k14
  have b14 := F14.binds (ps := ["call", "things"]) fun _ _ _ _ _ _ us hl => match us, hl with | [_, _], _ => rfl
  have F15 := fun_mk (st := s_due) l15 c15 k15
  have b15 := F15.binds (ps := ["some"]) fun _ _ _ _ _ _ us hl => match us, hl with | [_], _ => rfl
  have F16 := fun_mk (st := s_term) l16 c16 k16
  have b16 := F16.binds (ps := ["box", "pool", "down"]) fun _ _ _ _ _ _ us hl => match us, hl with | [_, _, _], _ => rfl
  have F17 := fun_mk (st := s_law) l17 c17 k17
  have b17 := F17.binds (ps := ["script"]) fun _ _ _ _ _ _ us hl => match us, hl with | [_], _ => rfl
  exact ⟨PySem.W.fnOf "law" "law" (defArgs s_law) (defBody s_law) (defScope s_law) .none kV17 dc17 pm17 an17 cd17 ct17, fun s v => .of_eq rfl, fun base _ _ => ok_law (⟨C_Saying, C_NoAnswer, C_NoBegin, C_NoHeld, C_NoNumber, C_NoOne, C_NoProgram, C_NoRow, C_NoText, C_NoWord, C_TooGreat, C_Unknown, C_Wrong, _, _, F0, PySem.W.mg_of X G a0, b0, _, _, F1, PySem.W.mg_of X G a1, b1, _, _, F2, PySem.W.mg_of X G a2, b2, _, _, F3, ⟨a3, i3, k3⟩, b3, _, _, F4, ⟨a4, i4, k4⟩, b4, _, _, F5, PySem.W.mg_of X G a5, b5, _, _, F6, PySem.W.mg_of X G a6, b6, _, _, F7, PySem.W.mg_of X G a7, b7, _, _, F8, PySem.W.mg_of X G a8, b8, _, _, F9, PySem.W.mg_of X G a9, b9, _, _, F10, PySem.W.mg_of X G a10, b10, _, _, F11, PySem.W.mg_of X G a11, b11, _, _, F12, PySem.W.mg_of X G a12, b12, _, _, F13, PySem.W.mg_of X G a13, b13, _, _, F14, PySem.W.mg_of X G a14, b14, _, _, F15, PySem.W.mg_of X G a15, b15, _, _, F16, PySem.W.mg_of X G a16, b16, _, _, F17, PySem.W.mg_of X G a17, b17, ⟨pg_Saying, hd_Saying, po_Saying, sa_Saying⟩, PySem.W.mg_of X G aC_Saying, nword_Saying, nleft_Saying, nright_Saying, ⟨mk_Saying, a3, i3, kc_Saying⟩, PySem.W.mg_of X G aC_NoAnswer, PySem.W.mg_of X G aC_NoBegin, PySem.W.mg_of X G aC_NoHeld, PySem.W.mg_of X G aC_NoNumber, PySem.W.mg_of X G aC_NoOne, ⟨⟨nm_NoOne, q_NoOne, N_NoOne, bs_NoOne, _, sn_NoOne, su_NoOne, ab_NoOne, co_NoOne, dd_NoOne, m0_NoOne, m1_NoOne, m2_NoOne, m3_NoOne, m5_NoOne, xL_NoOne, by decide +kernel⟩, sa_NoOne, eC_NoOne, tC_NoOne, kC_NoOne⟩, a4, beq_iff_eq.mp i4, noat_NoOne, ⟨ga_NoOne, gg_NoOne, eC_NoOne, hC_NoOne⟩, exm_self eC_NoOne iC_NoOne tC_NoOne sC_NoOne, ⟨ga_NoOne, gg_NoOne, eC_NoOne, hC_NoOne, ca_NoOne, cn_NoOne, cb_NoOne, cm_NoOne⟩, kx_NoAnswer_NoOne, kx_NoBegin_NoOne, kx_NoHeld_NoOne, kx_NoNumber_NoOne, kx_NoProgram_NoOne, kx_NoRow_NoOne, kx_NoText_NoOne, kx_NoWord_NoOne, kx_TooGreat_NoOne, kx_Unknown_NoOne, kx_ValueError_NoOne, kx_Wrong_NoOne, PySem.W.mg_of X G aC_NoProgram, PySem.W.mg_of X G aC_NoRow, PySem.W.mg_of X G aC_NoText, PySem.W.mg_of X G aC_NoWord, PySem.W.mg_of X G aC_TooGreat, PySem.W.mg_of X G aC_Unknown, PySem.W.mg_of X G aC_Wrong, w_MARKS, we_MARKS, wn_MARKS, ⟨wl_MARKS, wt_MARKS, wo_MARKS⟩, PySem.W.mg_of X G wa_MARKS, wv_MARKS_0, wf_MARKS_0, wr_MARKS_0, wv_MARKS_1, wf_MARKS_1, wr_MARKS_1, PySem.W.mg_none_of X G z0, PySem.W.mg_none_of X G z1, PySem.W.mg_none_of X G z2, PySem.W.mg_none_of X G z3, PySem.W.mg_none_of X G z4, PySem.W.mg_none_of X G z5, PySem.W.mg_none_of X G z6, PySem.W.mg_none_of X G z7, PySem.W.mg_none_of X G z8, PySem.W.mg_none_of X G z9⟩ : Txt K mg w)⟩
end K71
open PySem PySem.W PyProof.Rows
set_option maxRecDepth 100000 in
set_option maxHeartbeats 0 in
theorem PySem.Challenge.cw_runsums_k71_not_made_one_holds : PySem.Challenge.rw_runsums_k71_not_made_one.Holds := by
  w_on; o_law; k_head; (case hw => w_witness2)
  k_fill
  refine L2.walk_of (l := PySem.Challenge.rw_runsums_k71_not_made_one) (n := 63) (k := 7) (x := "script") (CX := fun _ => L2.CX0) (sp := fun w => K71.sp_law _) rfl (by decide) rfl ⟨rfl, by decide, by decide⟩ (fun w h Y => PySem.W.kIn_of Y) ?F (fun _ _ a ns hl _ hS => K71.sp_law_of hl hS) (fun _ _ _ _ _ h => h)
  case F =>
    intro w mg fa h KX G hmg
    refine' K71.all_mk KX G hmg ?aC_Saying ?aC_NoAnswer ?aC_NoBegin ?aC_NoHeld ?aC_NoNumber ?aC_NoOne ?aC_NoProgram ?aC_NoRow ?aC_NoText ?aC_NoWord ?aC_TooGreat ?aC_Unknown ?aC_Wrong ?a0 ?l0 ?c0 ?k0 ?a1 ?l1 ?c1 ?k1 ?a2 ?l2 ?c2 ?k2 ?a3 ?i3 ?l3 ?c3 ?k3 ?a4 ?i4 ?l4 ?c4 ?k4 ?a5 ?l5 ?c5 ?k5 ?a6 ?l6 ?c6 ?k6 ?a7 ?l7 ?c7 ?k7 ?a8 ?l8 ?c8 ?k8 ?a9 ?l9 ?c9 ?k9 ?a10 ?l10 ?c10 ?k10 ?a11 ?l11 ?c11 ?k11 ?a12 ?l12 ?c12 ?k12 ?a13 ?l13 ?c13 ?k13 ?a14 ?l14 ?c14 ?k14 ?a15 ?l15 ?c15 ?k15 ?a16 ?l16 ?c16 ?k16 ?a17 ?l17 ?c17 ?k17 ?pg_Saying ?hd_Saying ?po_Saying ?sa_Saying ?kc_Saying ?nword_Saying ?nleft_Saying ?nright_Saying ?mk_Saying ?xL_NoOne ?sa_NoOne ?eC_NoOne ?tC_NoOne ?kC_NoOne ?ga_NoOne ?gg_NoOne ?hC_NoOne ?noat_NoOne ?iC_NoOne ?sC_NoOne ?ca_NoOne ?cn_NoOne ?cb_NoOne ?cm_NoOne ?kx_NoAnswer_NoOne ?kx_NoBegin_NoOne ?kx_NoHeld_NoOne ?kx_NoNumber_NoOne ?kx_NoProgram_NoOne ?kx_NoRow_NoOne ?kx_NoText_NoOne ?kx_NoWord_NoOne ?kx_TooGreat_NoOne ?kx_Unknown_NoOne ?kx_ValueError_NoOne ?kx_Wrong_NoOne ?wa_MARKS ?wl_MARKS ?wt_MARKS ?wo_MARKS ?wf_MARKS_0 ?wr_MARKS_0 ?wf_MARKS_1 ?wr_MARKS_1 ?z0 ?z1 ?z2 ?z3 ?z4 ?z5 ?z6 ?z7 ?z8 ?z9
    (case aC_Saying => k_is)
    (case aC_NoAnswer => k_is)
    (case aC_NoBegin => k_is)
    (case aC_NoHeld => k_is)
    (case aC_NoNumber => k_is)
    (case aC_NoOne => k_is)
    (case aC_NoProgram => k_is)
    (case aC_NoRow => k_is)
    (case aC_NoText => k_is)
    (case aC_NoWord => k_is)
    (case aC_TooGreat => k_is)
    (case aC_Unknown => k_is)
    (case aC_Wrong => k_is)
    (case a0 => k_is)
    (case l0 => k_is)
    (case c0 => k_is)
    (case k0 => k_is)
    (case a1 => k_is)
    (case l1 => k_is)
    (case c1 => k_is)
    (case k1 => k_is)
    (case a2 => k_is)
    (case l2 => k_is)
    (case c2 => k_is)
    (case k2 => k_is)
    (case a3 => k_is)
    (case i3 => k_is)
    (case l3 => k_is)
    (case c3 => k_is)
    (case k3 => k_is)
    (case a4 => k_is)
    (case i4 => k_is)
    (case l4 => k_is)
    (case c4 => k_is)
    (case k4 => k_is)
    (case a5 => k_is)
    (case l5 => k_is)
    (case c5 => k_is)
    (case k5 => k_is)
    (case a6 => k_is)
    (case l6 => k_is)
    (case c6 => k_is)
    (case k6 => k_is)
    (case a7 => k_is)
    (case l7 => k_is)
    (case c7 => k_is)
    (case k7 => k_is)
    (case a8 => k_is)
    (case l8 => k_is)
    (case c8 => k_is)
    (case k8 => k_is)
    (case a9 => k_is)
    (case l9 => k_is)
    (case c9 => k_is)
    (case k9 => k_is)
    (case a10 => k_is)
    (case l10 => k_is)
    (case c10 => k_is)
    (case k10 => k_is)
    (case a11 => k_is)
    (case l11 => k_is)
    (case c11 => k_is)
    (case k11 => k_is)
    (case a12 => k_is)
    (case l12 => k_is)
    (case c12 => k_is)
    (case k12 => k_is)
    (case a13 => k_is)
    (case l13 => k_is)
    (case c13 => k_is)
    (case k13 => k_is)
    (case a14 => k_is)
    (case l14 => k_is)
    (case c14 => k_is)
    (case k14 => k_is)
    (case a15 => k_is)
    (case l15 => k_is)
    (case c15 => k_is)
    (case k15 => k_is)
    (case a16 => k_is)
    (case l16 => k_is)
    (case c16 => k_is)
    (case k16 => k_is)
    (case a17 => k_is)
    (case l17 => k_is)
    (case c17 => k_is)
    (case k17 => k_is)
    (case pg_Saying => k_is)
    (case hd_Saying => k_is)
    (case po_Saying => k_is)
    (case sa_Saying => k_is)
    (case kc_Saying => k_is)
    (case nword_Saying => k_is)
    (case nleft_Saying => k_is)
    (case nright_Saying => k_is)
    (case mk_Saying => k_is)
    (case xL_NoOne => k_is)
    (case sa_NoOne => k_is)
    (case eC_NoOne => k_is)
    (case tC_NoOne => k_is)
    (case kC_NoOne => k_is)
    (case ga_NoOne => k_is)
    (case gg_NoOne => k_is)
    (case hC_NoOne => k_is)
    (case noat_NoOne => k_is)
    (case iC_NoOne => k_is)
    (case sC_NoOne => first | rfl | k_is)
    (case ca_NoOne => k_is)
    (case cn_NoOne => k_is)
    (case cb_NoOne => k_is)
    (case cm_NoOne => k_is)
    (case kx_NoAnswer_NoOne => kit_is)
    (case kx_NoBegin_NoOne => kit_is)
    (case kx_NoHeld_NoOne => kit_is)
    (case kx_NoNumber_NoOne => kit_is)
    (case kx_NoProgram_NoOne => kit_is)
    (case kx_NoRow_NoOne => kit_is)
    (case kx_NoText_NoOne => kit_is)
    (case kx_NoWord_NoOne => kit_is)
    (case kx_TooGreat_NoOne => kit_is)
    (case kx_Unknown_NoOne => kit_is)
    (case kx_ValueError_NoOne => kit_is)
    (case kx_Wrong_NoOne => kit_is)
    (case wa_MARKS => k_is)
    (case wl_MARKS => k_is)
    (case wt_MARKS => exact ⟨⟨_, _, rfl, rfl⟩, ⟨⟨_, _, rfl, rfl⟩, trivial⟩⟩)
    (case wo_MARKS => rfl)
    (case wf_MARKS_0 => k_is)
    (case wr_MARKS_0 => exact ⟨_, rfl⟩)
    (case wf_MARKS_1 => k_is)
    (case wr_MARKS_1 => exact ⟨_, rfl⟩)
    (case z0 => k_is)
    (case z1 => k_is)
    (case z2 => k_is)
    (case z3 => k_is)
    (case z4 => k_is)
    (case z5 => k_is)
    (case z6 => k_is)
    (case z7 => k_is)
    (case z8 => k_is)
    (case z9 => k_is)

