import PyProof.Rows.All
import Wide.All
import OpenK.AllK
import Wide.FinOn
import HandS.ForMost
import HandS.Wide
import HandS.WideBits
import HandS.WideMore
import HandS.Flow
import HandS.IsInst
import HandS.Style
import HandS.TupAny
import HandS.TupMul
import HandS.Deep
import HandS.RaiseMore
import HandS.Walk
import HandS.Codes
import HandS.Rev
import KE.KIntText
import HandS.IntHex
import PyProof.Rows.StrIntSpec
import PyProof.FString3
import HandS.FStr
import PyProof.EnumMake
import KE.GoesEnum
import HandS.Iter
import PyProof.Rows.BitMore
import PyProof.Rows.StrCountLaw
import KE.BitLaws
import KE.IntBitsLaws
import HandS.Dict
import PyProof.ReprRoads
import PyProof.CallFns
import HandS.Small
import HandS.SlotsOwn
import KE.KCallOwn
import OpenK.KOps
import HandS.Zip
import HandS.WrittenGet
import HandS.Defaults
import PyProof.InstNe
import HandS.Exc
import HandS.ExcOwn
import HandS.ExcInit
import HandS.ExcField
import HandS.ExcIs
import HandS.WordsExc
import KE.KExcIs
import HandS.NoneIn
import HandS.OwnEq
import PyProof.StrLawsRepr
import HandS.Lambda
import HandS.EndTab
import HandS.CallLocal
import HandS.EndOwn
import HandS.DictComp
import KE.KDictOf
import HandS.Gcd
import KE.KMathGC
import KE.KRevSl
import PyProof.SliceStr2
import PySem.Challenge.RW_runsums_k88_arguments_by_names
set_option Elab.async false
set_option linter.all false
set_option maxRecDepth 100000
set_option maxHeartbeats 4000000
/-! own layer over the hand layer: heaps that grow, rules for values of any kind, readings step by step -/
namespace RV
open PySem PySem.Spec L2
open PyProof.Rows hiding St

/-! ### heaps -/
/-- all that was tracked is as it was -/
structure Sm (H H' : Hp) : Prop where
  to : ∀ a o, H a = some o → H' a = some o
/-- all but what stands at b is as it was -/
structure Chg (b : Addr) (H H' : Hp) : Prop where
  to : ∀ a o, a ≠ b → H a = some o → H' a = some o
theorem Sm.refl (H : Hp) : Sm H H := ⟨fun _ _ h => h⟩
theorem Sm.trans {H H1 H2 : Hp} (a : Sm H H1) (b : Sm H1 H2) : Sm H H2 := ⟨fun c o h => b.to c o (a.to c o h)⟩
theorem Sm.same {H H1 : Hp} (a : Sm H H1) : Same H H1 := a.to
theorem Same.sm {H H1 : Hp} (a : Same H H1) : Sm H H1 := ⟨a⟩
theorem Chg.refl (b : Addr) (H : Hp) : Chg b H H := ⟨fun _ _ _ h => h⟩
theorem Chg.trans {b : Addr} {H H1 H2 : Hp} (a : Chg b H H1) (c : Chg b H1 H2) : Chg b H H2 := ⟨fun d o n h => c.to d o n (a.to d o n h)⟩
theorem Sm.chg {b : Addr} {H H1 : Hp} (a : Sm H H1) : Chg b H H1 := ⟨fun d o _ h => a.to d o h⟩
theorem Chg.sm {b : Addr} {H H1 H2 : Hp} (c : Sm H H1) (n : H b = none) (a : Chg b H1 H2) : Sm H H2 := ⟨fun d o h => a.to d o (ne_of_none h n) (c.to d o h)⟩
theorem Sm.free {H H' : Hp} (e : Sm H H') {l : Addr} (h : H' l = none) : H l = none := by
  cases q : H l with
  | none => rfl
  | some o =>
    rw [e.to l o q] at h
    cases h
theorem sm_upd {H : Hp} {p : Addr} {o : HO} (h : H p = none) : Sm H (upd H p o) := ⟨fun b x e => by
  rw [upd_ne (ne_of_none e h)]
  exact e⟩
theorem chg_upd {H : Hp} {p : Addr} {o : HO} : Chg p H (upd H p o) := ⟨fun b x n e => by
  rw [upd_ne n]
  exact e⟩
/-- the heap without what stands at b -/
def hide (b : Addr) (H : Hp) : Hp := fun a => if a = b then none else H a
theorem hide_ne {b a : Addr} {H : Hp} (n : a ≠ b) : hide b H a = H a := by unfold hide; rw [if_neg n]
theorem hide_self {b : Addr} {H : Hp} : hide b H b = none := by unfold hide; rw [if_pos rfl]
theorem hide_some {b a : Addr} {H : Hp} {o : HO} (h : hide b H a = some o) : a ≠ b ∧ H a = some o := by
  by_cases e : a = b
  · subst e
    rw [hide_self] at h
    cases h
  · rw [hide_ne e] at h
    exact ⟨e, h⟩
theorem hide_sm {b : Addr} {H : Hp} : Sm (hide b H) H := ⟨fun _ _ h => (hide_some h).2⟩
theorem Chg.hide {b : Addr} {H H' : Hp} (c : Chg b H H') : Sm (RV.hide b H) (RV.hide b H') := ⟨fun a o h => by
  obtain ⟨n, e⟩ := hide_some h
  rw [hide_ne n]
  exact c.to a o n e⟩
theorem hide_new {b p : Addr} {H H' : Hp} {o u : HO} (hb : H b = some u) (np : H p = none) (hp : H' p = some o) : RV.hide b H' p = some o := by
  rw [hide_ne (ne_of_none hb np).symm]
  exact hp
theorem Sm.seq {K : PySem.W.Frag} {H H' : Hp} {a : Addr} {xs : List V} (e : Sm H H') (h : SqL K H a xs) : SqL K H' a xs := Same.seq e.to h
theorem Sm.seqT {K : PySem.W.Frag} {H H' : Hp} {a : Addr} {xs : List V} (e : Sm H H') (h : SqT K H a xs) : SqT K H' a xs := by
  rcases h with (h | ⟨o, h⟩) | h
  · exact .inl (.inl (e.to _ _ h))
  · exact .inl (.inr ⟨o, e.to _ _ h⟩)
  · exact .inr h
mutual
theorem Sm.dp {K : PySem.W.Frag} {H H' : Hp} (e : Sm H H') : ∀ {v : V} {d : PyData}, Dp K H v d → Dp K H' v d
  | _, _, .non => .non
  | _, _, .bl b => .bl b
  | _, _, .int i => .int i
  | _, _, .str x => .str x
  | _, _, .lst h t => .lst (e.seq h) (e.dps t)
  | _, _, .tup h t => .tup (e.seqT h) (e.dps t)
theorem Sm.dps {K : PySem.W.Frag} {H H' : Hp} (e : Sm H H') : ∀ {vs : List V} {ds : List PyData}, DpAll K H vs ds → DpAll K H' vs ds
  | _, _, .nil => .nil
  | _, _, .cons h t => .cons (e.dp h) (e.dps t)
end
theorem DpAll.length {K : PySem.W.Frag} {H : Hp} : ∀ {vs : List V} {ds : List PyData}, DpAll K H vs ds → vs.length = ds.length
  | _, _, .nil => rfl
  | _, _, .cons _ t => congrArg Nat.succ (DpAll.length t)
theorem DpAll.get {K : PySem.W.Frag} {H : Hp} : ∀ {vs : List V} {ds : List PyData} {i : Nat} {d : PyData}, DpAll K H vs ds → ds[i]? = some d → ∃ v, vs[i]? = some v ∧ Dp K H v d
  | _, _, _, _, .nil, e => by simp at e
  | _, _, 0, _, .cons r _, e => by
    simp at e
    subst e
    exact ⟨_, rfl, r⟩
  | _, _, i + 1, d, .cons _ t, e => by
    obtain ⟨v, h1, h2⟩ := DpAll.get (i := i) (d := d) t (by simpa using e)
    exact ⟨v, by simpa using h1, h2⟩
theorem DpAll.app {K : PySem.W.Frag} {H : Hp} : ∀ {vs us : List V} {ds es : List PyData}, DpAll K H vs ds → DpAll K H us es → DpAll K H (vs ++ us) (ds ++ es)
  | _, _, _, _, .nil, s => s
  | _, _, _, _, .cons r t, s => .cons r (DpAll.app t s)
theorem DpAll.snoc {K : PySem.W.Frag} {H : Hp} {vs : List V} {v : V} {ds : List PyData} {d : PyData} (h : DpAll K H vs ds) (r : Dp K H v d) : DpAll K H (vs ++ [v]) (ds ++ [d]) := DpAll.app h (.cons r .nil)
/-- a list of two ints, the drawer -/
def BoxAt (H : Hp) (b : Addr) : Prop := ∃ c s : Int, H b = some (.lst [.int c, .int s])
theorem BoxAt.sm {H H' : Hp} {b : Addr} (e : Sm H H') (h : BoxAt H b) : BoxAt H' b := by
  obtain ⟨c, s, h⟩ := h
  exact ⟨c, s, e.to _ _ h⟩

/-! ### rules for values of any kind -/
section
variable {X : Cx}
def rStrRep : R2 := fun x y H Q => ∃ (z : Str) (n : Nat), x = .str z ∧ y = .int (n : Int) ∧ z.length * n ≤ 16777216 ∧ n ≤ 16777216 ∧ Q (.str ⟨((List.replicate n z.cps.toList).flatten).toArray⟩) H
theorem flat_rep (c : Array Nat) : ∀ (n : Nat) (acc : Array Nat), (List.replicate n c).foldl (· ++ ·) acc = acc ++ ((List.replicate n c.toList).flatten).toArray
  | 0, acc => by simp
  | n + 1, acc => by
    rw [List.replicate_succ, List.foldl_cons, flat_rep c n, List.replicate_succ, List.flatten_cons]
    apply Array.toList_inj.mp
    simp
theorem line24 : (16777216 : Nat) ≤ sizeLine := by rw [sizeLine_eq]; decide
theorem op_strRep : OpR X (binaryOp .Mult) rStrRep := by
  intro pins s σ H x y v u Q I rx ry h
  obtain ⟨z, n, rfl, rfl, hz, hn, q⟩ := h
  obtain ⟨t, rfl⟩ := rx
  obtain ⟨t', rfl⟩ := ry
  have b63 : (2 : Int) ^ 63 = 9223372036854775808 := by decide
  refine PySem.P.mul_str ?_ (fun _ _ => ?_) (fun _ _ => ?_) ?_
  · rw [b63, decide_eq_false (by omega), decide_eq_false (by omega)]
    rfl
  · have h1 : (z.length : Int) * (n : Int) ≤ 2 ^ 63 - 1 := by
      rw [b63]
      have h := Int.ofNat_le.mpr hz
      rw [Int.natCast_mul] at h
      exact Int.le_trans h (by decide)
    intro h2
    by_cases h0 : n = 0
    · omega
    · have h3 : (0 : Int) < (n : Int) := by omega
      have h4 := Int.le_ediv_of_mul_le h3 h1
      omega
  · show Builtin.Str.tooLong (z.length * ((n : Int)).toNat) = false
    rw [Int.toNat_natCast]
    have := line24
    unfold Builtin.Str.tooLong
    exact decide_eq_false (by omega)
  · by_cases h1 : (n : Int) < 1
    · rw [if_pos h1]
      have e0 : n = 0 := by omega
      subst e0
      have q' : Q (.str Str.empty) H := q
      refine ⟨?_, ⟨.str Str.empty, H, I.tok _, ⟨_, rfl⟩, q'⟩⟩
      show Str.empty.length ≤ sizeLine
      exact Nat.zero_le _
    · rw [if_neg h1]
      by_cases h2 : ((n : Int) == 1 || z.length == 0) = true
      · rw [if_pos h2]
        have e : (⟨((List.replicate n z.cps.toList).flatten).toArray⟩ : Str) = z := by
          rw [Bool.or_eq_true] at h2
          rcases h2 with h2 | h2
          · have e1 : (n : Int) = 1 := by simpa using h2
            have e1 : n = 1 := by omega
            subst e1
            simp
          · have e1 : z.length = 0 := by simpa using h2
            have e2 : z.cps = #[] := Array.eq_empty_of_size_eq_zero e1
            cases z with
            | mk c =>
              simp only at e2
              subst e2
              simp
        rw [e] at q
        exact ⟨.str z, H, I, ⟨t, rfl⟩, q⟩
      · rw [if_neg h2]
        have e : (List.replicate ((n : Int)).toNat z.cps).foldl (· ++ ·) #[] = ((List.replicate n z.cps.toList).flatten).toArray := by
          rw [Int.toNat_natCast, flat_rep]
          simp
        refine ⟨?_, ?_⟩
        · rw [e]
          show (((List.replicate n z.cps.toList).flatten).toArray).size ≤ sizeLine
          rw [List.size_toArray, List.length_flatten, List.map_replicate, List.sum_replicate_nat, Array.length_toList]
          have hz' : z.cps.size * n ≤ 16777216 := hz
          have := line24
          rw [Nat.mul_comm] at hz'
          omega
        · rw [e]
          exact ⟨.str _, H, I.tok _, ⟨_, rfl⟩, q⟩
end

section
variable {X : Cx}
/-! sums, products, equality, in, len, slices, loops: the value's own kind chooses the rule -/
def rAddA (K : PySem.W.Frag) : R2 := fun x y H Q => rI0 (fun i j => .int (i + j)) x y H Q ∨ (∃ i j, x = .str i ∧ y = .str j ∧ i.length + j.length ≤ sizeLine ∧ Q (.str (i ++ j)) H) ∨ rCat x y H Q ∨ rCatA K x y H Q
theorem op_addA : OpR X (binaryOp .Add) (rAddA X.K) := op_add.or (op_add_str.or (op_cat.or op_catA))
def rMulA (K : PySem.W.Frag) : R2 := fun x y H Q => rI CMul (fun i j => .int (i * j)) x y H Q ∨ rI CMulW (fun i j => .int (i * j)) x y H Q ∨ rStrRep x y H Q ∨ rRep x y H Q ∨ rRepT K x y H Q
theorem op_mulA : OpR X (binaryOp .Mult) (rMulA X.K) := op_mul.or (op_mulW.or (op_strRep.or (op_rep.or op_repT)))
def rEqA (K : PySem.W.Frag) : R2 := fun x y H Q => rEq x y H Q ∨ rEqD K x y H Q
def rNeA (K : PySem.W.Frag) : R2 := fun x y H Q => rNe x y H Q ∨ rNeD K x y H Q
theorem op_eqA (hu : X.A.units + 64 < cLine) : OpR X (compareOp .Eq) (rEqA X.K) := op_eq.or (op_eqD hu)
theorem op_neA (hu : X.A.units + 64 < cLine) : OpR X (compareOp .NotEq) (rNeA X.K) := op_ne.or (op_neD hu)
def rInStr (neg : Bool) : R2 := fun x y H Q => ∃ (c : Nat) (z : Str), x = .str ⟨#[c]⟩ ∧ y = .str z ∧ Q (.bl (if neg then !decide (c ∈ z.cps.toList) else decide (c ∈ z.cps.toList))) H
def rInA (K : PySem.W.Frag) : R2 := fun x y H Q => rInStr false x y H Q ∨ rIn K false x y H Q
def rNotInA (K : PySem.W.Frag) : R2 := fun x y H Q => rInStr true x y H Q ∨ rIn K true x y H Q
theorem op_inA : OpR X (compareOp .In) (rInA X.K) := OpR.or op_in_sign op_in_seq
theorem op_notInA : OpR X (compareOp .NotIn) (rNotInA X.K) := OpR.or op_notIn_sign op_notIn_seq
def rSlAny (K : PySem.W.Frag) : V → Option Int → Option Int → Hp → VK → Prop := fun x lo hi H Q => rSlS x lo hi H Q ∨ rSlL K x lo hi H Q ∨ rSlA K x lo hi H Q
theorem sl_any : SlR X (rSlAny X.K) := sl_str.or (sl_list.or sl_tupA)
def rLenA (K : PySem.W.Frag) : List V → Hp → VK → Prop := fun xs H Q => (∃ x n, xs = [x] ∧ LenV K x H n ∧ Q (.int n) H) ∨ (∃ a kvs, xs = [V.ref a] ∧ H a = some (.dK kvs) ∧ Q (.int kvs.length) H)
theorem call_lenA : CallR X (.builtin "len") (rLenA X.K) := call_len.or call_lenD
def rMaxA (K : PySem.W.Frag) : List V → Hp → VK → Prop := fun xs H Q => (∃ i j, xs = [.int i, .int j] ∧ Q (.int (if j > i then j else i)) H) ∨ rMax K xs H Q
theorem call_maxA (hc : X.calm = true) : CallR X (.builtin "max") (rMaxA X.K) := (call_max2 hc).or (cr_max hc)
def rMinA (K : PySem.W.Frag) : List V → Hp → VK → Prop := fun xs H Q => (∃ i j, xs = [.int i, .int j] ∧ Q (.int (if j < i then j else i)) H) ∨ rMin K xs H Q
theorem call_minA (hc : X.calm = true) : CallR X (.builtin "min") (rMinA X.K) := (call_min2 hc).or (cr_min hc)
theorem call_strA : CallR X (.type "str") (fun xs H Q => (∃ i, xs = [.int i] ∧ i.natAbs.log2 < 1920 ∧ Q (.str (toString i)) H) ∨ (∃ a, xs = [.str a] ∧ Q (.str a) H)) := call_str_int.or SkE.call_str_str
theorem call_intA : CallR X (.type "int") (fun xs H Q => ((∃ i, xs = [.int i] ∧ Q (.int i) H) ∨ ∃ k, xs = [.bl k] ∧ Q (.int (if k then 1 else 0)) H) ∨ (∃ a n, xs = [.str a] ∧ PySem.intText? a = some n ∧ a.length ≤ 640 ∧ Q (.int n) H)) := call_int1.or call_int_str
theorem call_listA : CallR X (.type "list") (fun xs H Q => ∃ p ys, xs = [.ref p] ∧ (SqL X.K H p ys ∨ SqT X.K H p ys) ∧ ∀ l, H l = none → Q (.ref l) (upd H l (.lst ys))) := call_list_of
theorem call_tupleA : CallR X (.type "tuple") (fun xs H Q => ∃ p ys, xs = [.ref p] ∧ ((SqL X.K H p ys ∧ ∀ l, H l = none → Q (.ref l) (upd H l (.tup ys))) ∨ (SqT X.K H p ys ∧ Q (.ref p) H))) := call_tuple_of
theorem PI.or {tg l : Expr} {w1 w2 : TI} (h1 : PI X tg l w1) (h2 : PI X tg l w2) : PI X tg l (fun σ H R => w1 σ H R ∨ w2 σ H R) := ⟨fun pins s σ H R I h => h.elim (fun q => h1.run pins s σ H R I q) (fun q => h2.run pins s σ H R I q)⟩
def iAny (K : PySem.W.Frag) (tl : TE) : TI := fun σ H R => iList K tl σ H R ∨ iTup K tl σ H R ∨ iStr tl σ H R
theorem pi_any {tg l : Expr} {tl : TE} (hl : PE X l tl) : PI X tg l (iAny X.K tl) := PI.or (pi_list hl) (PI.or (pi_tup hl) (pi_str hl))
end

/-! ### readings, one construct a time -/
section
variable {σ : St} {H : Hp} {Q : VK} {D : Ends} {K : PySem.W.Frag}
theorem r_var {i : Nat} {v : V} (h : σ[i]? = some (some v)) (k : Q v H) : tVar i σ H Q := ⟨v, h, k⟩
theorem r_C {v : V} (k : Q v H) : tC v σ H Q := k
theorem r_op {r : R2} {ta tb : TE} (h : ta σ H fun x H1 => tb σ H1 fun y H2 => r x y H2 Q) : tOp r ta tb σ H Q := h
theorem r_un {r : V → Hp → VK → Prop} {ta : TE} (h : ta σ H fun x H1 => r x H1 Q) : tUn r ta σ H Q := h
theorem r_I {C : Int → Int → Prop} {g : Int → Int → V} {i j : Int} (c : C i j) (k : Q (g i j) H) : rI C g (.int i) (.int j) H Q := ⟨i, j, rfl, rfl, c, k⟩
theorem r_I0 {g : Int → Int → V} {i j : Int} (k : Q (g i j) H) : rI0 g (.int i) (.int j) H Q := ⟨i, j, rfl, rfl, k⟩
theorem r_U {g : Int → V} {i : Int} (k : Q (g i) H) : rU g (.int i) H Q := ⟨i, rfl, k⟩
theorem r_addI {i j : Int} (k : Q (.int (i + j)) H) : rAddA K (.int i) (.int j) H Q := .inl ⟨i, j, rfl, rfl, k⟩
theorem r_addS {i j : Str} (h : i.length + j.length ≤ sizeLine) (k : Q (.str (i ++ j)) H) : rAddA K (.str i) (.str j) H Q := .inr (.inl ⟨i, j, rfl, rfl, h, k⟩)
theorem r_addL {a b : Addr} {xs ys : List V} (ha : H a = some (.lst xs)) (hb : H b = some (.lst ys)) (hz : xs.length + ys.length ≤ sizeLine)
    (k : ∀ p H', Sm H H' → H p = none → H' p = some (.lst (xs ++ ys)) → Q (.ref p) H') : rAddA K (.ref a) (.ref b) H Q :=
  .inr (.inr (.inl ⟨a, b, xs, ys, rfl, rfl, ha, hb, hz, fun p np => k p _ (sm_upd np) np upd_same⟩))
theorem r_addT {a b : Addr} {xs ys : List V} (ha : SqT K H a xs) (hb : SqT K H b ys) (hz : xs.length + ys.length ≤ sizeLine)
    (k : ∀ p H', Sm H H' → SqT K H' p (xs ++ ys) → Q (.ref p) H') : rAddA K (.ref a) (.ref b) H Q :=
  .inr (.inr (.inr ⟨a, b, xs, ys, rfl, rfl, ha, hb, hz, fun e => k b H (Sm.refl H) (by rw [e, List.nil_append]; exact hb), fun _ e => k a H (Sm.refl H) (by rw [e, List.append_nil]; exact ha), fun _ _ p np => k p _ (sm_upd np) (SqT.of upd_same)⟩))
theorem r_mulS {i j : Int} (c : CMul i j) (k : Q (.int (i * j)) H) : rMulA K (.int i) (.int j) H Q := .inl ⟨i, j, rfl, rfl, c, k⟩
theorem r_mulW {i j : Int} (c : CMulW i j) (k : Q (.int (i * j)) H) : rMulA K (.int i) (.int j) H Q := .inr (.inl ⟨i, j, rfl, rfl, c, k⟩)
theorem r_mulStr {z : Str} {n : Nat} {i : Int} (e : i = (n : Int)) (hz : z.length * n ≤ 16777216) (hn : n ≤ 16777216) (k : Q (.str ⟨((List.replicate n z.cps.toList).flatten).toArray⟩) H) : rMulA K (.str z) (.int i) H Q := .inr (.inr (.inl ⟨z, n, rfl, by rw [e], hz, hn, k⟩))
theorem r_mulL {a : Addr} {i : Int} {xs : List V} (ha : H a = some (.lst xs)) (h0 : -(2 ^ 63) ≤ i) (h1 : i < 2 ^ 63) (hz : xs.length * i.toNat ≤ sizeLine)
    (k : ∀ p H', Sm H H' → H p = none → H' p = some (.lst (List.replicate i.toNat xs).flatten) → Q (.ref p) H') : rMulA K (.ref a) (.int i) H Q :=
  .inr (.inr (.inr (.inl ⟨a, i, xs, rfl, rfl, ha, h0, h1, hz, fun p np => k p _ (sm_upd np) np upd_same⟩)))
theorem dec_VI {i j : Int} : decide (V.int i = V.int j) = decide (i = j) := by
  by_cases e : i = j
  · subst e
    simp
  · rw [decide_eq_false e, decide_eq_false fun z => e (V.int.inj z)]
theorem dec_VS {i j : Str} : decide (V.str i = V.str j) = decide (i = j) := by
  by_cases e : i = j
  · subst e
    simp
  · rw [decide_eq_false e, decide_eq_false fun z => e (V.str.inj z)]
theorem dec_VB {i j : Bool} : decide (V.bl i = V.bl j) = decide (i = j) := by
  by_cases e : i = j
  · subst e
    simp
  · rw [decide_eq_false e, decide_eq_false fun z => e (V.bl.inj z)]
theorem r_eqI {i j : Int} (k : Q (.bl (decide (i = j))) H) : rEqA K (.int i) (.int j) H Q := .inl ⟨rfl, by rw [dec_VI]; exact k⟩
theorem r_eqS {i j : Str} (k : Q (.bl (decide (i = j))) H) : rEqA K (.str i) (.str j) H Q := .inl ⟨rfl, by rw [dec_VS]; exact k⟩
theorem r_eqB {i j : Bool} (k : Q (.bl (decide (i = j))) H) : rEqA K (.bl i) (.bl j) H Q := .inl ⟨rfl, by rw [dec_VB]; exact k⟩
theorem r_neI {i j : Int} (k : Q (.bl (!decide (i = j))) H) : rNeA K (.int i) (.int j) H Q := .inl ⟨rfl, by rw [dec_VI]; exact k⟩
theorem r_neS {i j : Str} (k : Q (.bl (!decide (i = j))) H) : rNeA K (.str i) (.str j) H Q := .inl ⟨rfl, by rw [dec_VS]; exact k⟩
theorem r_neB {i j : Bool} (k : Q (.bl (!decide (i = j))) H) : rNeA K (.bl i) (.bl j) H Q := .inl ⟨rfl, by rw [dec_VB]; exact k⟩
theorem r_eqD {x y : V} {d e : PyData} (hx : Dp K H x d) (hy : Dp K H y e) (sx : SeqAt.shaped d = true) (sy : SeqAt.shaped e = true) (k : Q (.bl (PyData.eqv d e)) H) : rEqA K x y H Q := .inr ⟨d, e, hx, hy, sx, sy, k⟩
theorem r_neD {x y : V} {d e : PyData} (hx : Dp K H x d) (hy : Dp K H y e) (sx : SeqAt.shaped d = true) (sy : SeqAt.shaped e = true) (k : Q (.bl (!PyData.eqv d e)) H) : rNeA K x y H Q := .inr ⟨d, e, hx, hy, sx, sy, k⟩
theorem r_inS {c : Nat} {z : Str} (k : Q (.bl (decide (c ∈ z.cps.toList))) H) : rInA K (.str ⟨#[c]⟩) (.str z) H Q := .inl ⟨c, z, rfl, rfl, k⟩
theorem r_notInS {c : Nat} {z : Str} (k : Q (.bl (!decide (c ∈ z.cps.toList))) H) : rNotInA K (.str ⟨#[c]⟩) (.str z) H Q := .inl ⟨c, z, rfl, rfl, k⟩
theorem r_test {t : TE} {Q : Bool → Hp → Prop} (h : t σ H fun x H' => ∃ k, x = .bl k ∧ Q k H') : tTest t σ H Q := h
theorem r_tB {t : TE} {Q : Bool → Hp → Prop} (h : t σ H fun x H' => ∃ k, x = .bl k ∧ Q k H') : tB t σ H Q := h
theorem r_bl {b : Bool} {Q : Bool → Prop} (h : Q b) : ∃ k, V.bl b = .bl k ∧ Q k := ⟨b, rfl, h⟩
theorem r_tru_bl {b : Bool} {Q : Bool → Prop} (h : Q b) : ∃ k, TruV K (.bl b) H k ∧ Q k := ⟨b, rfl, h⟩
theorem r_tru_int {i : Int} {Q : Bool → Prop} (h : Q (i != 0)) : ∃ k, TruV K (.int i) H k ∧ Q k := ⟨_, rfl, h⟩
theorem r_and {t u : TT} {Q : Bool → Hp → Prop} (h : t σ H fun c H1 => if c = true then u σ H1 Q else Q false H1) : tAnd t u σ H Q := h
theorem r_or {t u : TT} {Q : Bool → Hp → Prop} (h : t σ H fun c H1 => if c = true then Q true H1 else u σ H1 Q) : tOr t u σ H Q := h
theorem r_not {t : TT} {Q : Bool → Hp → Prop} (h : t σ H fun c H1 => Q (!c) H1) : tNot t σ H Q := h
theorem r_notT {ta : TE} (h : ta σ H fun x H1 => ∃ k, TruV K x H1 k ∧ Q (.bl (!k)) H1) : tNotT K ta σ H Q := h
theorem r_orT {ta tb : TE} (h : ta σ H fun x H1 => ∃ k, TruV K x H1 k ∧ if k = true then Q x H1 else tb σ H1 Q) : tOrT K ta tb σ H Q := h
theorem r_andT {ta tb : TE} (h : ta σ H fun x H1 => ∃ k, TruV K x H1 k ∧ if k = true then tb σ H1 Q else Q x H1) : tAndT K ta tb σ H Q := h
theorem r_ifE {t : TT} {ta tb : TE} (h : t σ H fun c H1 => if c = true then ta σ H1 Q else tb σ H1 Q) : tIf t ta tb σ H Q := h
theorem r_nil {Q : List V → Hp → Prop} (k : Q [] H) : tNil σ H Q := k
theorem r_cons {ta : TE} {tr : TA} {Q : List V → Hp → Prop} (h : ta σ H fun x H1 => tr σ H1 fun xs H2 => Q (x :: xs) H2) : tCons ta tr σ H Q := h
theorem r_tup {t : TA} (h : t σ H fun xs H1 => xs.length ≤ sizeLine ∧ ∀ p, H1 p = none → Q (.ref p) (upd H1 p (.tup xs))) : tTup t σ H Q := h
theorem r_lst {t : TA} (h : t σ H fun xs H1 => xs.length ≤ sizeLine ∧ ∀ p, H1 p = none → Q (.ref p) (upd H1 p (.lst xs))) : tLst t σ H Q := h
theorem sz_le {n : Nat} (h : n ≤ 1000 := by decide) : n ≤ sizeLine := Nat.le_of_lt (small1000 h)
theorem r_call {sp : Sp} {E : XK} {t : TA} (h : t σ H fun vs H1 => sp vs H1 Q E) : tCall sp [] E t σ H Q := by
  unfold tCall
  have e : (fun (vs : List V) (H1 : Hp) => sp (vs ++ []) H1 Q E) = fun vs H1 => sp vs H1 Q E := by
    funext vs H1
    rw [List.append_nil]
  rw [e]
  exact h
theorem r_callK {sp : Sp} {E : XK} {t tk : TA} {gV : List V → List V → List V} (h : t σ H fun vs H1 => tk σ H1 fun zs H2 => sp (gV vs zs) H2 Q E) : tCallK sp gV E t tk σ H Q := h
theorem r_CB {r : List V → Hp → VK → Prop} {t : TA} (h : t σ H fun vs H1 => r vs H1 Q) : tCB r t σ H Q := h
/-! calls of built-ins -/
theorem r_lenS {z : Str} (h : z.length ≤ sizeLine) (k : Q (.int z.length) H) : rLenA K [.str z] H Q := .inl ⟨_, _, rfl, ⟨h, rfl⟩, k⟩
theorem r_lenL {a : Addr} {xs : List V} (h : SqL K H a xs) (k : Q (.int xs.length) H) : rLenA K [.ref a] H Q := .inl ⟨_, _, rfl, .inl ⟨xs, h, rfl⟩, k⟩
theorem r_lenT {a : Addr} {xs : List V} (h : SqT K H a xs) (k : Q (.int xs.length) H) : rLenA K [.ref a] H Q := .inl ⟨_, _, rfl, .inr ⟨xs, h, rfl⟩, k⟩
theorem r_max {i j : Int} (k : Q (.int (if j > i then j else i)) H) : rMaxA K [.int i, .int j] H Q := .inl ⟨i, j, rfl, k⟩
theorem r_min {i j : Int} (k : Q (.int (if j < i then j else i)) H) : rMinA K [.int i, .int j] H Q := .inl ⟨i, j, rfl, k⟩
theorem r_isi {x c : V} {t u : Value} {b : Bool} (hc : ClsV c u) (ht : TyX K H x t) (e : PySem.W.kitOne K t u = some b) (k : Q (.bl b) H) : rIsi K [x, c] H Q := ⟨x, c, t, u, b, rfl, hc, ht, e, k⟩
theorem r_isi_int {i : Int} {n : String} {b : Bool} (e : kitB "int" n = some b) (k : Q (.bl b) H) : rIsi K [.int i, .ty n] H Q := r_isi (.ty n) (.base (.int i)) (kit_ty e) k
theorem r_isi_bl {i : Bool} {n : String} {b : Bool} (e : kitB "bool" n = some b) (k : Q (.bl b) H) : rIsi K [.bl i, .ty n] H Q := r_isi (.ty n) (.base (.bl i)) (kit_ty e) k
theorem r_isi_str {i : Str} {n : String} {b : Bool} (e : kitB "str" n = some b) (k : Q (.bl b) H) : rIsi K [.str i, .ty n] H Q := r_isi (.ty n) (.base (.str i)) (kit_ty e) k
/-! items and slices -/
theorem r_ixL {a : Addr} {xs : List V} {i : Int} {v : V} (h : SqL K H a xs) (e : atI xs i = some v) (k : Q v H) : rIx K (.ref a) (.int i) H Q := .inl ⟨a, xs, i, v, rfl, rfl, h, e, k⟩
theorem r_ixT {a : Addr} {xs : List V} {i : Int} {v : V} (h : SqT K H a xs) (e : atI xs i = some v) (k : Q v H) : rIx K (.ref a) (.int i) H Q := .inr (.inl ⟨a, xs, i, v, rfl, rfl, h, e, k⟩)
theorem r_ixS {z : Str} {i : Int} {c : Nat} (h : z.length ≤ sizeLine) (e : atI z.cps.toList i = some c) (k : Q (.str ⟨#[c]⟩) H) : rIx K (.str z) (.int i) H Q := .inr (.inr ⟨z, i, c, rfl, rfl, h, e, k⟩)
theorem r_setL {a : Addr} {xs : List V} {i : Int} {j : Nat} {v : V} {Q : Hp → Prop} (h : H a = some (.lst xs)) (e : ixN xs.length i = some j) (k : Q (upd H a (.lst (xs.set j v)))) : rSetL (.ref a) (.int i) v H Q := ⟨a, xs, i, j, rfl, rfl, h, e, k⟩
theorem r_sl {r : V → Option Int → Option Int → Hp → VK → Prop} {te : TE} {tl th : TO} (h : te σ H fun x H1 => tl σ H1 fun l H2 => th σ H2 fun u H3 => r x l u H3 Q) : tSl r te tl th σ H Q := h
theorem r_noPart {Q : Option Int → Hp → Prop} (h : Q none H) : tNoPart σ H Q := h
theorem r_part {t : TE} {Q : Option Int → Hp → Prop} (h : t σ H fun x H1 => ∃ i, x = .int i ∧ Q (some i) H1) : tPart t σ H Q := h
theorem r_exI {i : Int} {Q : Int → Prop} (h : Q i) : ∃ j, V.int i = .int j ∧ Q j := ⟨i, rfl, h⟩
theorem r_slS {z : Str} {lo hi : Option Int} (h : z.length ≤ sizeLine) (k : Q (.str (cutS z lo hi)) H) : rSlAny K (.str z) lo hi H Q := .inl ⟨z, rfl, h, k⟩
theorem r_slL {a : Addr} {xs : List V} {lo hi : Option Int} (h : SqL K H a xs) (k : ∀ p, H p = none → Q (.ref p) (upd H p (.lst (cutV xs lo hi)))) : rSlAny K (.ref a) lo hi H Q := .inr (.inl ⟨a, xs, rfl, h, k⟩)
theorem cutV_whole {xs : List V} {lo hi : Option Int} (h : HT.sIx xs.length 0 lo = 0 ∧ HT.sIx xs.length xs.length hi = xs.length) : cutV xs lo hi = xs := by
  unfold cutV
  rw [h.1, h.2]
  simp
theorem r_slT {a : Addr} {xs : List V} {lo hi : Option Int} (h : SqT K H a xs) (k : ∀ p H', Sm H H' → SqT K H' p (cutV xs lo hi) → Q (.ref p) H') : rSlAny K (.ref a) lo hi H Q :=
  .inr (.inr ⟨a, xs, rfl, h, fun e => k a H (Sm.refl H) (by rw [cutV_whole e]; exact h), fun _ p np => k p _ (sm_upd np) (SqT.of upd_same)⟩)
/-! statements -/
theorem r_seq {t u : TS} (h : t { D with nx := u D } σ H) : tSeq t u D σ H := h
theorem r_nx {n b c : St → Hp → Prop} {r : VK} (h : n σ H) : Ends.nx ⟨n, r, b, c⟩ σ H := h
theorem r_rt {n b c : St → Hp → Prop} {r : VK} {v : V} (h : r v H) : Ends.rt ⟨n, r, b, c⟩ v H := h
theorem r_next (h : D.nx σ H) : tNext D σ H := h
theorem r_asg {te : TE} {g : TG} (h : te σ H fun x H1 => g x σ H1 D.nx) : tAsg te g D σ H := h
theorem r_gN {i : Nat} {v : V} {Q : St → Hp → Prop} (h : Q (σ.set i (some v)) H) : gName i v σ H Q := h
theorem r_gT {n : Nat} {t : TGs} {a : Addr} {xs : List V} {Q : St → Hp → Prop} (hT : SqT K H a xs) (hn : xs.length = n) (h : t xs σ H Q) : gTup K n t (.ref a) σ H Q := ⟨a, xs, rfl, hT, hn, h⟩
theorem r_gC {t : TG} {u : TGs} {v : V} {r : List V} {Q : St → Hp → Prop} (h : t v σ H fun σ' H' => u r σ' H' Q) : gCons t u (v :: r) σ H Q := ⟨v, r, rfl, h⟩
theorem r_g0 {Q : St → Hp → Prop} (h : Q σ H) : gNil [] σ H Q := ⟨rfl, h⟩
theorem r_gS {to ti : TE} {t : TSet} {v : V} {Q : St → Hp → Prop} (h : to σ H fun o H1 => ti σ H1 fun i H2 => t o i v H2 fun H3 => Q σ H3) : gSub to ti t v σ H Q := h
theorem r_par {i j : Nat} {ta : TA} (h : ta σ H fun vs H1 => ∃ v w, vs = [v, w] ∧ D.nx ((σ.set i (some v)).set j (some w)) H1) : tPar i j ta D σ H := h
theorem r_vw {v w : V} {Q : V → V → Prop} (h : Q v w) : ∃ v' w', [v, w] = [v', w'] ∧ Q v' w' := ⟨v, w, rfl, h⟩
theorem r_aug {i : Nat} {te : TE} {ti : TIp} {x : V} (e : σ[i]? = some (some x)) (h : te σ H fun y H1 => ti x y H1 fun z H2 => D.nx (σ.set i (some z)) H2) : tAug i te ti D σ H := ⟨x, e, h⟩
theorem r_ip {f : Int → Int → Int} {i j : Int} (k : Q (.int (f i j)) H) : ipI f (.int i) (.int j) H Q := ⟨i, j, rfl, rfl, k⟩
theorem r_ret {te : TE} (h : te σ H D.rt) : tRet te D σ H := h
theorem r_retN (h : D.rt .non H) : tRetN D σ H := h
theorem r_drop {te : TE} (h : te σ H fun _ H1 => D.nx σ H1) : tDrop te D σ H := h
theorem r_if {c : TT} {t u : TS} (h : c σ H fun b H1 => if b = true then t D σ H1 else u D σ H1) : tIfS c t u D σ H := h
theorem ite_d {p A B : Prop} [Decidable p] (h1 : p → A) (h2 : ¬ p → B) : if decide p = true then A else B := by
  by_cases h : p
  · rw [if_pos (decide_eq_true h)]
    exact h1 h
  · rw [if_neg (by rw [decide_eq_false h]; exact Bool.false_ne_true)]
    exact h2 h
theorem ite_n {p A B : Prop} [Decidable p] (h1 : ¬ p → A) (h2 : p → B) : if (!decide p) = true then A else B := by
  by_cases h : p
  · rw [if_neg (by rw [decide_eq_true h]; exact Bool.false_ne_true)]
    exact h2 h
  · rw [if_pos (by rw [decide_eq_false h]; rfl)]
    exact h1 h
theorem ite_y {b : Bool} {A B : Prop} (e : b = true) (h : A) : if b = true then A else B := by
  rw [if_pos e]
  exact h
theorem ite_o {b : Bool} {A B : Prop} (e : b = false) (h : B) : if b = true then A else B := by
  rw [if_neg (by rw [e]; exact Bool.false_ne_true)]
  exact h
/-! lists' methods -/
theorem r_bm {T : String} {r : V → List V → Hp → VK → Prop} {to : TE} {t : TA} (h : to σ H fun x H1 => tyV K T x H1 ∧ t σ H1 fun xs H2 => r x xs H2 Q) : tBM K T r to t σ H Q := h
theorem r_bmL {a : Addr} {xs : List V} {P : Prop} (h : SqL K H a xs) (k : P) : tyV K "list" (.ref a) H ∧ P := ⟨Or.inl ⟨rfl, _, h⟩, k⟩
theorem r_app {a : Addr} {xs : List V} {y : V} (h : H a = some (.lst xs)) (z : xs.length < sizeLine) (k : Q .non (upd H a (.lst (xs ++ [y])))) : rAppend (.ref a) [y] H Q := ⟨a, xs, y, rfl, rfl, h, z, k⟩
/-! indexes -/
theorem atI_of {α : Type} {xs : List α} {i : Int} (h0 : 0 ≤ i) (h1 : i < (xs.length : Int)) : ∃ v, atI xs i = some v ∧ xs[i.toNat]? = some v := by
  obtain ⟨n, rfl⟩ := Int.eq_ofNat_of_zero_le h0
  have h2 : n < xs.length := by omega
  refine ⟨xs[n], ?_, ?_⟩
  · exact atI_nat (List.getElem?_eq_getElem h2)
  · show xs[n]? = some xs[n]
    exact List.getElem?_eq_getElem h2
theorem atI_mem {α : Type} {xs : List α} {i : Int} (h0 : 0 ≤ i) (h1 : i < (xs.length : Int)) : ∃ v, atI xs i = some v ∧ v ∈ xs := by
  obtain ⟨v, e, q⟩ := atI_of h0 h1
  exact ⟨v, e, List.mem_of_getElem? q⟩
/-! // and % -/
theorem cdiv_of {i j : Int} {n : Nat} (h : 0 < j) (hb : j < 2 ^ n) (h0 : 0 < n) (h9 : n ≤ 9000) : CDivW i j := wide_div h (by
  have e : ((2 ^ n : Nat) : Int) = (2 : Int) ^ n := by rw [Int.natCast_pow]; rfl
  omega) h0 h9
theorem cdiv_s {i j : Int} (h : 0 < j) (hb : j < 18446744073709551616) : CDivW i j := cdiv_of (n := 64) h (by simpa using hb) (by decide) (by decide)
theorem cmul_r {i j : Int} (h : -18446744073709551616 < j ∧ j < 18446744073709551616) : CMul i j := .inr (by simpa using h)
theorem cmul_l {i j : Int} (h : -18446744073709551616 < i ∧ i < 18446744073709551616) : CMul i j := .inl (by simpa using h)
end

/-! arguments by names -/
def kgen (n m : Nat) (idx : List Nat) {α : Type} (us ws : List α) : List α := if us.length = n ∧ ws.length = m then idx.filterMap fun i => (us ++ ws)[i]? else []
theorem vals_pick {vs : List V} {us : List Value} (r : Vals vs us) : ∀ idx : List Nat, Vals (idx.filterMap fun i => vs[i]?) (idx.filterMap fun i => us[i]?)
  | [] => .nil
  | i :: idx => by
    rw [List.filterMap_cons, List.filterMap_cons]
    cases e : vs[i]? with
    | none =>
      rw [r.none_of e]
      exact vals_pick r idx
    | some v =>
      obtain ⟨u, h1, h2⟩ := r.get e
      rw [h1]
      exact .cons h2 (vals_pick r idx)
theorem kb_gen {K : PySem.W.Frag} {fd : FuncData} {ps ks : List Str} {n m : Nat} {idx : List Nat} (hp : ps.length ≠ 0)
    (h : ∀ us ws : List Value, us.length = n → ws.length = m → bindArgs fd ⟨us, ks.zip ws⟩ = pure (ps.zip (kgen n m idx us ws))) : KBinds K fd ps ks (kgen n m idx) (kgen n m idx) := by
  refine ⟨fun s us ws _ hl => ?_, fun {vs us zs ws} r rz => ?_⟩
  · by_cases c : us.length = n ∧ ws.length = m
    · exact .of_eq (h us ws c.1 c.2)
    · unfold kgen at hl
      rw [if_neg c] at hl
      exact absurd hl.symm hp
  · unfold kgen
    rw [r.length, rz.length]
    by_cases c : us.length = n ∧ ws.length = m
    · rw [if_pos c, if_pos c]
      exact vals_pick (r.append rz) idx
    · rw [if_neg c, if_neg c]
      exact .nil
section
variable {X : Cx} {CX : CXT} {k : Nat} {f : Addr} {fd : FuncData} {ps ks : List Str} {sp : Sp} {E : XK} {x : Str} {p pos : Pos} {kws : List Keyword} {tk : TA} {g : List Value → List Value → List Value} {gV : List V → List V → List V}
theorem pe_callK0 (F : FnOk X.prog X.w X.K X.mg X.base CX k f fd ps sp) (hr : Room k X.A) (hg : Gl X x) (hm : X.mg x = some (.ref f)) (hk : PySem.W.keepIn X.K (.ref f) = true) (hb : KBinds X.K fd ps ks g gV) (hx : Passes CX X E)
    (hkw : PK X kws tk) (hall : (backToKw pos (keywordEach kws X.env)).all (·.1.isSome) = true := by rfl) (hks : (backToKw pos (keywordEach kws X.env)).filterMap (·.1) = ks := by rfl)
    (hdb : (x == ("__debug__" : Str)) = false := by decide)
    (hpl : ((backTo pos (starEach [] X.env)).any (·.1) || (backToKw pos (keywordEach kws X.env)).any (·.1.isNone)) = false := by rfl) :
    PE X (.Call (.Name x p) [] kws pos) (tCallK sp gV E tNil tk) := by
  refine ⟨fun pins s σ H Q I h => ?_⟩
  refine wpAny_Call_Name_kw (ld_glob I hg hm ?_ hdb)
  refine PySem.W.callWith_KW0 (h₀ := X.base) I.ok.mod.kin hk hall ?_ hpl
  refine thn (hkw.run pos pins s σ H _ I h) fun ws s2 ⟨zs, H2, I2, rz, q2⟩ => ⟨I2.kIn, ?_⟩
  rw [hks]
  exact run_fnk (us := []) (vs := []) F hr hb hx I2 .nil rz q2
end
/-! built-in classes as calls, named -/
section
variable {σ : St} {H : Hp} {Q : VK} {D : Ends} {K : PySem.W.Frag} {X : Cx}
def rIntA : List V → Hp → VK → Prop := fun xs H Q => ((∃ i, xs = [.int i] ∧ Q (.int i) H) ∨ ∃ k, xs = [.bl k] ∧ Q (.int (if k then 1 else 0)) H) ∨ (∃ a n, xs = [.str a] ∧ PySem.intText? a = some n ∧ a.length ≤ 640 ∧ Q (.int n) H)
theorem cl_int : CallR X (.type "int") rIntA := call_intA
theorem r_intI {i : Int} (k : Q (.int i) H) : rIntA [.int i] H Q := .inl (.inl ⟨i, rfl, k⟩)
theorem r_intB {i : Bool} (k : Q (.int (if i then 1 else 0)) H) : rIntA [.bl i] H Q := .inl (.inr ⟨i, rfl, k⟩)
theorem r_intS {a : Str} {n : Int} (e : PySem.intText? a = some n) (l : a.length ≤ 640) (k : Q (.int n) H) : rIntA [.str a] H Q := .inr ⟨a, n, rfl, e, l, k⟩
def rStrA : List V → Hp → VK → Prop := fun xs H Q => (∃ i, xs = [.int i] ∧ i.natAbs.log2 < 1920 ∧ Q (.str (toString i)) H) ∨ (∃ a, xs = [.str a] ∧ Q (.str a) H)
theorem cl_str : CallR X (.type "str") rStrA := call_strA
theorem r_strI {i : Int} (l : i.natAbs.log2 < 1920) (k : Q (.str (toString i)) H) : rStrA [.int i] H Q := .inl ⟨i, rfl, l, k⟩
theorem r_strS {i : Str} (k : Q (.str i) H) : rStrA [.str i] H Q := .inr ⟨i, rfl, k⟩
def rListA (K : PySem.W.Frag) : List V → Hp → VK → Prop := fun xs H Q => ∃ p ys, xs = [.ref p] ∧ (SqL K H p ys ∨ SqT K H p ys) ∧ ∀ l, H l = none → Q (.ref l) (upd H l (.lst ys))
theorem cl_list : CallR X (.type "list") (rListA X.K) := call_listA
theorem r_listL {a : Addr} {ys : List V} (h : SqL K H a ys) (k : ∀ l, H l = none → Q (.ref l) (upd H l (.lst ys))) : rListA K [.ref a] H Q := ⟨a, ys, rfl, .inl h, k⟩
theorem r_listT {a : Addr} {ys : List V} (h : SqT K H a ys) (k : ∀ l, H l = none → Q (.ref l) (upd H l (.lst ys))) : rListA K [.ref a] H Q := ⟨a, ys, rfl, .inr h, k⟩
def rTupleA (K : PySem.W.Frag) : List V → Hp → VK → Prop := fun xs H Q => ∃ p ys, xs = [.ref p] ∧ ((SqL K H p ys ∧ ∀ l, H l = none → Q (.ref l) (upd H l (.tup ys))) ∨ (SqT K H p ys ∧ Q (.ref p) H))
theorem cl_tuple : CallR X (.type "tuple") (rTupleA X.K) := call_tupleA
theorem r_tupleL {a : Addr} {ys : List V} (h : SqL K H a ys) (k : ∀ l, H l = none → Q (.ref l) (upd H l (.tup ys))) : rTupleA K [.ref a] H Q := ⟨a, ys, rfl, .inl ⟨h, k⟩⟩
theorem r_tupleT {a : Addr} {ys : List V} (h : SqT K H a ys) (k : Q (.ref a) H) : rTupleA K [.ref a] H Q := ⟨a, ys, rfl, .inr ⟨h, k⟩⟩
/-! joins, all, any -/
def rJoin (K : PySem.W.Frag) : V → List V → Hp → VK → Prop := fun x xs H Q => ∃ a p, ∃ ys : List Str, x = .str a ∧ xs = [.ref p] ∧ (SqL K H p (ys.map V.str) ∨ SqT K H p (ys.map V.str)) ∧ (ys.map (·.length)).sum + ys.length * a.length ≤ 16777216 ∧ Q (.str (Txt.join a ys)) H
theorem mj_join : MtR X "str.join" (rJoin X.K) := mt_join
theorem r_join {a : Str} {p : Addr} {ys : List Str} (h : SqL K H p (ys.map V.str)) (z : (ys.map (·.length)).sum + ys.length * a.length ≤ 16777216) (k : Q (.str (Txt.join a ys)) H) : rJoin K (.str a) [.ref p] H Q := ⟨a, p, ys, rfl, rfl, .inl h, z, k⟩
theorem r_bmS {a : Str} {P : Prop} (k : P) : tyV K "str" (.str a) H ∧ P := ⟨rfl, k⟩
theorem r_all {a : Addr} {bs : List Bool} (h : SqL K H a (bs.map V.bl)) (k : Q (.bl (bs.all id)) H) : rAll K [.ref a] H Q := ⟨a, bs, rfl, h, k⟩
/-! loops -/
theorem r_for {wi : TI} {g : TG} {tb : TS} (h : wi σ H fun J H1 => ∃ W : Nat → Nat → St → Hp → Prop, (∃ m, W 0 m σ H1) ∧ ∀ i m σ H, W i m σ H →
  (J.stop i H ∧ D.nx σ H) ∨ (J.go i H ∧ ∃ N : St → Hp → Prop, (∀ σ' H', N σ' H' → ∃ m', m' < m ∧ W (i + 1) m' σ' H') ∧ ∀ x H', J.yld i H x H' → g x σ H' fun σ2 H2 => tb { D with nx := N, ct := N, bk := D.nx } σ2 H2)) : tFor wi g tb D σ H := h
theorem r_lc {wi : TI} {g : TG} {tt : TT} {te : TE} {vs : List Nat} (h : wi σ H fun J H1 => ∀ D, H1 D = none → ∃ W : Nat → Nat → Hp → Prop, (∃ m, W 0 m (upd H1 D (.lst []))) ∧ ∀ i m H, W i m H →
  (J.stop i H ∧ Q (.ref D) H) ∨ (J.go i H ∧ ∃ Nx : Hp → Prop, (∀ H', Nx H' → ∃ m', m' < m ∧ W (i + 1) m' H') ∧ ∀ x H', J.yld i H x H' → g x (wipe σ vs) H' fun σ2 H2 => wipe σ2 vs = wipe σ vs ∧ tt σ2 H2 fun b H3 =>
    if b = true then te σ2 H3 fun y H4 => ∃ acc, H4 D = some (.lst acc) ∧ acc.length < sizeLine ∧ Nx (upd H4 D (.lst (acc ++ [y]))) else Nx H3)) : tLc wi g tt te vs σ H Q := h
theorem r_R1 {ta : TA} {R : It → Hp → Prop} (h : ta σ H fun vs H1 => ∃ j : Int, vs = [.int j] ∧ -(2 ^ 62) ≤ j ∧ j < 2 ^ 62 ∧ R (Itr 0 j.toNat) H1) : iRng1 ta σ H R := h
theorem r_rng {n : Int} {P : Int → Prop} (h0 : -4611686018427387904 ≤ n) (h1 : n < 4611686018427387904) (h : P n) : ∃ j : Int, [V.int n] = [.int j] ∧ -(2 ^ 62) ≤ j ∧ j < 2 ^ 62 ∧ P j := ⟨n, rfl, by simpa using h0, by simpa using h1, h⟩
theorem r_iL {tl : TE} {R : It → Hp → Prop} (h : tl σ H fun x H1 => ∃ a, x = .ref a ∧ (∃ xs, SqL K H1 a xs) ∧ R (Itl K a) H1) : iAny K tl σ H R := .inl h
theorem r_iT {tl : TE} {R : It → Hp → Prop} (h : tl σ H fun x H1 => ∃ a, x = .ref a ∧ (∃ xs, SqT K H1 a xs) ∧ R (Itt K a) H1) : iAny K tl σ H R := .inr (.inl h)
theorem r_iS {tl : TE} {R : It → Hp → Prop} (h : tl σ H fun v H1 => ∃ x, v = .str x ∧ R (Its x) H1) : iAny K tl σ H R := .inr (.inr h)
theorem r_aL {a : Addr} {xs : List V} {P : Addr → Prop} (h : SqL K H a xs) (k : P a) : ∃ b, V.ref a = .ref b ∧ (∃ xs, SqL K H b xs) ∧ P b := ⟨a, rfl, ⟨xs, h⟩, k⟩
theorem r_aT {a : Addr} {xs : List V} {P : Addr → Prop} (h : SqT K H a xs) (k : P a) : ∃ b, V.ref a = .ref b ∧ (∃ xs, SqT K H b xs) ∧ P b := ⟨a, rfl, ⟨xs, h⟩, k⟩
theorem r_aS {z : Str} {P : Str → Prop} (k : P z) : ∃ x, V.str z = .str x ∧ P x := ⟨z, rfl, k⟩
theorem r_yes {Q : Bool → Hp → Prop} (h : Q true H) : tYes σ H Q := h
theorem r_wipe {σ' : St} {vs : List Nat} {P : Prop} (e : wipe σ' vs = wipe σ vs) (h : P) : wipe σ' vs = wipe σ vs ∧ P := ⟨e, h⟩
theorem r_acc {D : Addr} {acc : List V} {P : List V → Prop} (h : H D = some (.lst acc)) (z : acc.length < sizeLine) (k : P acc) : ∃ acc, H D = some (.lst acc) ∧ acc.length < sizeLine ∧ P acc := ⟨acc, h, z, k⟩
end

/-! what a loop or a comprehension appends to stands apart -/
theorem chg_acc {b D : Addr} {H1 H4 : Hp} {o : HO} (c : Chg b H1 H4) (n : H1 D = none) : Chg b H1 (upd H4 D o) := ⟨fun a x na e => by
  rw [upd_ne (ne_of_none e n)]
  exact c.to a x na e⟩
theorem sm_acc {D : Addr} {H1 H4 : Hp} {o : HO} (c : Sm H1 H4) (n : H1 D = none) : Sm H1 (upd H4 D o) := ⟨fun a x e => by
  rw [upd_ne (ne_of_none e n)]
  exact c.to a x e⟩
theorem sm_chg {b : Addr} {H H1 H2 : Hp} (a : Sm H H1) (c : Chg b H1 H2) : Chg b H H2 := a.chg.trans c
theorem chg_sm {b : Addr} {H H1 H2 : Hp} (a : Chg b H H1) (c : Sm H1 H2) : Chg b H H2 := a.trans c.chg
/-! texts -/
theorem str_len (z : Str) : z.length = z.cps.toList.length := (Array.length_toList).symm
theorem str_get {z : Str} {i c : Nat} (h : z.cps[i]? = some c) : z.cps.toList[i]? = some c := by
  rw [Array.getElem?_toList]
  exact h
theorem strs_sum : ∀ (ys : List Str) (n : Nat), (∀ y ∈ ys, y.length ≤ n) → (ys.map (·.length)).sum ≤ n * ys.length
  | [], n, _ => by simp
  | y :: ys, n, h => by
    have h1 := h y (by simp)
    have h2 := strs_sum ys n fun z hz => h z (by simp [hz])
    rw [List.map_cons, List.sum_cons, List.length_cons, Nat.mul_succ]
    omega
theorem ne_fr {H : Hp} {a b : Addr} {o : HO} (n : H b = none) (h : H a = some o) : a ≠ b := ne_of_none h n
theorem fr_of {H H' : Hp} {l : Addr} (n : H' l = none) (e : Sm H H') : H l = none := e.free n
theorem ix2 {b : Bool} {x y : Int} : atI [V.int x, V.int y] (if b = true then 1 else 0) = some (V.int (if b = true then y else x)) := by
  cases b <;> rfl
section
variable {H : Hp} {Q : VK} {K : PySem.W.Frag} {a : Addr} {x0 x1 x2 x3 v : V} {xs : List V}
theorem r_ixL0 (h : SqL K H a (x0 :: xs)) (k : Q x0 H) : rIx K (.ref a) (.int 0) H Q := r_ixL h (atI_nat (j := 0) rfl) k
theorem r_ixL1 (h : SqL K H a (x0 :: x1 :: xs)) (k : Q x1 H) : rIx K (.ref a) (.int 1) H Q := r_ixL h (atI_nat (j := 1) rfl) k
theorem r_ixL2 (h : SqL K H a (x0 :: x1 :: x2 :: xs)) (k : Q x2 H) : rIx K (.ref a) (.int 2) H Q := r_ixL h (atI_nat (j := 2) rfl) k
theorem r_ixT0 (h : SqT K H a (x0 :: xs)) (k : Q x0 H) : rIx K (.ref a) (.int 0) H Q := r_ixT h (atI_nat (j := 0) rfl) k
theorem r_ixT1 (h : SqT K H a (x0 :: x1 :: xs)) (k : Q x1 H) : rIx K (.ref a) (.int 1) H Q := r_ixT h (atI_nat (j := 1) rfl) k
theorem r_ixT2 (h : SqT K H a (x0 :: x1 :: x2 :: xs)) (k : Q x2 H) : rIx K (.ref a) (.int 2) H Q := r_ixT h (atI_nat (j := 2) rfl) k
theorem r_setB0 {Q : Hp → Prop} (h : H a = some (.lst [x0, x1])) (k : Q (upd H a (.lst [v, x1]))) : rSetL (.ref a) (.int 0) v H Q := r_setL h rfl k
theorem r_setB1 {Q : Hp → Prop} (h : H a = some (.lst [x0, x1])) (k : Q (upd H a (.lst [x0, v]))) : rSetL (.ref a) (.int 1) v H Q := r_setL h (j := 1) rfl k
end
/-! texts by their signs -/
theorem joinL_nil : ∀ ps : List (List Nat), TL.joinL [] ps = ps.flatten
  | [] => rfl
  | [p] => by
    show p = [p].flatten
    simp
  | p :: q :: r => by
    show p ++ ([] ++ TL.joinL [] (q :: r)) = (p :: q :: r).flatten
    rw [joinL_nil (q :: r)]
    simp
theorem join_parts (ps : List (List Nat)) : Txt.join (SX.S []) (ps.map SX.S) = SX.S ps.flatten := by rw [SX.join_S, joinL_nil]
theorem flat_ones (cs : List Nat) : (cs.map fun c => [c]).flatten = cs := by
  induction cs with
  | nil => rfl
  | cons c cs ih => rw [List.map_cons, List.flatten_cons, ih]; rfl
section
variable {H : Hp} {Q : VK} {K : PySem.W.Frag}
/-- a sign of a text at a place within -/
theorem r_ixSn {z : Str} {i : Int} {n : Nat} (hz : z.length = n) (hn : n ≤ 1000000) (h0 : 0 ≤ i) (h1 : i < (n : Int)) (k : ∀ c, z.cps.toList[i.toNat]? = some c → Q (.str ⟨#[c]⟩) H) : rIx K (.str z) (.int i) H Q := by
  obtain ⟨c, e, g⟩ := atI_of (xs := z.cps.toList) h0 (by rw [← str_len, hz]; exact h1)
  have hl : (1000000 : Nat) ≤ sizeLine := by rw [sizeLine_eq]; decide
  exact r_ixS (by rw [hz]; omega) e (k c g)
/-- a text joined of single signs -/
theorem r_join1 {p : Addr} {cs : List Nat} (h : H p = some (.lst (cs.map fun c => V.str ⟨#[c]⟩))) (z : cs.length ≤ 16777216) (k : Q (.str (SX.S cs)) H) : rJoin K (.str (SX.S [])) [.ref p] H Q := by
  have e : (cs.map fun c => V.str ⟨#[c]⟩) = ((cs.map fun c => [c]).map SX.S).map V.str := by
    rw [List.map_map, List.map_map]
    rfl
  rw [e] at h
  refine r_join (ys := (cs.map fun c => [c]).map SX.S) (SqL.of h) ?_ ?_
  · rw [SX.lens, List.map_map]
    have : ((fun c : List Nat => c.length) ∘ fun c => [c]) = fun _ : Nat => 1 := rfl
    rw [this]
    have e0 : (SX.S []).length = 0 := rfl
    rw [e0, Nat.mul_zero, Nat.add_zero]
    have : ∀ l : List Nat, (l.map fun _ => 1).sum = l.length := fun l => by
      induction l with
      | nil => rfl
      | cons c l ih => rw [List.map_cons, List.sum_cons, ih, List.length_cons]; omega
    rw [this]
    exact z
  · rw [join_parts, flat_ones]
    exact k
end
/-! the same rules, the written part by its own name -/
section
variable {X : Cx} {K : PySem.W.Frag}
theorem ix_k (e : X.K = K) : IxR X (rIx K) := e ▸ ix_seq
theorem add_k (e : X.K = K) : OpR X (binaryOp .Add) (rAddA K) := e ▸ op_addA
theorem mul_k (e : X.K = K) : OpR X (binaryOp .Mult) (rMulA K) := e ▸ op_mulA
theorem eq_k (e : X.K = K) (hu : X.A.units + 64 < cLine) : OpR X (compareOp .Eq) (rEqA K) := e ▸ op_eqA hu
theorem ne_k (e : X.K = K) (hu : X.A.units + 64 < cLine) : OpR X (compareOp .NotEq) (rNeA K) := e ▸ op_neA hu
theorem in_k (e : X.K = K) : OpR X (compareOp .In) (rInA K) := e ▸ op_inA
theorem notIn_k (e : X.K = K) : OpR X (compareOp .NotIn) (rNotInA K) := e ▸ op_notInA
theorem sl_k (e : X.K = K) : SlR X (rSlAny K) := e ▸ sl_any
theorem len_k (e : X.K = K) : CallR X (.builtin "len") (rLenA K) := e ▸ call_lenA
theorem max_k (e : X.K = K) (hc : X.calm = true) : CallR X (.builtin "max") (rMaxA K) := e ▸ call_maxA hc
theorem min_k (e : X.K = K) (hc : X.calm = true) : CallR X (.builtin "min") (rMinA K) := e ▸ call_minA hc
theorem sum_k (e : X.K = K) (hc : X.calm = true) : CallR X (.builtin "sum") (rSum K) := e ▸ cr_sum hc
theorem all_k (e : X.K = K) (hc : X.calm = true) : CallR X (.builtin "all") (rAll K) := e ▸ cr_all hc
theorem any_k (e : X.K = K) (hc : X.calm = true) : CallR X (.builtin "any") (rAny K) := e ▸ cr_any hc
theorem isi_k (e : X.K = K) : CallR X (.builtin "isinstance") (rIsi K) := e ▸ call_isi
theorem list_k (e : X.K = K) : CallR X (.type "list") (rListA K) := e ▸ cl_list
theorem tuple_k (e : X.K = K) : CallR X (.type "tuple") (rTupleA K) := e ▸ cl_tuple
theorem join_k (e : X.K = K) : MtR X "str.join" (rJoin K) := e ▸ mj_join
theorem any_pi {tg l : Expr} {tl : TE} (e : X.K = K) (hl : PE X l tl) : PI X tg l (iAny K tl) := e ▸ pi_any hl
variable {a b : Expr} {ta tb : TE} {rest : List Expr} {pos : Pos}
theorem orT_k (e : X.K = K) (ha : PE X a ta) (hb : PE X (.BoolOp .Or (b :: rest) pos) tb) : PE X (.BoolOp .Or (a :: b :: rest) pos) (tOrT K ta tb) := e ▸ pe_orT ha hb
theorem andT_k (e : X.K = K) (ha : PE X a ta) (hb : PE X (.BoolOp .And (b :: rest) pos) tb) : PE X (.BoolOp .And (a :: b :: rest) pos) (tAndT K ta tb) := e ▸ pe_andT ha hb
theorem notT_k (e : X.K = K) (ha : PE X a ta) : PE X (.UnaryOp .Not a pos) (tNotT K ta) := e ▸ pe_notT ha
end
theorem ne_fr' {H : Hp} {b D : Addr} (h : BoxAt H b) (n : H D = none) : D ≠ b := by
  obtain ⟨c, s, h⟩ := h
  exact (ne_of_none h n).symm
theorem chg_tr {b : Addr} {H H1 H2 : Hp} (c : Chg b H1 H2) (a : Chg b H H1) : Chg b H H2 := a.trans c
theorem sm_tr {H H1 H2 : Hp} (c : Sm H1 H2) (a : Sm H H1) : Sm H H2 := a.trans c
theorem sm_hid {b : Addr} {H H1 H2 : Hp} (c : Chg b H1 H2) (n : H b = none) (a : Sm H H1) : Sm H H2 := c.sm a n
theorem len_le {n : Nat} (h : n ≤ 1000000) : n ≤ sizeLine := by
  have hl : (1000000 : Nat) ≤ sizeLine := by rw [sizeLine_eq]; decide
  omega
section
variable {σ : St} {H : Hp} {Q : VK} {K : PySem.W.Frag}
theorem r_chain {r r' : R2} {ta tb tc : TE} (h : ta σ H fun x H1 => tb σ H1 fun y H2 => r x y H2 fun z H3 => ∃ k, z = .bl k ∧ (if k = true then tc σ H3 fun w' H4 => r' y w' H4 Q else Q (.bl false) H3)) : tChain r r' ta tb tc σ H Q := h
theorem r_maxF {i j : Int} (k : ∀ m, i ≤ m → j ≤ m → (m = i ∨ m = j) → Q (.int m) H) : rMaxA K [.int i, .int j] H Q := by
  refine r_max (k _ ?_ ?_ ?_) <;> split <;> omega
theorem r_minF {i j : Int} (k : ∀ m, m ≤ i → m ≤ j → (m = i ∨ m = j) → Q (.int m) H) : rMinA K [.int i, .int j] H Q := by
  refine r_min (k _ ?_ ?_ ?_) <;> split <;> omega
theorem r_isB {a b : Bool} (k : Q (.bl (decide (a = b))) H) : rIsB (.bl a) (.bl b) H Q := ⟨a, b, rfl, rfl, k⟩
theorem r_inSt {t : Str} {c : Nat} {z : Str} (e : t = ⟨#[c]⟩) (k : Q (.bl (decide (c ∈ z.cps.toList))) H) : rInA K (.str t) (.str z) H Q := by
  subst e
  exact r_inS k
end
section
variable {σ : St} {H : Hp} {Q : VK} {K : PySem.W.Frag}
/-- an item of a list of ints at a place within -/
theorem r_ixLi {a : Addr} {xs : List V} {i : Int} {ns : List Int} (h : SqL K H a xs) (e : xs = ns.map V.int) (h0 : 0 ≤ i) (h1 : i < (ns.length : Int)) (k : ∀ n, n ∈ ns → Q (.int n) H) : rIx K (.ref a) (.int i) H Q := by
  subst e
  obtain ⟨v, ev, hv⟩ := atI_mem (xs := ns.map V.int) h0 (by rw [List.length_map]; exact h1)
  obtain ⟨n, hn, rfl⟩ := List.mem_map.mp hv
  exact r_ixL h ev (k n hn)
theorem cshl1 {j : Int} (h0 : 0 ≤ j) (h1 : j ≤ 100000) : CShl 1 j := by
  refine ⟨h0, ?_⟩
  have e1 : (Builtin.Int.intBits 1 : Int) = 1 := by decide
  have e2 : (2 : Int) ^ 27 = 134217728 := by decide
  rw [e1, e2]
  omega
theorem pow2_le {a b : Nat} (h : a ≤ b) : (2 : Int) ^ a ≤ 2 ^ b := by
  have := Nat.pow_le_pow_right (show 0 < 2 by decide) h
  have e : ∀ n : Nat, ((2 ^ n : Nat) : Int) = (2 : Int) ^ n := fun n => by rw [Int.natCast_pow]; rfl
  rw [← e, ← e]
  exact Int.ofNat_le.mpr this
theorem ediv_down {l b : Int} (hl : 0 < l) (hb : 2 ≤ b) : 0 ≤ l / b ∧ l / b < l := by
  refine ⟨Int.ediv_nonneg (by omega) (by omega), ?_⟩
  have h1 : l / b * b ≤ l := Int.ediv_mul_le l (by omega)
  have h2 : 0 ≤ l / b := Int.ediv_nonneg (by omega) (by omega)
  rcases Int.lt_or_le (l / b) l with h | h
  · exact h
  · have h3 : l * 2 ≤ l / b * b := Int.mul_le_mul h hb (by omega) h2
    omega
end
theorem Chg.seq {K : PySem.W.Frag} {b : Addr} {H H' : Hp} {a : Addr} {xs : List V} (e : Chg b H H') (n : a ≠ b) (h : SqL K H a xs) : SqL K H' a xs := by
  rcases h with (h | ⟨o, h⟩) | h
  · exact .inl (.inl (e.to _ _ n h))
  · exact .inl (.inr ⟨o, e.to _ _ n h⟩)
  · exact .inr h
theorem Chg.seqT {K : PySem.W.Frag} {b : Addr} {H H' : Hp} {a : Addr} {xs : List V} (e : Chg b H H') (n : a ≠ b) (h : SqT K H a xs) : SqT K H' a xs := by
  rcases h with (h | ⟨o, h⟩) | h
  · exact .inl (.inl (e.to _ _ n h))
  · exact .inl (.inr ⟨o, e.to _ _ n h⟩)
  · exact .inr h
theorem BoxAt.chg {b D : Addr} {H H' : Hp} (e : Chg D H H') (n : b ≠ D) (h : BoxAt H b) : BoxAt H' b := by
  obtain ⟨x, y, h⟩ := h
  exact ⟨x, y, e.to _ _ n h⟩
theorem box_ne {H : Hp} {b D : Addr} (n : H D = none) (h : BoxAt H b) : b ≠ D := (ne_fr' h n).symm
theorem chg_fr {b t : Addr} {H H' : Hp} (n : H' t = none) (hb : BoxAt H' b) (c : Chg b H H') : H t = none := by
  cases q : H t with
  | none => rfl
  | some o =>
    have := c.to t o (ne_fr' hb n) q
    rw [n] at this
    cases this
theorem cutV_mem {xs : List V} {lo hi : Option Int} {v : V} (h : v ∈ cutV xs lo hi) : v ∈ xs := List.mem_of_mem_drop (List.mem_of_mem_take h)
theorem cutV_le (xs : List V) (lo hi : Option Int) : (cutV xs lo hi).length ≤ xs.length := by
  unfold cutV
  rw [List.length_take, List.length_drop]
  omega
section
variable {σ : St} {H : Hp} {Q : VK} {K : PySem.W.Frag} {X : Cx}
theorem rev_pi {tg e : Expr} {te : TE} {p pos : Pos} (ek : X.K = K) (hg : Gl X "reversed") (hm : X.mg "reversed" = none) (he : PE X e te) (hs : starEach [e] X.env = (false, eval e X.env) :: starEach [] X.env := by rfl) : PI X tg (.Call (.Name "reversed" p) [e] [] pos) (RT.iRevA K te) := ek ▸ RT.pi_revA hg hm he hs
theorem r_rev {te : TE} {R : It → Hp → Prop} (h : te σ H fun v H1 => ∃ (a : Addr) (xs : List V), v = .ref a ∧ ((SqL K H1 a xs ∧ R (Itv K a xs.length) H1) ∨ (SqT K H1 a xs ∧ R (RT.ItvT K a xs.length) H1))) : RT.iRevA K te σ H R := h
theorem r_revL {a : Addr} {xs : List V} {P : Addr → List V → Prop} {P' : Addr → List V → Prop} (h : SqL K H a xs) (k : P a xs) : ∃ (b : Addr) (ys : List V), V.ref a = .ref b ∧ ((SqL K H b ys ∧ P b ys) ∨ (SqT K H b ys ∧ P' b ys)) := ⟨a, xs, rfl, .inl ⟨h, k⟩⟩
theorem r_revT {a : Addr} {xs : List V} {P : Addr → List V → Prop} {P' : Addr → List V → Prop} (h : SqT K H a xs) (k : P' a xs) : ∃ (b : Addr) (ys : List V), V.ref a = .ref b ∧ ((SqL K H b ys ∧ P b ys) ∨ (SqT K H b ys ∧ P' b ys)) := ⟨a, xs, rfl, .inr ⟨h, k⟩⟩
/-- an item of a list of ints, by its place -/
theorem r_ixLg {a : Addr} {xs : List V} {i : Int} {ns : List Int} (h : SqL K H a xs) (e : xs = ns.map V.int) (h0 : 0 ≤ i) (h1 : i < (ns.length : Int)) (k : ∀ n, ns[i.toNat]? = some n → Q (.int n) H) : rIx K (.ref a) (.int i) H Q := by
  subst e
  obtain ⟨v, ev, hv⟩ := atI_of (xs := ns.map V.int) h0 (by rw [List.length_map]; exact h1)
  rw [List.getElem?_map] at hv
  cases hn : ns[i.toNat]? with
  | none =>
    rw [hn] at hv
    cases hv
  | some n =>
    rw [hn] at hv
    have e : V.int n = v := Option.some.inj hv
    subst e
    exact r_ixL h ev (k n hn)
end
theorem rep_ints (n : Nat) (x : Int) : (List.replicate n [V.int x]).flatten = (List.replicate n x).map V.int := by
  induction n with
  | zero => rfl
  | succ n ih => rw [List.replicate_succ, List.flatten_cons, ih, List.replicate_succ, List.map_cons]; rfl
/-- lists of ints are equal as data just where they are -/
theorem dps_ints {K : PySem.W.Frag} {H : Hp} : ∀ ns : List Int, DpAll K H (ns.map V.int) (ns.map PyData.int)
  | [] => .nil
  | n :: ns => .cons (.int n) (dps_ints ns)
theorem dp_ints {K : PySem.W.Frag} {H : Hp} {a : Addr} {ns : List Int} (h : SqL K H a (ns.map V.int)) : Dp K H (.ref a) (.list (ns.map PyData.int)) := .lst h (dps_ints ns)
theorem pow_lim {b : Int} {n : Nat} (h0 : 0 ≤ b) (h1 : b ≤ 1099511627776) : (b ^ n).natAbs < 2 ^ (40 * n + 1) := by
  rw [Int.natAbs_pow]
  have h2 : b.natAbs ≤ 2 ^ 40 := by
    have e : (2 : Nat) ^ 40 = 1099511627776 := by decide
    omega
  have h3 := Nat.pow_le_pow_left h2 n
  rw [← Nat.pow_mul] at h3
  have h4 : 2 ^ (40 * n) < 2 ^ (40 * n + 1) := Nat.pow_lt_pow_right (by decide) (by omega)
  omega
theorem lay_ints (ns : List Int) : PyData.canLayAll0 (ns.map PyData.int) = true := by
  induction ns with
  | nil => rfl
  | cons n ns ih => simpa [PyData.canLayAll0, PyData.canLay0] using ih
theorem deep_ints (ns : List Int) : PyData.depthAll (ns.map PyData.int) ≤ 1 := by
  induction ns with
  | nil => decide
  | cons n ns ih => simpa [PyData.depthAll, PyData.depth] using ih
theorem shaped_ints (ns : List Int) : SeqAt.shaped (.list (ns.map PyData.int)) = true := by
  have h := lay_ints ns
  have h2 := deep_ints ns
  simp [SeqAt.shaped, PyData.canLay0, PyData.depth, h]
  omega
theorem eqv_ints (ns : List Int) : PyData.eqv (.list (ns.map PyData.int)) (.list (ns.map PyData.int)) = true := SeqAt.eqv_refl _ (by simpa [PyData.canLay0] using lay_ints ns)
section
variable {H : Hp} {Q : VK} {K : PySem.W.Frag}
/-- two lists of the same ints -/
theorem r_neLL {a b : Addr} {ns : List Int} (ha : SqL K H a (ns.map V.int)) (hb : SqL K H b (ns.map V.int)) (k : Q (.bl false) H) : rNeA K (.ref a) (.ref b) H Q := r_neD (dp_ints ha) (dp_ints hb) (shaped_ints ns) (shaped_ints ns) (by rw [eqv_ints]; exact k)
theorem r_eqLL {a b : Addr} {ns : List Int} (ha : SqL K H a (ns.map V.int)) (hb : SqL K H b (ns.map V.int)) (k : Q (.bl true) H) : rEqA K (.ref a) (.ref b) H Q := r_eqD (dp_ints ha) (dp_ints hb) (shaped_ints ns) (shaped_ints ns) (by rw [eqv_ints]; exact k)
end
section
variable {H : Hp} {Q : VK} {K : PySem.W.Frag}
/-- [x] * n -/
theorem r_repI {a : Addr} {x i : Int} (ha : H a = some (.lst [V.int x])) (h0 : 0 ≤ i) (h1 : i ≤ 1000) (k : ∀ p H', Sm H H' → H p = none → H' p = some (.lst ((List.replicate i.toNat x).map V.int)) → Q (.ref p) H') : rMulA K (.ref a) (.int i) H Q :=
  r_mulL ha (by omega) (by omega) (len_le (by
    show 1 * i.toNat ≤ 1000000
    omega)) fun p H' s n e => k p H' s n (by rw [← rep_ints]; exact e)
/-- two lists of ints, one behind the other -/
theorem r_addLI {a b : Addr} {xs ys : List Int} (ha : H a = some (.lst (xs.map V.int))) (hb : H b = some (.lst (ys.map V.int))) (hz : xs.length + ys.length ≤ 1000000)
    (k : ∀ p H', Sm H H' → H p = none → H' p = some (.lst ((xs ++ ys).map V.int)) → Q (.ref p) H') : rAddA K (.ref a) (.ref b) H Q :=
  r_addL ha hb (len_le (by rw [List.length_map, List.length_map]; exact hz)) fun p H' s n e => k p H' s n (by rw [List.map_append]; exact e)
end
theorem r_ixLm {K : PySem.W.Frag} {H : Hp} {Q : VK} {a : Addr} {xs : List V} {i : Int} (h : SqL K H a xs) (h0 : 0 ≤ i) (h1 : i < (xs.length : Int)) (k : ∀ v, v ∈ xs → Q v H) : rIx K (.ref a) (.int i) H Q := by
  obtain ⟨v, ev, hv⟩ := atI_mem h0 h1
  exact r_ixL h ev (k v hv)
theorem chg_acc2 {b D : Addr} {H1 H4 : Hp} {o : HO} (n : H1 D = none) (c : Chg b H1 H4) : Chg b H1 (upd H4 D o) := chg_acc c n
theorem sm_acc2 {D : Addr} {H1 H4 : Hp} {o : HO} (n : H1 D = none) (c : Sm H1 H4) : Sm H1 (upd H4 D o) := sm_acc c n
end RV

namespace RV
open PySem PySem.Spec L2 PySem.NumText PySem.W
open PyProof.Rows hiding St
/-- the limit on an int's signs is what it was at the start -/
theorem looks_msd {K : PySem.W.Frag} {M : Model} {h : Heap} (X : K.In h) (e : PySem.W.nsIn K cStatics "sys.int_max_str_digits" = some none) : PySem.W.Looks M h Builtin.intMaxStrDigits 4300 :=
  (PySem.W.looks_nsIn X e).andThen .now
theorem from_text {M : Model} {A : Around} {E : Value → Shared → Prop} {s : Shared} {Q : Value → Shared → Prop} {v : Value} {text : List Nat} {n : Int}
    (lk : PySem.W.Looks M s.heap Builtin.intMaxStrDigits 4300) (far : ¬ (text.takeWhile (· != 0)).length ≤ 640)
    (got : (int_private% "readNumeral") 4300 10 (text.takeWhile (· != 0)) = (int_private% "Numeral.value") n)
    (whole : ((text.takeWhile (· != 0)).length == text.length) = true) (k : Q (.int n s.toks) { s with toks := s.toks + 1 }) :
    wpAny M A ((int_private% "intFromText") v text 10) Q E s := by
  obtain ⟨hp, g, d, tk, os⟩ := s
  have lk' : PySem.W.Looks M hp Builtin.intMaxStrDigits 4300 := lk
  clear lk
  repeat (any_goals (first
    | (with_reducible refine wpAny_ite_false (decide_eq_false far) ?_)
    | (with_reducible refine wpAny_ite_true (decide_eq_true whole) ?_)
    | ((with_reducible show wpAny _ _ Builtin.intMaxStrDigits _ _ _); refine PySem.W.Looks.here lk' ?_)
    | assumption
    | wp_step))
  all_goals (try rw [got])
  all_goals (try dsimp only)
  repeat (any_goals (first
    | (with_reducible refine wpAny_ite_true (decide_eq_true whole) ?_)
    | assumption
    | wp_step))
structure Kept (p : Prop) : Prop where
  get : p
theorem whole_text {x : PySem.Str} {u : Tok} {n : Int} (hl : x.length ≤ 16777216) (far : ¬ (numSeenOf x).length ≤ 640) (hn : PySem.intText? x = some n) :
    Meets (Builtin.«int.__new__» ⟨[.type "int", .str x u], []⟩) (fun A R s => (∀ M, PySem.W.Looks M s.heap Builtin.intMaxStrDigits 4300) ∧ R (.ok (.ret (.int n s.toks))) { s with toks := s.toks + 1 }) :=
  .of_wp fun prog w A R s hs => by
    obtain ⟨hp, g, d, tk, os⟩ := s
    obtain ⟨lk, fin⟩ := hs
    have a1 := F.conv_sub_int
    have a2 := F.madeHere_int
    have a3 := PySem.W.KIN.str_int
    have a4 := PySem.W.KIN.str_idx
    have a5 := PySem.W.KIN.str_trunc
    have a6 : typeOf (.str x u) = pure (.type "str") := rfl
    have got : (int_private% "readNumeral") 4300 10 (numSeenOf x) = (int_private% "Numeral.value") n ∧ ((numSeenOf x).length == (numTextOf x).length) = true := by
      have hs : (16777216 : Nat) = sizeLine := by rw [sizeLine_eq]
      rcases read4300 x (by rw [← hs]; exact hl) with ⟨m, h1, h2, h3⟩ | ⟨h1, _⟩
      · rw [hn] at h1
        cases h1
        exact ⟨h3, h2⟩
      · rw [hn] at h1
        cases h1
    have kk := Kept.mk (And.intro far got)
    have lk' := Kept.mk lk
    clear far got hl hn lk
    repeat (any_goals (first
      | assumption
      | ((with_reducible show wpAny _ _ ((int_private% "intFromText") _ _ _) _ _ _); refine from_text (lk'.get _) kk.get.1 kk.get.2.1 kk.get.2.2 ?_)
      | wp_step))
    all_goals first | exact ⟨_, rfl, fin⟩ | skip
section
variable {X : Cx} {K : PySem.W.Frag}
def rIntL : List V → Hp → VK → Prop := fun xs H Q => ∃ a n, xs = [.str a] ∧ PySem.intText? a = some n ∧ ¬ (numSeenOf a).length ≤ 640 ∧ a.length ≤ 16777216 ∧ Q (.int n) H
theorem long_int (e : X.K = K) (zs : PySem.W.nsIn K cStatics "sys.int_max_str_digits" = some none) : CallR X (.type "int") rIntL := by
  intro pins s σ H xs us Q I r h
  obtain ⟨a, n, rfl, hn, far, hl, q⟩ := h
  obtain ⟨u, rfl, t, rfl⟩ := vals1 r
  subst e
  exact call_int_1 (whole_text hl far hn) ⟨fun M => looks_msd I.kIn zs, rfl, ⟨.int n, H, I.tok _, ⟨_, rfl⟩, q⟩⟩
/-- int(..) of an int, a truth, a text of any length -/
def rIntX : List V → Hp → VK → Prop := fun xs H Q => rIntA xs H Q ∨ rIntL xs H Q
theorem int_x (e : X.K = K) (zs : PySem.W.nsIn K cStatics "sys.int_max_str_digits" = some none) : CallR X (.type "int") rIntX := cl_int.or (long_int e zs)
variable {H : Hp} {Q : VK}
theorem x_intI {i : Int} (k : Q (.int i) H) : rIntX [.int i] H Q := .inl (r_intI k)
theorem x_intB {i : Bool} (k : Q (.int (if i then 1 else 0)) H) : rIntX [.bl i] H Q := .inl (r_intB k)
/-- a text of figures alone -/
theorem x_intS {cs : List Nat} {n : Nat} (h : AllDigits cs) (h1 : cs ≠ []) (h2 : cs.length ≤ 4300) (hv : digitsVal cs = n) (k : Q (.int (n : Int)) H) : rIntX [.str (SX.S cs)] H Q := by
  have hl : (SX.S cs).length = cs.length := SX.S_len cs
  have hn : PySem.intText? (SX.S cs) = some (n : Int) := by
    rw [← hv]
    exact intText_digits (x := SX.S cs) h h1 (by rw [hl]; exact h2)
  by_cases far : (SX.S cs).length ≤ 640
  · exact .inl (r_intS hn far k)
  · refine .inr ⟨_, _, rfl, hn, ?_, by omega, k⟩
    rw [(numText_signs (x := SX.S cs) fun c hc => Or.inr (h c hc)).2]
    show ¬ (SX.S cs).cps.toList.length ≤ 640
    rw [← str_len]
    exact far
end
end RV

namespace RV
/-! bits of whole numbers, by halves -/
theorem and_par (a b : Nat) : (a &&& b) % 2 = a % 2 * (b % 2) := by
  have h := Nat.testBit_and a b 0
  rw [Nat.testBit_zero, Nat.testBit_zero, Nat.testBit_zero] at h
  have ha : a % 2 = 0 ∨ a % 2 = 1 := by omega
  have hb : b % 2 = 0 ∨ b % 2 = 1 := by omega
  have hc : (a &&& b) % 2 = 0 ∨ (a &&& b) % 2 = 1 := by omega
  rcases ha with ha | ha <;> rcases hb with hb | hb <;> rcases hc with hc | hc <;> simp_all
theorem and_half (a b : Nat) : (a &&& b) / 2 = (a / 2) &&& (b / 2) := Nat.and_div_two
/-- what the one has and the other has not -/
def out (a b : Nat) : Nat := a - (a &&& b)
theorem out_le (a b : Nat) : out a b ≤ a := Nat.sub_le _ _
theorem out_half (a b : Nat) : out a b / 2 = out (a / 2) (b / 2) ∧ out a b % 2 = a % 2 * (1 - b % 2) := by
  unfold out
  have h1 := and_half a b
  have h2 := and_par a b
  have h3 : (a &&& b) ≤ a := Nat.and_le_left
  have h4 : (a / 2 &&& b / 2) ≤ a / 2 := Nat.and_le_left
  have ha : a % 2 = 0 ∨ a % 2 = 1 := by omega
  have hb : b % 2 = 0 ∨ b % 2 = 1 := by omega
  generalize a &&& b = c at *
  generalize a / 2 &&& b / 2 = d at *
  rcases ha with ha | ha <;> rcases hb with hb | hb <;> rw [ha, hb] at h2 ⊢ <;> simp only [Nat.mul_zero, Nat.zero_mul, Nat.mul_one, Nat.one_mul, Nat.sub_zero, Nat.sub_self] at h2 ⊢ <;> constructor <;> omega
/-- how many bits are 1 -/
def pop (n : Nat) : Nat := if h : n = 0 then 0 else n % 2 + pop (n / 2)
termination_by n
decreasing_by omega
theorem pop_zero : pop 0 = 0 := by unfold pop; rfl
theorem pop_eq (n : Nat) : pop n = n % 2 + pop (n / 2) := by
  by_cases h : n = 0
  · subst h
    rw [pop_zero]
  · rw [pop, dif_neg h]
/-- where the ones stand, from a place on -/
def onesAt (n k : Nat) : List Nat := if h : n = 0 then [] else (if n % 2 = 1 then [k] else []) ++ onesAt (n / 2) (k + 1)
termination_by n
decreasing_by omega
theorem onesAt_zero (k : Nat) : onesAt 0 k = [] := by unfold onesAt; rfl
theorem onesAt_eq (n k : Nat) : onesAt n k = (if n % 2 = 1 then [k] else []) ++ onesAt (n / 2) (k + 1) := by
  by_cases h : n = 0
  · subst h
    simp [onesAt_zero]
  · rw [onesAt, dif_neg h]
theorem onesAt_len (n : Nat) : ∀ k, (onesAt n k).length = pop n := by
  induction n using Nat.strongRecOn with
  | _ n ih =>
    intro k
    by_cases h : n = 0
    · subst h
      rw [onesAt_zero, pop_zero]
      rfl
    · rw [onesAt_eq, pop_eq, List.length_append, ih (n / 2) (by omega)]
      split <;> simp only [List.length_cons, List.length_nil] <;> omega
theorem onesAt_mem (n : Nat) : ∀ k p, p ∈ onesAt n k ↔ k ≤ p ∧ n.testBit (p - k) = true := by
  induction n using Nat.strongRecOn with
  | _ n ih =>
    intro k p
    by_cases h : n = 0
    · subst h
      rw [onesAt_zero]
      simp
    · rw [onesAt_eq, List.mem_append, ih (n / 2) (by omega)]
      by_cases hp : p = k
      · subst hp
        rw [Nat.sub_self, Nat.testBit_zero]
        by_cases h1 : n % 2 = 1
        · simp [h1]
        · simp only [h1, if_false, List.not_mem_nil, false_or, decide_false]
          constructor
          · rintro ⟨h2, _⟩
            omega
          · rintro ⟨_, h2⟩
            exact absurd h2 Bool.false_ne_true
      · have e : p ∈ (if n % 2 = 1 then [k] else []) ↔ False := by
          split <;> simp [hp]
        rw [e, false_or]
        constructor
        · rintro ⟨h1, h2⟩
          refine ⟨by omega, ?_⟩
          have e2 : p - k = (p - (k + 1)) + 1 := by omega
          rw [e2, Nat.testBit_succ]
          exact h2
        · rintro ⟨h1, h2⟩
          refine ⟨by omega, ?_⟩
          have e2 : p - k = (p - (k + 1)) + 1 := by omega
          rw [e2, Nat.testBit_succ] at h2
          exact h2
/-- the ones that the other has not: how many, and what they come to -/
theorem lone_len (n : Nat) : ∀ m k (M : Nat), (∀ j, M.testBit (j + k) = m.testBit j) → ((onesAt n k).filter fun p => !M.testBit p).length = pop (out n m) := by
  induction n using Nat.strongRecOn with
  | _ n ih =>
    intro m k M hM
    by_cases h : n = 0
    · subst h
      have e : out 0 m = 0 := Nat.le_zero.mp (out_le 0 m)
      rw [onesAt_zero, e, pop_zero]
      rfl
    · have hM2 : ∀ j, M.testBit (j + (k + 1)) = (m / 2).testBit j := fun j => by
        rw [← Nat.testBit_succ, ← hM]
        congr 1
        all_goals omega
      rw [onesAt_eq, List.filter_append, List.length_append, ih (n / 2) (by omega) (m / 2) (k + 1) M hM2, pop_eq (out n m), (out_half n m).1, (out_half n m).2]
      congr 1
      have h0 := hM 0
      rw [Nat.zero_add, Nat.testBit_zero] at h0
      have hb : m % 2 = 0 ∨ m % 2 = 1 := by omega
      have ha : n % 2 = 0 ∨ n % 2 = 1 := by omega
      rcases ha with ha | ha <;> rcases hb with hb | hb <;> simp [ha, hb, h0]
theorem lone_sum (n : Nat) : ∀ m k (M : Nat), (∀ j, M.testBit (j + k) = m.testBit j) → (((onesAt n k).filter fun p => !M.testBit p).map fun p => 2 ^ p).sum = 2 ^ k * out n m := by
  induction n using Nat.strongRecOn with
  | _ n ih =>
    intro m k M hM
    by_cases h : n = 0
    · subst h
      have e : out 0 m = 0 := Nat.le_zero.mp (out_le 0 m)
      rw [onesAt_zero, e]
      rfl
    · have hM2 : ∀ j, M.testBit (j + (k + 1)) = (m / 2).testBit j := fun j => by
        rw [← Nat.testBit_succ, ← hM]
        congr 1
        all_goals omega
      rw [onesAt_eq, List.filter_append, List.map_append, List.sum_append, ih (n / 2) (by omega) (m / 2) (k + 1) M hM2]
      have h0 := hM 0
      rw [Nat.zero_add, Nat.testBit_zero] at h0
      obtain ⟨o1, o2⟩ := out_half n m
      have e : out n m = 2 * out (n / 2) (m / 2) + n % 2 * (1 - m % 2) := by omega
      rw [e, Nat.mul_add, Nat.pow_succ, Nat.mul_assoc, Nat.add_comm]
      congr 1
      have hb : m % 2 = 0 ∨ m % 2 = 1 := by omega
      have ha : n % 2 = 0 ∨ n % 2 = 1 := by omega
      rcases ha with ha | ha <;> rcases hb with hb | hb <;> simp [ha, hb, h0]
theorem out_and (a b : Nat) : out a b &&& a = out a b := by
  induction a using Nat.strongRecOn generalizing b with
  | _ a ih =>
    by_cases h : a = 0
    · subst h
      have e : out 0 b = 0 := Nat.le_zero.mp (out_le 0 b)
      rw [e]
      rfl
    · have h1 := and_half (out a b) a
      have h2 := and_par (out a b) a
      obtain ⟨o1, o2⟩ := out_half a b
      rw [o1, ih (a / 2) (by omega)] at h1
      have ha : a % 2 = 0 ∨ a % 2 = 1 := by omega
      have hb : b % 2 = 0 ∨ b % 2 = 1 := by omega
      generalize out a b &&& a = c at *
      generalize out (a / 2) (b / 2) = d at *
      generalize out a b = f at *
      rcases ha with ha | ha <;> rcases hb with hb | hb <;> rw [ha, hb] at o2 <;> rw [ha] at h2 <;> simp only [Nat.mul_zero, Nat.zero_mul, Nat.mul_one, Nat.one_mul, Nat.sub_zero, Nat.sub_self] at o2 h2 <;> omega
theorem out_zero {a b : Nat} (h : a &&& b = a) : out a b = 0 := by unfold out; rw [h]; omega
theorem out_self_zero {a b : Nat} : out a b = 0 ↔ pop (out a b) = 0 := by
  constructor
  · intro h; rw [h, pop_zero]
  · intro h
    generalize out a b = n at h
    induction n using Nat.strongRecOn with
    | _ n ih =>
      by_cases h0 : n = 0
      · exact h0
      · rw [pop_eq] at h
        have := ih (n / 2) (by omega) (by omega)
        omega
/-- the bits as signs, the greatest first -/
def bin (n : Nat) : List Nat := if h : n < 2 then [48 + n] else bin (n / 2) ++ [48 + n % 2]
termination_by n
decreasing_by omega
theorem bin_small {n : Nat} (h : n < 2) : bin n = [48 + n] := by rw [bin, dif_pos h]
theorem bin_big {n : Nat} (h : 2 ≤ n) : bin n = bin (n / 2) ++ [48 + n % 2] := by rw [bin, dif_neg (by omega)]
theorem dig_bit {d : Nat} (h : d < 2) : (Nat.digitChar d).toNat = 48 + d := by
  have : d = 0 ∨ d = 1 := by omega
  rcases this with rfl | rfl <;> rfl
theorem toDigits_bin (n : Nat) : (Nat.toDigits 2 n).map (fun c => c.toNat) = bin n := by
  induction n using Nat.strongRecOn with
  | _ n ih =>
    by_cases h : n < 2
    · rw [Nat.toDigits_of_lt_base h, bin_small h]
      show [(Nat.digitChar n).toNat] = _
      rw [dig_bit h]
    · rw [Nat.toDigits_of_base_le (by decide) (by omega), bin_big (by omega), List.map_append, ih (n / 2) (by omega)]
      show _ ++ [(Nat.digitChar (n % 2)).toNat] = _
      rw [dig_bit (by omega)]
theorem bin_in (n : Nat) : ∀ c ∈ bin n, c = 48 ∨ c = 49 := by
  induction n using Nat.strongRecOn with
  | _ n ih =>
    intro c hc
    by_cases h : n < 2
    · rw [bin_small h, List.mem_singleton] at hc
      omega
    · rw [bin_big (by omega), List.mem_append, List.mem_singleton] at hc
      rcases hc with hc | hc
      · exact ih (n / 2) (by omega) c hc
      · omega
theorem bin_ne (n : Nat) : bin n ≠ [] := by
  by_cases h : n < 2
  · rw [bin_small h]; simp
  · rw [bin_big (by omega)]; simp
theorem bin_len (n : Nat) : ∀ k, n < 2 ^ (k + 1) → (bin n).length ≤ k + 1 := by
  induction n using Nat.strongRecOn with
  | _ n ih =>
    intro k hk
    by_cases h : n < 2
    · rw [bin_small h]
      simp
    · rw [bin_big (by omega), List.length_append]
      cases k with
      | zero => rw [Nat.zero_add, Nat.pow_one] at hk; omega
      | succ k =>
        rw [Nat.pow_succ] at hk
        have := ih (n / 2) (by omega) k (by omega)
        simp only [List.length_cons, List.length_nil]
        omega
theorem bin_count (n : Nat) : (bin n).count 49 = pop n := by
  induction n using Nat.strongRecOn with
  | _ n ih =>
    by_cases h : n < 2
    · rw [bin_small h]
      have : n = 0 ∨ n = 1 := by omega
      rcases this with rfl | rfl
      · rw [pop_zero]; rfl
      · rw [pop_eq]
        simp [pop_zero]
    · rw [bin_big (by omega), List.count_append, ih (n / 2) (by omega), pop_eq n]
      have : n % 2 = 0 ∨ n % 2 = 1 := by omega
      rcases this with e | e <;> rw [e] <;> simp <;> omega
/-- what signs of bits come to -/
def bitsNum (l : List Nat) : Nat := l.foldl (fun a c => a * 2 + (c - 48)) 0
theorem bitsNum_snoc (l : List Nat) (c : Nat) : bitsNum (l ++ [c]) = bitsNum l * 2 + (c - 48) := by
  unfold bitsNum
  rw [List.foldl_append]
  rfl
theorem bitsNum_bin (n : Nat) : bitsNum (bin n) = n := by
  induction n using Nat.strongRecOn with
  | _ n ih =>
    by_cases h : n < 2
    · rw [bin_small h]
      show 0 * 2 + (48 + n - 48) = n
      omega
    · rw [bin_big (by omega), bitsNum_snoc, ih (n / 2) (by omega)]
      omega
theorem bitsNum_zeros (k : Nat) (l : List Nat) : bitsNum (List.replicate k 48 ++ l) = bitsNum l := by
  induction k with
  | zero => rfl
  | succ k ih =>
    rw [List.replicate_succ, List.cons_append]
    show bitsNum (List.replicate k 48 ++ l) = _
    exact ih
theorem pop_le {n k : Nat} (h : n < 2 ^ k) : pop n ≤ k + 1 := by
  have h3 : 2 ^ k ≤ 2 ^ (k + 1) := Nat.pow_le_pow_right (by decide) (by omega)
  have h1 := bin_len n k (by omega)
  have h2 := List.count_le_length (a := 49) (l := bin n)
  rw [bin_count] at h2
  omega
theorem bit_lt {n k p : Nat} (h : n < 2 ^ k) (hp : n.testBit p = true) : p < k := by
  rcases Nat.lt_or_ge p k with g | g
  · exact g
  · rw [Nat.testBit_lt_two_pow (Nat.lt_of_lt_of_le h (Nat.pow_le_pow_right (by decide) g))] at hp
    cases hp
/-- figures in a base that is a power of 2 -/
theorem and_fig (w : Nat) : ∀ x y r s : Nat, x < 2 ^ w → y < 2 ^ w → (x + 2 ^ w * r) &&& (y + 2 ^ w * s) = (x &&& y) + 2 ^ w * (r &&& s) := by
  induction w with
  | zero =>
    intro x y r s hx hy
    rw [Nat.pow_zero] at hx hy
    have : x = 0 := by omega
    have : y = 0 := by omega
    subst x
    subst y
    rw [Nat.pow_zero, Nat.zero_add, Nat.one_mul, Nat.zero_add, Nat.one_mul, Nat.one_mul]
    show _ = 0 + _
    rw [Nat.zero_add]
  | succ w ih =>
    intro x y r s hx hy
    rw [Nat.pow_succ] at hx hy
    have e : ∀ z t : Nat, (z + 2 ^ (w + 1) * t) / 2 = z / 2 + 2 ^ w * t ∧ (z + 2 ^ (w + 1) * t) % 2 = z % 2 := by
      intro z t
      rw [Nat.pow_succ, Nat.mul_right_comm]
      generalize 2 ^ w * t = u
      omega
    have h1 := and_half (x + 2 ^ (w + 1) * r) (y + 2 ^ (w + 1) * s)
    have h2 := and_par (x + 2 ^ (w + 1) * r) (y + 2 ^ (w + 1) * s)
    rw [(e x r).1, (e y s).1, ih _ _ _ _ (by omega) (by omega), ← and_half] at h1
    rw [(e x r).2, (e y s).2, ← and_par] at h2
    have e3 := e (x &&& y) (r &&& s)
    generalize x + 2 ^ (w + 1) * r &&& y + 2 ^ (w + 1) * s = c at *
    omega
end RV

/-! the bits of a number as a text: {n:b} -/
namespace RV
open PySem PySem.Spec L2 Builtin Float
open PyProof.Rows hiding St
def binSpec : FormatSpec := { align := 62, type := some 98 }
/-- the bits as a text -/
def binText (a : Int) : Str := ⟨((Nat.toDigits 2 a.natAbs).map fun c => c.toNat).toArray⟩
section
variable {prog : Program} {w : World} {A : Around} {E : Value → Shared → Prop} {s : Shared}
theorem by_eq {α : Type} {Q : α → Shared → Prop} {m m' : Sem α} (h : wpAny (model prog w) A m' Q E s) (e : m = m') : wpAny (model prog w) A m Q E s := e ▸ h
theorem field_bin {a : Int} (h0 : 0 ≤ a) : intField' binSpec (decide (a < 0)) [] ((Nat.toDigits 2 a.natAbs).map fun c => (if ((98 : Nat) == 88) = true then c.toUpper else c).toNat) [] 4 = binText a := by
  have e0 : decide (a < 0) = false := decide_eq_false (by omega)
  have e1 : (fun c : Char => (if ((98 : Nat) == 88) = true then c.toUpper else c).toNat) = fun c => c.toNat := by
    funext c
    rw [if_neg (by decide)]
  rw [e0, e1]
  generalize hL : (Nat.toDigits 2 a.natAbs).map (fun c => c.toNat) = L
  have e2 : binText a = ⟨L.toArray⟩ := by rw [binText, hL]
  rw [e2]
  cases L with
  | nil => rfl
  | cons x r =>
    have e3 : intField' binSpec false [] (x :: r) [] 4 = ⟨(List.replicate ((-1 : Int) - ((([] : List Nat).length : Int) + (([] : List Nat).length : Int) + (([] : List Nat).length : Int)) - ((List.replicate ((0 : Int).toNat - (x :: r).length) 48 ++ (x :: r)).length : Int)).toNat 32 ++ [] ++ [] ++ List.replicate 0 32 ++ (List.replicate ((0 : Int).toNat - (x :: r).length) 48 ++ (x :: r)) ++ [] ++ List.replicate 0 32).toArray⟩ := rfl
    have hz : (0 : Int).toNat - (x :: r).length = 0 := by
      show 0 - _ = 0
      omega
    have hp : ((-1 : Int) - ((([] : List Nat).length : Int) + (([] : List Nat).length : Int) + (([] : List Nat).length : Int)) - ((x :: r).length : Int)).toNat = 0 := by
      have : (([] : List Nat).length : Int) = 0 := rfl
      omega
    rw [e3, hz, List.replicate_zero, List.nil_append, hp, List.replicate_zero]
    simp only [List.nil_append, List.append_nil]
theorem formatField_bin {a : Int} {t : Tok} {Q : Value → Shared → Prop} (h0 : 0 ≤ a) (hl : (binText a).length ≤ sizeLine)
    (h : Q (.str (binText a) (s.toks + 1)) { s with toks := s.toks + 1 + 1 }) :
    wpAny (model prog w) A (formatField (.int a t) (Str.ofString "b")) Q E s := by
  have hsz : (Str.ofString "b").length ≤ sizeLine := by size_fits
  have hne : ((Str.ofString "b").length == 0) = false := by decide +kernel
  have hasc : (((Str.ofString "b").cps.toList.drop 1).any (· ≥ 128) || ((Str.ofString "b").cps.getD 0 0 ≥ 128 && !([60, 62, 61, 94] : List Nat).contains ((Str.ofString "b").cps.getD 1 0))) = false := by decide +kernel
  have hp : parseFormatSpec (Str.ofString "b").cps.toList "int" 62 = .ok binSpec := by kernel_rfl
  have hty : binSpec.type = some 98 := by kernel_rfl
  have hpr : binSpec.precision = none := by kernel_rfl
  have hz : binSpec.noNeg0 = false := by kernel_rfl
  have hal : binSpec.alt = false := by kernel_rfl
  have hw : binSpec.width = none := by kernel_rfl
  have hgr : binSpec.grouping = none := by kernel_rfl
  have hsg : binSpec.sign = none := by kernel_rfl
  have hfi : binSpec.fill = 32 := by kernel_rfl
  have hli : binSpec.align = 62 := by kernel_rfl
  show wpAny _ _ (holding [.int a t] (pyFormat (.int a t) (Str.ofString "b"))) Q E s
  refine wpAny_holding ?_
  unfold pyFormat
  refine wpAny_bind (wpAny_mkStr ?_ hsz)
  refine wpAny_bind (m := callSpecial? (.int a t) (Str.ofString "__format__") [.str (Str.ofString "b") s.toks]) (wpAny_callSpecial?_slot (name := Str.ofString "__format__") (typeIs_int _ a t) F.slot_int_format ?_)
  refine wpAny_call (codeAny_call_builtin F.slot_int_format.plain F.entry_int_format (F.slot_int_format.check _ _ _ _ _ _ _ _ (typeIs_int _ a t) (F.args_int_format_2 _ _) ?_))
  unfold Builtin.«int.__format__»
  simp only [selfAndOne, noKeywords, Int.intOfSelf, asInt?, asStr?, List.isEmpty_nil, if_true, pure_bind, bind_pure, bind_assoc, hne, hasc, Bool.false_eq_true, if_false,
    show (Value.str (Str.ofString "b") s.toks == Value.none) = false from rfl]
  refine wpAny_bind (wpAny_typeNameOf (T := "str") (typeIs_str _ _ _) (by decide) fun _ => ?_)
  first | refine wpAny_bind (wpAny_typeNameOfCut_int ?_) | refine wpAny_bind (wpAny_typeNameOf_int ?_)
  simp only [hp, hty, Option.getD_some]
  rw [if_pos (by decide)]
  refine by_eq (m' := retStr (intField' binSpec (decide (a < 0)) [] ((Nat.toDigits 2 a.natAbs).map fun c => (if ((98 : Nat) == 88) = true then c.toUpper else c).toNat) [] 4)) ?_ (by with_unfolding_all rfl)
  rw [field_bin h0]
  unfold retStr
  refine wpAny_bind (wpAny_mkStr (wpAny_pure ?_) hl)
  dsimp only
  exact wpAny_bind (wpAny_isInstance (typeIs_str _ _ _) isSubtype_str_str (wpAny_pure h))
end
theorem binText_is {a : Int} (h : 0 ≤ a) : binText a = SX.S (bin a.toNat) := by
  have e : a.natAbs = a.toNat := by omega
  unfold binText
  rw [e, toDigits_bin]
section
variable {X : Cx}
/-- {n:b}: a number's bits -/
def tBin (te : TE) : TE := fun σ H Q => te σ H fun x H1 => ∃ i : Int, x = .int i ∧ 0 ≤ i ∧ (bin i.toNat).length ≤ sizeLine ∧ Q (.str (SX.S (bin i.toNat))) H1
theorem pe_bin {e spec : Expr} {te : TE} {pos : Pos} (he : PE X e te) (hs : PE X spec (tC (.str (Str.ofString "b")))) : PE X (.FormattedValue e (-1) (some spec) pos) (tBin te) := by
  refine ⟨fun pins s σ H Q I h => ?_⟩
  refine wpAny_FormattedValue_spec (thn (he.run pins s σ H _ I h) fun v s1 hv => ?_)
  obtain ⟨x, H1, I1, r1, i, rfl, h0, hz, q⟩ := hv
  obtain ⟨t, rfl⟩ := r1
  refine thn (hs.run pins s1 σ H1 (fun y H2 => y = .str (Str.ofString "b") ∧ H2 = H1) I1 ⟨rfl, rfl⟩) fun r s2 hr => ?_
  obtain ⟨y, H2, I2, r2, rfl, rfl⟩ := hr
  obtain ⟨t2, rfl⟩ := r2
  have e := binText_is h0
  exact ⟨_, _, rfl, formatField_bin h0 (by rw [e]; exact hz) (by rw [e]; exact ⟨.str (SX.S (bin i.toNat)), H2, I2.tok _, ⟨_, rfl⟩, q⟩)⟩
theorem r_bin {σ : St} {H : Hp} {Q : VK} {te : TE} (h : te σ H fun x H1 => ∃ i : Int, x = .int i ∧ 0 ≤ i ∧ (bin i.toNat).length ≤ sizeLine ∧ Q (.str (SX.S (bin i.toNat))) H1) : tBin te σ H Q := h
theorem bin_ok {i : Int} {k : Nat} {P : Prop} (h0 : 0 ≤ i) (h1 : i < 2 ^ k) (hk : k ≤ 900000) (q : P) : 0 ≤ i ∧ (bin i.toNat).length ≤ sizeLine ∧ P := by
  refine ⟨h0, ?_, q⟩
  have hl : (1000000 : Nat) ≤ sizeLine := by rw [sizeLine_eq]; decide
  have e : ((2 ^ k : Nat) : Int) = (2 : Int) ^ k := by rw [Int.natCast_pow]; rfl
  have h2 : i.toNat < 2 ^ k := Int.ofNat_lt.mp (by rw [e, Int.toNat_of_nonneg h0]; exact h1)
  have h3 : 2 ^ k ≤ 2 ^ (k + 1) := Nat.pow_le_pow_right (by decide) (by omega)
  have := bin_len i.toNat k (by omega)
  omega
end
/-! int(text, 2) -/
open PySem.NumText
structure Held (p : Prop) : Prop where
  get : p
def Bits (l : List Nat) : Prop := ∀ c ∈ l, c = 48 ∨ c = 49
theorem Bits.hex {l : List Nat} (h : Bits l) : ∀ c ∈ l, Hx.IsHex c := fun c hc => .inl (by rcases h c hc with rfl | rfl <;> decide)
theorem two_step {ds : Array Nat} {b : Bool} {c : Nat} (h : c = 48 ∨ c = 49) : PySem.NumText.step 2 (ds, b) c = some (ds.push (c - 48), true) := by
  rcases h with rfl | rfl <;> rfl
theorem two_fold : ∀ (l : List Nat) (ds : Array Nat), Bits l → l.foldlM (PySem.NumText.step 2) (ds, true) = some (l.foldl (fun d c => d.push (c - 48)) ds, true)
  | [], _, _ => rfl
  | c :: l, ds, h => by
    rw [List.foldlM_cons, two_step (h c (by simp))]
    exact two_fold l _ fun d hd => h d (by simp [hd])
theorem two_digits {l : List Nat} (h : Bits l) (hn : l ≠ []) : digits? 2 l = some (l.foldl (fun d c => d.push (c - 48)) #[]) := by
  cases l with
  | nil => exact absurd rfl hn
  | cons c l =>
    unfold digits?
    rw [List.foldlM_cons, two_step (h c (by simp))]
    show (l.foldlM (PySem.NumText.step 2) ((#[] : Array Nat).push (c - 48), true)).bind _ = _
    rw [two_fold l _ fun d hd => h d (by simp [hd])]
    rfl
theorem two_worth : ∀ (l : List Nat) (ds : Array Nat), (l.foldl (fun d c => d.push (c - 48)) ds).foldl (fun a d => a * 2 + d) 0 = l.foldl (fun a c => a * 2 + (c - 48)) (ds.foldl (fun a d => a * 2 + d) 0)
  | [], _ => rfl
  | c :: l, ds => by
    rw [List.foldl_cons, two_worth l, List.foldl_cons]
    congr 1
    simp
theorem two_based {l : List Nat} (h : Bits l) : based 2 l = (2, false, l) := by
  match l, h with
  | [], _ => rfl
  | [a], h =>
    rcases h a (by simp) with rfl | rfl <;> rfl
  | a :: c :: r, h =>
    rcases h a (by simp) with rfl | rfl
    · rcases h c (by simp) with rfl | rfl <;> rfl
    · rfl
theorem two_read {l : List Nat} (lim : Nat) (h : Bits l) (hn : l ≠ []) : (int_private% "readNumeral") lim 2 l = (int_private% "Numeral.value") ((bitsNum l : Nat) : Int) := by
  have hr : Bits l.reverse := fun c hc => h c (List.mem_reverse.mp hc)
  refine (readNumeral_eq lim 2 l).trans ?_
  rw [Hx.dropB h.hex, Hx.signH h.hex]
  show judge lim false (based 2 l).1 (based 2 l).2.1 (digits? (based 2 l).1 (((based 2 l).2.2.reverse.dropWhile blank).reverse)) = _
  rw [two_based h]
  show judge lim false 2 false (digits? 2 ((l.reverse.dropWhile blank).reverse)) = _
  rw [Hx.dropB hr.hex, List.reverse_reverse, two_digits h hn]
  show (int_private% "Numeral.value") (((l.foldl (fun d c => d.push (c - 48)) (#[] : Array Nat)).foldl (fun a d => a * 2 + d) 0 : Nat) : Int) = _
  rw [two_worth]
  rfl
theorem text_two {M : PySem.Model} {A : Around} {E : Value → Shared → Prop} {s : Shared} {Q : Value → Shared → Prop} {v : Value} {text : List Nat} {n : Int}
    (lk : ¬ (text.takeWhile (· != 0)).length ≤ 640 → PySem.W.Looks M s.heap Builtin.intMaxStrDigits 4300)
    (got : ∀ lim, (int_private% "readNumeral") lim 2 (text.takeWhile (· != 0)) = (int_private% "Numeral.value") n)
    (whole : ((text.takeWhile (· != 0)).length == text.length) = true) (k : Q (.int n s.toks) { s with toks := s.toks + 1 }) :
    wpAny M A ((int_private% "intFromText") v text 2) Q E s := by
  by_cases far : (text.takeWhile (· != 0)).length ≤ 640
  · exact Hx.wp_textB far (got 0) whole k
  · have lk1 := lk far
    clear lk
    obtain ⟨hp, g, d, tk, os⟩ := s
    have lk' : PySem.W.Looks M hp Builtin.intMaxStrDigits 4300 := lk1
    clear lk1
    repeat (any_goals (first
      | (with_reducible refine wpAny_ite_false (decide_eq_false far) ?_)
      | (with_reducible refine wpAny_ite_true (decide_eq_true whole) ?_)
      | ((with_reducible show wpAny _ _ Builtin.intMaxStrDigits _ _ _); refine PySem.W.Looks.here lk' ?_)
      | assumption
      | wp_step))
    all_goals (try rw [got])
    all_goals (try dsimp only)
    repeat (any_goals (first
      | (with_reducible refine wpAny_ite_true (decide_eq_true whole) ?_)
      | assumption
      | wp_step))
theorem meets_two {x : PySem.Str} {u t : Tok} (h : Bits x.cps.toList) (hn : x.cps.toList ≠ []) :
    Meets (Builtin.«int.__new__» ⟨[.type "int", .str x u, .int 2 t], []⟩) (fun A R s => (∀ M, PySem.W.Looks M s.heap Builtin.intMaxStrDigits 4300) ∧ R (.ok (.ret (.int ((bitsNum x.cps.toList : Nat) : Int) s.toks))) { s with toks := s.toks + 1 }) :=
  .of_wp fun prog w A R s hs => by
    obtain ⟨hp, g, d, tk, os⟩ := s
    obtain ⟨lk, fin⟩ := hs
    have a1 := F.conv_sub_int
    have a2 := F.madeHere_int
    have a6 : typeOf (.str x u) = pure (.type "str") := rfl
    obtain ⟨e1, e2⟩ := Hx.seen_hex (x := x) h.hex
    have got : ∀ lim, (int_private% "readNumeral") lim 2 (numSeenOf x) = (int_private% "Numeral.value") ((bitsNum x.cps.toList : Nat) : Int) := by
      intro lim
      rw [e2]
      exact two_read lim h hn
    have whole : ((numSeenOf x).length == (numTextOf x).length) = true := by
      rw [e1, e2]
      exact beq_self_eq_true _
    have kk := Held.mk (And.intro got whole)
    have lk' := Held.mk lk
    clear got whole e1 e2 hn h lk
    repeat (any_goals (first
      | assumption
      | ((with_reducible show wpAny _ _ ((int_private% "intFromText") _ _ _) _ _ _); refine text_two (fun _ => lk'.get _) kk.get.1 kk.get.2 ?_)
      | wp_step))
    all_goals first | exact ⟨_, rfl, fin⟩ | skip
theorem new_two (a b : Value) : checkBuiltinCall "int.__new__" ⟨[.type "int", a, b], []⟩ = pure () := by kernel_rfl
theorem ty_two (a b : Value) : checkTypeCall "int" ⟨[a, b], []⟩ = pure () := by kernel_rfl
section
variable {X : Cx} {K : PySem.W.Frag}
def rInt2 : List V → Hp → VK → Prop := fun xs H Q => ∃ l : List Nat, xs = [.str (SX.S l), .int 2] ∧ Bits l ∧ l ≠ [] ∧ Q (.int ((bitsNum l : Nat) : Int)) H
theorem int_two (e : X.K = K) (zs : PySem.W.nsIn K cStatics "sys.int_max_str_digits" = some none) : CallR X (.type "int") rInt2 := by
  intro pins s σ H xs us Q I r h
  obtain ⟨l, rfl, hb, hn, q⟩ := h
  obtain ⟨u, w', rfl, r1, r2⟩ := vals2 r
  obtain ⟨t1, rfl⟩ := r1
  obtain ⟨t2, rfl⟩ := r2
  subst e
  exact callType_new F.called_int F.newNe_int (ty_two _ _) (new_two _ _) (fun obj => F.initArgs_range_2 obj _ _) F.entry_int_new (meets_two (x := SX.S l) hb hn) ⟨fun M => looks_msd I.kIn zs, rfl, ⟨.int ((bitsNum l : Nat) : Int), H, I.tok _, ⟨_, rfl⟩, q⟩⟩
theorem r_int2 {l : List Nat} {H : Hp} {Q : VK} (hb : Bits l) (hn : l ≠ []) (k : Q (.int ((bitsNum l : Nat) : Int)) H) : rInt2 [.str (SX.S l), .int 2] H Q := ⟨l, rfl, hb, hn, k⟩
end
end RV

/-! enumerate over a text, over a tuple, over a list: one rule -/
namespace RV
open PySem PySem.Spec L2
open PyProof.Rows hiding St
/-- places and signs, in new pairs -/
def IteS (x : Str) : It :=
  ⟨fun i _ => i < x.cps.size, fun i H v H' => ∃ T c, v = .ref T ∧ H T = none ∧ H' = upd H T (.tup [.int (i : Nat), .str ⟨#[c]⟩]) ∧ x.cps[i]? = some c, fun i _ => i = x.cps.size⟩
/-- places and items of a tuple, in new pairs -/
def IteT (K : PySem.W.Frag) (a : Addr) : It :=
  ⟨fun i H => ∃ (xs : List V) (x : V), SqT K H a xs ∧ xs[i]? = some x, fun i H v H' => ∃ T x, v = .ref T ∧ H T = none ∧ H' = upd H T (.tup [.int (i : Nat), x]) ∧ ∀ xs, SqT K H a xs → xs[i]? = some x, fun i H => ∃ xs : List V, SqT K H a xs ∧ i = xs.length⟩
section
variable {P : Program} {w : World} {K : PySem.W.Frag} {elts : List Expr} {kk : Nat} {tpos : Pos}
theorem turn_enumS (x : Str) (t : Tok) (e it : Addr) :
    Turn P w K (.Tuple elts kk tpos) (IteS x) [e, it] e (fun i h => (∃ old, IsEnum h e it ((i : Nat) : Int) old) ∧ h.IsStrIter it (strIterType x) x t i ∧ e ≠ it) where
  mem := by simp
  obj := fun i h st b hb => by
    obtain ⟨⟨old, he⟩, ⟨o, ho, hc, hd⟩, _⟩ := st
    have e' : b = e ∨ b = it := by simpa using hb
    rcases e' with z | z
    · subst z
      exact ⟨_, he, fun v q => nomatch q⟩
    · subst z
      exact ⟨o, ho, fun v q => by rw [hd] at q; cases q⟩
  keep := fun i h h' st k => by
    obtain ⟨⟨old, he⟩, ⟨o, ho, r⟩, hne⟩ := st
    exact ⟨⟨old, k e (by simp) _ he⟩, ⟨o, k it (by simp) o ho, r⟩, hne⟩
  item := by
    intro X hP hw hK hc i pins s σ H E I hf st hg
    subst hP hw hK
    obtain ⟨⟨old, he⟩, hit, hne⟩ := st
    have hel : e < s.heap.objs.size := Heap.lt_size he
    have hil : it < s.heap.objs.size := by
      obtain ⟨_, q, _⟩ := hit
      exact Heap.lt_size q
    refine wpAny_pyNext_enum_itemD (Draws.text (A := X.A.in1) (show X.A.in1.handled = none from I.ok.hd hc) it x t) he hit hg hne (by simpa using hne) fun u h' tk hP ho hit' hT hsz hk => ?_
    obtain ⟨c, u', hcx, rfl⟩ := hP
    refine ⟨_, rfl, wpAny_letOwnedTupleGo_enum (s := { s with heap := h', toks := tk + 1 }) ho fun h'' he' sb => ?_⟩
    have hT2 : h''.get? s.heap.objs.size = some { cls := .type "tuple", data := .seq #[.int i tk, .str ⟨#[c]⟩ u'] } := (sb.2 _ (Nat.ne_of_gt hel)).trans hT
    have new : ObjOk X.prog X.w (upd H s.heap.objs.size (.tup [.int (i : Nat), .str ⟨#[c]⟩])) h'' s.heap.objs.size (.tup [.int (i : Nat), .str ⟨#[c]⟩]) :=
      ⟨by show 2 ≤ sizeLine; decide, _, .cons ⟨tk, rfl⟩ (.cons ⟨u', rfl⟩ .nil), ⟨_, hT2, rfl, _, rfl⟩⟩
    have I1 : Inv X pins σ (upd H s.heap.objs.size (.tup [.int (i : Nat), .str ⟨#[c]⟩])) { s with heap := h'', toks := tk + 1 } :=
      I.turnedNew (ch := [e, it]) (fun b ob hb q => (sb.2 b (fun z => hb (by simp [z]))).trans (hk b ob (fun z => hb (by simp [z])) (fun z => hb (by simp [z])) q)) hf (Nat.le_refl _) new
    refine ⟨.ref s.heap.objs.size, _, I1, rfl, ⟨_, c, rfl, I.hok.fresh (Nat.le_refl _), rfl, hcx⟩, ⟨⟨.str ⟨#[c]⟩ u', ?_⟩, ?_, hne⟩, fun b hb => ?_⟩
    · have e1 : ((i + 1 : Nat) : Int) = (i : Int) + 1 := by omega
      rw [e1]
      exact he'
    · obtain ⟨o, q, r⟩ := hit'
      exact ⟨o, (sb.2 it (Ne.symm hne)).trans q, r⟩
    · have hb' : b < s.heap.objs.size := by
        have e' : b = e ∨ b = it := by simpa using hb
        rcases e' with z | z
        · subst z
          exact hel
        · subst z
          exact hil
      rw [upd_ne (Nat.ne_of_lt hb')]
      exact (hf b hb).1
  done := by
    intro X hP hw hK hc i pins s σ H E I hf st hg
    subst hP hw hK
    obtain ⟨⟨old, he⟩, hit, hne⟩ := st
    obtain ⟨f0, f1, f2, f3, f4, f5⟩ := hf it (by simp)
    have hi : i = x.cps.size := hg
    subst hi
    exact wpAny_pyNext_enum_endD (Draws.text (A := X.A.in1) (show X.A.in1.handled = none from I.ok.hd hc) it x t) he hit fun h' eb => ⟨rfl, I.turned (t' := s.toks) (fun b o hb q => eb b o (by simpa using hb) q) f0 f1 f3 f4 f5⟩
  self := fun A i s Q E st h => by
    obtain ⟨⟨_, he⟩, _⟩ := st
    exact wpAny_pyIter_enum he h
theorem turn_enumT (a e it : Addr) :
    Turn P w K (.Tuple elts kk tpos) (IteT K a) [e, it] e (fun i h => (∃ old, IsEnum h e it ((i : Nat) : Int) old) ∧ h.IsTupleIter it a i ∧ e ≠ it) where
  mem := by simp
  obj := fun i h st b hb => by
    obtain ⟨⟨old, he⟩, ⟨o, ho, hc, hd⟩, _⟩ := st
    have e' : b = e ∨ b = it := by simpa using hb
    rcases e' with z | z
    · subst z
      exact ⟨_, he, fun v q => nomatch q⟩
    · subst z
      exact ⟨o, ho, fun v q => by rw [hd] at q; cases q⟩
  keep := fun i h h' st k => by
    obtain ⟨⟨old, he⟩, hi, hne⟩ := st
    exact ⟨⟨old, k e (by simp) _ he⟩, hi.at fun o q => k it (by simp) o q, hne⟩
  item := by
    intro X hP hw hK hc i pins s σ H E I hf st hg
    subst hP hw hK
    obtain ⟨⟨old, he⟩, hit, hne⟩ := st
    obtain ⟨xs, x, hq, hx⟩ := hg
    obtain ⟨its, rv, p, hz⟩ := I.tuple hq
    obtain ⟨u, hu, ru⟩ := rv.get hx
    have hel : e < s.heap.objs.size := Heap.lt_size he
    have hil : it < s.heap.objs.size := by
      obtain ⟨_, q, _⟩ := hit
      exact Heap.lt_size q
    have hil2 : i < its.length := (List.getElem?_eq_some_iff.mp hu).1
    have hai : a ≠ it := by
      intro z
      subst z
      obtain ⟨o1, q1, c1, _⟩ := hit
      obtain ⟨o2, q2, c2, _⟩ := p
      rw [q1] at q2
      cases q2
      rw [c1] at c2
      exact absurd (Value.type.inj c2) (by decide)
    have hae : e ≠ a := by
      intro z
      subst z
      obtain ⟨o2, q2, c2, _⟩ := p
      have q1 := he
      unfold IsEnum at q1
      rw [q1] at q2
      cases q2
      exact absurd (Value.type.inj c2) (by decide)
    have ht := p
    refine wpAny_pyNext_enum_itemD (Draws.tuple (A := X.A.in1) (show X.A.in1.handled = none from I.ok.hd hc) it a hai its.toArray) he ⟨hit, ht⟩ (by simpa using hil2) hne (by simp [hne, hae]) fun u1 h' tk hP ho hit' hT hsz hk => ?_
    have eu : u1 = u := by
      have h1 : its.toArray[i]? = some u1 := hP
      rw [List.getElem?_toArray, hu] at h1
      exact (Option.some.inj h1).symm
    subst eu
    refine ⟨_, rfl, wpAny_letOwnedTupleGo_enum (s := { s with heap := h', toks := tk + 1 }) ho fun h'' he' sb => ?_⟩
    have hT2 : h''.get? s.heap.objs.size = some { cls := .type "tuple", data := .seq #[.int i tk, u1] } := (sb.2 _ (Nat.ne_of_gt hel)).trans hT
    have new : ObjOk X.prog X.w (upd H s.heap.objs.size (.tup [.int (i : Nat), x])) h'' s.heap.objs.size (.tup [.int (i : Nat), x]) :=
      ⟨by show 2 ≤ sizeLine; decide, _, .cons ⟨tk, rfl⟩ (.cons ru .nil), ⟨_, hT2, rfl, _, rfl⟩⟩
    have I1 : Inv X pins σ (upd H s.heap.objs.size (.tup [.int (i : Nat), x])) { s with heap := h'', toks := tk + 1 } :=
      I.turnedNew (ch := [e, it]) (fun b ob hb q => (sb.2 b (fun z => hb (by simp [z]))).trans (hk b ob (fun z => hb (by simp [z])) (fun z => hb (by simp [z])) q)) hf (Nat.le_refl _) new
    refine ⟨.ref s.heap.objs.size, _, I1, rfl, ⟨_, x, rfl, I.hok.fresh (Nat.le_refl _), rfl, fun ys hy => by rw [I.tuple_inj hy hq]; exact hx⟩, ⟨⟨u1, ?_⟩, hit'.1.at fun o q => (sb.2 it (Ne.symm hne)).trans q, hne⟩, fun b hb => ?_⟩
    · have e1 : ((i + 1 : Nat) : Int) = (i : Int) + 1 := by omega
      rw [e1]
      exact he'
    · have hb' : b < s.heap.objs.size := by
        have e' : b = e ∨ b = it := by simpa using hb
        rcases e' with z | z
        · subst z
          exact hel
        · subst z
          exact hil
      rw [upd_ne (Nat.ne_of_lt hb')]
      exact (hf b hb).1
  done := by
    intro X hP hw hK hc i pins s σ H E I hf st hg
    subst hP hw hK
    obtain ⟨⟨old, he⟩, hit, hne⟩ := st
    obtain ⟨xs, hq, hx⟩ := hg
    obtain ⟨its, rv, p, hz⟩ := I.tuple hq
    obtain ⟨f0, f1, f2, f3, f4, f5⟩ := hf it (by simp)
    have hl := rv.length
    have hai : a ≠ it := by
      intro z
      subst z
      obtain ⟨o1, q1, c1, _⟩ := hit
      obtain ⟨o2, q2, c2, _⟩ := p
      rw [q1] at q2
      cases q2
      rw [c1] at c2
      exact absurd (Value.type.inj c2) (by decide)
    have e1 : i = its.toArray.size := by simp; omega
    subst e1
    exact wpAny_pyNext_enum_endD (Draws.tuple (A := X.A.in1) (show X.A.in1.handled = none from I.ok.hd hc) it a hai its.toArray) he ⟨hit, p⟩ fun h' eb => ⟨rfl, I.turned (t' := s.toks) (fun b o hb q => eb b o (by simpa using hb) q) f0 f1 f3 f4 f5⟩
  self := fun A i s Q E st h => by
    obtain ⟨⟨_, he⟩, _⟩ := st
    exact wpAny_pyIter_enum he h
end
section
variable {v : Value} {o : Obj} {Hc : Heap → Prop}
theorem meets_enum1 (B : Begins v o Hc) :
    Meets (Builtin.«enumerate.__new__» ⟨[.type "enumerate", v], []⟩) (fun _ R s => Hc s.heap ∧
      R (.ok (.ret (.ref (s.heap.push o).objs.size))) { s with heap := (s.heap.push o).push { cls := .type "enumerate", data := .fields #[.none, .bool false, .ref s.heap.objs.size, rawInt 0, .none, .none] } }) :=
  .of_wp fun prog w A R s h => by
    obtain ⟨hp, g, d, tk, os⟩ := s
    obtain ⟨h1, h⟩ := h
    have hsub := sub_enumerate
    have q1 : ∀ {A' : Around} {E : Value → Shared → Prop} {Q : Value → Shared → Prop}, Q (.ref hp.objs.size) ⟨hp.push o, g, d, tk, os⟩ → wpAny (model prog w) A' (pyIter v) Q E ⟨hp, g, d, tk, os⟩ :=
      fun q => B.iter prog w _ _ ⟨hp, g, d, tk, os⟩ _ h1 q
    wp_walk using q1
    refine wpAny_stack_any fun st => wpAny_pure ?_
    split
    · rename_i c _ _ _ _ _
      cases (c == Value.type "enumerate") <;> (wp_walk using q1; exact ⟨_, rfl, h⟩)
    · wp_walk using q1
      exact ⟨_, rfl, h⟩
theorem enum1 {prog : Program} {w : World} {A : Around} {E : Value → Shared → Prop} {s : Shared} {Q : Value → Shared → Prop} (B : Begins v o Hc) (h1 : Hc s.heap)
    (h : ∀ h', IsEnum h' (s.heap.objs.size + 1) s.heap.objs.size 0 .none → h'.get? s.heap.objs.size = some o → (∀ b o, s.heap.get? b = some o → h'.get? b = some o) → Q (.ref (s.heap.objs.size + 1)) { s with heap := h' }) :
    wpAny (model prog w) A (call (.type "enumerate") [v]) Q E s := by
  refine callType_new F.called_enumerate (by decide) (F.typeCall_enumerate_1 _) (F.newCall_enumerate_1 _) (fun obj => F.args_object_init_2 obj _) F.entry_enumerate_new (meets_enum1 B) ⟨h1, ?_⟩
  have hz : (s.heap.push o).objs.size = s.heap.objs.size + 1 := Heap.size_push ..
  show _ ∧ _
  rw [hz]
  have he : IsEnum ((s.heap.push o).push { cls := .type "enumerate", data := .fields #[.none, .bool false, .ref s.heap.objs.size, rawInt 0, .none, .none] }) (s.heap.objs.size + 1) s.heap.objs.size 0 .none := by
    have g := Heap.get?_push_size (s.heap.push o) (o := { cls := .type "enumerate", data := .fields #[.none, .bool false, .ref s.heap.objs.size, rawInt 0, .none, .none] }) rfl
    rw [hz] at g
    exact g
  exact ⟨⟨_, he, rfl⟩, h _ he (Heap.get?_push_of_some _ (Heap.get?_push_size _ B.free)) fun b o x => Heap.get?_push_of_some _ (Heap.get?_push_of_some _ x)⟩
end
section
variable {X : Cx} {e : Expr} {ta : TA} {p pos tpos : Pos} {elts : List Expr} {kk : Nat} {K : PySem.W.Frag}
def iEnumS (ta : TA) : TI := fun σ H R => ta σ H fun vs H1 => ∃ x, vs = [.str x] ∧ R (IteS x) H1
def iEnumT (K : PySem.W.Frag) (ta : TA) : TI := fun σ H R => ta σ H fun vs H1 => ∃ a xs, vs = [.ref a] ∧ SqT K H1 a xs ∧ R (IteT K a) H1
theorem pi_enumS (hg : Gl X "enumerate") (hm : X.mg "enumerate" = none) (ha : PA X [e] ta) (hs : starEach [e] X.env = [(false, eval e X.env)] := by rfl) :
    PI X (.Tuple elts kk tpos) (.Call (.Name "enumerate" p) [e] [] pos) (iEnumS ta) := by
  refine ⟨fun pins s σ H R I h => ?_⟩
  refine Call_ (ld_blt I hg hm boot_enumerate (PyProof.Rows.callWith_type1 (thn (ha.run pos pins s σ H _ I h) fun us s1 ⟨vs, H1, I1, r1, q1⟩ => ?_) hs rfl))
  obtain ⟨x, ex, q⟩ := q1
  subst ex
  cases r1 with
  | cons r rr =>
    cases rr
    obtain ⟨t, rfl⟩ := r
    refine enum1 (begins_text x t) trivial fun h' he hit hk => wpAny_pyIter_enum he ?_
    have I2 : Inv X pins σ H1 { s1 with heap := h' } := I1.kept (t' := s1.toks) hk
    refine ⟨s1.heap.objs.size + 1, [s1.heap.objs.size + 1, s1.heap.objs.size], _, _, H1, rfl, I2, turn_enumS x t (s1.heap.objs.size + 1) s1.heap.objs.size, ⟨⟨.none, he⟩, ⟨_, hit, rfl, rfl⟩, Nat.succ_ne_self _⟩, fun b hb => ?_, q⟩
    have e' : b = s1.heap.objs.size + 1 ∨ b = s1.heap.objs.size := by simpa using hb
    have hle : s1.heap.objs.size ≤ b := e'.elim (fun z => z ▸ Nat.le_succ _) (fun z => z ▸ Nat.le_refl _)
    exact I1.fpOk hle (I1.hok.fresh hle)
theorem pi_enumT (hg : Gl X "enumerate") (hm : X.mg "enumerate" = none) (ha : PA X [e] ta) (hs : starEach [e] X.env = [(false, eval e X.env)] := by rfl) :
    PI X (.Tuple elts kk tpos) (.Call (.Name "enumerate" p) [e] [] pos) (iEnumT X.K ta) := by
  refine ⟨fun pins s σ H R I h => ?_⟩
  refine Call_ (ld_blt I hg hm boot_enumerate (PyProof.Rows.callWith_type1 (thn (ha.run pos pins s σ H _ I h) fun us s1 ⟨vs, H1, I1, r1, q1⟩ => ?_) hs rfl))
  obtain ⟨a, xs, ex, hq, q⟩ := q1
  subst ex
  cases r1 with
  | cons r rr =>
    cases rr
    cases r
    obtain ⟨its, rv, p', hz⟩ := I1.tuple hq
    refine enum1 (begins_tuple a its.toArray) p' fun h' he hit hk => wpAny_pyIter_enum he ?_
    have I2 : Inv X pins σ H1 { s1 with heap := h' } := I1.kept (t' := s1.toks) hk
    refine ⟨s1.heap.objs.size + 1, [s1.heap.objs.size + 1, s1.heap.objs.size], _, _, H1, rfl, I2, turn_enumT a (s1.heap.objs.size + 1) s1.heap.objs.size, ⟨⟨.none, he⟩, ⟨_, hit, rfl, rfl⟩, Nat.succ_ne_self _⟩, fun b hb => ?_, q⟩
    have e' : b = s1.heap.objs.size + 1 ∨ b = s1.heap.objs.size := by simpa using hb
    have hle : s1.heap.objs.size ≤ b := e'.elim (fun z => z ▸ Nat.le_succ _) (fun z => z ▸ Nat.le_refl _)
    exact I1.fpOk hle (I1.hok.fresh hle)
end
section
variable {X : Cx} {e : Expr} {te : TE} {p pos tpos : Pos} {elts : List Expr} {kk : Nat} {K : PySem.W.Frag}
/-- enumerate of a list, a tuple or a text -/
def iEnumX (K : PySem.W.Frag) (ta : TA) : TI := fun σ H R => iEnum K ta σ H R ∨ iEnumT K ta σ H R ∨ iEnumS ta σ H R
theorem enum_k {ta : TA} (ek : X.K = K) (hg : Gl X "enumerate") (hm : X.mg "enumerate" = none) (ha : PA X [e] ta) (hs : starEach [e] X.env = [(false, eval e X.env)] := by rfl) :
    PI X (.Tuple elts kk tpos) (.Call (.Name "enumerate" p) [e] [] pos) (iEnumX K ta) := ek ▸ PI.or (pi_enum hg hm ha hs) (PI.or (pi_enumT hg hm ha hs) (pi_enumS hg hm ha hs))
end
section
variable {K : PySem.W.Frag} {a : Addr} {xs : List V}
theorem walk_enumT : Walk (IteT K a) xs.length (fun H => SqT K H a xs) (YPair (fun i => some (.int (i : Nat))) (fun i => xs[i]?)) := by
  refine ⟨fun i _ hi q => ⟨xs, xs[i], q, by simp [hi]⟩, fun _ q => ⟨xs, q, rfl⟩, fun i H v H' _ q y => ?_⟩
  obtain ⟨T, x, h1, h2, h3, h4⟩ := y
  exact ⟨T, .int (i : Nat), x, h1, h2, h3, rfl, h4 xs q⟩
theorem walk_enumS {z : Str} : Walk (IteS z) z.cps.size (fun _ => True) (fun i H v H' => ∃ T c, v = .ref T ∧ H T = none ∧ H' = upd H T (.tup [.int (i : Nat), .str ⟨#[c]⟩]) ∧ z.cps[i]? = some c) :=
  ⟨fun _ _ hi _ => hi, fun _ _ => rfl, fun _ _ _ _ _ _ y => y⟩
variable {ta : TA} {σ : St} {H : Hp} {R : It → Hp → Prop}
theorem r_enumL (h : ta σ H fun vs H1 => ∃ a xs, vs = [.ref a] ∧ SqL K H1 a xs ∧ R (Ite K a) H1) : iEnumX K ta σ H R := .inl h
theorem r_enumT (h : ta σ H fun vs H1 => ∃ a xs, vs = [.ref a] ∧ SqT K H1 a xs ∧ R (IteT K a) H1) : iEnumX K ta σ H R := .inr (.inl h)
theorem r_enumS (h : ta σ H fun vs H1 => ∃ x, vs = [.str x] ∧ R (IteS x) H1) : iEnumX K ta σ H R := .inr (.inr h)
end
end RV

/-! more of the own layer: raises that are never reached, lists that are gathered -/
namespace RV
open PySem PySem.Spec L2
open PyProof.Rows hiding St
section
variable {X : Cx} {K : PySem.W.Frag} {σ : St} {H : Hp} {Q : VK}
theorem r_tru_str {z : Str} {P : Bool → Prop} (h : z.length ≤ sizeLine) (k : P ((z.length : Int) != 0)) : ∃ b, TruV K (.str z) H b ∧ P b := ⟨_, ⟨h, rfl⟩, k⟩
theorem r_tru_lst {a : Addr} {xs : List V} {P : Bool → Prop} (h : SqL K H a xs) (k : P (!xs.isEmpty)) : ∃ b, TruV K (.ref a) H b ∧ P b := ⟨_, .inl ⟨xs, h, rfl⟩, k⟩
theorem r_tru_tup {a : Addr} {xs : List V} {P : Bool → Prop} (h : SqT K H a xs) (k : P (!xs.isEmpty)) : ∃ b, TruV K (.ref a) H b ∧ P b := ⟨_, .inr (.inl ⟨xs, h, rfl⟩), k⟩
theorem r_tru_non {P : Bool → Prop} (k : P false) : ∃ b, TruV K .non H b ∧ P b := ⟨_, rfl, k⟩
theorem r_par3 {D : Ends} {i j l : Nat} {ta : TA} (h : ta σ H fun vs H1 => ∃ u v w, vs = [u, v, w] ∧ D.nx (((σ.set i (some u)).set j (some v)).set l (some w)) H1) : tPar3 i j l ta D σ H := h
theorem r_uvw {u v w : V} {P : V → V → V → Prop} (h : P u v w) : ∃ u' v' w', [u, v, w] = [u', v', w'] ∧ P u' v' w' := ⟨u, v, w, rfl, h⟩
/-! f-strings -/
theorem r_fmtS {te : TE} (h : te σ H fun x H1 => (∃ y : Str, x = .str y ∧ y.length ≤ sizeLine ∧ Q (.str y) H1) ∨ ∃ i : Int, x = .int i ∧ i.natAbs.log2 < 1920 ∧ Q (.str (toString i)) H1) : tFmt te σ H Q := h
theorem r_fS {z : Str} {P : Str → Prop} {R : Prop} (h : z.length ≤ sizeLine) (k : P z) : (∃ y : Str, V.str z = .str y ∧ y.length ≤ sizeLine ∧ P y) ∨ R := .inl ⟨z, rfl, h, k⟩
theorem r_fI {i : Int} {P : Str → Prop} {R : Prop} (h : i.natAbs.log2 < 1920) (k : P (toString i)) : R ∨ (∃ j : Int, V.int i = .int j ∧ j.natAbs.log2 < 1920 ∧ P (toString j)) := .inr ⟨i, rfl, h, k⟩
def tJoined (ts : List TE) : TE := fun σ H Q => tJs ts Str.empty σ H fun out H1 => Q (.str out) H1
theorem pe_joinedN {v1 v2 : Expr} {rest : List Expr} {ts : List TE} {pos : Pos} (h : PJ X (v1 :: v2 :: rest) ts) : PE X (.JoinedStr (v1 :: v2 :: rest) pos) (tJoined ts) := pe_joined h
theorem r_joined {ts : List TE} (h : tJs ts Str.empty σ H fun out H1 => Q (.str out) H1) : tJoined ts σ H Q := h
theorem r_js0 {acc : Str} {R : Str → Hp → Prop} (h : R acc H) : tJs [] acc σ H R := h
theorem r_js1 {t : TE} {ts : List TE} {acc : Str} {R : Str → Hp → Prop} (h : t σ H fun x H1 => ∃ y : Str, x = .str y ∧ (acc ++ y).length ≤ sizeLine ∧ tJs ts (acc ++ y) σ H1 R) : tJs (t :: ts) acc σ H R := h
theorem r_jsS {z acc : Str} {P : Str → Prop} (h : (acc ++ z).length ≤ sizeLine) (k : P z) : ∃ y : Str, V.str z = .str y ∧ (acc ++ y).length ≤ sizeLine ∧ P y := ⟨z, rfl, h, k⟩
end
/-! lists that are gathered -/
structure Kp (P : Hp → V → Prop) : Prop where
  sm : ∀ {H H' : Hp} {x : V}, Sm H H' → P H x → P H' x
  up : ∀ {H : Hp} {A : Addr} {xs : List V} {o : HO} {x : V}, H A = some (.lst xs) → P H x → P (upd H A o) x
theorem Kp.add {P : Hp → V → Prop} (kp : Kp P) {Hi H4 : Hp} {A : Addr} {xs : List V} {y : V} (hA : Hi A = some (.lst xs)) (all : ∀ x ∈ xs, P Hi x) (s : Sm Hi H4) (py : P H4 y) :
    ∀ x ∈ xs ++ [y], P (upd H4 A (.lst (xs ++ [y]))) x := by
  intro x hx
  refine kp.up (s.to _ _ hA) ?_
  rcases List.mem_append.mp hx with hx | hx
  · exact kp.sm s (all x hx)
  · rw [List.mem_singleton.mp hx]
    exact py
theorem cat_mem {xs : List V} {lo hi : Option Int} {x : V} (h : x ∈ xs ++ cutV xs lo hi) : x ∈ xs := by
  rcases List.mem_append.mp h with h | h
  · exact h
  · exact cutV_mem h
theorem cat_len {xs : List V} {lo hi : Option Int} {n : Nat} (h : xs.length ≤ n) (hn : n ≤ 500000) : xs.length + (cutV xs lo hi).length ≤ sizeLine := by
  have := cutV_le xs lo hi
  exact len_le (by omega)
/-- a tuple with such items -/
def TupAt (F : List V → Prop) : Hp → V → Prop := fun H x => ∃ t vs, x = .ref t ∧ H t = some (.tup vs) ∧ F vs
theorem kp_tup (F : List V → Prop) : Kp (TupAt F) := by
  refine ⟨fun s h => ?_, fun hA h => ?_⟩
  · obtain ⟨t, vs, rfl, e, f⟩ := h
    exact ⟨t, vs, rfl, s.to _ _ e, f⟩
  · obtain ⟨t, vs, rfl, e, f⟩ := h
    refine ⟨t, vs, rfl, ?_, f⟩
    rw [upd_ne (ne_of e hA (by intro z; cases z))]
    exact e
/-- values alone -/
def ValAt (F : V → Prop) : Hp → V → Prop := fun _ x => F x
theorem kp_val (F : V → Prop) : Kp (ValAt F) := ⟨fun _ h => h, fun _ h => h⟩
theorem len_lt {n : Nat} (h : n ≤ 900000) : n < sizeLine := by
  have hl : (1000000 : Nat) ≤ sizeLine := by rw [sizeLine_eq]; decide
  omega
theorem cat1 (c : Nat) (l : List Nat) : (⟨#[c]⟩ : Str) ++ SX.S l = SX.S (c :: l) := SX.S_cat [c] l
theorem cat2 (c : Nat) (l : List Nat) : SX.S l ++ (⟨#[c]⟩ : Str) = SX.S (l ++ [c]) := SX.S_cat l [c]
theorem rep48 (n : Nat) (s : Str) (h : s.cps.toList = [48]) : (⟨((List.replicate n s.cps.toList).flatten).toArray⟩ : Str) = SX.S (List.replicate n 48) := by
  rw [h]
  have e : ∀ n : Nat, (List.replicate n [48]).flatten = List.replicate n 48 := fun n => by
    induction n with
    | zero => rfl
    | succ n ih => rw [List.replicate_succ, List.flatten_cons, ih]; rfl
  rw [e]
end RV

/-! masks of ints, counts of signs, dicts made of pairs, equal lists of ints -/
namespace RV
open PySem PySem.Spec L2
open PyProof.Rows hiding St
theorem iand {a b : Int} (ha : 0 ≤ a) (hb : 0 ≤ b) : Builtin.bitAnd a b = ((a.toNat &&& b.toNat : Nat) : Int) := bitAnd_pp ha hb
theorem iout {a b : Int} (ha : 0 ≤ a) (hb : 0 ≤ b) : Builtin.bitXor a (Builtin.bitAnd a b) = ((out a.toNat b.toNat : Nat) : Int) := by
  rw [bitXor_and, iand ha hb, iand ha (Int.natCast_nonneg _), Int.toNat_natCast]
  have e : a.toNat &&& (a.toNat &&& b.toNat) = a.toNat &&& b.toNat := by rw [← Nat.and_assoc, Nat.and_self]
  rw [e]
  unfold out
  have := Nat.and_le_left (n := a.toNat) (m := b.toNat)
  omega
theorem iand_le {a b : Int} (ha : 0 ≤ a) (hb : 0 ≤ b) : 0 ≤ Builtin.bitAnd a b ∧ Builtin.bitAnd a b ≤ a ∧ Builtin.bitAnd a b ≤ b := by
  rw [iand ha hb]
  have := Nat.and_le_left (n := a.toNat) (m := b.toNat)
  have := Nat.and_le_right (n := a.toNat) (m := b.toNat)
  omega
theorem ior_le {a b : Int} (ha : 0 ≤ a) (hb : 0 ≤ b) : 0 ≤ Builtin.bitOr a b ∧ Builtin.bitOr a b ≤ a + b := by
  have h := iand_le ha hb
  rw [bitOr_and]
  omega
theorem bits_le {x : Int} {k : Nat} (h0 : 0 ≤ x) (h : x < 2 ^ k) : Builtin.Int.intBits x ≤ k := by
  refine PySem.intBits_le_iff.mpr ?_
  have e : ((2 ^ k : Nat) : Int) = (2 : Int) ^ k := by rw [Int.natCast_pow]; rfl
  have h2 : x.toNat < 2 ^ k := Int.ofNat_lt.mp (by rw [e, Int.toNat_of_nonneg h0]; exact h)
  have h3 : x.natAbs = x.toNat := by omega
  omega
theorem cnt49 : ∀ l : List Nat, cnt 49 l = ((l.count 49 : Nat) : Int)
  | [] => rfl
  | c :: l => by
    rw [cnt_cons, cnt49 l, List.count_cons]
    by_cases h : c = 49
    · subst h
      simp
      omega
    · simp [h]
theorem count_bin (n : Nat) : Txt.count (SX.S (bin n)) (Str.ofString "1") = ((pop n : Nat) : Int) := by
  have e : (Str.ofString "1") = (⟨#[49]⟩ : Str) := by decide +kernel
  rw [e]
  have h := count_is (SX.S (bin n)) 49
  have h2 : countIn (.str ⟨#[49]⟩) ((SX.S (bin n)).cps.toList.map fun n => PyData.str ⟨#[n]⟩) = cnt 49 (bin n) := rfl
  rw [h, h2, cnt49, bin_count]
/-- a dict made of numbers -/
theorem merge_some (n : Int) (v : V) : ∀ (l : List Int) (kvs : List (Key × V)), (valV (mergeK kvs (l.map fun x => ((Sum.inl x : Key), v))) (Sum.inl n : Key)).isSome = ((valV kvs (Sum.inl n : Key)).isSome || decide (n ∈ l))
  | [], kvs => by
    show (valV kvs (Sum.inl n : Key)).isSome = _
    simp
  | x :: l, kvs => by
    show (valV (mergeK (putK kvs (Sum.inl x : Key) v) (l.map fun x => ((Sum.inl x : Key), v))) (Sum.inl n : Key)).isSome = _
    rw [merge_some n v l, valV_put]
    by_cases h : n = x
    · subst h
      simp
    · have h2 : ¬ ((Sum.inl n : Key) = Sum.inl x) := fun z => h (Sum.inl.inj z)
      rw [if_neg h2]
      simp [h]
theorem eqv_lists : ∀ ns ms : List Int, PyData.eqvAll (ns.map PyData.int) (ms.map PyData.int) = decide (ns = ms)
  | [], [] => rfl
  | [], _ :: _ => rfl
  | _ :: _, [] => rfl
  | n :: ns, m :: ms => by
    show ((n == m) && PyData.eqvAll (ns.map PyData.int) (ms.map PyData.int)) = _
    rw [eqv_lists ns ms]
    by_cases h : n = m
    · subst h
      by_cases h2 : ns = ms
      · subst h2
        simp
      · simp [h2]
    · simp [h]
section
variable {H : Hp} {Q : VK} {K : PySem.W.Frag}
/-- two lists of ints -/
theorem r_eqLI {a b : Addr} {ns ms : List Int} (ha : SqL K H a (ns.map V.int)) (hb : SqL K H b (ms.map V.int)) (k : Q (.bl (decide (ns = ms))) H) : rEqA K (.ref a) (.ref b) H Q := r_eqD (dp_ints ha) (dp_ints hb) (shaped_ints ns) (shaped_ints ms) (by
  have e : PyData.eqv (.list (ns.map PyData.int)) (.list (ms.map PyData.int)) = decide (ns = ms) := eqv_lists ns ms
  rw [e]
  exact k)
theorem r_neLI {a b : Addr} {ns ms : List Int} (ha : SqL K H a (ns.map V.int)) (hb : SqL K H b (ms.map V.int)) (k : Q (.bl (!decide (ns = ms))) H) : rNeA K (.ref a) (.ref b) H Q := r_neD (dp_ints ha) (dp_ints hb) (shaped_ints ns) (shaped_ints ms) (by
  have e : PyData.eqv (.list (ns.map PyData.int)) (.list (ms.map PyData.int)) = decide (ns = ms) := eqv_lists ns ms
  rw [e]
  exact k)
theorem r_sum {a : Addr} {ns : List Int} (h : SqL K H a (ns.map V.int)) (k : Q (.int ns.sum) H) : rSum K [.ref a] H Q := ⟨a, ns, rfl, h, k⟩
theorem r_dnotin {σ : St} {ty td : TE} (h : ty σ H fun y H1 => td σ H1 fun x H2 => ∃ a o, x = .ref a ∧ DGet H2 a y o ∧ Q (.bl (!o.isSome)) H2) : tDNotIn ty td σ H Q := h
theorem r_din {σ : St} {ty td : TE} (h : ty σ H fun y H1 => td σ H1 fun x H2 => ∃ a o, x = .ref a ∧ DGet H2 a y o ∧ Q (.bl o.isSome) H2) : tDIn ty td σ H Q := h
theorem r_dgetI {d : Addr} {kvs : List (Key × V)} {n : Int} {P : Option V → Prop} (h : H d = some (.dK kvs)) (k : P (valV kvs (Sum.inl n : Key))) : ∃ a o, V.ref d = .ref a ∧ DGet H a (.int n) o ∧ P o := ⟨d, _, rfl, DGet.k (k := Sum.inl n) h, k⟩
theorem r_dgetS {d : Addr} {kvs : List (Key × V)} {n : Str} {P : Option V → Prop} (h : H d = some (.dK kvs)) (k : P (valV kvs (Sum.inr n : Key))) : ∃ a o, V.ref d = .ref a ∧ DGet H a (.str n) o ∧ P o := ⟨d, _, rfl, DGet.k (k := Sum.inr n) h, k⟩
def rDictP (K : PySem.W.Frag) : List V → Hp → VK → Prop := fun xs H Q => ∃ (a : Addr) (ps : List Addr) (kvs : List (Key × V)), xs = [.ref a] ∧ SqL K H a (ps.map V.ref) ∧ Paired (fun p kv => SqT K H p [kV kv.1, kv.2]) ps kvs ∧ ∀ p, H p = none → Q (.ref p) (upd H p (.dK (mergeK [] kvs)))
theorem dict_k {X : Cx} (e : X.K = K) (hc : X.calm = true) : CallR X (.type "dict") (rDictP K) := e ▸ call_dictP hc
/-- dict(pairs), the pairs numbers with one value -/
theorem r_dictP {a : Addr} {ps : List Addr} {l : List Int} {v : V} (h : SqL K H a (ps.map V.ref)) (hp : Paired (fun p kv => SqT K H p [kV kv.1, kv.2]) ps (l.map fun x => ((Sum.inl x : Key), v)))
    (k : ∀ p, H p = none → Q (.ref p) (upd H p (.dK (mergeK [] (l.map fun x => ((Sum.inl x : Key), v)))))) : rDictP K [.ref a] H Q := ⟨a, ps, _, rfl, h, hp, k⟩
theorem r_bits {σ : St} {to : TE} (h : to σ H fun x H1 => ∃ i, x = .int i ∧ Q (.int (Builtin.Int.intBits i : Nat)) H1) : tBits to σ H Q := h
end
theorem nat_lt {i : Int} {k : Nat} (h0 : 0 ≤ i) (h : i < 2 ^ k) : i.toNat < 2 ^ k := by
  have e : ((2 ^ k : Nat) : Int) = (2 : Int) ^ k := by rw [Int.natCast_pow]; rfl
  exact Int.ofNat_lt.mp (by rw [e, Int.toNat_of_nonneg h0]; exact h)
theorem sum_cast : ∀ l : List Nat, (l.map fun p => (1 * 2 ^ ((p : Nat) : Int).toNat : Int)).sum = (((l.map fun p => 2 ^ p).sum : Nat) : Int)
  | [] => rfl
  | p :: l => by
    rw [List.map_cons, List.sum_cons, sum_cast l, List.map_cons, List.sum_cons, Int.natCast_add, Int.natCast_pow, Int.one_mul, Int.toNat_natCast]
    rfl
theorem mem_cast {l : List Nat} {p : Nat} : ((p : Nat) : Int) ∈ l.map (fun q => ((q : Nat) : Int)) ↔ p ∈ l := by
  rw [List.mem_map]
  constructor
  · rintro ⟨q, hq, e⟩
    have : q = p := by omega
    exact this ▸ hq
  · intro h
    exact ⟨p, h, rfl⟩
end RV

/-! promises of defs that show lists and tuples (repr): kept where nothing is being shown -/
namespace RV
open PySem PySem.Spec L2
open PyProof.Rows hiding St
section
variable {P : Program} {w : World} {K : PySem.W.Frag} {mg : Str → Option Value} {base : Heap} {CX : CXT} {k : Nat} {f : Addr} {fd : FuncData} {ps N : List Str} {sp : Sp}
structure FnG (P : Program) (w : World) (K : PySem.W.Frag) (mg : Str → Option Value) (base : Heap) (CX : CXT) (k : Nat) (f : Addr) (fd : FuncData) (ps : List Str) (sp : Sp) : Prop where
  many : ∀ vs H Q E, sp vs H Q E → vs.length = ps.length
  go : ∀ (A : Around) (outer : List Env) (s : Shared) (H : Hp) (args : Args) (us : List Value) (vs : List V) (Q : VK) (E : XK), A.guards = some [] → Room k A → Env0 P w K mg base A outer s H → BindsTo s fd args (ps.zip us) → Vals vs us → sp vs H Q E →
    codeAny (model P w) A (.call (.ref f) args) (CR CX outer P w H s Q E) s
theorem deeper_guards {A : Around} {env : Env} (h : A.guards = some []) : (A.deeper env).guards = some [] := by
  first
    | exact h
    | simpa [Around.deeper] using h
/-- one entry of a def, by its body -/
theorem entered {name qual : Str} {params : Arguments} {body : List Stmt} {scope : Scope} {dV kV doc pm cdv ct oc : Value} {an od : Option Addr} {osl : Array (Option Value)} {A : Around} {outer : List Env} {s : Shared} {H : Hp} {args : Args} {us : List Value} {vs : List V} {Q : VK} {E : XK}
    (there : K.lookup f = some ⟨oc, od, .func (PySem.W.fnOf name qual params body scope dV kV doc pm an cdv ct), osl⟩) (code : PySem.W.codeIn K cdv qual = true) (S : FnScope N ps scope) (hl : vs.length = ps.length)
    (hr : Room (k + 1) A) (e0 : Env0 P w K mg base A outer s H) (hb : BindsTo s (PySem.W.fnOf name qual params body scope dV kV doc pm an cdv ct) args (ps.zip us)) (r : Vals vs us)
    (t : TS) (ht : PSs (cxOf CX P w K mg base N qual scope f cdv A outer s H E) body t) (hq : t { nx := fun _ H' => Q .non H', rt := Q } (start N vs) H) :
    codeAny (model P w) A (.call (.ref f) args) (CR CX outer P w H s Q E) s := by
  have inK : K.In s.heap := e0.mod.kin.keeps fun b o e => (e0.bs b o e).1
  have free : s.heap.NoLimit := e0.mod.nolimit.keeps fun b o e => (e0.bs b o e).1
  have kinds : ∀ y ∈ ps.zip us, scope.names.lookup y.1 = some .local ∨ (scope.names.lookup y.1 = some .cell ∧ ((cellsFrom (s.heap.objs.size + 1) scope.names []).lookup y.1).isSome = true) := fun y hy =>
    (S.par y.1 (List.of_mem_zip (show (y.1, y.2) ∈ ps.zip us from hy)).1).imp _root_.id fun q => ⟨q, PySem.W.cellsFrom_some _ _ _ (.inl q)⟩
  refine codeAny_call_function hr.depth (inK _ _ there) rfl S.co S.gen rfl (PySem.W.codeRec_of inK code) (hb _ _ _ _ ?_)
  refine wpAny_newFunctionEnv_cells S.kind kinds fun env he s1 x => ?_
  subst he
  refine ⟨free.keeps x.toInCall.keep, codeAny_func ?_⟩
  refine wpAny_mono (ht.run [] s1 (start N vs) H _ (inv_start S hr.hd e0 hl r x) hq) (fun fl s' hs => ?_) fun e s' hs => hs
  cases fl with
  | ret u =>
    obtain ⟨v, σ', H', J, rv, q⟩ := hs
    exact ⟨v, H', J.os, J.bare, J.base, J.hok, rv, q⟩
  | next =>
    obtain ⟨σ', H', J, q⟩ := hs
    exact ⟨.non, H', J.os, J.bare, J.base, J.hok, rfl, q⟩
  | brk => exact hs.elim fun _ z => z.elim fun _ z => z.2.elim
  | cont => exact hs.elim fun _ z => z.elim fun _ z => z.2.elim
theorem okG {x qual : Str} {st : Stmt} (F : Fun K x qual st f fd) (S : FnScope N ps (defScope st)) (many : ∀ vs H Q E, sp vs H Q E → vs.length = ps.length)
    (hbody : ∀ (cdv : Value) (A : Around) (outer : List Env) (s : Shared) (H : Hp) (vs : List V) (Q : VK) (E : XK), Room k (A.deeper (envOfC qual (defScope st) s.heap.objs.size f cdv)) → (A.deeper (envOfC qual (defScope st) s.heap.objs.size f cdv)).guards = some [] → sp vs H Q E →
      ∃ t, PSs (cxOf CX0 P w K mg base N qual (defScope st) f cdv A outer s H E).nox (defBody st) t ∧ t { nx := fun _ H' => Q .non H', rt := Q } (start N vs) H) : FnG P w K mg base CX0 (k + 1) f fd ps sp := by
  obtain ⟨oc, od, kV, doc, pm, an, cdv, ct, osl, rfl, lk, hcd⟩ := F.ex
  refine ⟨many, fun A outer s H args us vs Q E hg hr e0 hb r hsp => ?_⟩
  obtain ⟨t, h, q⟩ := hbody cdv A outer s H vs Q E (hr.deeper _) (deeper_guards hg) hsp
  exact entered lk hcd S (many _ _ _ _ hsp) hr e0 hb r t h.nox q
end
section
variable {X : Cx} {CX : CXT} {k : Nat} {f : Addr} {fd : FuncData} {ps : List Str} {sp : Sp} {E : XK} {x : Str} {p pos : Pos} {e : Expr} {es : List Expr} {t : TA} {K : PySem.W.Frag}
/-- f(a, ..) of such a def -/
theorem pe_callG (F : FnG X.prog X.w X.K X.mg X.base CX k f fd ps sp) (hg0 : X.A.guards = some []) (hr : Room k X.A) (hg : Gl X x) (hm : X.mg x = some (.ref f)) (hk : PySem.W.keepIn X.K (.ref f) = true) (hb : Binds X.K fd ps []) (hx : Passes CX X E)
    (ha : PA X (e :: es) t) (hdb : (x == ("__debug__" : Str)) = false := by decide) (he : starEach (e :: es) X.env = (false, eval e X.env) :: starEach es X.env := by rfl) (hpl : (backTo pos (starEach es X.env)).any (·.1) = false := by rfl) :
    PE X (.Call (.Name x p) (e :: es) [] pos) (tCall sp [] E t) := by
  refine ⟨fun pins s σ H Q I h => wpAny_Call_Name_kw (ld_glob I hg hm ?_ hdb)⟩
  refine PySem.W.callWith_K (h₀ := X.base) I.ok.mod.kin hk (thn (ha.run pos pins s σ H _ I h) fun us s1 ⟨vs, H1, I1, r, q⟩ => ⟨I1.kIn, ?_⟩) he hpl
  have r2 : Vals (vs ++ []) (us ++ []) := r.append .nil
  refine wpAny_call (codeAny_mono (F.go X.A X.stack s1 H1 ⟨us, []⟩ (us ++ []) (vs ++ []) Q E hg0 hr I1.env0 (hb s1 us I1.kIn (by rw [← r2.length]; exact F.many _ _ _ _ q)) r2 q) fun z s' hq => ?_)
  cases z with
  | error er => exact hx pins σ H1 s1 er s' I1 hq
  | ok fl =>
    cases fl with
    | ret u => exact I1.after hq
    | next => exact hq.elim
    | brk => exact hq.elim
    | cont => exact hq.elim
/-! repr of data -/
def rReprD (K : PySem.W.Frag) : List V → Hp → VK → Prop := fun xs H Q => ∃ (a : Addr) (d : PyData), xs = [.ref a] ∧ Dp K H (.ref a) d ∧ d.showable = true ∧ d.hasDict = false ∧ d.depth ≤ 20 ∧ d.shown.length ≤ sizeLine ∧ Q (.str d.shown) H
theorem repr_k (e : X.K = K) (hg : X.A.guards = some []) (hu : X.A.units + 64 < cLine) : CallR X (.builtin "repr") (rReprD K) := by
  intro pins s σ H xs us Q I r h
  obtain ⟨a, d, rfl, hd, h1, h2, h3, h4, q⟩ := h
  obtain ⟨u, rfl, ru⟩ := vals1 r
  subst e
  obtain ⟨as, hr⟩ := Dp.reads I d _ _ hd ru
  obtain rfl : u = Value.ref a := ru
  refine repr_of_reads' hr h1 (PyData.noDict_hsm h2) hg (by omega) (fun b o e => e) (fun h' u tk hk => ?_) h4
  exact ⟨.str d.shown, H, I.kept (t' := tk) hk, ⟨u, rfl⟩, q⟩
end
/-! the law's head for such a def -/
theorem headG {P : Program} {w : World} {K : PySem.W.Frag} {mg mb : Str → Option Value} {CX : CXT} {k : Nat} {fa a : Addr} {fd : FuncData} {x : Str} {sp : Sp} {s1 : Shared} {vs : List Value} {ns : List Int}
    (inK : K.In s1.heap) (gn : s1.heap.Ns mainGlobals mg) (bn : s1.heap.Ns builtinsNs mb) (bb : ∀ y : Str, y ≠ "__name__" → mb y = bootBuiltins y) (free : s1.heap.NoLimit) (g0 : s1.gens = #[])
    (at0 : s1.heap.get? a = some { cls := .type "list", data := .seq vs.toArray }) (nums : IntsAre vs ns) (short : ns.length ≤ sizeLine) (room : Room k callerA)
    (F : ∀ b : Heap, K.In b → b.Ns mainGlobals mg → FnG P w K mg b CX k fa fd [x] sp) (bind : ∀ (s : Shared) (u : Value), BindsTo s fd ⟨[u], []⟩ [(x, u)])
    (asked : ∀ H : Hp, Only H → SqL K H a (ns.map V.int) → sp [.ref a] H (fun v _ => v = .bl true) fun _ _ _ => False)
    (none_out : ∀ H e s', CX [] H s1 (fun _ _ _ => False) e s' → False) :
    codeAny (model P w) callerA (.call (.ref fa) ⟨[.ref a], []⟩) (fun r s' => r = .ok (.ret (.bool true)) ∧ OldK s1.heap s'.heap ∧ s'.os = s1.os ∧ AllBare s'.gens) s1 := by
  have rv := vals_ints nums
  have main : ∀ H : Hp, Only H → SqL K H a (ns.map V.int) → HOk P w H s1.heap → (∀ b u, H b = some u → b = a ∧ K.lookup a = none) →
      codeAny (model P w) callerA (.call (.ref fa) ⟨[.ref a], []⟩) (fun r s' => r = .ok (.ret (.bool true)) ∧ OldK s1.heap s'.heap ∧ s'.os = s1.os ∧ AllBare s'.gens) s1 := by
    intro H only sq hok lone
    have noDict : ∀ {b : Addr} {m : Str → Option Value}, s1.heap.Ns b m → (hidT s1.heap H).Ns b m := fun {b m} ⟨o, es, ep, e, d, z⟩ => ⟨o, es, ep, hidT_get e (by
      cases q : H b with
      | none => rfl
      | some u =>
        obtain ⟨rfl, _⟩ := lone b u q
        rw [at0] at e
        cases e
        cases d), d, z⟩
    have inB : K.In (hidT s1.heap H) := fun b o e => hidT_get (inK b o e) (by
      cases q : H b with
      | none => rfl
      | some u =>
        obtain ⟨rfl, z⟩ := lone b u q
        rw [z] at e
        cases e)
    have mod : Mod K mg (hidT s1.heap H) := ⟨inB, noDict gn, ⟨mb, noDict bn, bb⟩, free.elim fun mc z => ⟨mc, noDict z.1, z.2⟩⟩
    have e0 : Env0 P w K mg (hidT s1.heap H) callerA [] s1 H := ⟨rfl, mod, fun b o e => of_hidT e, Nat.le_of_eq (hidT_size _ _), trivial, (fun b hb => absurd (show b ∈ ([] : List Addr) from hb) List.not_mem_nil), hok, .of_eq g0⟩
    refine codeAny_mono ((F _ inB (noDict gn)).go callerA [] s1 H ⟨[.ref a], []⟩ [.ref a] [.ref a] _ _ rfl room e0 (bind s1 (.ref a)) (.cons rfl .nil) (asked H only sq)) fun r s' z => ?_
    cases r with
    | error e => exact (none_out H e s' z).elim
    | ok fl =>
      cases fl with
      | next => exact z.elim
      | brk => exact z.elim
      | cont => exact z.elim
      | ret u =>
        obtain ⟨v, H', os, bare, un, hok', r', q⟩ := z
        obtain rfl : v = V.bl true := q
        obtain rfl : u = Value.bool true := r'
        refine ⟨rfl, OldK.of_keep fun b o e => ?_, os, bare⟩
        cases q : H b with
        | none => exact un.keep b o e q (fun z => absurd (show b ∈ ([] : List Addr) from z) List.not_mem_nil) List.not_mem_nil
        | some u =>
          rcases only b with z | ⟨ob, xs, z⟩
          · rw [q] at z
            cases z
          · obtain ⟨e1, _⟩ := hok b _ z
            obtain ⟨e2, _⟩ := hok' b _ (un.frzs b ob _ z)
            rw [e] at e1
            cases e1
            exact e2
  cases own : K.lookup a with
  | some o =>
    have e := inK a o own
    rw [at0] at e
    cases e
    exact main (fun _ => none) (fun _ => .inl rfl) (.inr ⟨_, vs.toArray, _, own, rfl, rfl, rfl, by rw [List.size_toArray, nums.length]; exact short, by simpa using rv⟩) (fun b u z => nomatch (show (none : Option HO) = some u from z)) fun b u z => nomatch (show (none : Option HO) = some u from z)
  | none =>
    have tracked : ∀ b u, (fun c => if c = a then some (HO.frz { cls := .type "list", data := .seq vs.toArray } (.lst (ns.map V.int))) else none) b = some u → b = a ∧ u = HO.frz { cls := .type "list", data := .seq vs.toArray } (.lst (ns.map V.int)) := fun b u z => by
      by_cases hb : b = a
      · exact ⟨hb, (Option.some.inj ((if_pos hb).symm.trans z)).symm⟩
      · exact nomatch (if_neg hb).symm.trans z
    refine main (fun c => if c = a then some (.frz { cls := .type "list", data := .seq vs.toArray } (.lst (ns.map V.int))) else none) (fun b => ?_) (.inl (.inr ⟨_, if_pos rfl⟩)) (fun b u z => ?_) fun b u z => ⟨(tracked b u z).1, own⟩
    · by_cases hb : b = a
      · exact .inr ⟨_, _, if_pos hb⟩
      · exact .inl (if_neg hb)
    · obtain ⟨rfl, rfl⟩ := tracked b u z
      exact ⟨at0, by rw [List.length_map]; exact short, vs, _, rv, at0⟩
theorem walkG {l : PySem.W.OpenLaw} {n k : Nat} {q : Program} {loose : List Str} {XP : (Str → Option Value) → Heap → Prop} {YP : World → Heap → Prop} {d : DefRec} {K : Params → PySem.W.Frag} {CX : World → CXT} {sp : World → Sp} {x : Str}
    (hn : l.most = some n) (hn2 : n ≤ sizeLine) (hdf : d.params.defaults = []) (room : Room k callerA) (hY : ∀ (w : World) (h : Heap), YP w h → (K w.params).In h)
    (F : ∀ (w : World) (mg : Str → Option Value) (fa : Addr) (h : Heap), (K w.params).In h → h.Ns mainGlobals mg → mg d.name = some (.ref fa) →
      ∃ fd : FuncData, (∀ (s : Shared) (u : Value), BindsTo s fd ⟨[u], []⟩ [(x, u)]) ∧ ∀ b : Heap, (K w.params).In b → b.Ns mainGlobals mg → FnG l.prog w (K w.params) mg b (CX w) k fa fd [x] (sp w))
    (asked : ∀ (w : World) (H : Hp) (a : Addr) (ns : List Int), ns.length ≤ n → Only H → SqL (K w.params) H a (ns.map V.int) → sp w [.ref a] H (fun v _ => v = .bl true) fun _ _ _ => False)
    (none_out : ∀ (w : World) (H : Hp) (s : Shared) (e : Value) (s' : Shared), CX w [] H s (fun _ _ _ => False) e s' → False) :
    PySem.W.WalkO q loose XP YP l.row.toRowW d [] (fun f vs => PySem.call f vs) := by
  refine Att.attach_call hn hdf fun w s0 s1 mg mb fa o pm cd doc a vs ns G Y _ _ _ named obj nums len g0 => ?_
  have inK := hY w _ Y
  obtain ⟨fd, bind, got⟩ := F w mg fa _ inK G.T.g named
  exact headG inK G.T.g G.T.b G.T.builtins G.T.nolimit g0 obj nums (Nat.le_trans len hn2) room got bind (fun H only sq => asked w H a ns len only sq) fun H e s' => none_out w H s1 e s'
end RV
/-! repr of lists of numbers -/
namespace RV
open PySem PySem.Spec L2
open PyProof.Rows hiding St
theorem showable_ints : ∀ {ns : List Int}, (∀ n ∈ ns, n.natAbs < 2 ^ 64) → PyData.showableAll (ns.map PyData.int) = true
  | [], _ => by simp [PyData.showableAll]
  | n :: ns, h => by
    have h1 := h n List.mem_cons_self
    have h2 : n.natAbs.log2 < 1920 := by
      by_cases z : n.natAbs = 0
      · rw [z]; decide
      · exact Nat.lt_of_lt_of_le ((Nat.log2_lt z).mpr h1) (by decide)
    have h3 := showable_ints fun m hm => h m (List.mem_cons_of_mem _ hm)
    simp only [List.map_cons, PyData.showableAll, PyData.showable, h3, Bool.and_true, decide_eq_true_eq]
    exact h2
theorem noDict_ints (ns : List Int) : (PyData.list (ns.map PyData.int)).hasDict = false := PyData.hasDict_of_canLay _ (by simpa [PyData.canLay0] using lay_ints ns)
theorem sum_ints : ∀ {ns : List Int}, (∀ n ∈ ns, n.natAbs < 2 ^ 64) → ((PyData.shownAll (ns.map PyData.int)).map (·.length)).sum ≤ 65 * ns.length ∧ (PyData.shownAll (ns.map PyData.int)).length = ns.length
  | [], _ => by simp [PyData.shownAll]
  | n :: ns, h => by
    have h1 := h n List.mem_cons_self
    have h2 : n.natAbs.log2 < 64 := by
      by_cases z : n.natAbs = 0
      · rw [z]; decide
      · exact (Nat.log2_lt z).mpr h1
    have h3 := sum_ints fun m hm => h m (List.mem_cons_of_mem _ hm)
    have h4 := int_text_length_le (k := 64) (by decide) h2
    have h5 : (Str.ofString (toString n)).length ≤ 65 := by rw [PySem.ofString_length]; exact h4
    simp only [List.map_cons, PyData.shownAll, PyData.shown, List.sum_cons, List.length_cons]
    refine ⟨?_, by omega⟩
    have h6 : (Str.ofString (toString n)).length + ((PyData.shownAll (ns.map PyData.int)).map (·.length)).sum ≤ 65 * (ns.length + 1) := by omega
    exact h6
theorem shown_ints {ns : List Int} (h : ∀ n ∈ ns, n.natAbs < 2 ^ 64) (hl : ns.length ≤ 1000) : (PyData.list (ns.map PyData.int)).shown.length ≤ sizeLine := by
  have e := sum_ints h
  have e1 := listText_len_le (PyData.shownAll (ns.map PyData.int))
  have e2 : (PyData.list (ns.map PyData.int)).shown.length ≤ 65 * 1000 + 2 * 1000 + 3 := by
    simp only [PyData.shown]
    rw [e.2] at e1
    omega
  exact Nat.le_trans e2 (by rw [sizeLine_eq]; decide)
theorem r_reprL {K : PySem.W.Frag} {H : Hp} {Q : VK} {a : Addr} {ns : List Int} (h : SqL K H a (ns.map V.int)) (hn : ∀ n ∈ ns, n.natAbs < 2 ^ 64) (hl : ns.length ≤ 1000) (k : Q (.str (PyData.list (ns.map PyData.int)).shown) H) : rReprD K [.ref a] H Q :=
  ⟨a, _, rfl, dp_ints h, by simp only [PyData.showable]; exact showable_ints hn, noDict_ints ns, by
    have := deep_ints ns
    simp only [PyData.depth]
    omega, shown_ints hn hl, k⟩
section
variable {X : Cx} {pos : Pos} {K : PySem.W.Frag}
/-- a tuple of targets where the fragment is said by its name: goes in a comprehension's block -/
theorem pgT_k (e : X.K = K) {es : List Expr} {k : Nat} {t : TGs} {n : Nat} (hc : X.calm = true) (h : PGs X es t)
    (hn : (assignEach es X.env).length = n := by rfl) (hst : (assignEach es X.env).findIdx? (·.1) = none := by rfl) : PG X (.Tuple es k pos) (gTup K n t) := e ▸ pg_tup hc h hn hst
end
end RV

/-! repr of nested data and of None -/
namespace RV
open PySem PySem.Spec L2
open PyProof.Rows hiding St
def rReprN (K : PySem.W.Frag) : List V → Hp → VK → Prop := fun xs H Q => rReprD K xs H Q ∨ (xs = [.non] ∧ Q (.str (Str.ofString "None")) H)
theorem repr_n {X : Cx} {K : PySem.W.Frag} (e : X.K = K) (hg : X.A.guards = some []) (hu : X.A.units + 64 < cLine) : CallR X (.builtin "repr") (rReprN K) := by
  refine CallR.or (repr_k e hg hu) ?_
  intro pins s σ H xs us Q I r h
  obtain ⟨rfl, q⟩ := h
  obtain ⟨u, rfl, ru⟩ := vals1 r
  cases (show u = Value.none from ru)
  exact PySem.P.repr_of_none ⟨.str (Str.ofString "None"), H, I.tok _, ⟨_, rfl⟩, q⟩
/-- data that may be shown: at most so many signs, so deep -/
structure Shw (n k : Nat) (d : PyData) : Prop where
  s : d.showable = true
  h : d.hasDict = false
  dp : d.depth ≤ k
  l : d.shown.length ≤ n
theorem Shw.up {n m k j : Nat} {d : PyData} (x : Shw n k d) (h1 : n ≤ m) (h2 : k ≤ j) : Shw m j d := ⟨x.s, x.h, Nat.le_trans x.dp h2, Nat.le_trans x.l h1⟩
theorem shw_int {i : Int} (h : i.natAbs < 2 ^ 64) : Shw 66 0 (.int i) := by
  have h2 : i.natAbs.log2 < 64 := by
    by_cases z : i.natAbs = 0
    · rw [z]; decide
    · exact (Nat.log2_lt z).mpr h
  refine ⟨?_, by simp only [PyData.hasDict], by simp only [PyData.depth]; exact Nat.le_refl _, ?_⟩
  · simp only [PyData.showable]
    exact decide_eq_true (Nat.lt_of_lt_of_le h2 (by decide))
  · have h4 := int_text_length_le (k := 64) (by decide) h2
    have h5 : (Str.ofString (toString i)).length ≤ 65 := by rw [PySem.ofString_length]; exact h4
    simp only [PyData.shown]
    exact Nat.le_succ_of_le h5
theorem shw_str {x : Str} {n : Nat} (h : (reprText x).length ≤ n) : Shw n 0 (.str x) := ⟨by simp only [PyData.showable], by simp only [PyData.hasDict], by simp only [PyData.depth]; exact Nat.le_refl _, by simp only [PyData.shown]; exact h⟩
theorem shw_all {n k : Nat} : ∀ {ds : List PyData}, (∀ d ∈ ds, Shw n k d) → PyData.showableAll ds = true ∧ PyData.hasDictAll ds = false ∧ PyData.depthAll ds ≤ k ∧ ((PyData.shownAll ds).map (·.length)).sum ≤ n * ds.length ∧ (PyData.shownAll ds).length = ds.length
  | [], _ => by
    refine ⟨by simp only [PyData.showableAll], by simp only [PyData.hasDictAll], by simp only [PyData.depthAll]; exact Nat.zero_le _, by simp [PyData.shownAll], by simp [PyData.shownAll]⟩
  | d :: ds, h => by
    have h1 := h d (by simp)
    obtain ⟨a1, a2, a3, a4, a5⟩ := shw_all (ds := ds) fun e he => h e (by simp [he])
    refine ⟨?_, ?_, ?_, ?_, ?_⟩
    · simp only [PyData.showableAll, h1.s, a1, Bool.and_true]
    · simp only [PyData.hasDictAll, h1.h, a2, Bool.or_false]
    · simp only [PyData.depthAll]
      have := h1.dp
      omega
    · simp only [PyData.shownAll, List.map_cons, List.sum_cons, List.length_cons, Nat.mul_succ]
      have := h1.l
      omega
    · simp only [PyData.shownAll, List.length_cons, a5]
theorem shw_tup {n k : Nat} {ds : List PyData} (h : ∀ d ∈ ds, Shw n k d) : Shw (n * ds.length + 2 * ds.length + 3) (k + 1) (.tuple ds) := by
  obtain ⟨a1, a2, a3, a4, a5⟩ := shw_all h
  refine ⟨by simp only [PyData.showable]; exact a1, by simp only [PyData.hasDict]; exact a2, by simp only [PyData.depth]; omega, ?_⟩
  have e := tupleText_len_le (PyData.shownAll ds)
  simp only [PyData.shown]
  rw [a5] at e
  omega
theorem shw_lst {n k : Nat} {ds : List PyData} (h : ∀ d ∈ ds, Shw n k d) : Shw (n * ds.length + 2 * ds.length + 3) (k + 1) (.list ds) := by
  obtain ⟨a1, a2, a3, a4, a5⟩ := shw_all h
  refine ⟨by simp only [PyData.showable]; exact a1, by simp only [PyData.hasDict]; exact a2, by simp only [PyData.depth]; omega, ?_⟩
  have e := listText_len_le (PyData.shownAll ds)
  simp only [PyData.shown]
  rw [a5] at e
  omega
theorem r_reprX {K : PySem.W.Frag} {H : Hp} {Q : VK} {a : Addr} {d : PyData} {n k : Nat} (h : Dp K H (.ref a) d) (x : Shw n k d) (hn : n ≤ 900000) (hk : k ≤ 20) (q : Q (.str d.shown) H) : rReprN K [.ref a] H Q :=
  .inl ⟨a, d, rfl, h, x.s, x.h, Nat.le_trans x.dp hk, len_le (Nat.le_trans x.l (Nat.le_trans hn (by decide))), q⟩
theorem r_reprNone {K : PySem.W.Frag} {H : Hp} {Q : VK} (q : Q (.str (Str.ofString "None")) H) : rReprN K [.non] H Q := .inr ⟨rfl, q⟩
end RV

/-! objects of own classes: len, str, repr, truth, == by their own defs -/
namespace RV
open PySem PySem.Spec L2
open PyProof.Rows hiding St
section
variable {X : Cx} {CX : CXT} {k : Nat} {f C : Addr} {fd : FuncData} {ps : List Str} {sp : Sp} {E : XK} {pins : List (Addr × Obj)} {σ : St} {H : Hp} {s : Shared}
/-- a def called from inside a built-in -/
theorem run_in {A : Around} {Q : VK} {us : List Value} {vs : List V} (F : FnOk X.prog X.w X.K X.mg X.base CX k f fd ps sp) (hr : Room k A) (e0 : Env0 X.prog X.w X.K X.mg X.base A X.stack s H)
    (hb : Binds X.K fd ps []) (hx : Passes CX X E) (I : Inv X pins σ H s) (r : Vals vs us) (h : sp vs H Q E) : wpAny (model X.prog X.w) A (call (.ref f) us) (EP X pins σ Q) X.xe s := by
  have hl : us.length = ps.length := by rw [← r.length]; exact F.len _ _ _ _ h
  refine wpAny_call (codeAny_mono (F.run A X.stack s H ⟨us, []⟩ us vs Q E hr e0 (by
    have z := hb s us I.kIn (by rw [List.append_nil]; exact hl)
    rw [List.append_nil] at z
    exact z) r h) fun r s' hq => ?_)
  cases r with
  | error e => exact hx pins σ H s e s' I hq
  | ok fl =>
    cases fl with
    | ret u => exact I.after hq
    | next => exact False.elim hq
    | brk => exact False.elim hq
    | cont => exact False.elim hq
theorem ins_inst {a dx : Addr} {fs : List (Str × V)} (I : Inv X pins σ H s) (e : H a = some (.ins C dx fs)) : ∃ ox od, PySem.W.InstAt s.heap a ox C od := by
  obtain ⟨mA, O, _⟩ := ins_get I.hok e
  obtain ⟨od, J, _⟩ := O.look
  exact ⟨_, _, J⟩
def rLenOwn (C : Addr) (sp : Sp) (E : XK) : List V → Hp → VK → Prop := fun xs H Q => ∃ a dx fs, xs = [V.ref a] ∧ H a = some (.ins C dx fs) ∧ sp [.ref a] H (fun z H' => ∃ n : Int, z = .int n ∧ (0 ≤ n ∧ n < 2 ^ 63) ∧ Q z H') E
theorem call_lenOwn (hm : Meth X.K C "__len__" f) (F : FnOk X.prog X.w X.K X.mg X.base CX k f fd ps sp) (hr : Room (k + 2) X.A) (hb : Binds X.K fd ps []) (hx : Passes CX X E) : CallR X (.builtin "len") (rLenOwn C sp E) := by
  intro pins s σ H xs us Q I r h
  obtain ⟨a, dx, fs, rfl, e, q⟩ := h
  obtain ⟨u, rfl, ru⟩ := r.one
  cases (show u = Value.ref a from ru)
  obtain ⟨ox, od, J⟩ := ins_inst I e
  obtain ⟨m, hF⟩ := I.fr
  have hr1 : Room k X.A.in1 := (show Room (k + 1) X.A.in1 from Room.in1 hr).mono (Nat.le_succ _)
  refine PySem.W.len_K hF I.ok.mod.kin J hm.at_ hm.fn (wpAny_mono (run_in (us := [.ref a]) (vs := [.ref a]) F hr1 I.env0.in1 hb hx I (.cons rfl .nil) q) (fun w s' z => ?_) fun _ _ x => x)
  obtain ⟨z', H', I', rz, n, en, b, qz⟩ := z
  subst en
  obtain ⟨t, et⟩ := (show ∃ t, w = Value.int n t from rz)
  cases et
  exact ⟨b, .int n, H', I'.tok _, ⟨_, rfl⟩, qz⟩
def rStrOwn (C : Addr) (sp : Sp) (E : XK) : List V → Hp → VK → Prop := fun xs H Q => ∃ a dx fs, xs = [V.ref a] ∧ H a = some (.ins C dx fs) ∧ sp [.ref a] H (fun z H' => ∃ y : Str, z = .str y ∧ Q z H') E
theorem call_reprOwn (hm : Meth X.K C "__repr__" f) (F : FnOk X.prog X.w X.K X.mg X.base CX k f fd ps sp) (hr : Room (k + 2) X.A) (hb : Binds X.K fd ps []) (hx : Passes CX X E) : CallR X (.builtin "repr") (rStrOwn C sp E) := by
  intro pins s σ H xs us Q I r h
  obtain ⟨a, dx, fs, rfl, e, q⟩ := h
  obtain ⟨u, rfl, ru⟩ := r.one
  cases (show u = Value.ref a from ru)
  obtain ⟨ox, od, J⟩ := ins_inst I e
  obtain ⟨m, hF⟩ := I.fr
  have hr0 : Room (k + 1) X.A.in1 := Room.in1 hr
  have hr1 : Room k X.A.in1 := hr0.mono (Nat.le_succ _)
  refine PySem.W.repr_K hr1.units0 hF I.ok.mod.kin J hm.at_ hm.fn (wpAny_mono (run_in (us := [.ref a]) (vs := [.ref a]) F hr1 I.env0.in1 hb hx I (.cons rfl .nil) q) (fun w s' z => ?_) fun _ _ x => x)
  obtain ⟨z', H', I', rz, n, en, qz⟩ := z
  subst en
  obtain ⟨t, et⟩ := (show ∃ t, w = Value.str n t from rz)
  cases et
  exact ⟨.str n, H', I', ⟨_, rfl⟩, qz⟩
theorem call_strOwn (hm : Meth X.K C "__str__" f) (F : FnOk X.prog X.w X.K X.mg X.base CX k f fd ps sp) (hr : Room (k + 2) X.A) (hb : Binds X.K fd ps []) (hx : Passes CX X E) : CallR X (.type "str") (rStrOwn C sp E) := by
  intro pins s σ H xs us Q I r h
  obtain ⟨a, dx, fs, rfl, e, q⟩ := h
  obtain ⟨u, rfl, ru⟩ := r.one
  cases (show u = Value.ref a from ru)
  obtain ⟨ox, od, J⟩ := ins_inst I e
  have hr1 : Room k X.A.in1.in1 := (show Room (k + 1) X.A.in1 from Room.in1 hr).in1
  refine PySem.W.kso_call hr1.units0 I.kIn J hm.at_ hm.fn (wpAny_mono (run_in (us := [.ref a]) (vs := [.ref a]) F hr1 I.env0.in1.in1 hb hx I (.cons rfl .nil) q) (fun w s' z => ?_) fun _ _ x => x)
  obtain ⟨z', H', I', rz, n, en, qz⟩ := z
  subst en
  obtain ⟨t, et⟩ := (show ∃ t, w = Value.str n t from rz)
  cases et
  exact ⟨.str n, H', I', ⟨_, rfl⟩, qz⟩
/-- x == y: x an object with its own def, y anything that is no instance of a class below -/
def rEqOwn (K : PySem.W.Frag) (C : Addr) (sp : Sp) (E : XK) : R2 := fun x y H Q => ∃ a dx fs t, x = .ref a ∧ H a = some (.ins C dx fs) ∧ TyX K H y t ∧ PySem.W.notFirst K C t = true ∧ sp [x, y] H Q E
/-- truth by __len__ -/
theorem truthy_len {prog : Program} {w : World} {A : Around} {E : Value → Shared → Prop} {s : Shared} {K : PySem.W.Frag} {x C f : Addr} {ox : Obj} {od : Option Obj} {Q : Bool → Shared → Prop} (Xk : K.In s.heap) (J : PySem.W.InstAt s.heap x ox C od)
    (hb : PySem.W.findIn K (.ref C) "__bool__" = some none) (hl : PySem.W.findIn K (.ref C) "__len__" = some (some (.ref f))) (hf : PySem.W.isFn K (.ref f) = true)
    (h : wpAny (model prog w) A.in1 (call (.ref f) [.ref x]) (PySem.W.LenBack fun v s' => ∃ n t, v = .int n t ∧ Q (n != 0) s') E s) : wpAny (model prog w) A (truthy (.ref x)) Q E s := by
  have key : wpAny (model prog w) A (runValue (.builtin "len" ⟨[.ref x], []⟩)) (fun r s' => ∃ n t, r = .int n t ∧ Q (n != 0) s') E s := by
    refine wpAny_runValue (codeAny_builtin PySem.entry_len ?_)
    rw [Around.under_plainId PySem.plain_len _]
    refine wpAny_mono (Q := fun fin s' => ∃ r, fin = .done (.ret r) ∧ ∃ n t, r = .int n t ∧ Q (n != 0) s') ?_ (fun fin s' h' => by obtain ⟨r, rfl, hq⟩ := h'; exact hq) fun _ _ e => e
    unfold Builtin.«len»
    refine wpAny_bind (m := oneArg "len" _) (wpAny_pure ?_)
    refine wpAny_bind (m := callSpecial? (.ref x) (Str.ofString "__len__")) (PySem.W.special_fn Xk J hl (beq_iff_eq.mp hf) (wpAny_mono h (fun r s' hr => ?_) fun _ _ y => y))
    cases r <;> first | exact hr.elim | skip
    rename_i n u
    obtain ⟨⟨h0, h1⟩, hq⟩ := hr
    refine wpAny_bind (wpAny_holding (wpAny_pure ?_))
    refine wpAny_bind (wpAny_letGo ?_)
    show wpAny _ _ (if n < 0 then _ else _) _ _ _
    rw [if_neg (by omega)]
    show wpAny _ _ (if n ≥ 2 ^ 63 then _ else _) _ _ _
    rw [if_neg (by omega)]
    exact wpAny_bind (wpAny_mkInt (wpAny_pure ⟨_, rfl, hq⟩))
  unfold truthy
  refine wpAny_bind (m := callSpecial? (.ref x) (Str.ofString "__bool__")) (wpAny_bind (wpAny_bind (J.type.here ((PySem.W.looks_findIn Xk hb).here (wpAny_pure ?_)))))
  refine wpAny_bind (wpAny_bind (J.type.here ((PySem.W.looks_findIn Xk hl).here ?_)))
  show wpAny _ _ (if (some (Value.ref f)).isNone = true then _ else _) _ _ _
  rw [if_neg (by simp)]
  refine wpAny_bind (wpAny_mono key (fun r s' h' => ?_) fun _ _ e => e)
  obtain ⟨n, t, rfl, hq⟩ := h'
  exact wpAny_pure hq
def rBoolOwn (C : Addr) (sp : Sp) (E : XK) : List V → Hp → VK → Prop := fun xs H Q => ∃ a dx fs, xs = [V.ref a] ∧ H a = some (.ins C dx fs) ∧ sp [.ref a] H (fun z H' => ∃ n : Int, z = .int n ∧ (0 ≤ n ∧ n < 2 ^ 63) ∧ Q (.bl (n != 0)) H') E
theorem call_boolOwn (hm : Meth X.K C "__len__" f) (hnb : PySem.W.findIn X.K (.ref C) "__bool__" = some none) (F : FnOk X.prog X.w X.K X.mg X.base CX k f fd ps sp) (hr : Room (k + 3) X.A) (hb : Binds X.K fd ps []) (hx : Passes CX X E) : CallR X (.type "bool") (rBoolOwn C sp E) := by
  intro pins s σ H xs us Q I r h
  obtain ⟨a, dx, fs, rfl, e, q⟩ := h
  obtain ⟨u, rfl, ru⟩ := r.one
  cases (show u = Value.ref a from ru)
  obtain ⟨ox, od, J⟩ := ins_inst I e
  have hr1 : Room k X.A.in1.in1.in1 := (show Room (k + 1) X.A.in1.in1 from (show Room (k + 2) X.A.in1 from Room.in1 hr).in1).in1
  have T : wpAny (model X.prog X.w) X.A.in1.in1 (truthy (.ref a)) (fun b s' => EP X pins σ Q (.bool b) s') X.xe s := by
    refine truthy_len I.kIn J hnb hm.at_ hm.fn (wpAny_mono (run_in (us := [.ref a]) (vs := [.ref a]) F hr1 I.env0.in1.in1.in1 hb hx I (.cons rfl .nil) q) (fun w s' z => ?_) fun _ _ x => x)
    obtain ⟨z', H', I', rz, n, en, b, qz⟩ := z
    subst en
    obtain ⟨t, et⟩ := (show ∃ t, w = Value.int n t from rz)
    cases et
    exact ⟨b, n, _, rfl, .bl (n != 0), H', I'.tok _, rfl, qz⟩
  refine callType_codes (T := "bool") (Bi := Builtin.«object.__init__») (Q₁ := fun r s₁ => ∃ b, r = .bool b ∧ EP X pins σ Q r s₁) PySem.F.called_bool (PySem.F.typeCall_bool_1 _) PySem.F.entry_object_init ?_ ?_
  · refine codeAny_of_tree ?_
    show wpAny _ X.A.in1.in1 (do checkBuiltinCall "bool.__new__" ⟨[.type "bool", .ref a], []⟩; again (.builtin "bool.__new__" ⟨[.type "bool", .ref a], []⟩)) _ _ s
    refine wpAny_bind (wpAny_of_eq (PySem.F.newCall_bool_1 _) (wpAny_pure ⟨plainId_quiet (by decide +kernel) _, codeAny_builtin PySem.F.entry_bool_new ?_⟩))
    rw [Around.under_plainId (by decide +kernel) _]
    unfold Builtin.«bool.__new__»
    refine wpAny_bind (m := isType (.type "bool")) (wpAny_pure ?_)
    refine wpAny_bind (wpAny_of_eq PySem.F.conv_sub_bool ?_)
    refine wpAny_bind (wpAny_pure ?_)
    refine wpAny_bind (wpAny_mono T (fun b s' hb => wpAny_pure ?_) fun _ _ y => y)
    exact ⟨b, rfl, hb⟩
  · rintro obj s₁ ⟨b, rfl, hq⟩
    exact ⟨rfl, PySem.F.args_object_init_2 _ _, object_init_meets PySem.F.called_bool.init.lookup PySem.F.called_bool.made (by decide) X.prog X.w X.A.in1 _ s₁ ⟨rfl, rfl, hq⟩⟩
end
end RV

/-! objects, defaults, written dicts, zip of tuples, dict displays: readings -/
namespace RV
open PySem PySem.Spec L2
open PyProof.Rows hiding St
section
variable {X : Cx} {K : PySem.W.Frag} {w : World}
def rIsC (C : Addr) : List V → Hp → VK → Prop := fun xs H Q => ∃ a dx fs, xs = [V.ref a, V.ref C] ∧ H a = some (.ins C dx fs) ∧ Q (.bl true) H
theorem isC_k {C : Addr} (e : X.K = K) (c : C8.InsC K C) : CallR X (.builtin "isinstance") (rIsC C) := C8.call_isC (e ▸ c)
theorem kdix_k (e : X.K = K) (ew : X.w = w) : IxR X (rIxD K w) := e ▸ ew ▸ ix_kdict
theorem zip_k {elts : List Expr} {kk : Nat} {tpos p pos : Pos} {x y : Expr} {ta : TA} (e : X.K = K) (hg : Gl X "zip") (hm : X.mg "zip" = none) (ha : PA X [x, y] ta) (hs : starEach [x, y] X.env = (false, eval x X.env) :: starEach [y] X.env := by rfl) (hpl : ((backTo pos (starEach [y] X.env)).any fun x => x.1) = false := by rfl) :
    PI X (.Tuple elts kk tpos) (.Call (.Name "zip" p) [x, y] [] pos) (RZ.iZipA K ta) := e ▸ RZ.pi_zipA hg hm ha hs hpl
end
section
variable {X : Cx} {K : PySem.W.Frag} {e : Expr} {te : TE} {k p1 p2 p3 pos}
theorem revL_k (ek : X.K = K) (he : PE X e te) : PE X (.Subscript e (.Slice none none (some (.UnaryOp .USub (.Constant (.int 1) k p1) p2)) p3) pos) (tRevL K te) := ek ▸ pe_revL he
theorem r_revX {σ : St} {H : Hp} {Q : VK} (h : te σ H fun x H1 => ∃ a xs, x = .ref a ∧ SqL K H1 a xs ∧ ∀ p, H1 p = none → Q (.ref p) (upd H1 p (.lst xs.reverse))) : tRevL K te σ H Q := h
end
section
variable {σ : St} {H : Hp} {Q : VK} {D : Ends} {K : PySem.W.Frag} {w : World}
theorem r_fld {te : TE} {f : Str} (h : te σ H fun x H1 => ∃ a C dx fs v, x = .ref a ∧ H1 a = some (.ins C dx fs) ∧ Cls K C ∧ NoAttr K C f ∧ fs.lookup f = some v ∧ Q v H1) : tFld K te f σ H Q := h
theorem r_fldO {a C dx : Addr} {fs : List (Str × V)} {f : Str} {v : V} {P : V → Prop} (e : H a = some (.ins C dx fs)) (c : Cls K C) (n : NoAttr K C f) (l : fs.lookup f = some v) (k : P v) :
    ∃ b C dx fs v, V.ref a = .ref b ∧ H b = some (.ins C dx fs) ∧ Cls K C ∧ NoAttr K C f ∧ fs.lookup f = some v ∧ P v := ⟨a, C, dx, fs, v, rfl, e, c, n, l, k⟩
theorem r_setF {ta tv : TE} {f : Str} (h : tv σ H fun y H1 => ta σ H1 fun x H2 => ∃ a C dx fs, x = .ref a ∧ H2 a = some (.ins C dx fs) ∧ Cls K C ∧ NoAttr K C f ∧ fs.length < 1000 ∧ D.nx σ (upd H2 a (.ins C dx (putF f y fs)))) : sFld K ta tv f D σ H := h
theorem r_setO {a C dx : Addr} {fs : List (Str × V)} {f : Str} {P : Addr → Addr → Addr → List (Str × V) → Prop} (e : H a = some (.ins C dx fs)) (c : Cls K C) (n : NoAttr K C f) (l : fs.length < 1000) (k : P a C dx fs) :
    ∃ b C dx fs, V.ref a = .ref b ∧ H b = some (.ins C dx fs) ∧ Cls K C ∧ NoAttr K C f ∧ fs.length < 1000 ∧ P b C dx fs := ⟨a, C, dx, fs, rfl, e, c, n, l, k⟩
theorem r_make {C : Addr} {sp : Sp} {E : XK} {t : TA} (h : t σ H fun vs H1 => ∀ x dx, H1 x = none → H1 dx = none → dx ≠ x → sp (.ref x :: vs) (upd (upd H1 dx (.own x)) x (.ins C dx [])) (fun v H2 => v = .non ∧ Q (.ref x) H2) E) : tMake C sp [] E t σ H Q := by
  unfold tMake
  have e : (fun (vs : List V) (H1 : Hp) => ∀ x dx, H1 x = none → H1 dx = none → dx ≠ x → sp (.ref x :: (vs ++ [])) (upd (upd H1 dx (.own x)) x (.ins C dx [])) (fun v H2 => v = .non ∧ Q (.ref x) H2) E) = fun vs H1 => ∀ x dx, H1 x = none → H1 dx = none → dx ≠ x → sp (.ref x :: vs) (upd (upd H1 dx (.own x)) x (.ins C dx [])) (fun v H2 => v = .non ∧ Q (.ref x) H2) E := by
    funext vs H1
    rw [List.append_nil]
  rw [e]
  exact h
/-- what an __init__ leaves of the heap that its caller knew -/
theorem made_sm {C x dx : Addr} {H H' : Hp} (nx : H x = none) (nd : H dx = none) (c : Chg x (upd (upd H dx (.own x)) x (.ins C dx [])) H') : Sm H H' := ⟨fun a o e => by
  have h1 : a ≠ x := ne_of_none e nx
  have h2 : a ≠ dx := ne_of_none e nd
  refine c.to a o h1 ?_
  rw [upd_ne h1, upd_ne h2]
  exact e⟩
theorem made_keep {C x dx : Addr} {H : Hp} {a : Addr} {o : HO} (nx : H x = none) (nd : H dx = none) (e : H a = some o) : upd (upd H dx (.own x)) x (.ins C dx []) a = some o := by
  rw [upd_ne (ne_of_none e nx), upd_ne (ne_of_none e nd)]
  exact e
/-! dict displays, d[k] -/
theorem r_disp {trs : List (TE × TE)} (h : ∀ p, H p = none → tPairs trs σ (upd H p (.dK [])) fun ps H2 => H2 p = some (.dK []) ∧ ∃ kvs : List (Key × V), ps = kvs.map (fun kv => (kV kv.1, kv.2)) ∧ kvs.length ≤ 15 ∧ Q (.ref p) (upd H2 p (.dK (mergeK [] kvs)))) : tDisp trs σ H Q := h
theorem r_pairs0 {R : List (V × V) → Hp → Prop} (h : R [] H) : tPairs [] σ H R := h
theorem r_pairs1 {tk tv : TE} {r : List (TE × TE)} {R : List (V × V) → Hp → Prop} (h : tk σ H fun x H1 => tv σ H1 fun y H2 => tPairs r σ H2 fun ps H3 => R ((x, y) :: ps) H3) : tPairs ((tk, tv) :: r) σ H R := h
theorem r_kdix {p : Addr} {es : Array DictEntry} {n : Nat} {z : Str} {u : Value} {v : V} (D : KDict K w p es n) (e : PySem.W.nsIn K p z = some (some u)) (r : RelV v u) (k : Q v H) : rIxD K w (.ref p) (.str z) H Q := ⟨p, z, v, rfl, rfl, ⟨es, n, u, D.at_, D.lit, e, r⟩, k⟩
theorem r_kdnot {p : Addr} {z : Str} {u : Option Value} {P : Bool → Prop} (e : PySem.W.nsIn K p z = some u) (k : P (!u.isSome)) : ∃ (y : Str) (r : Option Value), V.str z = .str y ∧ V.ref p = .ref p ∧ PySem.W.nsIn K p y = some r ∧ P (!r.isSome) := ⟨z, u, rfl, rfl, e, k⟩
theorem r_kdin {p : Addr} {z : Str} {u : Option Value} {P : Bool → Prop} (e : PySem.W.nsIn K p z = some u) (k : P u.isSome) : ∃ (y : Str) (r : Option Value), V.str z = .str y ∧ V.ref p = .ref p ∧ PySem.W.nsIn K p y = some r ∧ P r.isSome := ⟨z, u, rfl, rfl, e, k⟩
theorem r_zip {ta : TA} {R : It → Hp → Prop} (h : ta σ H fun vs H1 => ∃ a b xs ys, vs = [V.ref a, V.ref b] ∧ ((SqL K H1 a xs ∧ SqL K H1 b ys ∧ R (Itz K a b) H1) ∨ (SqT K H1 a xs ∧ SqT K H1 b ys ∧ R (RZ.ItzT K a b) H1))) : RZ.iZipA K ta σ H R := h
theorem r_zT {a b : Addr} {xs ys : List V} {R : Addr → Addr → Prop} {S : Addr → Addr → List V → List V → Prop} (h1 : SqT K H a xs) (h2 : SqT K H b ys) (k : R a b) : ∃ a' b' xs' ys', [V.ref a, V.ref b] = [V.ref a', V.ref b'] ∧ (S a' b' xs' ys' ∨ (SqT K H a' xs' ∧ SqT K H b' ys' ∧ R a' b')) := ⟨a, b, xs, ys, rfl, .inr ⟨h1, h2, k⟩⟩
theorem cut_tail (x : V) (xs : List V) : cutV (x :: xs) (some 1) none = xs := by
  have e1 : HT.sIx (x :: xs).length 0 (some ((1 : Nat) : Int)) = min 1 (x :: xs).length := HT.sIx_nat _ _ _
  have e3 : (some (1 : Int)) = some ((1 : Nat) : Int) := rfl
  unfold cutV
  rw [e3, e1, HT.sIx_none, List.length_cons]
  have e2 : min 1 (xs.length + 1) = 1 := by omega
  rw [e2]
  show xs.take (xs.length + 1 - 1) = xs
  rw [Nat.add_sub_cancel, List.take_length]
theorem r_dg {td ty : TE} (h : td σ H fun x H1 => ty σ H1 fun y H2 => ∃ a v, x = .ref a ∧ DGet H2 a y (some v) ∧ Q v H2) : tDGet td ty σ H Q := h
theorem r_dgS {d : Addr} {kvs : List (Key × V)} {n : Str} {v : V} {P : V → Prop} (h : H d = some (.dK kvs)) (e : valV kvs (Sum.inr n : Key) = some v) (k : P v) : ∃ a u, V.ref d = .ref a ∧ DGet H a (.str n) (some u) ∧ P u := ⟨d, v, rfl, by rw [← e]; exact DGet.k (k := Sum.inr n) h, k⟩
theorem r_notIn {x : V} {p : Addr} {xs : List V} (h : SqL K H p xs ∨ SqT K H p xs) (fx : flatV x = true) (fs : xs.all flatV = true) (k : Q (.bl (!inV x xs)) H) : rNotInA K x (.ref p) H Q := .inr ⟨p, xs, rfl, h, fx, fs, k⟩
theorem r_inV {x : V} {p : Addr} {xs : List V} (h : SqL K H p xs ∨ SqT K H p xs) (fx : flatV x = true) (fs : xs.all flatV = true) (k : Q (.bl (inV x xs)) H) : rInA K x (.ref p) H Q := .inr ⟨p, xs, rfl, h, fx, fs, k⟩
theorem atI_end {xs : List V} {v : V} (h : xs[xs.length - 1]? = some v) : atI xs (-1) = some v := by
  have hl : 0 < xs.length := by
    rcases Nat.eq_zero_or_pos xs.length with e | e
    · rw [e] at h
      have := (List.getElem?_eq_some_iff.mp h).1
      omega
    · exact e
  have e : ixN xs.length (-1) = some (xs.length - 1) := by
    unfold ixN
    rw [if_neg (by decide), if_pos (by omega)]
    congr 1
    omega
  unfold atI
  rw [e]
  exact h
theorem r_addB {a b : Nat} {x y : Str} (ha : x.length ≤ a) (hz : y.length ≤ b) (hab : a + b ≤ 900000) (k : (x ++ y).length ≤ a + b → Q (.str (x ++ y)) H) : rAddA K (.str x) (.str y) H Q := by
  have e : (x ++ y).length = x.length + y.length := by
    show (x.cps ++ y.cps).size = x.cps.size + y.cps.size
    exact Array.size_append
  exact r_addS (len_le (by omega)) (k (by omega))
theorem r_jsB {a b : Nat} {z acc : Str} {P : Prop} (ha : acc.length ≤ a) (hz : z.length ≤ b) (hab : a + b ≤ 900000) (k : (acc ++ z).length ≤ a + b → P) : (acc ++ z).length ≤ sizeLine ∧ P := by
  have e : (acc ++ z).length = acc.length + z.length := by
    show (acc.cps ++ z.cps).size = acc.cps.size + z.cps.size
    exact Array.size_append
  exact ⟨len_le (by omega), k (by omega)⟩
end
/-- gathered in the list at A -/
structure KpA (A : Addr) (P : Hp → V → Prop) : Prop where
  sm : ∀ {H H' : Hp} {x : V}, Sm H H' → P H x → P H' x
  up : ∀ {H : Hp} {xs ys : List V} {x : V}, H A = some (.lst xs) → P H x → P (upd H A (.lst ys)) x
theorem KpA.add {A : Addr} {P : Hp → V → Prop} (kp : KpA A P) {Hi H4 : Hp} {xs : List V} {y : V} (hA : Hi A = some (.lst xs)) (all : ∀ x ∈ xs, P Hi x) (s : Sm Hi H4) (py : P H4 y) :
    ∀ x ∈ xs ++ [y], P (upd H4 A (.lst (xs ++ [y]))) x := by
  intro x hx
  refine kp.up (s.to _ _ hA) ?_
  rcases List.mem_append.mp hx with hx | hx
  · exact kp.sm s (all x hx)
  · rw [List.mem_singleton.mp hx]
    exact py
theorem ixN_zero {n : Nat} (h : 0 < n) : ixN n 0 = some 0 := by
  unfold ixN
  rw [if_pos (Int.le_refl 0), if_pos (by omega)]
  rfl
theorem joinL_len (a : List Nat) : ∀ l : List (List Nat), (TL.joinL a l).length ≤ (l.map (·.length)).sum + l.length * a.length
  | [] => Nat.zero_le _
  | [p] => by
    show p.length ≤ p.length + 0 + 1 * a.length
    omega
  | p :: q :: r => by
    have ih := joinL_len a (q :: r)
    show (p ++ (a ++ TL.joinL a (q :: r))).length ≤ _
    rw [List.length_append, List.length_append]
    simp only [List.map_cons, List.sum_cons, List.length_cons, Nat.add_mul, Nat.one_mul] at ih ⊢
    omega
theorem len_join (sep : Str) (ys : List Str) : (PySem.Txt.join sep ys).length ≤ (ys.map (·.length)).sum + ys.length * sep.length := by
  have h1 : ys = (ys.map fun y => y.cps.toList).map SX.S := by
    rw [List.map_map]
    have : (SX.S ∘ fun y : Str => y.cps.toList) = id := by
      funext y
      exact SX.S_tl y
    rw [this, List.map_id]
  have h2 : sep = SX.S sep.cps.toList := (SX.S_tl sep).symm
  have h3 := joinL_len sep.cps.toList (ys.map fun y => y.cps.toList)
  have h4 : (PySem.Txt.join sep ys).length = (TL.joinL sep.cps.toList (ys.map fun y => y.cps.toList)).length := by
    rw [h1, h2, SX.join_S, SX.S_len, List.map_map, List.map_map]
    rfl
  rw [h4]
  rw [List.map_map, List.length_map] at h3
  have h5 : ((fun l : List Nat => l.length) ∘ fun y : Str => y.cps.toList) = fun y : Str => y.length := by
    funext y
    exact (str_len y).symm
  rw [h5, ← str_len] at h3
  exact h3
theorem not_o {p : Prop} [Decidable p] (h : p) : (!decide p) = false := by rw [decide_eq_true h]; rfl
theorem not_y {p : Prop} [Decidable p] (h : ¬ p) : (!decide p) = true := by rw [decide_eq_false h]; rfl
theorem empty_add (z : Str) : Str.empty ++ z = z := by
  cases z with
  | mk c =>
    show (⟨#[] ++ c⟩ : Str) = ⟨c⟩
    rw [Array.empty_append]
theorem small_text {i : Int} (h0 : 0 ≤ i) (h1 : i < 20) : (toString i : Str).length ≤ 2 := by
  have h : ∀ n : Fin 20, (toString ((n.val : Nat) : Int) : Str).length ≤ 2 := by decide +kernel
  have e := h ⟨i.toNat, by omega⟩
  have e2 : ((i.toNat : Nat) : Int) = i := Int.toNat_of_nonneg h0
  rw [show (((⟨i.toNat, by omega⟩ : Fin 20).val : Nat) : Int) = i from e2] at e
  exact e
theorem small_log {i : Int} (h0 : 0 ≤ i) (h1 : i < 1000) : i.natAbs.log2 < 1920 := by
  have : i.natAbs < 2 ^ 10 := by omega
  by_cases e : i.natAbs = 0
  · rw [e]; decide
  · have := (Nat.log2_lt e).mpr this
    omega
theorem sum_le : ∀ (ys : List Str) (n : Nat), (∀ y ∈ ys, y.length ≤ n) → (ys.map (·.length)).sum ≤ ys.length * n
  | [], n, _ => Nat.zero_le _
  | y :: ys, n, h => by
    have h1 := h y (by simp)
    have h2 := sum_le ys n fun z hz => h z (by simp [hz])
    rw [List.map_cons, List.sum_cons, List.length_cons, Nat.succ_mul]
    omega
theorem noDs {K : PySem.W.Frag} {fd : FuncData} {ps : List Str} (h : ∃ ds, Vals [] ds ∧ Binds K fd ps ds) : Binds K fd ps [] := by
  obtain ⟨ds, r, b⟩ := h
  cases r
  exact b
theorem okD {P : Program} {w : World} {K : PySem.W.Frag} {mg : Str → Option Value} {base : Heap} {x qual : Str} {params : Arguments} {body : List Stmt} {scope : Scope} {dvs : List V} {kws : List (Str × V)} {f : Addr} {fd : FuncData} {N ps : List Str} {k : Nat} {sp : Sp}
    (F : FunD K x qual params body scope dvs kws f fd) (S : FnScope N ps scope) (len : ∀ vs H Q E, sp vs H Q E → vs.length = ps.length)
    (hbody : ∀ (cdv : Value) (A : Around) (outer : List Env) (s : Shared) (H : Hp) (vs : List V) (Q : VK) (E : XK), Room k (A.deeper (envOfC qual scope s.heap.objs.size f cdv)) → sp vs H Q E →
      ∃ t, PSs (cxOf CX0 P w K mg base N qual scope f cdv A outer s H E).nox body t ∧ t { nx := fun _ H' => Q .non H', rt := Q } (start N vs) H) : FnOk P w K mg base CX0 (k + 1) f fd ps sp :=
  F.ok S len fun cdv A outer s H vs Q E hr h => by
    obtain ⟨t, h1, h2⟩ := hbody cdv A outer s H vs Q E hr h
    exact ⟨t, h1.nox, h2⟩
end RV

/-! == and != of objects of own classes, by their own __eq__ -/
namespace RV
open PySem PySem.Spec L2
open PyProof.Rows hiding St
section
open PySem.W PySem.Builtin
variable {prog : PySem.Program} {w : World} {A : Around} {E : Value → Shared → Prop} {s : Shared} {K : PySem.W.Frag} {x C L f : Addr} {h₀ : Heap} {m : Str → Option Value} {ox : Obj} {od : Option Obj} {b tb : Value}
theorem ifBound_B {M : Model} {name : Str} {id : String} {args : List Value} {Q : Option Value → Shared → Prop} (X : K.In s.heap) (I : PySem.W.InstAt s.heap x ox C od) (hs : PySem.W.findIn K (.ref C) name = some (some (.builtin id))) (S : Slot "object" name id)
    (h : wpAny M A (call (.builtin id) (.ref x :: args)) (fun v => Q (some v)) E s) : wpAny M A (callSpecialIfBound? (.ref x) name args) Q E s := by
  simp only [callSpecialIfBound?, bindSpecialIfBound?]
  refine wpAny_holding (wpAny_bind (wpAny_bind (wpAny_bind (I.type.here ((PySem.W.looks_findIn X hs).here ?_)))))
  simp only [S.bind]
  refine wpAny_bind (wpAny_askSetting (wpAny_ite ?_))
  have fin : wpAny M A (call (.builtin id) ([.ref x] ++ args) >>= fun v => pure (some v)) Q E s := wpAny_bind (wpAny_mono h (fun v s' h' => wpAny_pure h') fun _ _ h' => h')
  split
  · exact wpAny_bind (wpAny_pure (wpAny_pure (by exact fin)))
  · exact wpAny_tryCatch (wpAny_bind (wpAny_pure (wpAny_pure (by exact fin))))
theorem ne_entry {Q : Fin → Shared → Prop} (hu : A.units < cLine) (X : K.In s.heap) (I : PySem.W.InstAt s.heap x ox C od)
    (hs : PySem.W.findIn K (.ref C) "__eq__" = some (some (.ref f))) (hf : PySem.W.isFn K (.ref f) = true)
    (h : wpAny (model prog w) A (call (.ref f) [.ref x, b]) (fun v s' => ∃ r, v = .bool r ∧ Q (.done (.ret (.bool (!r)))) s') E s) :
    wpAny (model prog w) A (Builtin.«object.__ne__» ⟨[.ref x, b], []⟩) Q E s := by
  unfold Builtin.«object.__ne__»
  repeat (first
    | with_reducible refine wpAny_cRoomFor hu ?_
    | (refine wpAny_bind (m := callSpecialIfBound? (.ref x) (Str.ofString "__eq__") [b])
        (PySem.W.ifBound_K X I hs hf (wpAny_mono h (fun r s' hr => by
          obtain ⟨b, rfl, hq⟩ := hr
          repeat (first | exact hq | exact wpAny_pure hq | exact wpAny_truthy_bool hq | (refine wpAny_bind (m := truthy (.bool _)) (wpAny_truthy_bool ?_)) | wp_step)) fun _ _ e => e)))
    | wp_step)
theorem ne_try {Q : Option Value → Shared → Prop} (hu : A.units + 1 < cLine) (X : K.In s.heap) (I : PySem.W.InstAt s.heap x ox C od)
    (hne : PySem.W.findIn K (.ref C) "__ne__" = some (some (.builtin "object.__ne__"))) (hob : PySem.W.mroIn K C (.type "object") = some true)
    (hs : PySem.W.findIn K (.ref C) "__eq__" = some (some (.ref f))) (hf : PySem.W.isFn K (.ref f) = true)
    (h : wpAny (model prog w) A.in1 (call (.ref f) [.ref x, b]) (fun v s' => ∃ r, v = .bool r ∧ Q (some (.bool (!r))) s') E s) :
    wpAny (model prog w) A (tryCompare (.ref x) "__ne__" b) Q E s := by
  have FB := F.cmp_object
  have sub : PySem.W.Looks (model prog w) s.heap (isInstance (.ref x) (.type "object")) true := I.type.andThen (PySem.W.looks_mroIn X hob)
  unfold tryCompare
  refine wpAny_bind (ifBound_B X I hne FB.ne (wpAny_call (codeAny_call_builtin FB.ne.plain F.cmpEntry_ne
    (@PySem.W.check_slot (model prog w) _ _ s "object.__ne__" "object" "__ne__" (.ref x) [b] [] _ F.cmpKind_ne F.cmpSplit_ne sub (F.cmpArgs_ne _ _)
      (ne_entry (A := A.in1) hu X I hs hf (wpAny_mono h (fun v s' hv => ?_) fun _ _ e => e))))))
  obtain ⟨b, rfl, hq⟩ := hv
  first | exact ⟨b, rfl, wpAny_pure hq⟩ | exact ⟨b, rfl, wpAny_pure (wpAny_pure hq)⟩ | exact ⟨b, rfl, hq⟩
theorem ne_K {Q : Value → Shared → Prop} (hu : A.units + 1 < cLine) (F : PyProof.Rows.Fr h₀ L s.heap m) (X₀ : K.In h₀) (I : PySem.W.InstAt s.heap x ox C od) (hb : PySem.W.Looks (model prog w) s.heap (typeOf b) tb) (hn : PySem.W.notFirst K C tb = true)
    (hne : PySem.W.findIn K (.ref C) "__ne__" = some (some (.builtin "object.__ne__"))) (hob : PySem.W.mroIn K C (.type "object") = some true)
    (hs : PySem.W.findIn K (.ref C) "__eq__" = some (some (.ref f))) (hf : PySem.W.isFn K (.ref f) = true)
    (h : wpAny (model prog w) A.in1 (call (.ref f) [.ref x, b]) (fun v s' => ∃ r, v = .bool r ∧ Q (.bool (!r)) s') E s) : wpAny (model prog w) A (richCompare .NotEq (.ref x) b) Q E s := by
  have X := X₀.keeps F.keep
  have one : wpAny (model prog w) A (tryCompare (.ref x) (cmpInfo .NotEq).2.1 b) (fun r s' => ∃ v, r = some v ∧ Q v s') E s :=
    ne_try hu X I hne hob hs hf (wpAny_mono h (fun v s' hv => by
      obtain ⟨r, rfl, q⟩ := hv
      exact ⟨r, rfl, _, rfl, q⟩) fun _ _ e => e)
  unfold richCompare
  simp only [oneThing_ref]
  refine wpAny_holding (wpAny_bind (wpAny_cRoomFor (Nat.lt_of_succ_lt hu) ?_))
  refine wpAny_bind (I.type.here (wpAny_bind (hb.here ?_)))
  split
  · rename_i q
    have e : PySem.W.subIn K tb (.ref C) = some false := by
      rcases Bool.or_eq_true_iff.mp hn with e | e
      · rw [beq_iff_eq.mp e] at q; simp at q
      · exact beq_iff_eq.mp e
    refine wpAny_bind ((PySem.W.looks_subIn X e).here ?_)
    simp only [Bool.false_eq_true, if_false]
    refine wpAny_bind (wpAny_mono one (fun r s' z => ?_) fun _ _ e => e)
    obtain ⟨v, rfl, hq⟩ := z
    exact wpAny_pure hq
  · refine wpAny_bind (wpAny_pure ?_)
    simp only [Bool.false_eq_true, if_false]
    refine wpAny_bind (wpAny_mono one (fun r s' z => ?_) fun _ _ e => e)
    obtain ⟨v, rfl, hq⟩ := z
    exact wpAny_pure hq
end
section
variable {X : Cx} {CX : CXT} {k : Nat} {f C : Addr} {fd : FuncData} {ps : List Str} {sp : Sp} {E : XK} {pins : List (Addr × Obj)} {σ : St} {H : Hp} {s : Shared}
/-- what a class with an own __eq__ and no __ne__ says -/
structure EqC (K : PySem.W.Frag) (C f : Addr) : Prop where
  eq : Meth K C "__eq__" f
  ne : PySem.W.findIn K (.ref C) "__ne__" = some (some (.builtin "object.__ne__"))
  ob : PySem.W.mroIn K C (.type "object") = some true
/-- a == b, both of the class at C -/
def rEqI (C : Addr) (sp : Sp) (E : XK) : R2 := fun x y H Q => ∃ a dx fs b dy gs, x = .ref a ∧ y = .ref b ∧ H a = some (.ins C dx fs) ∧ H b = some (.ins C dy gs) ∧ sp [x, y] H (fun z H' => ∃ t : Bool, z = .bl t ∧ Q (.bl t) H') E
def rNeI (C : Addr) (sp : Sp) (E : XK) : R2 := fun x y H Q => ∃ a dx fs b dy gs, x = .ref a ∧ y = .ref b ∧ H a = some (.ins C dx fs) ∧ H b = some (.ins C dy gs) ∧ sp [x, y] H (fun z H' => ∃ t : Bool, z = .bl t ∧ Q (.bl (!t)) H') E
theorem op_eqI (hm : EqC X.K C f) (F : FnOk X.prog X.w X.K X.mg X.base CX k f fd ps sp) (hr : Room (k + 2) X.A) (hb : Binds X.K fd ps []) (hx : Passes CX X E) : OpR X (compareOp .Eq) (rEqI C sp E) := by
  intro pins s σ H x y v u Q I rx ry h
  obtain ⟨a, dx, fs, b, dy, gs, rfl, rfl, ea, eb, q⟩ := h
  cases (show v = Value.ref a from rx)
  cases (show u = Value.ref b from ry)
  obtain ⟨ox, od, J⟩ := ins_inst I ea
  obtain ⟨oy, od2, J2⟩ := ins_inst I eb
  obtain ⟨m, hF⟩ := I.fr
  have hr0 : Room k X.A := hr.mono (by omega)
  show wpAny (model X.prog X.w) X.A (richCompare .Eq (.ref a) (.ref b)) (EP X pins σ Q) X.xe s
  refine PySem.W.cmp_K (op := .Eq) (tb := .ref C) hr0.units0 hF I.ok.mod.kin J J2.type (by simp [PySem.W.notFirst]) hm.eq.at_ hm.eq.fn ?_
  refine wpAny_mono (run_in (us := [.ref a, .ref b]) (vs := [.ref a, .ref b]) F hr0 I.env0 hb hx I (.cons rfl (.cons rfl .nil)) q) (fun w s' z => ?_) fun _ _ x => x
  obtain ⟨z', H', I', rz, t, et, qz⟩ := z
  subst et
  cases (show w = Value.bool t from rz)
  exact ⟨.bl t, H', I', rfl, qz⟩
theorem op_neI (hm : EqC X.K C f) (F : FnOk X.prog X.w X.K X.mg X.base CX k f fd ps sp) (hr : Room (k + 2) X.A) (hb : Binds X.K fd ps []) (hx : Passes CX X E) : OpR X (compareOp .NotEq) (rNeI C sp E) := by
  intro pins s σ H x y v u Q I rx ry h
  obtain ⟨a, dx, fs, b, dy, gs, rfl, rfl, ea, eb, q⟩ := h
  cases (show v = Value.ref a from rx)
  cases (show u = Value.ref b from ry)
  obtain ⟨ox, od, J⟩ := ins_inst I ea
  obtain ⟨oy, od2, J2⟩ := ins_inst I eb
  obtain ⟨m, hF⟩ := I.fr
  have hr1 : Room (k + 1) X.A.in1 := Room.in1 hr
  have hr2 : Room k X.A.in1 := hr1.mono (Nat.le_succ _)
  have hu : X.A.units + 1 < cLine := hr2.units0
  show wpAny (model X.prog X.w) X.A (richCompare .NotEq (.ref a) (.ref b)) (EP X pins σ Q) X.xe s
  refine ne_K (tb := .ref C) hu hF I.ok.mod.kin J J2.type (by simp [PySem.W.notFirst]) hm.ne hm.ob hm.eq.at_ hm.eq.fn ?_
  refine wpAny_mono (run_in (us := [.ref a, .ref b]) (vs := [.ref a, .ref b]) F hr2 I.env0.in1 hb hx I (.cons rfl (.cons rfl .nil)) q) (fun w s' z => ?_) fun _ _ x => x
  obtain ⟨z', H', I', rz, t, et, qz⟩ := z
  subst et
  cases (show w = Value.bool t from rz)
  exact ⟨t, rfl, .bl (!t), H', I', rfl, qz⟩
theorem r_eqIn {Q : VK} {a b dx dy : Addr} {fs gs : List (Str × V)} (ea : H a = some (.ins C dx fs)) (eb : H b = some (.ins C dy gs)) (h : sp [.ref a, .ref b] H (fun z H' => ∃ t : Bool, z = .bl t ∧ Q (.bl t) H') E) : rEqI C sp E (.ref a) (.ref b) H Q := ⟨a, dx, fs, b, dy, gs, rfl, rfl, ea, eb, h⟩
theorem r_neIn {Q : VK} {a b dx dy : Addr} {fs gs : List (Str × V)} (ea : H a = some (.ins C dx fs)) (eb : H b = some (.ins C dy gs)) (h : sp [.ref a, .ref b] H (fun z H' => ∃ t : Bool, z = .bl t ∧ Q (.bl (!t)) H') E) : rNeI C sp E (.ref a) (.ref b) H Q := ⟨a, dx, fs, b, dy, gs, rfl, rfl, ea, eb, h⟩
end
end RV

/-! own exceptions over ValueError: made with a field, caught, looked at -/
namespace RV
open PySem PySem.Spec L2
open PyProof.Rows hiding St
section
variable {X : Cx} {a D : Addr} {oe : Obj} {pn : List (Addr × Obj)} {cls : Value} {d : Option Addr}
/-- the dict of a caught exception -/
def DAt (H : Hp) (d : Option Addr) : Prop := ∃ dd fs, d = some dd ∧ H dd = some (.xd fs)
/-- isinstance(e, c) | isinstance(e, (c, ..)), e the exception that the suite holds -/
def rIsE2 (K : PySem.W.Frag) (D a : Addr) (cls : Value) (d : Option Addr) : List V → Hp → VK → Prop := fun xs H Q => ∃ (c : V) (b : Bool), xs = [.ref a, c] ∧ cls = .ref D ∧ DAt H d ∧
  ((∃ cv, ClsV c cv ∧ PySem.W.kitOne K (.ref D) cv = some b) ∨ ∃ tp cs ws, c = .ref tp ∧ H tp = some (.tup cs) ∧ Paired ClsV cs ws ∧ PySem.W.kitAny K (.ref D) ws = some b) ∧ Q (.bl b) H
theorem call_isE2 (C : ExcC X.K D) (hz : Zc cls d oe) (hf : ∃ vs, oe.data = .fields vs) : CallR (X.suite a ((a, oe) :: pn)) (.builtin "isinstance") (rIsE2 X.K D a cls d) := by
  intro pins s σ H xs us Q I r h
  obtain ⟨c, b, rfl, ec, ⟨dd, fs, ed, ea⟩, hcase, q⟩ := h
  subst ec
  subst ed
  obtain ⟨u1, u2, rfl, r1, r2⟩ := vals2 r
  cases (show u1 = Value.ref a from r1)
  obtain ⟨ha, _⟩ := I.pin (a, oe) (List.mem_append_left _ List.mem_cons_self)
  obtain ⟨vs, hd⟩ := hf
  have hx : ObjOk X.prog X.w H s.heap dd (.xd fs) := I.hok dd _ ea
  obtain ⟨mA, hns, hr⟩ := hx
  obtain ⟨od, ho, hl⟩ := lookIn_ns hns
  have J : PySem.W.InstAt s.heap a oe D (some od) := ⟨ha, hz.1, by unfold PySem.W.notCls; rw [hd] <;> rfl, by rw [hz.2]; exact ho⟩
  have hcl : (PySem.W.clsIn X.K D).isSome = true := by
    obtain ⟨cd, hc, _⟩ := PySem.W.any_some C.hd
    rw [hc]
    rfl
  have Z := PySem.W.kitx_exc (x := a) (ox := oe) (od := some od) hcl C.hg C.hk C.hs C.ha C.hn C.ht C.hm
  rcases hcase with ⟨cv, hcv, e⟩ | ⟨tp, cs, ws, rfl, hT, k, e⟩
  · cases hcv.eq r2
    exact PySem.W.kia_one Z I.kIn J e (fun z => nomatch z) fun tk => ⟨.bl b, H, I.tok tk, rfl, q⟩
  · cases (show u2 = Value.ref tp from r2)
    obtain ⟨_, its, rv, o, h1, h2, n, h3⟩ := (show ObjOk X.prog X.w H s.heap tp (.tup cs) from I.hok tp _ hT)
    have e3 := ClsV.all k rv
    subst e3
    obtain ⟨oc, od2, dt, sl⟩ := o
    simp only at h2 h3
    subst h2 h3
    exact PySem.W.kia_tup Z I.kIn J h1 e (fun z => nomatch z) fun tk => ⟨.bl b, H, I.tok tk, rfl, q⟩
/-- an error of the class at S is what «except S» names -/
theorem exm_self {K : PySem.W.Frag} {S : Addr} (h1 : PySem.W.subIn K (.ref S) (.type "BaseException") = some true) (h2 : PySem.W.isClsIn K S = true) (h3 : PySem.W.typeIn K (.ref S) = some (.type "type")) (h4 : PySem.W.subIn K (.ref S) (.ref S) = some true) :
    PySem.W.exmOne K (.ref S) (.ref S) = some true := by
  have e1 : (PySem.W.subIn K (.ref S) (.type "BaseException") == some true) = true := by rw [h1] <;> rfl
  have e2 : ((PySem.W.clsIn K S).isSome && PySem.W.typeIn K (.ref S) == some (.type "type")) = true := by
    have h2' : (PySem.W.clsIn K S).isSome = true := h2
    rw [h2', h3] <;> rfl
  show (if (PySem.W.subIn K (.ref S) (.type "BaseException") == some true) = true then (if ((PySem.W.clsIn K S).isSome && PySem.W.typeIn K (.ref S) == some (.type "type")) = true then PySem.W.subIn K (.ref S) (.ref S) else none) else none) = some true
  rw [if_pos e1, if_pos e2]
  exact h4
end
section
variable {K : PySem.W.Frag} {σ : St} {H : Hp} {Q : VK}
/-- the heap behind an exception that was made -/
theorem made_heap {H : Hp} {a dx C : Addr} {fs : List (Str × V)} (na : H a = none) (ne : dx ≠ a) :
    upd (del (upd (upd (upd H a (exo a C none)) dx (exd dx fs)) a (exo a C (some dx))) a) dx (.xd fs) = upd H dx (.xd fs) := by
  funext b
  by_cases h1 : b = dx
  · subst h1
    rw [upd_same, upd_same]
  · rw [upd_ne h1, upd_ne h1]
    by_cases h2 : b = a
    · subst h2
      rw [del_same, na]
    · rw [del_ne h2, upd_ne h2, upd_ne h1, upd_ne h2]
/-- __init__(self, v): self.f = v -/
def spInit1 (C : Addr) (f : Str) : Sp := fun vs H Q _ => ∃ (a : Addr) (v : V), vs = [.ref a, v] ∧ H a = some (exo a C none) ∧ ∀ dx, H dx = none → dx ≠ a → Q .non (upd (upd H dx (exd dx [(f, v)])) a (exo a C (some dx)))
theorem r_mkO {C : Addr} {sp : Sp} {dvs : List V} {ta : TA} {R : XK} (h : ta σ H fun vs H1 => vs.length ≤ 1000 ∧ ∀ a, H1 a = none → sp (.ref a :: (vs ++ dvs)) (upd H1 a (exo a C none))
    (fun v H2 => v = .non ∧ ∃ (d : Addr) (fs : List (Str × V)), H2 a = some (exo a C (some d)) ∧ H2 d = some (exd d fs) ∧ H1 d = none ∧ R (.ref C) (some d) (upd (del H2 a) d (.xd fs))) (fun _ _ _ => False)) : tMkO C sp dvs ta σ H R := h
/-- C(v), with one field -/
theorem mk_init1 {C a : Addr} {f : Str} {v : V} {R : XK} (na : H a = none) (k : ∀ d, H d = none → R (.ref C) (some d) (upd H d (.xd [(f, v)]))) :
    spInit1 C f [.ref a, v] (upd H a (exo a C none)) (fun v' H2 => v' = .non ∧ ∃ (d : Addr) (fs : List (Str × V)), H2 a = some (exo a C (some d)) ∧ H2 d = some (exd d fs) ∧ H d = none ∧ R (.ref C) (some d) (upd (del H2 a) d (.xd fs))) (fun _ _ _ => False) := by
  refine ⟨a, v, rfl, upd_same, fun dx nd ne => ⟨rfl, dx, [(f, v)], upd_same, by rw [upd_ne ne]; exact upd_same, by rw [upd_ne ne] at nd; exact nd, ?_⟩⟩
  rw [made_heap na ne]
  rw [upd_ne ne] at nd
  exact k dx nd
theorem r_ost {K : PySem.W.Frag} {D : Ends} {f : Str} {to te : TE} (h : te σ H fun y H1 => to σ H1 fun x H2 => ∃ a C : Addr, x = .ref a ∧ OexC K C ∧ PySem.W.findIn K (.ref C) f = some none ∧
  ((H2 a = some (exo a C none) ∧ ∀ dx, H2 dx = none → dx ≠ a → D.nx σ (upd (upd H2 dx (exd dx [(f, y)])) a (exo a C (some dx)))) ∨
    ∃ (dx : Addr) (fs : List (Str × V)), H2 a = some (exo a C (some dx)) ∧ H2 dx = some (exd dx fs) ∧ fs.length ≤ 900 ∧ D.nx σ (upd H2 dx (exd dx ((f, y) :: fs))))) : tOst K f to te D σ H := h
/-- e.f of a caught exception with one field -/
theorem r_xf1 {a C dd : Addr} {cls : Value} {d : Option Addr} {f : Str} {te : TE} {v : V} (h : te σ H fun x H1 => x = .ref a ∧ cls = .ref C ∧ d = some dd ∧ H1 dd = some (.xd [(f, v)]) ∧ Q v H1)
    (mono : ∀ {R R' : VK}, (∀ z H1, R z H1 → R' z H1) → te σ H R → te σ H R') : tXf a cls d C f te σ H Q := mono (fun z H1 ⟨e1, e2, e3, e4, q⟩ => ⟨e1, e2, dd, [(f, v)], v, e3, e4, by simp [List.lookup], q⟩) h
theorem r_xf {a C : Addr} {cls : Value} {d : Option Addr} {f : Str} {te : TE} (h : te σ H fun x H1 => x = .ref a ∧ cls = .ref C ∧ ∃ (dd : Addr) (fs : List (Str × V)) (v : V), d = some dd ∧ H1 dd = some (.xd fs) ∧ fs.lookup f = some v ∧ Q v H1) : tXf a cls d C f te σ H Q := h
theorem r_callS {sp : Sp} {E : St → XK} {t : TA} (h : t σ H fun vs H1 => sp vs H1 Q (E σ)) : tCallS sp E t σ H Q := h
theorem kitAny_no {K : PySem.W.Frag} {t c : Value} {cs : List Value} (h : PySem.W.kitOne K t c = some false) (r : PySem.W.kitAny K t cs = some false) : PySem.W.kitAny K t (c :: cs) = some false := by
  unfold PySem.W.kitAny
  rw [h]
  exact r
theorem kitAny_end {K : PySem.W.Frag} {t : Value} : PySem.W.kitAny K t [] = some false := rfl
/-- isinstance(e, (C1, ..)) -/
theorem r_isEt {K : PySem.W.Frag} {D a p dd : Addr} {fs : List (Str × V)} {cs : List V} {ws : List Value} {b : Bool} (hd : H dd = some (.xd fs)) (hp : H p = some (.tup cs)) (hc : Paired ClsV cs ws) (e : PySem.W.kitAny K (.ref D) ws = some b) (k : Q (.bl b) H) :
    rIsE2 K D a (.ref D) (some dd) [.ref a, .ref p] H Q := ⟨.ref p, b, rfl, rfl, ⟨dd, fs, rfl, hd⟩, .inr ⟨p, cs, ws, rfl, hp, hc, e⟩, k⟩
/-- isinstance(e, T) -/
theorem r_isEo {K : PySem.W.Frag} {D a dd : Addr} {fs : List (Str × V)} {c : V} {cv : Value} {b : Bool} (hd : H dd = some (.xd fs)) (hc : ClsV c cv) (e : PySem.W.kitOne K (.ref D) cv = some b) (k : Q (.bl b) H) :
    rIsE2 K D a (.ref D) (some dd) [.ref a, c] H Q := ⟨c, b, rfl, rfl, ⟨dd, fs, rfl, hd⟩, .inl ⟨cv, hc, e⟩, k⟩
end
end RV

/-! lists that grow by a tuple's items; items of two lists side by side; terms: nested tuples -/
namespace RV
open PySem PySem.Spec L2
open PyProof.Rows hiding St
section
theorem grow_by_tup (D : Addr) (us : Array Value) (n : Nat) (T : Addr) (ws : Array Value) (m : Nat) (dt : Option Addr) (st : Array (Option Value))
    (room : ¬ (!us.isEmpty && Builtin.List.listTooLong (us.size + ws.size)) = true) (r1 : us.size ≤ sizeLine) (r2 : us.size + ws.size ≤ sizeLine + 1) :
    Meets (Builtin.«list.extend» ⟨[.ref D, .ref T], []⟩)
      (fun _ R s => s.heap.get? D = some { cls := .type "list", dict := none, data := .seq us n, slots := #[] } ∧
        s.heap.get? T = some { cls := .type "tuple", dict := dt, data := .seq ws m, slots := st } ∧
        R (.ok (.ret Value.none)) { s with heap := s.heap.update D (Obj.mapSeq fun x => x ++ ws), toks := s.toks }) :=
  .of_wp fun prog w A R s q => by
    obtain ⟨hp, g, d, tk, os⟩ := s
    obtain ⟨eD, eT, q⟩ := q
    have k1 := AutoSeq1.sub_tuple_tuple
    have k2 := AutoSeq1.sub_tuple_list
    have k3 := AutoSeq1.sub_list_list
    have k4 := AutoSeq1.sub_list_tuple
    have r3 : (us ++ ws).size ≤ sizeLine + 1 := by
      rw [Array.size_append]
      exact r2
    wp_walk using (wpAny_updateSeq eD rfl (hz := r1) (_hz' := r3)), AutoSeq1.wpAny_loadPart' eD, AutoSeq1.wpAny_loadPart' eT
    exact ⟨_, rfl, q⟩
variable {X : Cx}
def rExtT (K : PySem.W.Frag) : V → List V → Hp → VK → Prop := fun x vs H Q => ∃ l b xs zs, x = .ref l ∧ vs = [.ref b] ∧ H l = some (.lst xs) ∧ SqT K H b zs ∧ xs.length + zs.length ≤ sizeLine ∧ Q .non (upd H l (.lst (xs ++ zs)))
theorem mt_extT : MtR X "list.extend" (rExtT X.K) := by
  intro pins s σ H x vs v us Q I rx rv h
  obtain ⟨l, b, xs, zs, rfl, rfl, hH, hB, hz, q⟩ := h
  cases rx
  obtain ⟨u, rfl, ru⟩ := rv.one
  cases ru
  obtain ⟨z, its, n, r, hl, e⟩ := I.lstM hH
  obtain ⟨its2, r2, ⟨⟨cl, dt, da, st⟩, ho, hc, m, hd⟩, hl2⟩ := I.tuple hB
  simp only at hc hd
  subst hc hd
  have h2 := r2.length
  have hsz : its.toArray.size + its2.toArray.size ≤ sizeLine := by rw [List.size_toArray, List.size_toArray]; omega
  have hlong : ¬ (!its.toArray.isEmpty && Builtin.List.listTooLong (its.toArray.size + its2.toArray.size)) = true := by
    rw [notLongL hsz, Bool.and_false]
    exact Bool.false_ne_true
  refine call_meets F.slot_list_extend ⟨_, e, rfl⟩ F.entry_list_extend (F.args_list_extend_2 _ _)
    (grow_by_tup l its.toArray n b its2.toArray m dt st hlong (by rw [List.size_toArray]; omega) (by omega)) ⟨e, ho, ?_⟩
  refine ⟨.non, _, I.lset (its' := its ++ its2) hH e (by simp) (r.append r2) ?_, rfl, q⟩
  rw [List.length_append]
  omega
def rExtA (K : PySem.W.Frag) : V → List V → Hp → VK → Prop := fun x vs H Q => rExtend x vs H Q ∨ rExtT K x vs H Q
theorem mt_extA : MtR X "list.extend" (rExtA X.K) := MtR.or mt_extend mt_extT
theorem ext_k {K : PySem.W.Frag} (e : X.K = K) : MtR X "list.extend" (rExtA K) := e ▸ mt_extA
end
section
variable {H : Hp} {Q : VK} {K : PySem.W.Frag} {σ : St}
theorem r_extT {l b : Addr} {xs zs : List V} (h : H l = some (.lst xs)) (g : SqT K H b zs) (z : xs.length + zs.length ≤ sizeLine) (k : Q .non (upd H l (.lst (xs ++ zs)))) : rExtA K (.ref l) [.ref b] H Q := .inr ⟨l, b, xs, zs, rfl, rfl, h, g, z, k⟩
theorem r_extL {l b : Addr} {xs zs : List V} (h : H l = some (.lst xs)) (g : H b = some (.lst zs)) (z : xs.length + zs.length ≤ sizeLine) (k : Q .non (upd H l (.lst (xs ++ zs)))) : rExtA K (.ref l) [.ref b] H Q := .inl ⟨l, b, xs, zs, rfl, rfl, h, g, z, k⟩
theorem r_pop {l : Addr} {xs : List V} {y : V} (h : H l = some (.lst (xs ++ [y]))) (k : Q y (upd H l (.lst xs))) : rPop (.ref l) [] H Q := by
  refine ⟨l, xs ++ [y], y, rfl, rfl, h, by simp, ?_⟩
  rw [List.dropLast_concat]
  exact k
theorem r_meth0 {T : String} {r : V → List V → Hp → VK → Prop} {to : TE} (h : to σ H fun x H1 => tyV K T x H1 ∧ r x [] H1 Q) : tBM0 K T r to σ H Q := h
theorem r_R2 {ta : TA} {R : It → Hp → Prop} (h : ta σ H fun vs H1 => ∃ i j : Int, vs = [.int i, .int j] ∧ (-(2 ^ 62) ≤ i ∧ i < 2 ^ 62 ∧ -(2 ^ 62) ≤ j ∧ j < 2 ^ 62) ∧ R (Itr i (j - i).toNat) H1) : iRng2 ta σ H R := h
theorem r_rng2 {n m : Int} {P : Int → Int → Prop} (h0 : -4611686018427387904 ≤ n) (h1 : n < 4611686018427387904) (h2 : -4611686018427387904 ≤ m) (h3 : m < 4611686018427387904) (h : P n m) : ∃ i j : Int, [V.int n, V.int m] = [.int i, .int j] ∧ (-(2 ^ 62) ≤ i ∧ i < 2 ^ 62 ∧ -(2 ^ 62) ≤ j ∧ j < 2 ^ 62) ∧ P i j := ⟨n, m, rfl, ⟨by simpa using h0, by simpa using h1, by simpa using h2, by simpa using h3⟩, h⟩
theorem cut_to (xs : List V) (n : Nat) : cutV xs none (some (n : Int)) = xs.take n := by
  unfold cutV
  rw [HT.sIx_none, HT.sIx_nat, List.drop_zero, Nat.sub_zero]
  rcases Nat.le_total n xs.length with h | h
  · rw [Nat.min_eq_left h]
  · rw [Nat.min_eq_right h, List.take_length, List.take_of_length_le h]
theorem all_true (n : Nat) : (List.replicate n true).all id = true := by
  induction n with
  | zero => rfl
  | succ n ih => rw [List.replicate_succ, List.all_cons, ih]; rfl
theorem r_unl {n : Nat} {t : TGs} {a : Addr} {xs : List V} {Q : St → Hp → Prop} (hT : SqL K H a xs) (hn : xs.length = n) (h : t xs σ H Q) : gUnl K n t (.ref a) σ H Q := ⟨a, xs, rfl, hT, hn, h⟩
theorem r_truL {Q : Bool → Prop} {a : Addr} {xs : List V} (h : SqL K H a xs) (k : Q (!xs.isEmpty)) : ∃ k, TruV K (.ref a) H k ∧ Q k := ⟨_, .inl ⟨xs, h, rfl⟩, k⟩
end
theorem ix2V {b : Bool} {x y : V} : atI [x, y] (if b = true then 1 else 0) = some (if b = true then y else x) := by
  cases b <;> rfl
theorem r_ixLz {K : PySem.W.Frag} {H : Hp} {Q : VK} {a : Addr} {xs : List V} {i : Int} {ns : List Str} (h : SqL K H a xs) (e : xs = ns.map V.str) (h0 : 0 ≤ i) (h1 : i < (ns.length : Int)) (k : ∀ n, n ∈ ns → Q (.str n) H) : rIx K (.ref a) (.int i) H Q := by
  subst e
  obtain ⟨v, ev, hv⟩ := atI_mem (xs := ns.map V.str) h0 (by rw [List.length_map]; exact h1)
  obtain ⟨n, hn, rfl⟩ := List.mem_map.mp hv
  exact r_ixL h ev (k n hn)
/-! two lists, item by item -/
def All2 {α : Type} (R : V → α → Prop) : List V → List α → Prop
  | [], [] => True
  | x :: xs, y :: ys => R x y ∧ All2 R xs ys
  | _, _ => False
namespace All2
variable {α : Type} {R S : V → α → Prop}
theorem len : ∀ {xs : List V} {ys : List α}, All2 R xs ys → xs.length = ys.length
  | [], [], _ => rfl
  | _ :: _, _ :: _, h => congrArg Nat.succ (len h.2)
theorem imp (f : ∀ x y, R x y → S x y) : ∀ {xs : List V} {ys : List α}, All2 R xs ys → All2 S xs ys
  | [], [], _ => trivial
  | _ :: _, _ :: _, h => ⟨f _ _ h.1, imp f h.2⟩
theorem app : ∀ {xs us : List V} {ys vs : List α}, All2 R xs ys → All2 R us vs → All2 R (xs ++ us) (ys ++ vs)
  | [], _, [], _, _, h => h
  | _ :: _, _, _ :: _, _, g, h => ⟨g.1, app g.2 h⟩
theorem snoc {xs : List V} {ys : List α} {x : V} {y : α} (h : All2 R xs ys) (r : R x y) : All2 R (xs ++ [x]) (ys ++ [y]) := app h ⟨r, trivial⟩
theorem last : ∀ {xs : List V} {x : V} {ys : List α}, All2 R (xs ++ [x]) ys → ∃ us u, ys = us ++ [u] ∧ All2 R xs us ∧ R x u
  | [], _, [y], h => ⟨[], y, rfl, trivial, h.1⟩
  | [], _, _ :: _ :: _, h => h.2.elim
  | [], _, [], h => h.elim
  | _ :: xs, x, [], h => by
    cases xs <;> exact h.elim
  | a :: xs, x, y :: ys, h => by
    obtain ⟨us, u, e, h1, h2⟩ := last (xs := xs) (x := x) (ys := ys) h.2
    exact ⟨y :: us, u, by rw [e]; rfl, ⟨h.1, h1⟩, h2⟩
theorem get : ∀ {xs : List V} {ys : List α} {i : Nat} {x : V}, All2 R xs ys → xs[i]? = some x → ∃ y, ys[i]? = some y ∧ R x y
  | [], [], _, _, _, e => by simp at e
  | x :: xs, y :: ys, 0, _, h, e => by
    simp at e
    subst e
    exact ⟨y, rfl, h.1⟩
  | x :: xs, y :: ys, i + 1, v, h, e => by
    obtain ⟨z, h1, h2⟩ := get (i := i) h.2 (by simpa using e)
    exact ⟨z, by simpa using h1, h2⟩
theorem take : ∀ {xs : List V} {ys : List α} (n : Nat), All2 R xs ys → All2 R (xs.take n) (ys.take n)
  | [], [], n, _ => by simp [All2]
  | _ :: _, _ :: _, 0, _ => trivial
  | _ :: _, _ :: _, n + 1, h => ⟨h.1, take n h.2⟩
theorem drop : ∀ {xs : List V} {ys : List α} (n : Nat), All2 R xs ys → All2 R (xs.drop n) (ys.drop n)
  | [], [], n, _ => by simp [All2]
  | _ :: _, _ :: _, 0, h => h
  | _ :: _, _ :: _, n + 1, h => drop n h.2
theorem cut {xs : List V} {ys : List α} (lo hi : Option Int) (h : All2 R xs ys) : ∃ zs : List α, All2 R (cutV xs lo hi) zs ∧ (∀ z ∈ zs, z ∈ ys) ∧ zs.length ≤ ys.length := by
  unfold cutV
  refine ⟨_, (h.drop _).take _, fun z hz => List.mem_of_mem_drop (List.mem_of_mem_take hz), ?_⟩
  rw [List.length_take, List.length_drop]
  omega
theorem rep {xs : List V} {ys : List α} (h : All2 R xs ys) : ∀ n : Nat, All2 R (List.replicate n xs).flatten (List.replicate n ys).flatten
  | 0 => trivial
  | n + 1 => by
    rw [List.replicate_succ, List.flatten_cons, List.replicate_succ, List.flatten_cons]
    exact app h (rep h n)
end All2
theorem in_two (z a b : Str) : inV (V.str z) [V.str a, V.str b] = decide (z = a ∨ z = b) := by
  show ((a == z) || ((b == z) || false)) = _
  rw [Bool.or_false]
  by_cases h1 : z = a
  · rw [beq_iff_eq.mpr h1.symm, decide_eq_true (.inl h1)]
    rfl
  · rw [beq_eq_false_iff_ne.mpr (Ne.symm h1), Bool.false_or]
    by_cases h2 : z = b
    · rw [beq_iff_eq.mpr h2.symm, decide_eq_true (.inr h2)]
    · rw [beq_eq_false_iff_ne.mpr (Ne.symm h2), decide_eq_false fun q => q.elim h1 h2]
/-! tuples stay -/
structure TK (H H' : Hp) : Prop where
  to : ∀ t xs, H t = some (.tup xs) → H' t = some (.tup xs)
theorem Sm.tk {H H' : Hp} (e : Sm H H') : TK H H' := ⟨fun t xs h => e.to _ _ h⟩
theorem box_tuple {H : Hp} {b t : Addr} {xs : List V} (hb : BoxAt H b) (h : H t = some (.tup xs)) : t ≠ b := by
  obtain ⟨c, s, e⟩ := hb
  exact ne_of h e (by intro z; cases z)
theorem Chg.tk {b : Addr} {H H' : Hp} (hb : BoxAt H b) (e : Chg b H H') : TK H H' := ⟨fun t xs h => e.to _ _ (box_tuple hb h) h⟩
theorem TK.trans {H H1 H2 : Hp} (a : TK H H1) (b : TK H1 H2) : TK H H2 := ⟨fun t xs h => b.to _ _ (a.to _ _ h)⟩
theorem lst_tk {H : Hp} {D : Addr} {xs ys : List V} (h : H D = some (.lst xs)) : TK H (upd H D (.lst ys)) := ⟨fun t zs e => by
  rw [upd_ne (ne_of e h (by intro z; cases z))]
  exact e⟩
/-- a tuple stays where a list alone is changed -/
theorem Chg.tupL {K : PySem.W.Frag} {A q : Addr} {H H' : Hp} {ys its : List V} (e : Chg A H H') (hA : H A = some (.lst ys)) (h : SqT K H q its) : SqT K H' q its := by
  rcases h with (z | ⟨o, z⟩) | z
  · exact .inl (.inl (e.to _ _ (ne_of z hA (by intro y; cases y)) z))
  · exact .inl (.inr ⟨o, e.to _ _ (ne_of z hA (by intro y; cases y)) z⟩)
  · exact .inr z
/-! terms -/
inductive Op3 where
  | plus | times | power
  deriving DecidableEq
def Op3.word : Op3 → Str
  | .plus => Str.ofString "plus"
  | .times => Str.ofString "times"
  | .power => Str.ofString "power"
inductive Trm where
  | num (i : Int) | name (z : Str) | op (o : Op3) (a b : Trm)
  deriving DecidableEq
namespace Trm
def size : Trm → Nat
  | .num _ => 1
  | .name _ => 1
  | .op _ a b => 1 + a.size + b.size
def deep : Trm → Nat
  | .num _ => 0
  | .name _ => 0
  | .op _ a b => 1 + max a.deep b.deep
def kids : Trm → List Trm
  | .op _ a b => [a, b]
  | _ => []
def data : Trm → PyData
  | .num i => .tuple [.str (Str.ofString "num"), .int i]
  | .name z => .tuple [.str (Str.ofString "name"), .str z]
  | .op o a b => .tuple [.str o.word, a.data, b.data]
/-- its names can be written -/
def okN : Trm → Prop
  | .num _ => True
  | .name z => PyData.strOk z = true
  | .op _ a b => a.okN ∧ b.okN
theorem size_pos : ∀ t : Trm, 1 ≤ t.size
  | .num _ => Nat.le_refl 1
  | .name _ => Nat.le_refl 1
  | .op _ a b => by
    show 1 ≤ 1 + a.size + b.size
    omega
end Trm
def TmAt (H : Hp) : Trm → V → Prop
  | .num i, v => ∃ a, v = .ref a ∧ H a = some (.tup [.str (Str.ofString "num"), .int i])
  | .name z, v => ∃ a, v = .ref a ∧ H a = some (.tup [.str (Str.ofString "name"), .str z])
  | .op o s t, v => ∃ a x y, v = .ref a ∧ H a = some (.tup [.str o.word, x, y]) ∧ TmAt H s x ∧ TmAt H t y
abbrev TmsAt (H : Hp) : List V → List Trm → Prop := All2 fun v t => TmAt H t v
theorem TmAt.tk {H H' : Hp} (e : TK H H') : ∀ {t : Trm} {v : V}, TmAt H t v → TmAt H' t v
  | .num i, v, h => by
    obtain ⟨a, h1, h2⟩ := h
    exact ⟨a, h1, e.to _ _ h2⟩
  | .name z, v, h => by
    obtain ⟨a, h1, h2⟩ := h
    exact ⟨a, h1, e.to _ _ h2⟩
  | .op o s t, v, h => by
    obtain ⟨a, x, y, h1, h2, h3, h4⟩ := h
    exact ⟨a, x, y, h1, e.to _ _ h2, TmAt.tk e h3, TmAt.tk e h4⟩
theorem TmAt.sm {H H' : Hp} (e : Sm H H') {t : Trm} {v : V} (h : TmAt H t v) : TmAt H' t v := h.tk e.tk
theorem TmsAt.tk {H H' : Hp} {xs : List V} {ts : List Trm} (e : TK H H') (h : TmsAt H xs ts) : TmsAt H' xs ts := h.imp fun _ _ z => z.tk e
theorem TmsAt.sm {H H' : Hp} {xs : List V} {ts : List Trm} (e : Sm H H') (h : TmsAt H xs ts) : TmsAt H' xs ts := h.tk e.tk
/-- a term is a tuple of a word and something -/
theorem TmAt.tuple {H : Hp} {t : Trm} {v : V} (h : TmAt H t v) : ∃ a z xs, v = .ref a ∧ H a = some (.tup (.str z :: xs)) ∧ xs.length ≤ 2 ∧ (z = Str.ofString "num" ∨ z = Str.ofString "name" → t.kids = []) ∧ (¬ (z = Str.ofString "num" ∨ z = Str.ofString "name") → TmsAt H xs t.kids) := by
  cases t with
  | num i =>
    obtain ⟨a, h1, h2⟩ := h
    exact ⟨a, _, _, h1, h2, Nat.le_succ 1, fun _ => rfl, fun n => absurd (.inl rfl) n⟩
  | name z =>
    obtain ⟨a, h1, h2⟩ := h
    exact ⟨a, _, _, h1, h2, Nat.le_succ 1, fun _ => rfl, fun n => absurd (.inr rfl) n⟩
  | op o s t =>
    obtain ⟨a, x, y, h1, h2, h3, h4⟩ := h
    refine ⟨a, _, _, h1, h2, Nat.le_refl 2, fun n => ?_, fun _ => ⟨h3, h4, trivial⟩⟩
    exfalso
    cases o <;> rcases n with n | n <;> exact absurd n (by decide +kernel)
theorem TmAt.items {H : Hp} {t : Trm} {v : V} (h : TmAt H t v) : ∃ a z xs, v = .ref a ∧ H a = some (.tup (.str z :: xs)) ∧ xs.length ≤ 2 ∧ ((t.kids = [] ∧ ∀ x ∈ xs, (∃ i, x = .int i) ∨ ∃ z, x = .str z) ∨ TmsAt H xs t.kids) := by
  cases t with
  | num i =>
    obtain ⟨a, h1, h2⟩ := h
    exact ⟨a, _, _, h1, h2, Nat.le_succ 1, .inl ⟨rfl, fun x hx => .inl ⟨i, List.mem_singleton.mp hx⟩⟩⟩
  | name z =>
    obtain ⟨a, h1, h2⟩ := h
    exact ⟨a, _, _, h1, h2, Nat.le_succ 1, .inl ⟨rfl, fun x hx => .inr ⟨z, List.mem_singleton.mp hx⟩⟩⟩
  | op o s t =>
    obtain ⟨a, x, y, h1, h2, h3, h4⟩ := h
    exact ⟨a, _, _, h1, h2, Nat.le_refl 2, .inr ⟨h3, h4, trivial⟩⟩
theorem TmAt.dp {K : PySem.W.Frag} {H : Hp} : ∀ {t : Trm} {v : V}, TmAt H t v → Dp K H v t.data
  | .num i, v, h => by
    obtain ⟨a, rfl, h2⟩ := h
    exact .tup (SqT.of h2) (.cons (.str _) (.cons (.int _) .nil))
  | .name z, v, h => by
    obtain ⟨a, rfl, h2⟩ := h
    exact .tup (SqT.of h2) (.cons (.str _) (.cons (.str _) .nil))
  | .op o s t, v, h => by
    obtain ⟨a, x, y, rfl, h2, h3, h4⟩ := h
    exact .tup (SqT.of h2) (.cons (.str _) (.cons (TmAt.dp h3) (.cons (TmAt.dp h4) .nil)))
theorem TmsAt.dps {K : PySem.W.Frag} {H : Hp} : ∀ {xs : List V} {ts : List Trm}, TmsAt H xs ts → DpAll K H xs (ts.map Trm.data)
  | [], [], _ => .nil
  | _ :: _, _ :: _, h => .cons (TmAt.dp h.1) (TmsAt.dps h.2)
theorem Op3.lay (o : Op3) : PyData.strOk o.word = true := by
  cases o
  · show PyData.strOk (Str.ofString "plus") = true
    decide +kernel
  · show PyData.strOk (Str.ofString "times") = true
    decide +kernel
  · show PyData.strOk (Str.ofString "power") = true
    decide +kernel
theorem Trm.lay : ∀ {t : Trm}, t.okN → PyData.canLay0 t.data = true
  | .num i, _ => by
    show (PyData.strOk (Str.ofString "num") && true) = true
    decide +kernel
  | .name z, h => by
    have h : PyData.strOk z = true := h
    show (PyData.strOk (Str.ofString "name") && (PyData.strOk z && true)) = true
    rw [h]
    decide +kernel
  | .op o a b, h => by
    show (PyData.strOk o.word && (PyData.canLay0 a.data && (PyData.canLay0 b.data && true))) = true
    rw [Op3.lay, Trm.lay h.1, Trm.lay h.2]
    rfl
theorem Trm.low : ∀ t : Trm, PyData.depth t.data ≤ t.deep + 1
  | .num i => Nat.le_refl 1
  | .name z => Nat.le_refl 1
  | .op o a b => by
    have h1 := Trm.low a
    have h2 := Trm.low b
    show max 0 (max (PyData.depth a.data) (max (PyData.depth b.data) 0)) + 1 ≤ 1 + max a.deep b.deep + 1
    omega
theorem Trm.shaped {t : Trm} (h : t.okN) (d : t.deep ≤ 63) : SeqAt.shaped t.data = true := by
  have h1 := Trm.lay h
  have h2 := Trm.low t
  have h3 : PyData.depth t.data ≤ 64 := by omega
  cases t with
  | num i => exact Bool.and_eq_true_iff.mpr ⟨h1, decide_eq_true h3⟩
  | name z => exact Bool.and_eq_true_iff.mpr ⟨h1, decide_eq_true h3⟩
  | op o a b => exact Bool.and_eq_true_iff.mpr ⟨h1, decide_eq_true h3⟩
theorem tms_lay : ∀ {ts : List Trm}, (∀ t ∈ ts, t.okN) → PyData.canLayAll0 (ts.map Trm.data) = true
  | [], _ => rfl
  | t :: ts, h => by
    show (PyData.canLay0 t.data && PyData.canLayAll0 (ts.map Trm.data)) = true
    rw [Trm.lay (h t (by simp)), tms_lay fun s hs => h s (by simp [hs])]
    rfl
theorem tms_low : ∀ {ts : List Trm} {n : Nat}, (∀ t ∈ ts, t.deep ≤ n) → PyData.depthAll (ts.map Trm.data) ≤ n + 1
  | [], _, _ => Nat.zero_le _
  | t :: ts, n, h => by
    have h1 := Trm.low t
    have h2 := h t (by simp)
    have h3 := tms_low (ts := ts) (n := n) fun s hs => h s (by simp [hs])
    show max (PyData.depth t.data) (PyData.depthAll (ts.map Trm.data)) ≤ n + 1
    omega
theorem tms_shaped {ts : List Trm} (h : ∀ t ∈ ts, t.okN) (d : ∀ t ∈ ts, t.deep ≤ 62) : SeqAt.shaped (.list (ts.map Trm.data)) = true := by
  have h3 : PyData.depth (.list (ts.map Trm.data)) ≤ 64 := by
    have := tms_low d
    show PyData.depthAll (ts.map Trm.data) + 1 ≤ 64
    omega
  exact Bool.and_eq_true_iff.mpr ⟨tms_lay h, decide_eq_true h3⟩
section
variable {K : PySem.W.Frag} {H : Hp} {Q : VK}
theorem r_eqTm {t : Trm} {x y : V} (hx : TmAt H t x) (hy : TmAt H t y) (h : t.okN) (d : t.deep ≤ 63) (k : Q (.bl true) H) : rEqA K x y H Q :=
  r_eqD hx.dp hy.dp (Trm.shaped h d) (Trm.shaped h d) (by rw [SeqAt.eqv_refl _ (Trm.lay h)]; exact k)
theorem r_neTm {t : Trm} {x y : V} (hx : TmAt H t x) (hy : TmAt H t y) (h : t.okN) (d : t.deep ≤ 63) (k : Q (.bl false) H) : rNeA K x y H Q :=
  r_neD hx.dp hy.dp (Trm.shaped h d) (Trm.shaped h d) (by rw [SeqAt.eqv_refl _ (Trm.lay h)]; exact k)
theorem r_neTms {ts : List Trm} {a b : Addr} {xs ys : List V} (ha : H a = some (.lst xs)) (hb : H b = some (.lst ys)) (hx : TmsAt H xs ts) (hy : TmsAt H ys ts) (h : ∀ t ∈ ts, t.okN) (d : ∀ t ∈ ts, t.deep ≤ 62) (k : Q (.bl false) H) : rNeA K (.ref a) (.ref b) H Q :=
  r_neD (.lst (SqL.of ha) hx.dps) (.lst (SqL.of hb) hy.dps) (tms_shaped h d) (tms_shaped h d) (by
    have e : PyData.eqv (.list (ts.map Trm.data)) (.list (ts.map Trm.data)) = true := SeqAt.eqv_refl _ (tms_lay h)
    rw [e]
    exact k)
/-- tuples of ints -/
theorem r_neTI {a b : Addr} {ns : List Int} (ha : SqT K H a (ns.map V.int)) (hb : SqT K H b (ns.map V.int)) (k : Q (.bl false) H) : rNeA K (.ref a) (.ref b) H Q := by
  have h1 := lay_ints ns
  have h2 := deep_ints ns
  have h3 : PyData.depth (.tuple (ns.map PyData.int)) ≤ 64 := by
    show PyData.depthAll (ns.map PyData.int) + 1 ≤ 64
    omega
  have h4 : SeqAt.shaped (.tuple (ns.map PyData.int)) = true := Bool.and_eq_true_iff.mpr ⟨h1, decide_eq_true h3⟩
  have e : PyData.eqv (.tuple (ns.map PyData.int)) (.tuple (ns.map PyData.int)) = true := SeqAt.eqv_refl _ h1
  exact r_neD (.tup ha (dps_ints ns)) (.tup hb (dps_ints ns)) h4 h4 (by rw [e]; exact k)
end
/-! what is left to look at: terms, each so far down -/
abbrev DmsAt (H : Hp) : List V → List (Trm × Nat) → Prop := All2 fun v t => ∃ p x, v = .ref p ∧ H p = some (.tup [x, .int (t.2 : Int)]) ∧ TmAt H t.1 x
theorem DmsAt.tk {H H' : Hp} {xs : List V} {ts : List (Trm × Nat)} (e : TK H H') (h : DmsAt H xs ts) : DmsAt H' xs ts := h.imp fun _ _ ⟨p, x, a, b, c⟩ => ⟨p, x, a, e.to _ _ b, c.tk e⟩
def sizes : List Trm → Nat
  | [] => 0
  | t :: ts => t.size + sizes ts
theorem sizes_app : ∀ s t : List Trm, sizes (s ++ t) = sizes s + sizes t
  | [], t => by simp [sizes]
  | a :: s, t => by
    show a.size + sizes (s ++ t) = a.size + sizes s + sizes t
    rw [sizes_app s t]
    omega
theorem sizes_len : ∀ s : List Trm, s.length ≤ sizes s
  | [] => Nat.le_refl 0
  | a :: s => by
    have h1 := a.size_pos
    have h2 := sizes_len s
    show s.length + 1 ≤ a.size + sizes s
    omega
theorem size_kids (t : Trm) : t.size = 1 + sizes t.kids := by
  cases t with
  | num i => rfl
  | name z => rfl
  | op o a b =>
    show 1 + a.size + b.size = 1 + (a.size + (b.size + 0))
    omega
theorem kids_len (t : Trm) : t.kids.length ≤ 2 := by cases t <;> simp [Trm.kids]
/-- the farthest step down of all that is left, and of what was found -/
structure Far (D : Nat) (m : Nat) (ts : List (Trm × Nat)) : Prop where
  le : m ≤ D
  all : ∀ t ∈ ts, t.2 + t.1.deep ≤ D
  some : m = D ∨ ∃ t ∈ ts, t.2 + t.1.deep = D
theorem Far.one (t : Trm) : Far t.deep 0 [(t, 0)] := ⟨Nat.zero_le _, fun s h => by
  rw [List.mem_singleton.mp h]
  show 0 + t.deep ≤ t.deep
  omega, .inr ⟨(t, 0), List.mem_singleton.mpr rfl, Nat.zero_add _⟩⟩
theorem Far.none {D m : Nat} (h : Far D m []) : m = D := by
  rcases h.some with e | ⟨t, ht, _⟩
  · exact e
  · cases ht
theorem Far.step {D m d k : Nat} {t : Trm} {ts : List (Trm × Nat)} (h : Far D m (ts ++ [(t, d)])) (h1 : m ≤ k) (h2 : d ≤ k) (h3 : k = m ∨ k = d) : Far D k (ts ++ t.kids.map fun s => (s, d + 1)) := by
  have ht : d + t.deep ≤ D := h.all (t, d) (by simp)
  have hk : ∀ s ∈ t.kids, d + 1 + s.deep ≤ d + t.deep := by
    intro s hs
    cases t with
    | num i => cases hs
    | name z => cases hs
    | op o a b =>
      have e : (Trm.op o a b).deep = 1 + max a.deep b.deep := rfl
      rw [e]
      rcases List.mem_cons.mp hs with rfl | hs
      · omega
      · rw [List.mem_singleton.mp hs]
        omega
  refine ⟨?_, ?_, ?_⟩
  · have := h.le
    rcases h3 with e | e <;> omega
  · intro s hs
    rcases List.mem_append.mp hs with hs | hs
    · exact h.all s (by simp [hs])
    · obtain ⟨u, hu, rfl⟩ := List.mem_map.mp hs
      have := hk u hu
      show d + 1 + u.deep ≤ D
      omega
  · rcases h.some with e | ⟨s, hs, e⟩
    · have := h.le
      left
      rcases h3 with e | e <;> omega
    · rcases List.mem_append.mp hs with hs | hs
      · exact .inr ⟨s, by simp [hs], e⟩
      · have es : s = (t, d) := List.mem_singleton.mp hs
        subst es
        have e : d + t.deep = D := e
        cases t with
        | num i =>
          left
          have e2 : (Trm.num i).deep = 0 := rfl
          have := h.le
          rcases h3 with e | e <;> omega
        | name z =>
          left
          have e2 : (Trm.name z).deep = 0 := rfl
          have := h.le
          rcases h3 with e | e <;> omega
        | op o a b =>
          have e2 : (Trm.op o a b).deep = 1 + max a.deep b.deep := rfl
          rcases Nat.le_total a.deep b.deep with g | g
          · exact .inr ⟨(b, d + 1), by simp [Trm.kids], by show d + 1 + b.deep = D; omega⟩
          · exact .inr ⟨(a, d + 1), by simp [Trm.kids], by show d + 1 + a.deep = D; omega⟩
theorem Trm.size_le : ∀ t : Trm, t.size + 1 ≤ 2 ^ (t.deep + 1)
  | .num _ => Nat.le_refl 2
  | .name _ => Nat.le_refl 2
  | .op _ a b => by
    have h1 := Trm.size_le a
    have h2 := Trm.size_le b
    have h3 : 2 ^ (a.deep + 1) ≤ 2 ^ (1 + max a.deep b.deep) := Nat.pow_le_pow_right (by decide) (by omega)
    have h4 : 2 ^ (b.deep + 1) ≤ 2 ^ (1 + max a.deep b.deep) := Nat.pow_le_pow_right (by decide) (by omega)
    show 1 + a.size + b.size + 1 ≤ 2 ^ (1 + max a.deep b.deep + 1)
    rw [Nat.pow_succ]
    omega
theorem rep_one (c n : Nat) : (⟨((List.replicate n (SX.S [c]).cps.toList).flatten).toArray⟩ : Str) = SX.S (List.replicate n c) := by
  have e : (SX.S [c]).cps.toList = [c] := rfl
  have h : ∀ n : Nat, (List.replicate n [c]).flatten = List.replicate n c := fun n => by
    induction n with
    | zero => rfl
    | succ n ih => rw [List.replicate_succ, List.flatten_cons, ih]; rfl
  rw [e, h]
theorem sizes_pos {s : List Trm} (h : s ≠ []) : 1 ≤ sizes s := by
  cases s with
  | nil => exact absurd rfl h
  | cons a s =>
    have := a.size_pos
    show 1 ≤ a.size + sizes s
    omega
theorem deep_lt_size : ∀ t : Trm, t.deep < t.size
  | .num _ => Nat.lt_succ_self 0
  | .name _ => Nat.lt_succ_self 0
  | .op _ a b => by
    have h1 := deep_lt_size a
    have h2 := deep_lt_size b
    show 1 + max a.deep b.deep < 1 + a.size + b.size
    omega
def dsz (ts : List (Trm × Nat)) : Nat := sizes (ts.map Prod.fst)
theorem dsz_app (a b : List (Trm × Nat)) : dsz (a ++ b) = dsz a + dsz b := by
  unfold dsz
  rw [List.map_append, sizes_app]
theorem dsz_kids (t : Trm) (d : Nat) : dsz (t.kids.map fun s => (s, d)) = sizes t.kids := by
  unfold dsz
  rw [List.map_map]
  have e : (Prod.fst ∘ fun s : Trm => (s, d)) = id := rfl
  rw [e, List.map_id]
theorem dsz_len (a : List (Trm × Nat)) : a.length ≤ dsz a := by
  have := sizes_len (a.map Prod.fst)
  rw [List.length_map] at this
  exact this
/-! sums from the left -/
def sumT : List Trm → Trm
  | [] => .num 0
  | t :: ts => ts.foldl (fun a b => .op .plus a b) t
theorem fold_take {ts : List Trm} {t u : Trm} {i : Nat} (h : ts[i]? = some u) : (ts.take (i + 1)).foldl (fun a b => Trm.op .plus a b) t = .op .plus ((ts.take i).foldl (fun a b => Trm.op .plus a b) t) u := by
  rw [List.take_add_one, h, List.foldl_append]
  rfl
theorem sumT_take {ts : List Trm} {u : Trm} {i : Nat} (h : ts[i + 1]? = some u) : sumT (ts.take (i + 2)) = .op .plus (sumT (ts.take (i + 1))) u := by
  cases ts with
  | nil => simp at h
  | cons t ts => exact fold_take (by simpa using h)
theorem sumT_one {ts : List Trm} {u : Trm} (h : ts[0]? = some u) : sumT (ts.take 1) = u := by
  cases ts with
  | nil => simp at h
  | cons t ts => exact Option.some.inj h
theorem fold_okN : ∀ {ts : List Trm} {t : Trm}, t.okN → (∀ u ∈ ts, u.okN) → (ts.foldl (fun a b => Trm.op .plus a b) t).okN
  | [], _, h, _ => h
  | u :: ts, t, h, g => fold_okN (ts := ts) (t := .op .plus t u) ⟨h, g u (by simp)⟩ fun v hv => g v (by simp [hv])
theorem sumT_okN {ts : List Trm} (h : ∀ u ∈ ts, u.okN) : (sumT ts).okN := by
  cases ts with
  | nil => trivial
  | cons t ts => exact fold_okN (h t (by simp)) fun u hu => h u (by simp [hu])
theorem fold_deep {d : Nat} : ∀ {ts : List Trm} {t : Trm} {n : Nat}, t.deep ≤ d + n → (∀ u ∈ ts, u.deep ≤ d) → (ts.foldl (fun a b => Trm.op .plus a b) t).deep ≤ d + n + ts.length
  | [], _, _, h, _ => h
  | u :: ts, t, n, h, g => by
    have h1 := g u (by simp)
    have h2 : (Trm.op .plus t u).deep ≤ d + (n + 1) := by
      show 1 + max t.deep u.deep ≤ _
      omega
    have h3 := fold_deep (ts := ts) (t := .op .plus t u) (n := n + 1) h2 fun v hv => g v (by simp [hv])
    rw [List.foldl_cons, List.length_cons]
    omega
theorem sumT_deep {d : Nat} {ts : List Trm} (h : ∀ u ∈ ts, u.deep ≤ d) : (sumT ts).deep ≤ d + ts.length := by
  cases ts with
  | nil => exact Nat.zero_le _
  | cons t ts =>
    have := fold_deep (d := d) (n := 0) (ts := ts) (t := t) (h t (by simp)) fun u hu => h u (by simp [hu])
    rw [List.length_cons]
    show (ts.foldl (fun a b => Trm.op .plus a b) t).deep ≤ _
    omega
/-- a full term -/
def fullT (z : Str) : Nat → Trm
  | 0 => .name z
  | n + 1 => .op .plus (fullT z n) (fullT z n)
theorem fullT_deep (z : Str) : ∀ n, (fullT z n).deep = n
  | 0 => rfl
  | n + 1 => by
    show 1 + max (fullT z n).deep (fullT z n).deep = n + 1
    rw [fullT_deep z n]
    omega
/-! texts of written signs -/
theorem digits_fold : ∀ (cs : List Nat) (m : Nat), NumText.AllDigits cs → cs.foldl (fun n c => n * 10 + (c - 48)) m + 1 ≤ (m + 1) * 10 ^ cs.length
  | [], m, _ => by simp
  | c :: cs, m, h => by
    have h1 := digits_fold cs (m * 10 + (c - 48)) (fun d hd => h d (by simp [hd]))
    have h2 : 48 ≤ c ∧ c ≤ 57 := h c (by simp)
    have h3 : m * 10 + (c - 48) + 1 ≤ (m + 1) * 10 := by omega
    have h4 : (m * 10 + (c - 48) + 1) * 10 ^ cs.length ≤ (m + 1) * 10 * 10 ^ cs.length := Nat.mul_le_mul_right _ h3
    rw [List.foldl_cons, List.length_cons, Nat.pow_succ, Nat.mul_comm (10 ^ cs.length) 10, ← Nat.mul_assoc]
    exact Nat.le_trans h1 h4
theorem digits_lt {cs : List Nat} (h : NumText.AllDigits cs) : NumText.digitsVal cs < 10 ^ cs.length := by
  have := digits_fold cs 0 h
  rw [Nat.zero_add, Nat.one_mul] at this
  exact this
/-- one figure -/
theorem fig_text {i : Int} (h0 : 0 ≤ i) (h1 : i < 10) : Str.ofString (toString i) = SX.S [48 + i.toNat] := by
  obtain ⟨n, rfl⟩ := Int.eq_ofNat_of_zero_le h0
  have h : ∀ n : Fin 10, Str.ofString (toString ((n.val : Nat) : Int)) = SX.S [48 + n.val] := by decide +kernel
  exact h ⟨n, by omega⟩
theorem S_app (a b : List Nat) : (SX.S a ++ SX.S b : Str) = SX.S (a ++ b) := SX.S_cat a b
theorem cutS_to (l : List Nat) {i : Int} (h0 : 0 ≤ i) : cutS (SX.S l) none (some i) = SX.S (l.take i.toNat) := by
  obtain ⟨n, rfl⟩ := Int.eq_ofNat_of_zero_le h0
  have e1 : (SX.S l).cps.toList = l := by show l.toArray.toList = l; simp
  unfold cutS
  rw [HT.sIx_none, HT.sIx_nat, e1, SX.S_len, Int.toNat_natCast, List.drop_zero, Nat.sub_zero]
  show (⟨(l.take (min n l.length)).toArray⟩ : Str) = ⟨(l.take n).toArray⟩
  rcases Nat.le_total n l.length with h | h
  · rw [Nat.min_eq_left h]
  · rw [Nat.min_eq_right h, List.take_length, List.take_of_length_le h]
theorem cutS_from (l : List Nat) {i : Int} (h0 : 0 ≤ i) : cutS (SX.S l) (some i) none = SX.S (l.drop i.toNat) := by
  obtain ⟨n, rfl⟩ := Int.eq_ofNat_of_zero_le h0
  have e1 : (SX.S l).cps.toList = l := by show l.toArray.toList = l; simp
  unfold cutS
  rw [HT.sIx_none, HT.sIx_nat, e1, SX.S_len, Int.toNat_natCast]
  show (⟨((l.drop (min n l.length)).take (l.length - min n l.length)).toArray⟩ : Str) = ⟨(l.drop n).toArray⟩
  rcases Nat.le_total n l.length with h | h
  · rw [Nat.min_eq_left h, List.take_of_length_le (by rw [List.length_drop]; exact Nat.le_refl _)]
  · rw [Nat.min_eq_right h, Nat.sub_self, List.take_zero, List.drop_eq_nil_of_le h]
/-- signs of the written ones -/
def Low (l : List Nat) : Prop := ∀ c ∈ l, c < 128
theorem Low.ok {l : List Nat} (h : Low l) : PyData.strOk (SX.S l) = true := by
  show l.toArray.all (· < 0x110000) = true
  rw [List.all_toArray, List.all_eq_true]
  intro c hc
  have := h c hc
  exact decide_eq_true (by omega)
theorem Low.app {a b : List Nat} (h : Low a) (g : Low b) : Low (a ++ b) := fun c hc => (List.mem_append.mp hc).elim (h c) (g c)
theorem Low.take {a : List Nat} (h : Low a) (n : Nat) : Low (a.take n) := fun c hc => h c (List.mem_of_mem_take hc)
theorem Low.drop {a : List Nat} (h : Low a) (n : Nat) : Low (a.drop n) := fun c hc => h c (List.mem_of_mem_drop hc)
theorem Low.one {c : Nat} (h : c < 128) : Low [c] := fun d hd => by
  rw [List.mem_singleton.mp hd]
  exact h
end RV

/-! lists of own objects, item by item equal: == is True, != is False -/
namespace RV
open PySem PySem.Spec L2
open PyProof.Rows hiding St
section
open PySem.SeqAt AutoSeq1 MeetsSeq MeetsSeq2 MeetsSeq3 SeqRoads2
variable {prog : PySem.Program} {w : World} {A : Around} {R : Result → Shared → Prop}
theorem unlike_loop (l b : Addr) (N : Nat) (I : Nat → Shared → Prop) (hl : GQ.ListI prog w A (fun e s' => R (.error e) s') l b N I)
    (fin : ∀ s, I N s → R (.ok (.ret (.bool false))) s) : ∀ (k i : Nat), N - i = k → i ≤ N → ∀ s, I i s →
      wpAny (model prog w) A.in1 (Builtin.«list.__eq__.loop» ⟨[.ref l, .ref b, rawInt i, rawInt 3], []⟩) (GQ.FinOf prog w A R) (fun e s' => R (.error e) s') s := by
  intro k
  induction k with
  | zero =>
    intro i hk hi s hI
    obtain ⟨us, vs, n1, n2, e1, e2, z1, z2, _⟩ := hl i s hI
    have hR : R (.ok (.ret (.bool false))) s := by
      refine fin s ?_
      rw [show N = i by omega]
      exact hI
    cases s with
    | mk hp g d tk os =>
      wp_walk using wpAny_loadPart' e1, wpAny_loadPart' e2
      have g1 : us[((i : Nat) : Int).toNat]? = none := by
        simp
        omega
      have g2 : vs[((i : Nat) : Int).toNat]? = none := by
        simp
        omega
      rw [g1, g2]
      wp_walk using wpAny_loadPart' e1, wpAny_loadPart' e2
      show R (.ok (.ret (.bool (us.size != vs.size)))) _
      rw [z1, z2]
      simpa using hR
  | succ k ih =>
    intro i hk hi s hI
    obtain ⟨us, vs, n1, n2, e1, e2, z1, z2, one⟩ := hl i s hI
    have y1 : i < us.size := by omega
    have y2 : i < vs.size := by omega
    have it := one y1 y2
    cases s with
    | mk hp g d tk os =>
      wp_walk using wpAny_loadPart' e1, wpAny_loadPart' e2
      have g1 : us[((i : Nat) : Int).toNat]? = some us[i] := by simp [y1]
      have g2 : vs[((i : Nat) : Int).toNat]? = some vs[i] := by simp [y2]
      have up : ((i : Int) + 1) = ((i + 1 : Nat) : Int) := by omega
      rw [g1, g2]
      refine wpAny_bind (wpAny_mono it (fun r s2 q2 => ?_) fun _ _ x => x)
      obtain ⟨hr, q2⟩ := q2
      subst hr
      have on := ih (i + 1) (by omega) (by omega) s2 q2
      cases s2 with
      | mk hp2 g2 d2 tk2 os2 =>
        wp_walk
        rw [up]
        refine ⟨plainId_quiet plain_eq_loop _, codeAny_builtin entry_eq_loop ?_⟩
        rw [Around.under_plainId plain_eq_loop _]
        exact on
theorem unlike_list (l b : Addr) (N : Nat) (I : Nat → Shared → Prop) (hl : GQ.ListI prog w A (fun e s' => R (.error e) s') l b N I)
    (fin : ∀ s, I N s → R (.ok (.ret (.bool false))) s) {s : Shared} (h0 : I 0 s) :
    wpAny (model prog w) A.in1 (Builtin.«list.__ne__» ⟨[.ref l, .ref b], []⟩) (GQ.FinOf prog w A R) (fun e s' => R (.error e) s') s := by
  obtain ⟨us, vs, n1, n2, e1, e2, z1, z2, _⟩ := hl 0 s h0
  have on := unlike_loop (A := A) (R := R) l b N I hl fin N 0 rfl (Nat.zero_le _) s h0
  cases s with
  | mk hp g d tk os =>
    have k1 := AutoSeq1.sub_list_list
    have same : ¬ (us.size != vs.size) = true := by simp [z1, z2]
    wp_walk using wpAny_loadPart' e1, wpAny_loadPart' e2
    refine ⟨plainId_quiet plain_eq_loop _, codeAny_builtin entry_eq_loop ?_⟩
    rw [Around.under_plainId plain_eq_loop _]
    exact on
theorem unlike_rc {E : Value → Shared → Prop} {s : Shared} {l b : Addr} {N : Nat} {Q : Value → Shared → Prop} (hu : A.units < cLine) (I : Nat → Shared → Prop) (hl : GQ.ListI prog w A E l b N I)
    (fin : ∀ s, I N s → Q (.bool false) s) (h : I 0 s) : wpAny (model prog w) A (richCompare .NotEq (.ref l) (.ref b)) Q E s := by
  obtain ⟨us, vs, n1, n2, e1, e2, _, _, _⟩ := hl 0 s h
  refine wpAny_richCompare_same_room (op := .NotEq) ⟨_, e1, rfl⟩ ⟨_, e2, rfl⟩ F.slot_list_ne (GQ.call_here F.slot_list_ne ⟨_, e1, rfl⟩ F.entry_list_ne (F.args_list_ne_2 _ _) ?_) hu
  exact unlike_list (R := wants (fun v s' => v ≠ .notImplemented ∧ Q v s') E) l b N I hl (fun s' q => ⟨(fun x => nomatch x), fin s' q⟩) h
end
section
variable {X : Cx} {n : Nat} {D : Eqv}
/-- x != y of two lists, item by item equal -/
def rNeG (D : Eqv) : R2 := fun x y H Q => DList D x y H ∧ ∀ H', Ext H H' → Q (.bl false) H'
theorem op_neG (hD : Mon D) (h : EqG X n D) (hr : Room (n + 1) X.A) : OpR X (compareOp .NotEq) (rNeG D) := by
  intro pins s σ H x y v u Q I rx ry hq
  obtain ⟨⟨a, b, xs, ys, rfl, rfl, ha, hb, p⟩, q⟩ := hq
  cases rx
  cases ry
  have sb : Sub X (n + 1) X.A := ⟨hr, rfl⟩
  show wpAny (model X.prog X.w) X.A (richCompare .NotEq (.ref a) (.ref b)) (EP X pins σ Q) X.xe s
  refine unlike_rc (N := xs.length) sb.room.units0 (fun _ s' => LoopI X pins σ H s') (fun i s' z => ?_) (fun s' z => ?_) ⟨H, I, Ext.rfl'⟩
  · obtain ⟨H1, I1, e1⟩ := id z
    obtain ⟨z1, us, k1, r1, o1⟩ := I1.hok a _ (e1 _ _ ha)
    obtain ⟨z2, vs, k2, r2, o2⟩ := I1.hok b _ (e1 _ _ hb)
    refine ⟨us.toArray, vs.toArray, k1, k2, o1, o2, by rw [List.size_toArray, ← r1.length], by rw [List.size_toArray, ← r2.length, ← p.1], fun y1 y2 => ?_⟩
    exact turnG hD h sb p r1 r2 i y1 y2 s' z
  · obtain ⟨H1, I1, e1⟩ := z
    exact ⟨.bl false, H1, I1, rfl, q H1 e1⟩
theorem op_eqLG (hD : Mon D) (h : EqG X n D) (hr : Room (n + 1) X.A) : OpR X (compareOp .Eq) (rEqG (DList D)) := op_eqG (rcG_list hD h) hr
end
section
variable {H : Hp} {Q : VK} {D : Eqv} {a b : Addr} {xs ys : List V}
theorem r_neG (ha : H a = some (.lst xs)) (hb : H b = some (.lst ys)) (p : Prs D xs ys H) (k : ∀ H', Sm H H' → Q (.bl false) H') : rNeG D (.ref a) (.ref b) H Q := ⟨⟨a, b, xs, ys, rfl, rfl, ha, hb, p⟩, fun H' e => k H' ⟨e⟩⟩
theorem r_eqG (ha : H a = some (.lst xs)) (hb : H b = some (.lst ys)) (p : Prs D xs ys H) (k : ∀ H', Sm H H' → Q (.bl true) H') : rEqG (DList D) (.ref a) (.ref b) H Q := ⟨⟨a, b, xs, ys, rfl, rfl, ha, hb, p⟩, fun H' e => k H' ⟨e⟩⟩
end
end RV

/-! sayings: objects of a word and two terms; terms shown -/
namespace RV
open PySem PySem.Spec L2
open PyProof.Rows hiding St
def Trm.word : Trm → Str
  | .num _ => Str.ofString "num"
  | .name _ => Str.ofString "name"
  | .op o _ _ => o.word
theorem w_num_name : ¬ Str.ofString "num" = Str.ofString "name" := by decide +kernel
theorem w_num_op (o : Op3) : ¬ Str.ofString "num" = o.word := by
  cases o
  · show ¬ Str.ofString "num" = Str.ofString "plus"
    decide +kernel
  · show ¬ Str.ofString "num" = Str.ofString "times"
    decide +kernel
  · show ¬ Str.ofString "num" = Str.ofString "power"
    decide +kernel
theorem w_name_op (o : Op3) : ¬ Str.ofString "name" = o.word := by
  cases o
  · show ¬ Str.ofString "name" = Str.ofString "plus"
    decide +kernel
  · show ¬ Str.ofString "name" = Str.ofString "times"
    decide +kernel
  · show ¬ Str.ofString "name" = Str.ofString "power"
    decide +kernel
theorem Op3.word_inj {o o2 : Op3} (h : o.word = o2.word) : o = o2 := by
  cases o <;> cases o2 <;> first
    | rfl
    | exact absurd (show Str.ofString "plus" = Str.ofString "times" from h) (by decide +kernel)
    | exact absurd (show Str.ofString "plus" = Str.ofString "power" from h) (by decide +kernel)
    | exact absurd (show Str.ofString "times" = Str.ofString "plus" from h) (by decide +kernel)
    | exact absurd (show Str.ofString "times" = Str.ofString "power" from h) (by decide +kernel)
    | exact absurd (show Str.ofString "power" = Str.ofString "plus" from h) (by decide +kernel)
    | exact absurd (show Str.ofString "power" = Str.ofString "times" from h) (by decide +kernel)
theorem TmAt.head {H : Hp} {t : Trm} {v : V} (h : TmAt H t v) : ∃ a xs, v = .ref a ∧ H a = some (.tup (.str t.word :: xs)) := by
  cases t with
  | num i =>
    obtain ⟨a, h1, h2⟩ := h
    exact ⟨a, _, h1, h2⟩
  | name z =>
    obtain ⟨a, h1, h2⟩ := h
    exact ⟨a, _, h1, h2⟩
  | op o s t =>
    obtain ⟨a, x, y, h1, h2, _⟩ := h
    exact ⟨a, _, h1, h2⟩
theorem TmAt.inj {H : Hp} : ∀ {t u : Trm} {v : V}, TmAt H t v → TmAt H u v → t = u
  | .num i, u, v, h, g => by
    obtain ⟨a, rfl, e⟩ := h
    obtain ⟨b, xs, e2, e3⟩ := g.head
    cases e2
    rw [e] at e3
    cases u with
    | num j =>
      obtain ⟨b, e4, e5⟩ := g
      cases e4
      rw [e] at e5
      cases e5
      rfl
    | name z =>
      have := (List.cons.inj (HO.tup.inj (Option.some.inj e3))).1
      exact absurd (V.str.inj this) w_num_name
    | op o s t =>
      have := (List.cons.inj (HO.tup.inj (Option.some.inj e3))).1
      exact absurd (V.str.inj this) (w_num_op o)
  | .name y, u, v, h, g => by
    obtain ⟨a, rfl, e⟩ := h
    obtain ⟨b, xs, e2, e3⟩ := g.head
    cases e2
    rw [e] at e3
    cases u with
    | num j =>
      have := (List.cons.inj (HO.tup.inj (Option.some.inj e3))).1
      exact absurd (V.str.inj this) (fun e => w_num_name e.symm)
    | name z =>
      obtain ⟨b, e4, e5⟩ := g
      cases e4
      rw [e] at e5
      cases e5
      rfl
    | op o s t =>
      have := (List.cons.inj (HO.tup.inj (Option.some.inj e3))).1
      exact absurd (V.str.inj this) (w_name_op o)
  | .op o s t, u, v, h, g => by
    obtain ⟨a, x, y, rfl, e, h1, h2⟩ := h
    obtain ⟨b, xs, e2, e3⟩ := g.head
    cases e2
    rw [e] at e3
    cases u with
    | num j =>
      have := (List.cons.inj (HO.tup.inj (Option.some.inj e3))).1
      exact absurd (V.str.inj this) (fun e => w_num_op o e.symm)
    | name z =>
      have := (List.cons.inj (HO.tup.inj (Option.some.inj e3))).1
      exact absurd (V.str.inj this) (fun e => w_name_op o e.symm)
    | op o2 s2 t2 =>
      obtain ⟨b, x2, y2, e4, e5, g1, g2⟩ := g
      cases e4
      rw [e] at e5
      have e6 := HO.tup.inj (Option.some.inj e5)
      have e7 := V.str.inj (List.cons.inj e6).1
      have e8 := List.cons.inj (List.cons.inj e6).2
      have e9 := (List.cons.inj e8.2).1
      have eo : o = o2 := Op3.word_inj e7
      obtain rfl := e8.1
      obtain rfl := e9
      rw [eo, TmAt.inj h1 g1, TmAt.inj h2 g2]
/-- two terms side by side, to be held against one another -/
abbrev PmsAt (H : Hp) : List V → List (Trm × Trm) → Prop := All2 fun v p => ∃ q x y, v = .ref q ∧ H q = some (.tup [x, y]) ∧ TmAt H p.1 x ∧ TmAt H p.2 y
theorem PmsAt.tk {H H' : Hp} {xs : List V} {ps : List (Trm × Trm)} (e : TK H H') (h : PmsAt H xs ps) : PmsAt H' xs ps := h.imp fun _ _ ⟨q, x, y, a, b, c, d⟩ => ⟨q, x, y, a, e.to _ _ b, c.tk e, d.tk e⟩
def psz (ps : List (Trm × Trm)) : Nat := sizes (ps.map Prod.fst)
theorem psz_app (a b : List (Trm × Trm)) : psz (a ++ b) = psz a + psz b := by
  unfold psz
  rw [List.map_append, sizes_app]
theorem psz_len (a : List (Trm × Trm)) : a.length ≤ psz a := by
  have := sizes_len (a.map Prod.fst)
  rw [List.length_map] at this
  exact this
theorem op_eq_iff {o o2 : Op3} {a b c d : Trm} (h : o = o2) : (Trm.op o a b = Trm.op o2 c d) ↔ (b = d ∧ a = c) := by
  subst h
  exact ⟨fun e => by cases e; exact ⟨rfl, rfl⟩, fun e => by rw [e.1, e.2]⟩
/-! terms shown: not too long -/
def Trm.okS : Trm → Prop
  | .num i => i.natAbs < 2 ^ 64
  | .name z => ∃ l, z = SX.S l ∧ Low l ∧ l.length ≤ 12
  | .op _ a b => a.okS ∧ b.okS
theorem Trm.okS.okN : ∀ {t : Trm}, t.okS → t.okN
  | .num _, _ => trivial
  | .name z, h => by
    obtain ⟨l, e, h1, _⟩ := h
    show PyData.strOk z = true
    rw [e]
    exact h1.ok
  | .op _ _ _, h => ⟨okN h.1, okN h.2⟩
theorem shw_low {l : List Nat} (h : Low l) : Shw (10 * l.length + 2) 0 (.str (SX.S l)) := by
  refine shw_str ?_
  have e := StrLaws.reprText_len (SX.S l) (fun c hc => ?_)
  · rw [SX.S_len] at e
    exact e
  · have h1 : (SX.S l).cps.toList = l := by show l.toArray.toList = l; simp
    rw [h1] at hc
    have := h c hc
    exact Nat.lt_trans this (by decide)
theorem shw_two {n1 n2 k : Nat} {a b : PyData} (h1 : Shw n1 k a) (h2 : Shw n2 k b) : Shw (n1 + n2 + 7) (k + 1) (.tuple [a, b]) := by
  have e := tupleText_len_le (PyData.shownAll [a, b])
  simp only [PyData.shownAll, List.map_cons, List.map_nil, List.sum_cons, List.sum_nil, List.length_cons, List.length_nil] at e
  have l1 := h1.l
  have l2 := h2.l
  have d1 := h1.dp
  have d2 := h2.dp
  refine ⟨by simp only [PyData.showable, PyData.showableAll, h1.s, h2.s, Bool.and_true], by simp only [PyData.hasDict, PyData.hasDictAll, h1.h, h2.h, Bool.or_false], by simp only [PyData.depth, PyData.depthAll]; omega, ?_⟩
  simp only [PyData.shown, PyData.shownAll]
  omega
theorem shw_three {n1 n2 n3 k : Nat} {a b c : PyData} (h1 : Shw n1 k a) (h2 : Shw n2 k b) (h3 : Shw n3 k c) : Shw (n1 + n2 + n3 + 9) (k + 1) (.tuple [a, b, c]) := by
  have e := tupleText_len_le (PyData.shownAll [a, b, c])
  simp only [PyData.shownAll, List.map_cons, List.map_nil, List.sum_cons, List.sum_nil, List.length_cons, List.length_nil] at e
  have l1 := h1.l
  have l2 := h2.l
  have l3 := h3.l
  have d1 := h1.dp
  have d2 := h2.dp
  have d3 := h3.dp
  refine ⟨by simp only [PyData.showable, PyData.showableAll, h1.s, h2.s, h3.s, Bool.and_true], by simp only [PyData.hasDict, PyData.hasDictAll, h1.h, h2.h, h3.h, Bool.or_false], by simp only [PyData.depth, PyData.depthAll]; omega, ?_⟩
  simp only [PyData.shown, PyData.shownAll]
  omega
theorem shw_op (o : Op3) : Shw 60 0 (.str o.word) := by
  refine shw_str ?_
  cases o
  · show (reprText (Str.ofString "plus")).length ≤ 60
    decide +kernel
  · show (reprText (Str.ofString "times")).length ≤ 60
    decide +kernel
  · show (reprText (Str.ofString "power")).length ≤ 60
    decide +kernel
theorem Trm.shw : ∀ {t : Trm}, t.okS → Shw (180 * t.size) (t.deep + 1) t.data
  | .num i, h => by
    have h1 : Shw 60 0 (.str (Str.ofString "num")) := shw_str (by decide +kernel)
    have h2 := shw_int (i := i) h
    exact (shw_two h1 h2).up (by show 60 + 66 + 7 ≤ 180 * 1; decide) (Nat.le_refl 1)
  | .name z, h => by
    obtain ⟨l, e, h1, h2⟩ := h
    subst e
    have h3 : Shw 51 0 (.str (Str.ofString "name")) := shw_str (by decide +kernel)
    have h4 := shw_low h1
    exact (shw_two h3 h4).up (by show 51 + (10 * l.length + 2) + 7 ≤ 180 * 1; omega) (Nat.le_refl 1)
  | .op o a b, h => by
    have h1 := Trm.shw h.1
    have h2 := Trm.shw h.2
    have k1 : Shw (180 * a.size) (max a.deep b.deep + 1) a.data := h1.up (Nat.le_refl _) (by omega)
    have k2 : Shw (180 * b.size) (max a.deep b.deep + 1) b.data := h2.up (Nat.le_refl _) (by omega)
    have k3 : Shw 60 (max a.deep b.deep + 1) (.str o.word) := (shw_op o).up (Nat.le_refl _) (by omega)
    refine (shw_three k3 k1 k2).up ?_ ?_
    · show 60 + 180 * a.size + 180 * b.size + 9 ≤ 180 * (1 + a.size + b.size)
      omega
    · show max a.deep b.deep + 1 + 1 ≤ 1 + max a.deep b.deep + 1
      omega
/-! repr of data that are nested deeply -/
def rReprDeep (K : PySem.W.Frag) : List V → Hp → VK → Prop := fun xs H Q => ∃ (a : Addr) (d : PyData), xs = [.ref a] ∧ Dp K H (.ref a) d ∧ d.showable = true ∧ d.hasDict = false ∧ d.depth ≤ 180 ∧ d.shown.length ≤ sizeLine ∧ Q (.str d.shown) H
theorem repr_deep {X : Cx} {K : PySem.W.Frag} (e : X.K = K) (hg : X.A.guards = some []) (hu : X.A.units + 200 < cLine) : CallR X (.builtin "repr") (rReprDeep K) := by
  intro pins s σ H xs us Q I r h
  obtain ⟨a, d, rfl, hd, h1, h2, h3, h4, q⟩ := h
  obtain ⟨u, rfl, ru⟩ := vals1 r
  subst e
  obtain ⟨as, hr⟩ := Dp.reads I d _ _ hd ru
  obtain rfl : u = Value.ref a := ru
  refine repr_of_reads' hr h1 (PyData.noDict_hsm h2) hg (by omega) (fun b o e => e) (fun h' u tk hk => ?_) h4
  exact ⟨.str d.shown, H, I.kept (t' := tk) hk, ⟨u, rfl⟩, q⟩
theorem units200 {k : Nat} {A : Around} (r : Room k A) : A.units + 200 < cLine := by
  have := r.un
  omega
theorem r_reprDeep {K : PySem.W.Frag} {H : Hp} {Q : VK} {a : Addr} {d : PyData} {n k : Nat} (h : Dp K H (.ref a) d) (x : Shw n k d) (hn : n ≤ 16000000) (hk : k ≤ 180) (q : Q (.str d.shown) H) : rReprDeep K [.ref a] H Q :=
  ⟨a, d, rfl, h, x.s, x.h, Nat.le_trans x.dp hk, Nat.le_trans x.l (Nat.le_trans hn (Nat.le_trans (by decide) line24)), q⟩
theorem fld_k {X : Cx} {K : PySem.W.Frag} {e : Expr} {f : Str} {pos : Pos} {ta : TE} (ek : X.K = K) (he : PE X e ta) (hb : attributeBase e f X.env (eval e X.env) = eval e X.env) : PE X (.Attribute e f pos) (tFld K ta f) := ek ▸ pe_fld he hb
/-! sayings -/
theorem put_say (w : Str) (x y : V) : putF "right" y (putF "left" x (putF "word" (.str w) [])) = ([("word", .str w), ("left", x), ("right", y)] : List (Str × V)) := by
  have n1 : ¬ (("word" : Str) = "left") := by decide +kernel
  have n2 : ¬ (("word" : Str) = "right") := by decide +kernel
  have n3 : ¬ (("left" : Str) = "right") := by decide +kernel
  have e1 : putF "left" x (putF "word" (.str w) []) = ([("word", .str w), ("left", x)] : List (Str × V)) := by
    show (if ("word" : Str) = "left" then _ else (("word" : Str), V.str w) :: putF "left" x []) = _
    rw [if_neg n1]
    rfl
  rw [e1]
  show (if ("word" : Str) = "right" then _ else (("word" : Str), V.str w) :: (if ("left" : Str) = "right" then _ else (("left" : Str), x) :: putF "right" y [])) = _
  rw [if_neg n2, if_neg n3]
  rfl
theorem get_word (w : Str) (x y : V) : ([("word", .str w), ("left", x), ("right", y)] : List (Str × V)).lookup ("word" : Str) = some (.str w) := by
  have n1 : ¬ (("word" : Str) = "left") := by decide +kernel
  have n2 : ¬ (("word" : Str) = "right") := by decide +kernel
  rw [← put_say, lookup_putF, if_neg n2, lookup_putF, if_neg n1, lookup_putF, if_pos rfl]
theorem get_left (w : Str) (x y : V) : ([("word", .str w), ("left", x), ("right", y)] : List (Str × V)).lookup ("left" : Str) = some x := by
  have n3 : ¬ (("left" : Str) = "right") := by decide +kernel
  rw [← put_say, lookup_putF, if_neg n3, lookup_putF, if_pos rfl]
theorem get_right (w : Str) (x y : V) : ([("word", .str w), ("left", x), ("right", y)] : List (Str × V)).lookup ("right" : Str) = some y := by
  rw [← put_say, lookup_putF, if_pos rfl]
/-- one saying, of these two sides -/
def SayAt (C : Addr) (H : Hp) (p : Addr) (w : Str) (l r : Trm) : Prop := ∃ dx x y, H p = some (.ins C dx [("word", .str w), ("left", x), ("right", y)]) ∧ TmAt H l x ∧ TmAt H r y
theorem SayAt.sm {C : Addr} {H H' : Hp} {p : Addr} {w : Str} {l r : Trm} (e : Sm H H') (h : SayAt C H p w l r) : SayAt C H' p w l r := by
  obtain ⟨dx, x, y, a, b, c⟩ := h
  exact ⟨dx, x, y, e.to _ _ a, b.sm e, c.sm e⟩
theorem SayAt.chgL {C A : Addr} {H H' : Hp} {p : Addr} {w : Str} {l r : Trm} {xs : List V} (hA : H A = some (.lst xs)) (e : Chg A H H') (h : SayAt C H p w l r) : SayAt C H' p w l r := by
  obtain ⟨dx, x, y, a, b, c⟩ := h
  have tk : TK H H' := ⟨fun t zs g => e.to _ _ (ne_of g hA (by intro z; cases z)) g⟩
  exact ⟨dx, x, y, e.to _ _ (ne_of a hA (by intro z; cases z)) a, b.tk tk, c.tk tk⟩
theorem SayAt.chgB {C b : Addr} {H H' : Hp} {p : Addr} {w : Str} {l r : Trm} (hB : BoxAt H b) (e : Chg b H H') (h : SayAt C H p w l r) : SayAt C H' p w l r := by
  obtain ⟨c, s, hb⟩ := hB
  exact h.chgL hb e
theorem SayAt.ins {C : Addr} {H : Hp} {p : Addr} {z : Str} {l r : Trm} (h : SayAt C H p z l r) : ∃ dx fs, H p = some (.ins C dx fs) := by
  obtain ⟨dx, x, y, e, _⟩ := h
  exact ⟨dx, _, e⟩
/-- a tuple of a word and two terms -/
def SdAt (H : Hp) (z : Str) (p : Trm × Trm) (v : V) : Prop := ∃ a x y, v = .ref a ∧ H a = some (.tup [.str z, x, y]) ∧ TmAt H p.1 x ∧ TmAt H p.2 y
theorem SdAt.tk {H H' : Hp} {z : Str} {p : Trm × Trm} {v : V} (e : TK H H') (h : SdAt H z p v) : SdAt H' z p v := by
  obtain ⟨a, x, y, h1, h2, h3, h4⟩ := h
  exact ⟨a, x, y, h1, e.to _ _ h2, h3.tk e, h4.tk e⟩
theorem SdAt.sm {H H' : Hp} {z : Str} {p : Trm × Trm} {v : V} (e : Sm H H') (h : SdAt H z p v) : SdAt H' z p v := h.tk e.tk
theorem strs_ne {H : Hp} {b l : Addr} {zs : List Str} (hB : BoxAt H b) (hL : H l = some (.lst (zs.map V.str))) : l ≠ b := by
  rintro rfl
  obtain ⟨c, s, e⟩ := hB
  rw [hL] at e
  have e2 := HO.lst.inj (Option.some.inj e)
  cases zs with
  | nil => cases e2
  | cons z zs => cases e2
def sayData (z : Str) (l r : Trm) : PyData := .tuple [.str z, l.data, r.data]
theorem dp_say {K : PySem.W.Frag} {H : Hp} {a : Addr} {z : Str} {l r : Trm} {x y : V} (h : H a = some (.tup [.str z, x, y])) (hl : TmAt H l x) (hr : TmAt H r y) : Dp K H (.ref a) (sayData z l r) := .tup (SqT.of h) (.cons (.str _) (.cons hl.dp (.cons hr.dp .nil)))
theorem shw_say {z : Str} {l r : Trm} {d n : Nat} (hz : Shw 60 0 (.str z)) (hl : l.okS) (hr : r.okS) (d1 : l.deep ≤ d) (d2 : r.deep ≤ d) (n1 : l.size ≤ n) (n2 : r.size ≤ n) : Shw (69 + 360 * n) (d + 2) (sayData z l r) := by
  have h1 : Shw (180 * n) (d + 1) l.data := (Trm.shw hl).up (Nat.mul_le_mul_left _ n1) (by omega)
  have h2 : Shw (180 * n) (d + 1) r.data := (Trm.shw hr).up (Nat.mul_le_mul_left _ n2) (by omega)
  exact (shw_three (hz.up (Nat.le_refl _) (Nat.zero_le _)) h1 h2).up (by omega) (Nat.le_refl _)
theorem shw_same : Shw 60 0 (.str (Str.ofString "same")) := shw_str (by decide +kernel)
theorem shw_under : Shw 60 0 (.str (Str.ofString "under")) := shw_str (by decide +kernel)
theorem made_sm3 {H H1 : Hp} {x dx C : Addr} (nx : H x = none) (nd : H dx = none) (c : Chg x (upd (upd H dx (.own x)) x (.ins C dx [])) H1) : Sm H H1 := made_sm nx nd c
end RV

/-! lambdas of one parameter that keep names of their def, handed to a def that calls them; heaps but for tables of code objects -/
namespace RV
open PySem PySem.Spec L2 LamX
open PyProof.Rows hiding St
/-! ### heaps: all stays but the tables, and these go by their names -/
class NT (o : HO) : Prop where
  ne : ∀ ps, o ≠ .tbl ps
instance {xs : List V} : NT (.lst xs) := ⟨fun _ z => by cases z⟩
instance {xs : List V} : NT (.tup xs) := ⟨fun _ z => by cases z⟩
instance {xs : List (Key × V)} : NT (.dK xs) := ⟨fun _ z => by cases z⟩
instance {C d : Addr} {xs : List (Str × V)} : NT (.ins C d xs) := ⟨fun _ z => by cases z⟩
instance {x : Addr} : NT (.own x) := ⟨fun _ z => by cases z⟩
instance {xs : List (Str × V)} : NT (.xd xs) := ⟨fun _ z => by cases z⟩
instance {o : Obj} {u : HO} : NT (.frz o u) := ⟨fun _ z => by cases z⟩
instance {p : Heap → Prop} : NT (.ext p) := ⟨fun _ z => by cases z⟩
instance {c : Addr} {q : Str} : NT (CodeO c q) := ⟨codeO_ne⟩
structure Sw (N : Addr → Str) (H H' : Hp) : Prop where
  keep : ∀ b o, NT o → H b = some o → H' b = some o
  tb : ∀ b ps, H b = some (.tbl ps) → ∃ qs, H' b = some (.tbl qs)
  tq : ∀ b, TabS H b (N b) → TabS H' b (N b)
section
variable {N : Addr → Str} {H H1 H2 : Hp}
theorem Sw.to (e : Sw N H H1) (b : Addr) (o : HO) [n : NT o] (h : H b = some o) : H1 b = some o := e.keep b o n h
theorem Sm.sw (e : Sm H H1) : Sw N H H1 := ⟨fun b o _ h => e.to b o h, fun b ps h => ⟨ps, e.to b _ h⟩, fun b t => t.ext e.to⟩
theorem Sw.refl : Sw N H H := (Sm.refl H).sw
theorem Sw.trans (a : Sw N H H1) (b : Sw N H1 H2) : Sw N H H2 := ⟨fun c o n h => b.keep c o n (a.keep c o n h), fun c ps h => by
  obtain ⟨qs, e⟩ := a.tb c ps h
  exact b.tb c qs e, fun c t => b.tq c (a.tq c t)⟩
theorem isTbl (o : HO) : NT o ∨ ∃ ps, o = .tbl ps := by
  cases o with
  | tbl ps => exact .inr ⟨ps, rfl⟩
  | _ => exact .inl ⟨fun _ z => by cases z⟩
theorem Sw.there {b : Addr} {o : HO} (e : Sw N H H1) (h : H b = some o) : ∃ u, H1 b = Option.some u := by
  rcases isTbl o with n | ⟨ps, rfl⟩
  · exact ⟨o, e.keep b o n h⟩
  · obtain ⟨qs, q⟩ := e.tb b ps h
    exact ⟨_, q⟩
theorem Sw.free {l : Addr} (e : Sw N H H1) (h : H1 l = none) : H l = none := by
  cases q : H l with
  | none => rfl
  | some o =>
    obtain ⟨u, z⟩ := e.there q
    rw [z] at h
    cases h
theorem Sw.tk (e : Sw N H H1) : TK H H1 := ⟨fun t xs h => e.to _ _ h⟩
theorem Sw.seq {K : PySem.W.Frag} {a : Addr} {xs : List V} (e : Sw N H H1) (h : SqL K H a xs) : SqL K H1 a xs := by
  rcases h with (z | ⟨o, z⟩) | z
  · exact .inl (.inl (e.to _ _ z))
  · exact .inl (.inr ⟨o, e.to _ _ z⟩)
  · exact .inr z
theorem Sw.seqT {K : PySem.W.Frag} {a : Addr} {xs : List V} (e : Sw N H H1) (h : SqT K H a xs) : SqT K H1 a xs := by
  rcases h with (z | ⟨o, z⟩) | z
  · exact .inl (.inl (e.to _ _ z))
  · exact .inl (.inr ⟨o, e.to _ _ z⟩)
  · exact .inr z
theorem tabS_ne {b D : Addr} {q : Str} {o : HO} [n : NT o] (h : TabS H b q) (e : H D = some o) : b ≠ D := fun z => by
  obtain ⟨ps, h1, _⟩ := h
  rw [z, e] at h1
  exact n.ne ps (Option.some.inj h1)
/-- a list is changed: a table stays -/
theorem tabS_lst {b D : Addr} {q : Str} {xs : List V} {o : HO} (h : TabS H b q) (e : H D = some (.lst xs)) : TabS (upd H D o) b q := by
  have n := tabS_ne h e
  obtain ⟨ps, h1, h2, h3⟩ := h
  refine ⟨ps, by rw [upd_ne n]; exact h1, h2, fun pos cv hc => ?_⟩
  obtain ⟨c, e1, e2⟩ := h3 pos cv hc
  exact ⟨c, e1, by rw [upd_ne (ne_of e2 e (by unfold CodeO; intro z; cases z))]; exact e2⟩
/-- a list that is ours alone is changed -/
theorem Sw.acc {D : Addr} {xs : List V} {o : HO} (e : Sw N H H1) (n : H D = none) (h : H1 D = some (.lst xs)) : Sw N H (upd H1 D o) :=
  ⟨fun b u hu g => by rw [upd_ne (ne_of_none g n)]; exact e.keep b u hu g, fun b ps g => by
    obtain ⟨qs, z⟩ := e.tb b ps g
    exact ⟨qs, by rw [upd_ne (ne_of_none g n)]; exact z⟩, fun b t => tabS_lst (e.tq b t) h⟩
theorem Sw.accs {D : Addr} {o : HO} (e : Sw N H H1) (n : H D = none) (h : ∃ xs, H1 D = some (.lst xs)) : Sw N H (upd H1 D o) := by
  obtain ⟨xs, h⟩ := h
  exact e.acc n h
end
/-! ### the lambda is made -/
section
variable {X : Cx} {pins : List (Addr × Obj)} {σ : L2.St} {H : Hp} {s : Shared} {N : Addr → Str}
abbrev lamObj (q : Str) (X : Cx) (ps : Arguments) (e : Expr) (sc : Scope) (pm : Value) (c : Addr) (ct : Value) : Obj := PySem.W.kla_obj "<lambda>" q ps e sc (cloFrom X.env.cells sc.names []) pm c ct
theorem lam_made {c P : Addr} {ps : Arguments} {e : Expr} {sc : Scope} {pos : Pos} {E Q : Value → Shared → Prop} (I : Inv X pins σ H s) (B : TabB X.base X.mg c P) (code : X.env.code = .ref c)
    (name : N P = X.env.qual ++ "<lambda>") (tab : TabS H P (N P)) (plain : defaultsOf ps X.env = ([], [])) (held : ∀ y ∈ sc.names, y.2 = .free → ∃ c, X.env.cells.lookup y.1 = some c)
    (k : ∀ (f c' : Addr) (pm ct : Value) (H1 : Hp) (s1 : Shared), Inv X pins σ H1 s1 → Sw N H H1 → s1.heap.get? f = some (lamObj (N P) X ps e sc pm c' ct) → H1 f = none → f ∉ frs X.stack → H1 c' = some (CodeO c' (N P)) → Q (.ref f) s1) :
    wpAny (model X.prog X.w) X.A (eval (.Lambda ps e sc pos) X.env) Q E s := by
  obtain ⟨rows, atP, trip, among⟩ := tab
  refine PySem.W.kla_eval plain ?_
  have inP := I.hok P _ atP
  have out : ∀ f, s.heap.objs.size ≤ f → f ∉ frs X.stack := fun f g z => by
    rcases List.mem_cons.mp (I.stkSub _ z) with w | w
    · have lt := I.lt
      rw [← w] at lt
      exact Nat.lt_irrefl _ (Nat.lt_of_lt_of_le lt g)
    · exact I.nofs g w
  cases look : codeAmong pos rows.toList with
  | some cv =>
    obtain ⟨c', rfl, hc⟩ := among pos cv look
    refine PySem.W.kla_makeFunctionHit (P := P) (ps := rows) (mg := X.mg) (c := c) (closure_ok held) I.ok.glob (I.mod.glob.keeps I.bk) code (B.code.keeps I.bk) inP trip look (B.bm.keeps I.bk) fun ct h1 tk st sz => ?_
    rw [← name]
    exact k h1.objs.size c' ((X.mg "__name__").getD .none) ct H _ (I.kept fun b o g => Heap.get?_push_of_some _ (st b o g)) Sw.refl (Heap.get?_push_size _ rfl) (I.hok.fresh sz) (out _ sz) hc
  | none =>
    refine PySem.W.kla_makeFunction (P := P) (ps := rows) (mg := X.mg) (c := c) (closure_ok held) I.ok.glob (I.mod.glob.keeps I.bk) code (B.code.keeps I.bk) inP trip look B.gP (B.bm.keeps I.bk) fun c' ct h1 tk st ge lt rec_ tb => ?_
    obtain ⟨c2, oc, vs, t, z, a1, a2, a3⟩ := rec_
    cases z
    rw [← name] at a3 ⊢
    have sz : s.heap.objs.size ≤ h1.objs.size := by omega
    have freeC : H c' = none := I.hok.fresh ge
    have neC : P ≠ c' := ne_of_none atP freeC
    have J := inv_table (q := N P) (t' := tk) (more := #[rawInt pos.line, rawInt pos.col, .ref c']) (h' := h1.push (lamObj (N P) X ps e sc ((X.mg "__name__").getD .none) c' ct)) I atP
      (fun b o g r => Heap.get?_push_of_some _ (st b o g r)) (Heap.get?_push_of_some _ tb) ge ⟨oc, vs, t, Heap.get?_push_of_some _ a1, a2, a3⟩
    have toL : (rows ++ #[rawInt pos.line, rawInt pos.col, .ref c']).toList = rows.toList ++ [rawInt pos.line, rawInt pos.col, .ref c'] := by simp
    generalize hG : upd (upd H P (.tbl (rows ++ #[rawInt pos.line, rawInt pos.col, .ref c']))) c' (CodeO c' (N P)) = G at J
    have gP : G P = some (.tbl (rows ++ #[rawInt pos.line, rawInt pos.col, .ref c'])) := by rw [← hG, upd_ne neC, upd_same]
    have gC : G c' = some (CodeO c' (N P)) := by rw [← hG, upd_same]
    have gO : ∀ b, b ≠ P → b ≠ c' → G b = H b := fun b n1 n2 => by rw [← hG, upd_ne n2, upd_ne n1]
    have same : ∀ b o, NT o → H b = some o → G b = some o := fun b o n g => by
      rw [gO b (fun z => n.ne rows (Option.some.inj (g.symm.trans (z ▸ atP)))) (ne_of_none g freeC)]
      exact g
    have sw : Sw N H G := by
      refine ⟨same, fun b xs g => ?_, fun b t => ?_⟩
      · by_cases z : b = P
        · exact ⟨_, z ▸ gP⟩
        · exact ⟨xs, by rw [gO b z (ne_of_none g freeC)]; exact g⟩
      · by_cases z : b = P
        · subst z
          refine ⟨_, gP, by rw [toL]; exact PySem.TriplesOk_snoc _ _ _ _ trip, fun p cv g => ?_⟩
          rw [toL] at g
          rcases among_app _ trip g with u | u
          · obtain ⟨c0, u1, u2⟩ := among p cv u
            exact ⟨c0, u1, same _ _ ⟨codeO_ne⟩ u2⟩
          · exact ⟨c', u, gC⟩
        · obtain ⟨xs, t1, t2, t3⟩ := t
          refine ⟨xs, by rw [gO b z (ne_of_none t1 freeC)]; exact t1, t2, fun p cv g => ?_⟩
          obtain ⟨c0, u1, u2⟩ := t3 p cv g
          exact ⟨c0, u1, same _ _ ⟨codeO_ne⟩ u2⟩
    refine k h1.objs.size c' ((X.mg "__name__").getD .none) ct _ _ J sw (Heap.get?_push_size _ rfl) ?_ (out _ sz) gC
    rw [gO _ (fun z => ?_) (fun z => ?_)]
    · exact I.hok.fresh sz
    · rw [z] at sz
      exact Nat.lt_irrefl _ (Nat.lt_of_lt_of_le (Heap.lt_size inP) sz)
    · rw [z] at lt
      exact Nat.lt_irrefl _ lt
end
/-! ### its names: one parameter, captured ones, globals -/
structure LamP (sc scope : Scope) (x : Str) : Prop where
  kind : scope.kind = .function
  co : scope.isCoroutine = false
  gen : scope.isGenerator = false
  par : scope.names.lookup x = some .local
  own : ∀ y ∈ scope.names, y.2 ≠ .cell ∧ (y.2 = .local → y.1 = x)
  free : ∀ y ∈ scope.names, y.2 = .free → sc.names.lookup y.1 = some .cell ∨ sc.names.lookup y.1 = some .free
def lamPB (sc scope : Scope) (x : Str) : Bool :=
  decide (scope.kind = .function) && !scope.isCoroutine && !scope.isGenerator && decide (scope.names.lookup x = some .local) &&
    scope.names.all fun y => !decide (y.2 = .cell) && (!decide (y.2 = .local) || decide (y.1 = x)) && (!decide (y.2 = .free) || decide (sc.names.lookup y.1 = some .cell) || decide (sc.names.lookup y.1 = some .free))
theorem lamP_by {sc scope : Scope} {x : Str} (h : lamPB sc scope x = true) : LamP sc scope x := by
  unfold lamPB at h
  simp only [Bool.and_eq_true, Bool.or_eq_true, Bool.not_eq_true', decide_eq_true_eq, decide_eq_false_iff_not, List.all_eq_true] at h
  obtain ⟨⟨⟨⟨h1, h2⟩, h3⟩, h4⟩, h5⟩ := h
  refine ⟨h1, h2, h3, h4, fun y hy => ⟨(h5 y hy).1.1, fun e => ?_⟩, fun y hy e => ?_⟩
  · rcases (h5 y hy).1.2 with z | z
    · exact absurd e z
    · exact z
  · rcases (h5 y hy).2 with (z | z) | z
    · exact absurd e z
    · exact .inl z
    · exact .inr z
theorem LamP.has {X : Cx} {scope : Scope} {x : Str} (L : LamP X.env.scope scope x) (ok : X.Ok) : ∀ y ∈ scope.names, y.2 = .free → ∃ c, X.env.cells.lookup y.1 = some c := fun y hy e =>
  (L.free y hy e).elim (fun k => ok.has _ (.inl k)) fun k => ok.has _ (.inr k)
/-- the context of the body: the maker's names, then the parameter -/
abbrev lamC (X : Cx) (A : Around) (outer : List Env) (s : Shared) (H : Hp) (E : XK) (scope : Scope) (f c' : Addr) (x : Str) : Cx := { lamCx X A outer s H E scope f c' with N := X.N ++ [x] }
section
variable {X : Cx} {pins : List (Addr × Obj)} {σ : L2.St} {H HZ : Hp} {s s1 : Shared}
theorem lam_start {A : Around} {outer : List Env} {E : XK} {scope : Scope} {f c' : Addr} {x : Str} {h1 : Heap} {tk : Nat} {v : V} {u : Value} (I : Inv X pins σ H s) (L : LamP X.env.scope scope x) (new : x ∉ X.N) (r : RelV v u)
    (e0 : Env0 X.prog X.w X.K X.mg X.base A outer s1 HZ) (hd : A.handled = none) (un : Un (frs X.stack) [] H HZ s.heap s1.heap) (hns : h1.Ns s1.heap.objs.size fun y => ([(x, u)] : List (Str × Value)).reverse.lookup y) (kp : ∀ b o, s1.heap.get? b = some o → h1.get? b = some o) :
    Inv (lamC X A outer s1 HZ E scope f c' x) [] (σ ++ [some v]) HZ { s1 with heap := h1, toks := tk } := by
  have held := L.has I.ok
  have cm : ∀ {y c}, (cloFrom X.env.cells scope.names []).lookup y = some c → X.env.cells.lookup y = some c := fun {y c} e => by
    rcases cloFrom_mem (PySem.mem_of_lookup e) with m | ⟨m, z⟩
    · cases m
    · obtain ⟨c1, q⟩ := held _ m rfl
      have q : X.env.cells.lookup y = some c1 := q
      rw [z]
      show X.env.cells.lookup y = some ((X.env.cells.lookup y).getD 0)
      rw [q]
      rfl
  have look : ∀ {y}, scope.names.lookup y = some .free → ∃ c, (cloFrom X.env.cells scope.names []).lookup y = some c := fun {y} q => mem_lookup (cloFrom_has (cells := X.env.cells) (acc := []) (PySem.mem_of_lookup q))
  have cellK : ∀ {c : Addr} {v : Option Value}, H c = none → s.heap.IsCell c v → h1.IsCell c v := fun {c v} n ⟨o, ho, hd⟩ => by
    obtain ⟨sl, q⟩ := un.any ho n (by simp)
    exact ⟨_, kp _ _ q, hd⟩
  have noC : ∀ {y}, scope.names.lookup y ≠ some .cell := fun {y} q => absurd rfl (L.own _ (PySem.mem_of_lookup q)).1
  have noX : ∀ b : Addr, b ∉ (lamC X A outer s1 HZ E scope f c' x).ex := fun b z => absurd (show b ∈ ([] : List Addr) from z) (by simp)
  refine ⟨⟨e0.mod, L.kind, rfl, rfl, Nat.le_refl _, fun y z c a b => I.ok.inj y z c (cm a) (cm b), fun y q => ?_, fun y c z _ => ?_, fun _ => hd, Around.frames_deeper e0.frames, .inr ⟨rfl, rfl⟩, fun b z => absurd z (noX b), e0.bs, e0.bsz, fun b _ _ => noX b, fun b z => absurd z (noX b), e0.funs, e0.frf⟩,
    rfl, e0.bare, Un.kept kp, ⟨_, hns, fun i y w a b vis => ?_⟩, fun y c e => ?_, e0.hok.fresh (Nat.le_refl _), fun y c e => ?_, fun q z => absurd (show q ∈ ([] : List (Addr × Obj)) ++ [] from z) (by simp), e0.hok.kept kp, ?_⟩
  · have q : scope.names.lookup y = some .cell ∨ scope.names.lookup y = some .free := q
    exact q.elim (fun k => (noC k).elim) look
  · have z : false = true := z
    cases z
  · have vis : Vis scope y := vis
    have a : (X.N ++ [x])[i]? = some y := a
    rcases vis with k | k | k
    · obtain rfl : y = x := (L.own _ (PySem.mem_of_lookup k)).2 rfl
      have hi : i = X.N.length := by
        have lt := (List.getElem?_eq_some_iff.mp a).1
        rw [List.length_append, List.length_singleton] at lt
        rcases Nat.lt_or_ge i X.N.length with g | g
        · rw [List.getElem?_append_left g] at a
          exact (new (List.mem_of_getElem? a)).elim
        · omega
      rw [hi, ← I.len, List.getElem?_concat_length] at b
      obtain rfl : v = w := Option.some.inj (Option.some.inj b)
      refine ⟨u, r, .inl ⟨k, ?_⟩⟩
      show List.lookup y [(y, u)] = some u
      rw [List.lookup_cons, beq_self_eq_true]
    · exact (noC k).elim
    · obtain ⟨m, hn, hl⟩ := I.loc
      have hv : Vis X.env.scope y := (L.free _ (PySem.mem_of_lookup k) rfl).elim (fun k => .inr (.inl k)) fun k => .inr (.inr k)
      have ne : i < X.N.length := by
        rcases Nat.lt_or_ge i X.N.length with g | g
        · exact g
        · have lt := (List.getElem?_eq_some_iff.mp a).1
          rw [List.length_append, List.length_singleton] at lt
          have hi : i = X.N.length := by omega
          rw [hi, List.getElem?_concat_length] at a
          obtain rfl : x = y := Option.some.inj a
          rw [L.par] at k
          cases k
      rw [List.getElem?_append_left ne] at a
      rw [List.getElem?_append_left (by rw [I.len]; exact ne)] at b
      obtain ⟨w', r', q⟩ := hl i y w a b hv
      obtain ⟨c2, h2⟩ := look k
      refine ⟨w', r', .inr ⟨.inr k, c2, h2, ?_⟩⟩
      have c1 := cm h2
      rcases q with ⟨k', _⟩ | ⟨_, c3, e', z⟩
      · have k' : X.env.scope.names.lookup y = some .local := k'
        rcases L.free _ (PySem.mem_of_lookup k) rfl with k2 | k2
        · rw [show X.env.scope.names.lookup y = _ from k2] at k'
          cases k'
        · rw [show X.env.scope.names.lookup y = _ from k2] at k'
          cases k'
      · rw [c1] at e'
        cases e'
        exact cellK (I.freeC y _ c1) z
  · obtain ⟨w', z⟩ := I.cell y c (cm e)
    exact ⟨w', cellK (I.freeC y c (cm e)) z⟩
  · obtain ⟨v, o, ho, hd⟩ := I.cell y c (cm e)
    exact un.free c o ho (I.freeC y c (cm e)) (by simp)
  · show (σ ++ [some v]).length = (X.N ++ [x]).length
    rw [List.length_append, List.length_append, I.len]
    rfl
end
/-! ### what is called: from the state s0 on, by n values -/
structure Act (N : Addr → Str) (P : PySem.Program) (w : World) (K : PySem.W.Frag) (mg : Str → Option Value) (base : Heap) (stk : List Env) (H0 : Hp) (s0 : Shared) (k : Nat) (f : Addr) (sp : Sp) : Prop where
  at_ : ∀ (s : Shared) (H : Hp), K.In s.heap → Un (frs stk) [] H0 H s0.heap s.heap → PySem.W.FnAt f s.heap
  run : ∀ (A : Around) (outer : List Env) (s : Shared) (H : Hp) (us : List Value) (vs : List V) (Q : VK) (E : XK), Room k A → Env0 P w K mg base A outer s H → Un (frs stk) [] H0 H s0.heap s.heap → Sw N H0 H → Vals vs us → sp vs H Q E →
    codeAny (model P w) A (.call (.ref f) ⟨us, []⟩) (CR (L2.CX P w) outer P w H s Q E) s
section
variable {N : Addr → Str} {P : PySem.Program} {w : World} {K : PySem.W.Frag} {mg : Str → Option Value} {base : Heap} {stk : List Env} {H0 : Hp} {s0 : Shared} {k : Nat} {f : Addr}
theorem cr_wide {outer : List Env} {H : Hp} {s : Shared} {Q : VK} {E : XK} (r : Result) (s' : Shared) (h : CR CX0 outer P w H s Q E r s') : CR (L2.CX P w) outer P w H s Q E r s' := by
  cases r with
  | ok fl => cases fl <;> exact h
  | error e => exact (show False from h).elim
/-- a def that is called -/
theorem act_fn {CT : CXT} {fd : FuncData} {ps : List Str} {sp : Sp} {oc : Value} {od : Option Addr} {osl : Array (Option Value)} (F : FnOk P w K mg base CT k f fd ps sp) (hc : CT = CX0 ∨ CT = L2.CX P w) (lk : K.lookup f = some ⟨oc, od, .func fd, osl⟩) (hb : Binds K fd ps []) : Act N P w K mg base stk H0 s0 k f sp := by
  refine ⟨fun s H X _ => ⟨_, _, _, _, X _ _ lk⟩, fun A outer s H us vs Q E hr e0 un sw r h => ?_⟩
  have hl : us.length = ps.length := by rw [← r.length]; exact F.len _ _ _ _ h
  have KX : K.In s.heap := e0.mod.kin.keeps fun b o e => (e0.bs b o e).1
  have bt := hb s us KX (by rw [List.append_nil]; exact hl)
  rw [List.append_nil] at bt
  have go := F.run A outer s H ⟨us, []⟩ us vs Q E hr e0 bt r h
  rcases hc with rfl | rfl
  · exact codeAny_mono go cr_wide
  · exact go
end
section
variable {X : Cx} {pins : List (Addr × Obj)} {σ : L2.St} {H : Hp} {s : Shared} {N : Addr → Str}
/-- the lambda that is called: its body is read at the maker's slots and the parameter -/
theorem act_lam {P : Addr} {ps : Arguments} {e : Expr} {sc : Scope} {f c' : Addr} {pm ct : Value} {x : Str} {k : Nat} {t : XK → TE} (I : Inv X pins σ H s) (L : LamP X.env.scope sc x) (new : x ∉ X.N) (hf : s.heap.get? f = some (lamObj (N P) X ps e sc pm c' ct)) (name : N P = X.env.qual ++ "<lambda>")
    (nf : H f = none) (hfr : f ∉ frs X.stack) (hc : H c' = some (CodeO c' (N P)))
    (bind : ∀ (q : Str) (cl : List (Str × Addr)) (pm cv ct u : Value), bindArgs (PySem.W.kla_fn "<lambda>" q ps e sc cl pm cv ct) ⟨[u], []⟩ = pure [(x, u)])
    (hbody : ∀ (A : Around) (outer : List Env) (s : Shared) (H : Hp) (E : XK) (f c' : Addr), Room k (A.deeper (lamEnv X sc s.heap.objs.size f c')) → PE (lamC X A outer s H E sc f c' x) e (t E)) :
    Act N X.prog X.w X.K X.mg X.base X.stack H s (k + 1) f (fun vs H Q E => ∃ v, vs = [v] ∧ t E (σ ++ [some v]) H Q) := by
  have stay : ∀ (s1 : Shared) (H1 : Hp), Un (frs X.stack) [] H H1 s.heap s1.heap → s1.heap.get? f = some (lamObj (N P) X ps e sc pm c' ct) := fun s1 H1 un => un.keep f _ hf nf hfr (by simp)
  refine ⟨fun s1 H1 _ un => ⟨_, _, _, _, stay s1 H1 un⟩, fun A outer s1 H1 us vs Q E hr e0 un sw r h => ?_⟩
  obtain ⟨v, rfl, h⟩ := h
  obtain ⟨u, rfl, ru⟩ := r.one
  obtain ⟨⟨oc, ws, tq, q1, q2, q3⟩, _, _⟩ := e0.hok c' _ (sw.to _ _ hc)
  have lim : s1.heap.NoLimit := e0.mod.nolimit.keeps fun b o e => (e0.bs b o e).1
  refine PySem.W.kla_callFunE hr.depth (stay s1 H1 un) rfl L.co L.gen rfl ⟨c', oc, ws, tq, rfl, q1, q2, q3⟩ ?_
  rw [bind]
  refine wpAny_pure (wpAny_newFunctionEnv (fun y hy => (L.own y hy).1) (fun y hy => ?_) (fun h1 hns hsb => ⟨lim.fresh _ hsb, ?_⟩) L.kind)
  · rw [List.mem_singleton.mp hy]
    exact L.par
  · rw [name]
    show codeAny _ _ (.expr e (lamEnv X sc s1.heap.objs.size f c')) _ _
    have kp : ∀ b o, s1.heap.get? b = some o → h1.get? b = some o := fun b o g => hsb.extBut b o (Nat.ne_of_lt (Heap.lt_size g)) (Heap.get?_push_of_some _ g)
    have J := lam_start (tk := s1.toks + ([(x, u)] : List (Str × Value)).length) (f := f) (c' := c') (E := E) I L new ru e0 hr.hd un hns kp
    refine PySem.W.kla_codeExpr (wpAny_mono ((hbody A outer s1 H1 E f c' (hr.deeper _)).run [] _ _ H1 Q J h) (fun w' s' z => ?_) fun e s' z => z)
    obtain ⟨w2, H2, J2, rw2, q⟩ := z
    exact ⟨w2, H2, J2.os, J2.bare, J2.base, J2.hok, rw2, q⟩
end
/-! ### a local name that holds what is called -/
/-- x(e, ..): the slot i holds it -/
def tCallV (N : Addr → Str) (H0 : Hp) (i : Nat) (f : Addr) (sp : Sp) (E : XK) (t : TA) : TE := fun σ H Q => σ[i]? = some (some (.ref f)) ∧ t σ H fun vs H1 => Sw N H0 H1 ∧ sp vs H1 Q E
section
variable {X : Cx} {N : Addr → Str} {k i : Nat} {x : Str} {p pos : Pos} {e : Expr} {es : List Expr} {t : TA} {E : XK} {f : Addr} {sp : Sp}
theorem pe_callV (C : Act N X.prog X.w X.K X.mg X.base X.outer X.H_0 X.s_0 k f sp) (hex : X.ex = []) (hr : Room k X.A) (hN : X.N[i]? = some x) (hv : Vis X.env.scope x) (hx : Passes (L2.CX X.prog X.w) X E) (ha : PA X (e :: es) t)
    (hdb : (x == ("__debug__" : Str)) = false := by decide) (hcd : (x == ("__classdict__" : Str)) = false := by decide)  (he : starEach (e :: es) X.env = (false, eval e X.env) :: starEach es X.env := by rfl) (hpl : (backTo pos (starEach es X.env)).any (·.1) = false := by rfl) : PE X (.Call (.Name x p) (e :: es) [] pos) (tCallV N X.H_0 i f sp E t) := by
  refine ⟨fun pins s σ H Q I h => ?_⟩
  obtain ⟨hs, ht⟩ := h
  refine wpAny_Call_Name_kw (thn ((pe_var (pos := p) hN hv hdb hcd).run pins s σ H (fun v H1 => v = .ref f ∧ H1 = H) I ⟨.ref f, hs, rfl, rfl⟩) fun u s1 ⟨v, H1, I1, r1, q1⟩ => ?_)
  obtain ⟨ev, eH⟩ := q1
  subst ev eH
  cases r1
  have un : ∀ {σ H s}, Inv X pins σ H s → Un (frs X.outer) [] X.H_0 H X.s_0.heap s.heap := fun I => by
    have b := I.base
    rw [hex] at b
    exact b
  refine PySem.W.callWith_F (C.at_ s1 _ I1.kIn (un I1)) (thn (ha.run pos pins s1 σ _ _ I1 ht) fun us s2 ⟨vs, H2, I2, r, sw, q⟩ => ⟨C.at_ s2 _ I2.kIn (un I2), ?_⟩) he hpl
  refine wpAny_call (codeAny_mono (C.run X.A X.stack s2 H2 us vs Q E hr I2.env0 (un I2) sw r q) fun z s' g => ?_)
  cases z with
  | error u => exact hx pins σ H2 s2 u s' I2 g
  | ok fl =>
    cases fl with
    | ret u => exact I2.after g
    | next => exact g.elim
    | brk => exact g.elim
    | cont => exact g.elim
variable {σ : St} {H H0 : Hp} {Q : VK}
theorem r_callV (hs : σ[i]? = some (some (.ref f))) (h : t σ H fun vs H1 => Sw N H0 H1 ∧ sp vs H1 Q E) : tCallV N H0 i f sp E t σ H Q := ⟨hs, h⟩
end
/-! ### x(e, lambda y: .., z): z a def of the top -/
/-- what a def promises of a value and two that are called -/
structure Fn3 (N : Addr → Str) (P : PySem.Program) (w : World) (K : PySem.W.Frag) (mg : Str → Option Value) (base : Heap) (k k1 k2 : Nat) (g : Addr) (F : Sp → Sp → Sp) : Prop where
  run : ∀ (A : Around) (outer : List Env) (s : Shared) (H : Hp) (u0 : Value) (v0 : V) (f j : Addr) (s1 s2 : Sp) (Q : VK) (E : XK), Room k A → Env0 P w K mg base A outer s H → RelV v0 u0 → Act N P w K mg base outer H s k1 f s1 → Act N P w K mg base outer H s k2 j s2 →
    F s1 s2 [v0, .ref f, .ref j] H Q E → codeAny (model P w) A (.call (.ref g) ⟨[u0, .ref f, .ref j], []⟩) (CR (L2.CX P w) outer P w H s Q E) s
def tFoldL (N : Addr → Str) (P j : Addr) (s2 : Sp) (F : Sp → Sp → Sp) (E : XK) (t : XK → TE) (te : TE) : TE := fun σ H Q => te σ H fun v0 H1 => TabS H1 P (N P) ∧ ∀ f H2, Sw N H1 H2 → F (fun vs H3 Q3 E3 => ∃ v, vs = [v] ∧ t E3 (σ ++ [some v]) H3 Q3) s2 [v0, .ref f, .ref j] H2 Q E
section
variable {X : Cx} {N : Addr → Str} {c P g j : Addr} {k k1 k2 : Nat} {a x y z : Str} {body : Expr} {ps : Arguments} {sc : Scope} {p p0 lpos p2 pos : Pos} {te : TE} {t : XK → TE} {s2 : Sp} {F : Sp → Sp → Sp} {E : XK}
theorem pe_foldL (B : TabB X.base X.mg c P) (code : X.env.code = .ref c) (name : N P = X.env.qual ++ "<lambda>") (G : Fn3 N X.prog X.w X.K X.mg X.base k (k1 + 1) k2 g F) (hr : Room k X.A) (hg : Gl X x) (hm : X.mg x = some (.ref g)) (hk : PySem.W.keepIn X.K (.ref g) = true)
    (L : LamP X.env.scope sc y) (new : y ∉ X.N) (plain : defaultsOf ps X.env = ([], [])) (bind : ∀ (q : Str) (cl : List (Str × Addr)) (pm cv ct u : Value), bindArgs (PySem.W.kla_fn "<lambda>" q ps body sc cl pm cv ct) ⟨[u], []⟩ = pure [(y, u)])
    (he : PE X (.Name a p0) te) (hbody : ∀ (A : Around) (outer : List Env) (s : Shared) (H : Hp) (E : XK) (f c' : Addr), Room k1 (A.deeper (lamEnv X sc s.heap.objs.size f c')) → PE (lamC X A outer s H E sc f c' y) body (t E))
    (hz : Gl X z) (mz : X.mg z = some (.ref j)) (act2 : ∀ (H : Hp) (s : Shared), Act N X.prog X.w X.K X.mg X.base X.stack H s k2 j s2) (hx : Passes (L2.CX X.prog X.w) X E) (dx : (x == ("__debug__" : Str)) = false := by decide) (dz : (z == ("__debug__" : Str)) = false := by decide)
    : PE X (.Call (.Name x p) [.Name a p0, .Lambda ps body sc lpos, .Name z p2] [] pos) (tFoldL N P j s2 F E t te) := by
  refine ⟨fun pins s σ H Q I h => ?_⟩
  refine wpAny_Call_Name_kw (ld_glob I hg hm ?_ dx)
  refine PySem.W.callWith_K (h₀ := X.base) I.ok.mod.kin hk ?_ (by rfl) (by rfl)
  show wpAny _ _ (spliced ((false, eval (.Name a p0) X.env) :: (false, eval (.Lambda ps body sc lpos) X.env) :: (false, eval (.Name z p2) X.env) :: backTo pos (starEach [] X.env))) _ _ s
  refine Calls.spliced_cons (thn (he.run pins s σ H _ I h) fun u0 s1 ⟨v0, H1, I1, r0, tab, q⟩ => ?_)
  refine Calls.spliced_cons (lam_made I1 B code name tab plain (L.has I.ok) fun f c' pm ct H2 s2' I2 sw hf nf hfr hc => ?_)
  refine Calls.spliced_cons (ld_glob I2 hz mz ?_ dz)
  refine Calls.spliced_nil ⟨I2.kIn, ?_⟩
  have a1 := act_lam (P := P) (t := t) I2 L new hf name nf hfr hc bind hbody
  refine wpAny_call (codeAny_mono (G.run X.A X.stack s2' H2 u0 v0 f j _ s2 Q E hr I2.env0 r0 a1 (act2 H2 s2') (q f H2 sw)) fun w s' z => ?_)
  cases w with
  | error u => exact hx pins σ H2 s2' u s' I2 z
  | ok fl =>
    cases fl with
    | ret u => exact I2.after z
    | next => exact z.elim
    | brk => exact z.elim
    | cont => exact z.elim
end
theorem r_foldL {N : Addr → Str} {P j : Addr} {s2 : Sp} {F : Sp → Sp → Sp} {E : XK} {t : XK → TE} {te : TE} {σ : St} {H : Hp} {Q : VK}
    (h : te σ H fun v0 H1 => TabS H1 P (N P) ∧ ∀ f H2, Sw N H1 H2 → F (fun vs H3 Q3 E3 => ∃ v, vs = [v] ∧ t E3 (σ ++ [some v]) H3 Q3) s2 [v0, .ref f, .ref j] H2 Q E) : tFoldL N P j s2 F E t te σ H Q := h
theorem passE0 {X : Cx} : Passes (L2.CX X.prog X.w) X E0 := fun _ _ _ _ _ _ _ ⟨_, _, _, _, _, _, _, _, _, _, _, _, z⟩ => z.elim
end RV

/-! a law whose defs make lambdas: its head, the tables of their code objects empty -/
namespace RV
open PySem PySem.Spec L2 LamX
open PyProof.Rows hiding St
/-- what is tracked ahead of the law -/
def firstH (K : PySem.W.Frag) (ts : List Addr) (a : Addr) (o : Obj) (xs : List V) : Hp := fun b => if b ∈ ts then some (.tbl #[]) else if b = a ∧ K.lookup a = none then some (.frz o (.lst xs)) else none
theorem firstH_of {K : PySem.W.Frag} {ts : List Addr} {a b : Addr} {o : Obj} {xs : List V} {u : HO} (h : firstH K ts a o xs b = some u) : (b ∈ ts ∧ u = .tbl #[]) ∨ (b = a ∧ K.lookup a = none ∧ u = .frz o (.lst xs)) := by
  unfold firstH at h
  split at h
  · rename_i m
    exact .inl ⟨m, (Option.some.inj h).symm⟩
  · split at h
    · rename_i m
      exact .inr ⟨m.1, m.2, (Option.some.inj h).symm⟩
    · cases h
theorem headGT {P : PySem.Program} {w : World} {K : PySem.W.Frag} {mg mb : Str → Option Value} {CX : CXT} {k : Nat} {fa a : Addr} {cs : List (Addr × Addr)} {fd : FuncData} {x : Str} {sp : Sp} {s1 : Shared} {vs : List Value} {ns : List Int}
    (inK : K.In s1.heap) (gn : s1.heap.Ns mainGlobals mg) (bn : s1.heap.Ns builtinsNs mb) (bb : ∀ y : Str, y ≠ "__name__" → mb y = bootBuiltins y) (free : s1.heap.NoLimit) (g0 : s1.gens = #[])
    (empty : ∀ p ∈ cs, s1.heap.get? p.2 = some { cls := .none, data := .fields #[] }) (out : ∀ p ∈ cs, K.lookup p.2 = none) (codes : ∀ p ∈ cs, PySem.W.CodeHd s1.heap p.1 p.2)
    (bmod : ∃ (m : Addr) (ob : Obj), mg "__builtins__" = some (.ref m) ∧ m ≠ builtinsNs ∧ s1.heap.get? m = some ob ∧ ob.cls = .type "module" ∧ ob.dict = some builtinsNs ∧ ob.data = .plain)
    (at0 : s1.heap.get? a = some { cls := .type "list", data := .seq vs.toArray }) (nums : IntsAre vs ns) (short : ns.length ≤ sizeLine) (room : Room k callerA)
    (F : ∀ b : Heap, K.In b → b.Ns mainGlobals mg → (∀ p ∈ cs, TabB b mg p.1 p.2) → FnG P w K mg b CX k fa fd [x] sp) (bind : ∀ (s : Shared) (u : Value), BindsTo s fd ⟨[u], []⟩ [(x, u)])
    (asked : ∀ H : Hp, (∀ p ∈ cs, H p.2 = some (.tbl #[])) → SqL K H a (ns.map V.int) → sp [.ref a] H (fun v _ => v = .bl true) fun _ _ _ => False)
    (none_out : ∀ H e s', CX [] H s1 (fun _ _ _ => False) e s' → False) :
    codeAny (model P w) callerA (.call (.ref fa) ⟨[.ref a], []⟩) (fun r s' => r = .ok (.ret (.bool true)) ∧ OldK s1.heap s'.heap ∧ s'.os = s1.os ∧ AllBare s'.gens) s1 := by
  have rv := vals_ints nums
  obtain ⟨H, hH⟩ : ∃ H, H = firstH K (cs.map Prod.snd) a { cls := .type "list", data := .seq vs.toArray } (ns.map V.int) := ⟨_, rfl⟩
  have tracked : ∀ {b u}, H b = some u → (b ∈ cs.map Prod.snd ∧ u = .tbl #[]) ∨ (b = a ∧ K.lookup a = none ∧ u = .frz { cls := .type "list", data := .seq vs.toArray } (.lst (ns.map V.int))) := fun h => firstH_of (hH ▸ h)
  have tab : ∀ {b}, b ∈ cs.map Prod.snd → s1.heap.get? b = some { cls := .none, data := .fields #[] } := fun h => by
    obtain ⟨p, hp, rfl⟩ := List.mem_map.mp h
    exact empty p hp
  have tabH : ∀ {b}, b ∈ cs.map Prod.snd → H b = some (.tbl #[]) := fun h => by
    rw [hH]
    exact if_pos h
  have aT : a ∉ cs.map Prod.snd := fun h => by
    have e := tab h
    rw [at0] at e
    cases e
  -- an object of another form is not tracked
  have clean : ∀ {b o}, s1.heap.get? b = some o → (∀ us n, o.data ≠ .seq us n) → o.data ≠ .fields #[] → H b = none := fun {b o} e n1 n2 => by
    cases q : H b with
    | none => rfl
    | some u =>
      rcases tracked q with ⟨m, _⟩ | ⟨rfl, _⟩
      · rw [tab m] at e
        cases e
        exact (n2 rfl).elim
      · rw [at0] at e
        cases e
        exact (n1 _ _ rfl).elim
  have ns_ : ∀ {b m}, s1.heap.Ns b m → (hidT s1.heap H).Ns b m := fun {b m} ⟨o, es, ep, e, d, z⟩ => ⟨o, es, ep, hidT_get e (clean e (fun us n z => by rw [d] at z; cases z) fun z => by rw [d] at z; cases z), d, z⟩
  have inB : K.In (hidT s1.heap H) := fun b o e => hidT_get (inK b o e) (by
    cases q : H b with
    | none => rfl
    | some u =>
      rcases tracked q with ⟨m, _⟩ | ⟨rfl, z, _⟩
      · obtain ⟨p, hp, rfl⟩ := List.mem_map.mp m
        rw [out p hp] at e
        cases e
      · rw [z] at e
        cases e)
  have mod : Mod K mg (hidT s1.heap H) := ⟨inB, ns_ gn, ⟨mb, ns_ bn, bb⟩, free.elim fun mc z => ⟨mc, ns_ z.1, z.2⟩⟩
  have hok : HOk P w H s1.heap := fun b u q => by
    rcases tracked q with ⟨m, rfl⟩ | ⟨rfl, _, rfl⟩
    · exact tab m
    · exact ⟨at0, by rw [List.length_map]; exact short, vs, _, rv, at0⟩
  have tb : ∀ p ∈ cs, TabB (hidT s1.heap H) mg p.1 p.2 := fun p hp => by
    refine ⟨?_, ?_, fun z => ?_⟩
    · obtain ⟨o, us, u1, u2, u3, u4, u5, u6, u7, e, d1, d2, d3, more⟩ := codes p hp
      refine ⟨o, us, u1, u2, u3, u4, u5, u6, u7, hidT_get e (clean e (fun us n z => ?_) fun z => ?_), d1, d2, d3, more⟩
      · rw [d2] at z
        cases z
      · rw [d2] at z
        cases z
        simp at d3
    · obtain ⟨m, ob, e1, e2, e3, e4, e5, e6⟩ := bmod
      have n1 : m ≠ mainGlobals := fun q => by
        obtain ⟨o, es, ep, e, d, _⟩ := gn
        rw [q, e] at e3
        cases e3
        rw [d] at e6
        cases e6
      have n2 : m ≠ p.2 := fun q => by
        rw [q, empty p hp] at e3
        cases e3
        cases e6
      exact ⟨m, ob, e1, e2, n1, n2, hidT_get e3 (clean e3 (fun us n z => by rw [e6] at z; cases z) fun z => by rw [e6] at z; cases z), e4, e5, e6⟩
    · obtain ⟨o, es, ep, e, d, _⟩ := gn
      rw [z, empty p hp] at e
      cases e
      cases d
  have sq : SqL K H a (ns.map V.int) := by
    cases q : K.lookup a with
    | some o =>
      have e := inK a o q
      rw [at0] at e
      cases e
      exact .inr ⟨_, vs.toArray, _, q, rfl, rfl, rfl, by rw [List.size_toArray, nums.length]; exact short, by simpa using rv⟩
    | none => exact .inl (.inr ⟨{ cls := .type "list", data := .seq vs.toArray }, by rw [hH]; unfold firstH; rw [if_neg aT, if_pos ⟨rfl, q⟩]⟩)
  have e0 : Env0 P w K mg (hidT s1.heap H) callerA [] s1 H := ⟨rfl, mod, fun b o e => of_hidT e, Nat.le_of_eq (hidT_size _ _), trivial, (fun b hb => absurd (show b ∈ ([] : List Addr) from hb) List.not_mem_nil), hok, .of_eq g0⟩
  refine codeAny_mono ((F _ inB (ns_ gn) tb).go callerA [] s1 H ⟨[.ref a], []⟩ [.ref a] [.ref a] _ _ rfl room e0 (bind s1 (.ref a)) (.cons rfl .nil) (asked H (fun p hp => tabH (List.mem_map.mpr ⟨p, hp, rfl⟩)) sq)) fun r s' z => ?_
  cases r with
  | error e => exact (none_out H e s' z).elim
  | ok fl =>
    cases fl with
    | next => exact z.elim
    | brk => exact z.elim
    | cont => exact z.elim
    | ret u =>
      obtain ⟨v, H', os, bare, un, hok', r', q⟩ := z
      obtain rfl : v = V.bl true := q
      obtain rfl : u = Value.bool true := r'
      have kept : ∀ b o, b ∉ cs.map Prod.snd → s1.heap.get? b = some o → s'.heap.get? b = some o := fun b o nb e => by
        cases q : H b with
        | none => exact un.keep b o e q (fun z => absurd (show b ∈ ([] : List Addr) from z) List.not_mem_nil) List.not_mem_nil
        | some u =>
          rcases tracked q with ⟨m, _⟩ | ⟨rfl, _, rfl⟩
          · exact absurd m nb
          · obtain ⟨e1, _⟩ := hok _ _ q
            obtain ⟨e2, _⟩ := hok' _ _ (un.frzs _ _ _ q)
            rw [e] at e1
            cases e1
            exact e2
      have grown : ∀ p ∈ cs, ∃ more : Array Value, s'.heap.get? p.2 = some { cls := .none, data := .fields more } := fun p hp => by
        obtain ⟨more, g⟩ := un.tbls p.2 #[] (tabH (List.mem_map.mpr ⟨p, hp, rfl⟩))
        exact ⟨_, hok' p.2 _ g⟩
      refine ⟨rfl, ⟨fun b o e => ?_, fun b o e => ?_⟩, os, bare⟩
      · by_cases m : b ∈ cs.map Prod.snd
        · obtain ⟨p, hp, rfl⟩ := List.mem_map.mp m
          obtain ⟨more, g⟩ := grown p hp
          rw [empty p hp] at e
          cases e
          exact .inr (.inl ⟨((codes p hp).tab (empty p hp)).isCodeTable, rfl, #[], more, rfl, by rw [Array.empty_append]; exact g⟩)
        · exact .inl (kept b o m e)
      · by_cases m : b ∈ cs.map Prod.snd
        · obtain ⟨p, hp, rfl⟩ := List.mem_map.mp m
          obtain ⟨more, g⟩ := grown p hp
          exact ⟨_, g⟩
        · exact ⟨o, kept b o m e⟩
/-- what is known of the law's promise at the head's heap h -/
def LawAtT (l : PySem.W.OpenLaw) (w : World) (K : PySem.W.Frag) (CX : CXT) (k n : Nat) (x : Str) (mg : Str → Option Value) (fa : Addr) (h : Heap) : Prop :=
  ∃ (fd : FuncData) (cs : List (Addr × Addr)) (sp : Sp), (∀ p ∈ cs, h.get? p.2 = some { cls := .none, data := .fields #[] }) ∧ (∀ p ∈ cs, K.lookup p.2 = none) ∧ (∀ p ∈ cs, PySem.W.CodeHd h p.1 p.2) ∧ (∀ (s : Shared) (u : Value), BindsTo s fd ⟨[u], []⟩ [(x, u)]) ∧
    (∀ (H : Hp) (a : Addr) (ns : List Int), ns.length ≤ n → (∀ p ∈ cs, H p.2 = some (.tbl #[])) → SqL K H a (ns.map V.int) → sp [.ref a] H (fun v _ => v = .bl true) fun _ _ _ => False) ∧
    ∀ b : Heap, K.In b → b.Ns mainGlobals mg → (∀ p ∈ cs, TabB b mg p.1 p.2) → FnG l.prog w K mg b CX k fa fd [x] sp
/-- the tables of these defs are empty -/
def EmptyAt (K : PySem.W.Frag) (xs : List Str) (h : Heap) : Prop := ∀ x ∈ xs, ∀ c P : Addr, PySem.W.tabIn K x = some (c, P) → PySem.W.CodeHd h c P ∧ h.get? P = some { cls := .none, data := .fields #[] }
theorem walkT {l : PySem.W.OpenLaw} {n k : Nat} {q : PySem.Program} {loose : List Str} {XP : (Str → Option Value) → Heap → Prop} {YP : World → Heap → Prop} {d : DefRec} {K : Params → PySem.W.Frag} {CX : World → CXT} {x : Str} (xs : List Str)
    (hn : l.most = some n) (hn2 : n ≤ sizeLine) (hdf : d.params.defaults = []) (room : Room k callerA) (recs : (xs.all fun x => (recsOf q).any fun e => e.name == x) = true) (hY : ∀ (w : World) (h : Heap), YP w h → (K w.params).In h)
    (F : ∀ (w : World) (mg : Str → Option Value) (fa : Addr) (h : Heap), (K w.params).In h → h.Ns mainGlobals mg → mg d.name = some (.ref fa) → EmptyAt (K w.params) xs h → LawAtT l w (K w.params) (CX w) k n x mg fa h)
    (none_out : ∀ (w : World) (H : Hp) (s : Shared) (e : Value) (s' : Shared), CX w [] H s (fun _ _ _ => False) e s' → False) :
    PySem.W.WalkO q loose XP YP l.row.toRowW d [] (fun f vs => PySem.call f vs) := by
  refine Att.attach_call hn hdf fun w s0 s1 mg mb fa o pm cd doc a vs ns G Y _ _ _ named obj nums len g0 => ?_
  have inK := hY w _ Y
  have empty : EmptyAt (K w.params) xs s1.heap := fun x hx c P ht => by
    obtain ⟨e, he, hq⟩ := List.any_eq_true.mp (List.all_eq_true.mp recs x hx)
    cases hf : (recsOf q).find? fun e => e.name == x with
    | none => exact absurd hq (by rw [Bool.not_eq_true]; exact Bool.eq_false_iff.mpr (List.find?_eq_none.mp hf e he))
    | some d => exact PySem.W.tab_of G.T inK hf ht
  obtain ⟨fd, cs, sp, h1, h2, h3, bind, asked, got⟩ := F w mg fa _ inK G.T.g named empty
  exact headGT inK G.T.g G.T.b G.T.builtins G.T.nolimit g0 h1 h2 h3 G.T.bmain obj nums (Nat.le_trans len hn2) room got bind (fun H hT sq => asked H a ns len hT sq) fun H e s' => none_out w H s1 e s'
theorem FnOk.g {P : PySem.Program} {w : World} {K : PySem.W.Frag} {mg : Str → Option Value} {base : Heap} {CX : CXT} {k : Nat} {f : Addr} {fd : FuncData} {ps : List Str} {sp : Sp} (F : FnOk P w K mg base CX k f fd ps sp) : FnG P w K mg base CX k f fd ps sp :=
  ⟨F.len, fun A outer s H args us vs Q E _ hr e0 hb r h => F.run A outer s H args us vs Q E hr e0 hb r h⟩
theorem tab_in_of {K : PySem.W.Frag} {x : Str} {f c P : Addr} {oc oe : Value} {od oo : Option Addr} {fd : FuncData} {osl oz : Array (Option Value)} {vs : Array Value} (h1 : PySem.W.nsIn K mainGlobals x = some (some (.ref f))) (h2 : K.lookup f = some ⟨oc, od, .func fd, osl⟩) (h3 : fd.code = .ref c)
    (h4 : K.lookup c = some ⟨oe, oo, .fields vs, oz⟩) (h5 : (vs[11]? : Option Value) = some (.ref P)) : PySem.W.tabIn K x = some (c, P) := by
  unfold PySem.W.tabIn
  simp only [h1, h2, h3, h4, h5]
/-! ### the def that makes a lambda, its code object known -/
structure FunC (K : PySem.W.Frag) (x qual : Str) (st : Stmt) (f c : Addr) (fd : FuncData) : Prop where
  ex : ∃ (oc : Value) (od : Option Addr) (kV doc pm : Value) (an : Option Addr) (ct : Value) (osl : Array (Option Value)),
    fd = PySem.W.fnOf x qual (defArgs st) (defBody st) (defScope st) .none kV doc pm an (.ref c) ct ∧ K.lookup f = some ⟨oc, od, .func fd, osl⟩ ∧ PySem.W.codeIn K (.ref c) qual = true
  kp : PySem.W.keepIn K (.ref f) = true
section
variable {P : PySem.Program} {w : World} {K : PySem.W.Frag} {mg : Str → Option Value} {base : Heap} {CT : CXT} {k : Nat} {f c : Addr} {fd : FuncData} {ps N : List Str} {sp : Sp} {x qual : Str} {st : Stmt}
theorem FunC.ok (F : FunC K x qual st f c fd) (S : FnScope N ps (defScope st)) (many : ∀ vs H Q E, sp vs H Q E → vs.length = ps.length)
    (hbody : ∀ (A : Around) (outer : List Env) (s : Shared) (H : Hp) (vs : List V) (Q : VK) (E : XK), Room k (A.deeper (envOfC qual (defScope st) s.heap.objs.size f (.ref c))) → sp vs H Q E →
      ∃ t, PSs (cxOf CT P w K mg base N qual (defScope st) f (.ref c) A outer s H E) (defBody st) t ∧ t { nx := fun _ H' => Q .non H', rt := Q } (start N vs) H) : FnOk P w K mg base CT (k + 1) f fd ps sp := by
  obtain ⟨oc, od, kV, doc, pm, an, ct, osl, rfl, lk, hcd⟩ := F.ex
  exact fn_of lk hcd S many fun A outer s H vs Q E hr hsp => hbody A outer s H vs Q E hr hsp
/-- a def that is called by what it is handed to -/
theorem act_fun {M : Addr → Str} {stk : List Env} {H0 : Hp} {s0 : Shared} {j : Nat} (Fu : Fun K x qual st f fd) (F : FnOk P w K mg base CT j f fd ps sp) (hc : CT = CX0 ∨ CT = L2.CX P w) (le : j ≤ k) (hb : Binds K fd ps []) : Act M P w K mg base stk H0 s0 k f sp := by
  obtain ⟨oc, od, kV, doc, pm, an, cd, ct, osl, rfl, lk, _⟩ := Fu.ex
  exact act_fn (F.mono le) hc lk hb
end
end RV

/-! what comes of a term, from its leaves on, left ahead of right; it may be refused -/
namespace RV
open PySem PySem.Spec L2 LamX
open PyProof.Rows hiding St
structure FoldK (α ε : Type) where
  Rv : α → V → Hp → Prop
  lone : Trm → Except ε α
  both : Op3 → α → α → Except ε α
  Er : ε → XK
  good : Trm → Prop
  gop : ∀ {o : Op3} {a b : Trm}, good (.op o a b) → good a ∧ good b
  st : ∀ {x : α} {v : V} {H H' : Hp}, TK H H' → Rv x v H → Rv x v H'
namespace FoldK
variable {α ε : Type} (G : FoldK α ε) (N : Addr → Str)
def fold : Trm → Except ε α
  | .op o a b => match fold a with
    | .error e => .error e
    | .ok x => match fold b with
      | .error e => .error e
      | .ok y => G.both o x y
  | .num i => G.lone (.num i)
  | .name z => G.lone (.name z)
def Ends (H : Hp) (r : Except ε α) (Q : VK) (E : XK) : Prop := match r with
  | .ok x => ∀ v H', Sw N H H' → G.Rv x v H' → Q v H'
  | .error e => ∀ cls d H', Sw N H H' → G.Er e cls d H' → E cls d H'
/-- what is left to do, the next one first, and what was found, the last one first, come to r -/
def Runs (r : Except ε α) : List (Trm × Bool) → List α → Prop
  | [], F => ∃ x, F = [x] ∧ r = .ok x
  | (t, true) :: W, F => ∃ o a b x y R, t = .op o a b ∧ G.good (.op o a b) ∧ G.fold a = .ok x ∧ G.fold b = .ok y ∧ F = y :: x :: R ∧ (match G.both o x y with
    | .ok z => Runs r W (z :: R)
    | .error e => r = .error e)
  | (t, false) :: W, F => G.good t ∧ (match G.fold t with
    | .ok x => Runs r W (x :: F)
    | .error e => r = .error e)
theorem runs_op {r : Except ε α} {o : Op3} {a b : Trm} {W : List (Trm × Bool)} {F : List α} (h : G.Runs r ((.op o a b, false) :: W) F) : G.Runs r ((a, false) :: (b, false) :: (.op o a b, true) :: W) F := by
  obtain ⟨lab, h⟩ := h
  obtain ⟨la, lb⟩ := G.gop lab
  have e : G.fold (.op o a b) = match G.fold a with
    | .error e => .error e
    | .ok x => match G.fold b with
      | .error e => .error e
      | .ok y => G.both o x y := rfl
  rw [e] at h
  refine ⟨la, ?_⟩
  cases ha : G.fold a with
  | error e =>
    rw [ha] at h
    exact h
  | ok x =>
    rw [ha] at h
    refine ⟨lb, ?_⟩
    cases hb : G.fold b with
    | error e =>
      rw [hb] at h
      exact h
    | ok y =>
      rw [hb] at h
      exact ⟨o, a, b, x, y, F, rfl, lab, ha, hb, rfl, h⟩
theorem runs_lone {r : Except ε α} {t : Trm} {W : List (Trm × Bool)} {F : List α} (k : t.kids = []) (h : G.Runs r ((t, false) :: W) F) : G.good t ∧ match G.lone t with
    | .ok x => G.Runs r W (x :: F)
    | .error e => r = .error e := by
  cases t with
  | num i => exact h
  | name z => exact h
  | op o a b => cases k
/-- how much is left -/
def left : List (Trm × Bool) → Nat
  | [] => 0
  | (_, true) :: W => 1 + left W
  | (t, false) :: W => 2 * t.size + left W
theorem left_len : ∀ W : List (Trm × Bool), W.length ≤ left W
  | [] => Nat.le_refl 0
  | (_, true) :: W => by
    have := left_len W
    show W.length + 1 ≤ 1 + left W
    omega
  | (t, false) :: W => by
    have := left_len W
    have := t.size_pos
    show W.length + 1 ≤ 2 * t.size + left W
    omega
theorem left_op {o : Op3} {a b : Trm} {W : List (Trm × Bool)} : left ((a, false) :: (b, false) :: (.op o a b, true) :: W) < left ((.op o a b, false) :: W) := by
  show 2 * a.size + (2 * b.size + (1 + left W)) < 2 * (1 + a.size + b.size) + left W
  omega
theorem left_true {t : Trm} {W : List (Trm × Bool)} : left W < left ((t, true) :: W) := by
  show left W < 1 + left W
  omega
theorem left_false {t : Trm} {W : List (Trm × Bool)} : left W < left ((t, false) :: W) := by
  have := t.size_pos
  show left W < 2 * t.size + left W
  omega
/-- what a fold asks of the two that it calls -/
def SpF : Sp → Sp → Sp := fun s1 s2 vs H Q E => ∃ (v0 : V) (f j : Addr) (t : Trm), vs = [v0, .ref f, .ref j] ∧ TmAt H t v0 ∧ t.size ≤ 100000 ∧ G.good t ∧
  (∀ (t : Trm) (v : V) (H1 : Hp) (Q1 : VK) (E1 : XK), t.kids = [] → G.good t → Sw N H H1 → TmAt H1 t v → G.Ends N H1 (G.lone t) Q1 E1 → s1 [v] H1 Q1 E1) ∧
  (∀ (o : Op3) (x y : α) (vx vy : V) (H1 : Hp) (Q1 : VK) (E1 : XK), (∃ a b, G.good (.op o a b) ∧ G.fold a = .ok x ∧ G.fold b = .ok y) → Sw N H H1 → G.Rv x vx H1 → G.Rv y vy H1 → G.Ends N H1 (G.both o x y) Q1 E1 → s2 [.str o.word, vx, vy] H1 Q1 E1) ∧
  G.Ends N H (G.fold t) Q E
/-- things to do, as they lie in a list -/
abbrev Waits (H : Hp) : List V → List (Trm × Bool) → Prop := All2 fun v t => ∃ p x, v = .ref p ∧ H p = some (.tup [x, .bl t.2]) ∧ TmAt H t.1 x
theorem Waits.tk {H H' : Hp} {xs : List V} {ts : List (Trm × Bool)} (e : TK H H') (h : Waits H xs ts) : Waits H' xs ts := h.imp fun _ _ ⟨p, x, a, b, c⟩ => ⟨p, x, a, e.to _ _ b, c.tk e⟩
abbrev Founds (H : Hp) : List V → List α → Prop := All2 fun v x => G.Rv x v H
theorem founds_tk {H H' : Hp} {xs : List V} {ts : List α} (e : TK H H') (h : G.Founds H xs ts) : G.Founds H' xs ts := h.imp fun _ _ r => G.st e r
end FoldK
theorem SayAt.sw {N : Addr → Str} {C : Addr} {H H' : Hp} {p : Addr} {w : Str} {l r : Trm} (h : SayAt C H p w l r) (e : Sw N H H') : SayAt C H' p w l r := by
  obtain ⟨dx, x, y, a, b, c⟩ := h
  exact ⟨dx, x, y, e.to _ _ a, b.tk e.tk, c.tk e.tk⟩
end RV

/-! dicts with texts as keys: copied, compared, filled, walked by items while nothing is written -/
namespace RV
open PySem PySem.Spec L2
open PyProof.Rows hiding St
section
variable {X : Cx}
def rDictC : List V → Hp → VK → Prop := fun xs H Q => ∃ (a : Addr) (kvs : List (Key × V)), xs = [.ref a] ∧ H a = some (.dK kvs) ∧ ∀ p, H p = none → Q (.ref p) (upd H p (.dK kvs))
/-- dict(d) -/
theorem call_dictC : CallR X (.type "dict") rDictC := by
  intro pins s σ H xs us Q I r h
  obtain ⟨a, kvs, rfl, ea, k⟩ := h
  obtain ⟨u, rfl, ru⟩ := vals1 r
  obtain rfl : u = Value.ref a := ru
  obtain ⟨hl, hs, vs, rel, dd⟩ := (show ObjOk X.prog X.w H s.heap a (.dK kvs) from I.hok a _ ea)
  have e := rel.length
  refine kt_call_dict hs dd (by rw [← e]; exact hl) fun h1 d1 sb => ?_
  have fresh : H s.heap.objs.size = none := I.hok.fresh (Nat.le_refl _)
  have nb : (s.heap.objs.size == sysModules) = false := beq_eq_false_iff_ne.mpr (Nat.ne_of_gt I.big)
  have keep : ∀ b o, s.heap.get? b = some o → h1.get? b = some o := fun b o g => (sb.2 b (Nat.ne_of_lt (Heap.lt_size g))).trans (Heap.get?_push_of_some _ g)
  exact ⟨.ref s.heap.objs.size, _, I.laid (t' := s.toks) keep (Nat.le_refl _) (dk_new hl nb rel d1), rfl, k _ fresh⟩
variable {H : Hp} {Q : VK} {σ : St}
theorem r_dictC {a : Addr} {kvs : List (Key × V)} (h : H a = some (.dK kvs)) (k : ∀ p, H p = none → Q (.ref p) (upd H p (.dK kvs))) : rDictC [.ref a] H Q := ⟨a, kvs, rfl, h, k⟩
/-- one dict and its like -/
theorem r_neDict {a b : Addr} {kvs : List (Key × V)} (ha : H a = some (.dK kvs)) (hb : H b = some (.dK kvs)) (hv : ∀ p ∈ kvs, valV kvs p.1 = some p.2 ∧ flatB p.2 = true) (k : Q (.bl false) H) : rNeDA (.ref a) (.ref b) H Q := ⟨a, b, kvs, kvs, rfl, rfl, ha, hb, rfl, hv, k⟩
theorem r_eqDict {a b : Addr} {kvs : List (Key × V)} (ha : H a = some (.dK kvs)) (hb : H b = some (.dK kvs)) (hv : ∀ p ∈ kvs, valV kvs p.1 = some p.2 ∧ flatB p.2 = true) (k : Q (.bl true) H) : rEqDA (.ref a) (.ref b) H Q := ⟨a, b, kvs, kvs, rfl, rfl, ha, hb, rfl, hv, k⟩
/-- d[text] = v -/
theorem r_dput {td ty tv : TE} {D : Ends} (h : tv σ H fun v H1 => td σ H1 fun x H2 => ty σ H2 fun y H3 => ∃ a H4, x = .ref a ∧ DPut H3 a y v H4 ∧ D.nx σ H4) : sDPut td ty tv D σ H := h
theorem r_putS {d : Addr} {kvs : List (Key × V)} {n : Str} {v : V} {P : Hp → Prop} (h : H d = some (.dK kvs)) (z : kvs.length < sizeLine) (k : P (upd H d (.dK (putK kvs (Sum.inr n : Key) v)))) : ∃ a H', V.ref d = .ref a ∧ DPut H a (.str n) v H' ∧ P H' := ⟨d, _, rfl, DPut.k (k := Sum.inr n) h z, k⟩

theorem r_getS {d : Addr} {kvs : List (Key × V)} {n : Str} {v : V} {P : V → Prop} (h : H d = some (.dK kvs)) (e : valV kvs (Sum.inr n : Key) = some v) (k : P v) : ∃ a v', V.ref d = .ref a ∧ DGet H a (.str n) (some v') ∧ P v' := ⟨d, v, rfl, e ▸ DGet.k (k := Sum.inr n) h, k⟩
theorem r_dg2 {td ty tx : TE} (h : td σ H fun x H1 => ∃ a, x = .ref a ∧ IsD H1 a ∧ ty σ H1 fun y H2 => tx σ H2 fun z H3 => ∃ o, DGet H3 a y o ∧ Q (o.getD z) H3) : tDGet2 td ty tx σ H Q := h
theorem r_isD {d : Addr} {kvs : List (Key × V)} {P : Addr → Prop} (h : H d = some (.dK kvs)) (k : P d) : ∃ a, V.ref d = .ref a ∧ IsD H a ∧ P a := ⟨d, rfl, .inl ⟨_, .inl h⟩, k⟩
theorem r_getO {d : Addr} {kvs : List (Key × V)} {n : Str} {P : Option V → Prop} (h : H d = some (.dK kvs)) (k : P (valV kvs (Sum.inr n : Key))) : ∃ o, DGet H d (.str n) o ∧ P o := ⟨_, DGet.k (k := Sum.inr n) h, k⟩
end
theorem units_lt {k : Nat} {A : Around} (r : Room k A) : A.units < cLine := by
  have := r.units
  omega
/-- each key stands once -/
def Uniq (kvs : List (Key × V)) : Prop := ∀ p ∈ kvs, valV kvs p.1 = some p.2
theorem Uniq.nil : Uniq [] := fun p h => by cases h
theorem valV_mem {kvs : List (Key × V)} {k : Key} {v : V} (h : valV kvs k = some v) : (k, v) ∈ kvs := by
  unfold valV at h
  obtain ⟨p, hp, rfl⟩ := Option.map_eq_some_iff.mp h
  have h1 := List.mem_of_find?_eq_some hp
  have h2 := List.find?_some hp
  have h3 : p.1 = k := of_decide_eq_true h2
  rw [← h3]
  exact h1
theorem putK_mem {kvs : List (Key × V)} {k : Key} {v : V} {p : Key × V} (h : p ∈ putK kvs k v) : p = (k, v) ∨ (p ∈ kvs ∧ p.1 ≠ k) := by
  unfold putK at h
  split at h
  · obtain ⟨q, hq, e⟩ := List.mem_map.mp h
    by_cases g : q.1 = k
    · rw [if_pos g] at e
      exact .inl (by rw [← e, g])
    · rw [if_neg g] at e
      exact .inr ⟨e ▸ hq, e ▸ g⟩
  · rename_i n
    rcases List.mem_append.mp h with h | h
    · refine .inr ⟨h, fun e => n ?_⟩
      exact List.any_eq_true.mpr ⟨p, h, decide_eq_true e⟩
    · exact .inl (List.mem_singleton.mp h)
theorem Uniq.put {kvs : List (Key × V)} (h : Uniq kvs) (k : Key) (v : V) : Uniq (putK kvs k v) := by
  intro p hp
  rw [valV_put]
  rcases putK_mem hp with rfl | ⟨h1, h2⟩
  · exact if_pos rfl
  · rw [if_neg h2]
    exact h p h1
theorem Uniq.merge : ∀ {more kvs : List (Key × V)}, Uniq kvs → Uniq (mergeK kvs more)
  | [], _, h => h
  | p :: r, _, h => Uniq.merge (more := r) (h.put p.1 p.2)
theorem merge_mem : ∀ {more kvs : List (Key × V)} {p : Key × V}, p ∈ mergeK kvs more → p ∈ kvs ∨ p ∈ more
  | [], _, _, h => .inl h
  | q :: r, kvs, p, h => by
    rcases merge_mem (more := r) (kvs := putK kvs q.1 q.2) h with h | h
    · rcases putK_mem h with e | e
      · exact .inr (by rw [e]; exact List.mem_cons_self)
      · exact .inl e.1
    · exact .inr (List.mem_cons_of_mem _ h)
/-! names that give way -/
def TxtD (p : Str → Prop) (kvs : List (Key × V)) : Prop := Uniq kvs ∧ ∀ q ∈ kvs, ∃ x y, q = ((Sum.inr x : Key), V.str y) ∧ p x ∧ p y
def way (kvs : List (Key × V)) (z : Str) : Str := match valV kvs (Sum.inr z : Key) with
  | some (.str y) => y
  | _ => z
theorem TxtD.find {p : Str → Prop} {kvs : List (Key × V)} (h : TxtD p kvs) (z : Str) : (valV kvs (Sum.inr z : Key) = none ∧ way kvs z = z) ∨ ∃ y, valV kvs (Sum.inr z : Key) = some (.str y) ∧ way kvs z = y ∧ p y := by
  cases e : valV kvs (Sum.inr z : Key) with
  | none => exact .inl ⟨rfl, by unfold way; rw [e]⟩
  | some v =>
    obtain ⟨x, y, q, _, hy⟩ := h.2 _ (valV_mem e)
    have hv : v = V.str y := congrArg Prod.snd q
    subst hv
    exact .inr ⟨y, rfl, by unfold way; rw [e], hy⟩
theorem TxtD.getD {p : Str → Prop} {kvs : List (Key × V)} (h : TxtD p kvs) (z : Str) : (valV kvs (Sum.inr z : Key)).getD (.str z) = .str (way kvs z) := by
  rcases h.find z with ⟨e1, e2⟩ | ⟨y, e1, e2, _⟩
  · rw [e1, e2]
    rfl
  · rw [e1, e2]
    rfl
theorem TxtD.flat {p : Str → Prop} {kvs : List (Key × V)} (h : TxtD p kvs) : ∀ q ∈ kvs, valV kvs q.1 = some q.2 ∧ flatB q.2 = true := fun q hq => by
  obtain ⟨x, y, e, _⟩ := h.2 q hq
  exact ⟨h.1 q hq, by rw [e]; rfl⟩
theorem TxtD.nil {p : Str → Prop} : TxtD p [] := ⟨Uniq.nil, fun q h => by cases h⟩
theorem TxtD.put {p : Str → Prop} {kvs : List (Key × V)} {x y : Str} (h : TxtD p kvs) (hx : p x) (hy : p y) : TxtD p (putK kvs (Sum.inr x : Key) (.str y)) := by
  refine ⟨h.1.put _ _, fun q hq => ?_⟩
  rcases putK_mem hq with rfl | ⟨h1, _⟩
  · exact ⟨x, y, rfl, hx, hy⟩
  · exact h.2 q h1
theorem TxtD.turn {p : Str → Prop} {more : List (Key × V)} (h : ∀ q ∈ more, ∃ x y, q = ((Sum.inr x : Key), V.str y) ∧ p x ∧ p y) : TxtD p (mergeK [] more) :=
  ⟨Uniq.merge Uniq.nil, fun q hq => (merge_mem hq).elim (fun z => by cases z) (h q)⟩
theorem paired_snoc {α β : Type} {F : α → β → Prop} {xs : List α} {ys : List β} (h : Paired F xs ys) {x : α} {y : β} (r : F x y) : Paired F (xs ++ [x]) (ys ++ [y]) := by
  induction h with
  | nil => exact .cons r .nil
  | cons q _ ih => exact .cons q ih
/-- key and value exchanged -/
def turned : Key × V → Key × V
  | (.inr x, .str y) => (.inr y, .str x)
  | q => q
theorem TxtD.turned {p : Str → Prop} {kvs : List (Key × V)} (h : TxtD p kvs) : TxtD p (mergeK [] (kvs.map RV.turned)) := TxtD.turn fun q hq => by
  obtain ⟨r, hr, rfl⟩ := List.mem_map.mp hq
  obtain ⟨x, y, rfl, hx, hy⟩ := h.2 r hr
  exact ⟨y, x, rfl, hy, hx⟩
def Trm.led (f : Str → Str) : Trm → Trm
  | .num i => .num i
  | .name z => .name (f z)
  | .op o a b => .op o (a.led f) (b.led f)
theorem Trm.led_size (f : Str → Str) : ∀ t : Trm, (t.led f).size = t.size
  | .num _ => rfl
  | .name _ => rfl
  | .op o a b => by
    show 1 + (a.led f).size + (b.led f).size = _
    rw [Trm.led_size f a, Trm.led_size f b]
    rfl
theorem Trm.led_deep (f : Str → Str) : ∀ t : Trm, (t.led f).deep = t.deep
  | .num _ => rfl
  | .name _ => rfl
  | .op o a b => by
    show 1 + max (a.led f).deep (b.led f).deep = _
    rw [Trm.led_deep f a, Trm.led_deep f b]
    rfl
/-- a name that can be written -/
def okZ (z : Str) : Prop := ∃ l, z = SX.S l ∧ Low l ∧ l.length ≤ 12
theorem Trm.led_okS {f : Str → Str} (h : ∀ z, okZ z → okZ (f z)) : ∀ {t : Trm}, t.okS → (t.led f).okS
  | .num _, g => g
  | .name z, g => h z g
  | .op _ _ _, g => ⟨Trm.led_okS h g.1, Trm.led_okS h g.2⟩
theorem TxtD.okZ {kvs : List (Key × V)} (h : TxtD okZ kvs) : ∀ z, RV.okZ z → RV.okZ (way kvs z) := fun z g => by
  rcases h.find z with ⟨_, e⟩ | ⟨y, _, e, hy⟩
  · rw [e]
    exact g
  · rw [e]
    exact hy
/-! tuples and dicts stay -/
structure TD (H H' : Hp) : Prop where
  t : TK H H'
  d : ∀ a kvs, H a = some (.dK kvs) → H' a = some (.dK kvs)
theorem Sm.td {H H' : Hp} (e : Sm H H') : TD H H' := ⟨e.tk, fun a kvs h => e.to _ _ h⟩
theorem Sw.td {N : Addr → Str} {H H' : Hp} (e : Sw N H H') : TD H H' := ⟨e.tk, fun a kvs h => e.to _ _ h⟩
theorem lst_td {H : Hp} {D : Addr} {xs ys : List V} (h : H D = some (.lst xs)) : TD H (upd H D (.lst ys)) := ⟨lst_tk h, fun a kvs e => by
  rw [upd_ne (ne_of e h (by intro z; cases z))]
  exact e⟩
theorem Chg.td {b : Addr} {H H' : Hp} (hb : BoxAt H b) (e : Chg b H H') : TD H H' := ⟨Chg.tk hb e, fun a kvs h => e.to _ _ (by
  obtain ⟨c, s, g⟩ := hb
  exact ne_of h g (by intro z; cases z)) h⟩
theorem TD.trans {H H1 H2 : Hp} (a : TD H H1) (b : TD H1 H2) : TD H H2 := ⟨a.t.trans b.t, fun x kvs h => b.d _ _ (a.d _ _ h)⟩
/-! what is locked, then free again -/
theorem lock_ne {H : Hp} {d : Addr} {u v : HO} : (upd H d u) d = some u := upd_same
theorem unlock_sm {H H2 : Hp} {d : Addr} {u v : HO} (h : H d = some u) (e : Sm (upd H d v) H2) : Sm H (upd H2 d u) := ⟨fun b o g => by
  by_cases n : b = d
  · subst n
    rw [h] at g
    cases g
    exact upd_same
  · rw [upd_ne n]
    exact e.to b o (by rw [upd_ne n]; exact g)⟩
theorem unlock_sw {N : Addr → Str} {H H2 : Hp} {d : Addr} {xs : List (Key × V)} {v : HO} (h : H d = some (.dK xs)) (e : Sm (upd H d v) H2) : Sw N H (upd H2 d (.dK xs)) := (unlock_sm h e).sw
end RV

/-! products and powers of bounded numbers, their heads -/
namespace RV
open PySem PySem.Spec L2
open PyProof.Rows hiding St
abbrev bl (n : Int) : Nat := Builtin.Int.intBits n
theorem bl_lt {n : Int} (h : 0 ≤ n) : n.toNat < 2 ^ bl n := by
  have := (PySem.intBits_le_iff (x := n)).mp (Nat.le_refl _)
  show n.toNat < 2 ^ Builtin.Int.intBits n
  omega
theorem bl_le {n : Int} {k : Nat} (h : 0 ≤ n) (g : n.toNat < 2 ^ k) : bl n ≤ k := by
  refine PySem.intBits_le_iff.mpr ?_
  omega
/-- from below -/
theorem bl_ge {n : Int} {k : Nat} (h : 0 ≤ n) (g : 2 ^ k ≤ n.toNat) : k + 1 ≤ bl n := by
  have h1 := bl_lt h
  rcases Nat.lt_or_ge k (bl n) with z | z
  · exact z
  · have := Nat.pow_le_pow_right (show 0 < 2 by decide) z
    omega
theorem bl_pos {n : Int} (h : 1 ≤ n) : 1 ≤ bl n := bl_ge (k := 0) (by omega) (by show 1 ≤ n.toNat; omega)
theorem bl_mono {m n : Int} (h0 : 0 ≤ m) (h : m ≤ n) : bl m ≤ bl n := bl_le h0 (Nat.lt_of_le_of_lt (by omega) (bl_lt (by omega)))
/-- the greatest bit -/
theorem bl_top {n : Int} (h : 1 ≤ n) : 2 ^ (bl n - 1) ≤ n.toNat := by
  rcases Nat.lt_or_ge n.toNat (2 ^ (bl n - 1)) with z | z
  · have h1 := bl_le (by omega) z
    have h2 := bl_pos h
    omega
  · exact z
theorem bl_mul {a b : Int} (ha : 0 ≤ a) (hb : 0 ≤ b) : bl (a * b) ≤ bl a + bl b := by
  refine bl_le (Int.mul_nonneg ha hb) ?_
  rw [Int.toNat_mul ha hb, Nat.pow_add]
  exact Nat.mul_lt_mul'' (bl_lt ha) (bl_lt hb)
theorem bl_zero : bl 0 = 0 := by decide
theorem bl_one : bl 1 = 1 := by decide
/-- the head of a number: its greatest bits m, p places behind them -/
structure Hd (n m p : Int) : Prop where
  n1 : 1 ≤ n
  m1 : 1 ≤ m
  p0 : 0 ≤ p
  le : m.toNat * 2 ^ p.toNat ≤ n.toNat
  few : bl m ≤ 128
theorem Hd.bits {n m p : Int} (h : Hd n m p) : (bl m : Int) + p ≤ bl n := by
  have h1 := bl_top h.m1
  have h2 := bl_pos h.m1
  have h3 : 2 ^ (bl m - 1) * 2 ^ p.toNat ≤ n.toNat := Nat.le_trans (Nat.mul_le_mul_right _ h1) h.le
  rw [← Nat.pow_add] at h3
  have h4 := bl_ge (by have := h.n1; omega) h3
  have h5 := h.p0
  omega
/-- a head cut short -/
theorem Hd.cut {n b p : Int} (hn : 1 ≤ n) (hb : 1 ≤ b) (hp : 0 ≤ p) (h : b.toNat * 2 ^ p.toNat ≤ n.toNat) {k : Int} (hk0 : 0 ≤ k) (hk : k = 0 ∨ k = (bl b : Int) - 128) (hk2 : (bl b : Int) - 128 ≤ k) : Hd n (b / 2 ^ k.toNat) (p + k) := by
  obtain ⟨j, rfl⟩ := Int.eq_ofNat_of_zero_le hk0
  obtain ⟨c, rfl⟩ := Int.eq_ofNat_of_zero_le (show 0 ≤ b by omega)
  obtain ⟨q, rfl⟩ := Int.eq_ofNat_of_zero_le hp
  have e : ((c : Int) / 2 ^ ((j : Nat) : Int).toNat) = ((c / 2 ^ j : Nat) : Int) := by
    rw [Int.toNat_natCast, Int.natCast_ediv, Int.natCast_pow]
    rfl
  have e2 : ((q : Int) + (j : Int)).toNat = q + j := by omega
  rw [e]
  have top : 2 ^ (bl (c : Int) - 1) ≤ c := by
    have := bl_top hb
    rwa [Int.toNat_natCast] at this
  have lt : c < 2 ^ bl (c : Int) := by
    have := bl_lt (show (0 : Int) ≤ (c : Int) by omega)
    rwa [Int.toNat_natCast] at this
  have bp := bl_pos hb
  have jle : j ≤ bl (c : Int) - 1 := by omega
  have one : 1 ≤ c / 2 ^ j := by
    refine (Nat.le_div_iff_mul_le (Nat.two_pow_pos j)).mpr ?_
    rw [Nat.one_mul]
    exact Nat.le_trans (Nat.pow_le_pow_right (by decide) jle) top
  refine ⟨hn, by omega, by omega, ?_, ?_⟩
  · rw [e2, Int.toNat_natCast, Nat.add_comm q j, Nat.pow_add, ← Nat.mul_assoc]
    refine Nat.le_trans (Nat.mul_le_mul_right _ (Nat.div_mul_le_self c (2 ^ j))) ?_
    rw [Int.toNat_natCast, Int.toNat_natCast] at h
    exact h
  · refine bl_le (by omega) ?_
    rw [Int.toNat_natCast]
    refine Nat.div_lt_of_lt_mul ?_
    rw [← Nat.pow_add]
    exact Nat.lt_of_lt_of_le lt (Nat.pow_le_pow_right (by decide) (by omega))
theorem Hd.mul {n1 m1 p1 n2 m2 p2 : Int} (h : Hd n1 m1 p1) (g : Hd n2 m2 p2) : 1 ≤ n1 * n2 ∧ 1 ≤ m1 * m2 ∧ 0 ≤ p1 + p2 ∧ (m1 * m2).toNat * 2 ^ (p1 + p2).toNat ≤ (n1 * n2).toNat := by
  have a1 := h.n1
  have a2 := g.n1
  have b1 := h.m1
  have b2 := g.m1
  have c1 := h.p0
  have c2 := g.p0
  have e1 : 1 ≤ n1 * n2 := by have := Int.mul_le_mul a1 a2 (by decide) (by omega); omega
  have e2 : 1 ≤ m1 * m2 := by have := Int.mul_le_mul b1 b2 (by decide) (by omega); omega
  refine ⟨e1, e2, by omega, ?_⟩
  rw [Int.toNat_mul (by omega) (by omega), Int.toNat_mul (by omega) (by omega), show (p1 + p2).toNat = p1.toNat + p2.toNat by omega, Nat.pow_add]
  have := Nat.mul_le_mul h.le g.le
  have e : m1.toNat * m2.toNat * (2 ^ p1.toNat * 2 ^ p2.toNat) = m1.toNat * 2 ^ p1.toNat * (m2.toNat * 2 ^ p2.toNat) := by ac_rfl
  rw [e]
  exact this
/-- a power of a base from 2 on has more bits than the exponent tells -/
theorem bl_pow {b : Int} (h : 2 ≤ b) (e : Nat) : e + 1 ≤ bl (b ^ e) := by
  obtain ⟨c, rfl⟩ := Int.eq_ofNat_of_zero_le (show 0 ≤ b by omega)
  have e1 : ((c : Int) ^ e) = ((c ^ e : Nat) : Int) := by rw [Int.natCast_pow]
  rw [e1]
  refine bl_ge (by omega) ?_
  rw [Int.toNat_natCast]
  exact Nat.pow_le_pow_left (by omega) e
theorem ipow_nonneg {b : Int} (h : 0 ≤ b) (e : Nat) : 0 ≤ b ^ e := by
  obtain ⟨c, rfl⟩ := Int.eq_ofNat_of_zero_le h
  rw [← Int.natCast_pow]
  omega
theorem ipow_mono {b : Int} (h : 1 ≤ b) {i j : Nat} (g : i ≤ j) : b ^ i ≤ b ^ j := by
  obtain ⟨c, rfl⟩ := Int.eq_ofNat_of_zero_le (show 0 ≤ b by omega)
  rw [← Int.natCast_pow, ← Int.natCast_pow]
  exact Int.ofNat_le.mpr (Nat.pow_le_pow_right (by omega) g)
theorem ipow_pos {b : Int} (h : 1 ≤ b) (e : Nat) : 1 ≤ b ^ e := by
  have := ipow_mono h (Nat.zero_le e)
  rwa [Int.pow_zero] at this
/-- the number that so many greatest bits tell -/
def pre (n i : Nat) : Nat := bitsNum ((bin n).take i)
theorem pre_zero (n : Nat) : pre n 0 = 0 := rfl
theorem pre_all (n : Nat) : pre n (bin n).length = n := by
  unfold pre
  rw [List.take_length]
  exact bitsNum_bin n
theorem pre_succ {n i c : Nat} (h : (bin n)[i]? = some c) : pre n (i + 1) = 2 * pre n i + (c - 48) := by
  unfold pre
  rw [List.take_add_one, h]
  show bitsNum ((bin n).take i ++ [c]) = _
  rw [bitsNum_snoc]
  omega
theorem pre_le (n : Nat) : ∀ k i, i + k = (bin n).length → pre n i ≤ n
  | 0, i, h => by
    have : i = (bin n).length := by omega
    rw [this, pre_all]
    exact Nat.le_refl _
  | k + 1, i, h => by
    have ih := pre_le n k (i + 1) (by omega)
    obtain ⟨c, hc⟩ : ∃ c, (bin n)[i]? = some c := ⟨_, List.getElem?_eq_getElem (by omega)⟩
    rw [pre_succ hc] at ih
    omega
theorem pre_le' {n i : Nat} (h : i ≤ (bin n).length) : pre n i ≤ n := pre_le n ((bin n).length - i) i (by omega)
theorem bin_len_le {n k : Nat} (h : n < 2 ^ (k + 1)) : (bin n).length ≤ k + 1 := bin_len n k h
end RV

/-! what a term comes to by an answer -/
namespace RV
open PySem PySem.Spec L2
open PyProof.Rows hiding St
def opW : Op3 → Int → Int → Int
  | .plus, x, y => x + y
  | .times, x, y => x * y
  | .power, x, y => x ^ y.toNat
theorem opW_nn {o : Op3} {x y : Int} (hx : 0 ≤ x) (hy : 0 ≤ y) : 0 ≤ opW o x y := by
  cases o with
  | plus => exact Int.add_nonneg hx hy
  | times => exact Int.mul_nonneg hx hy
  | power => exact ipow_nonneg hx _
def ansW (kvs : List (Key × V)) (z : Str) : Int := match valV kvs (Sum.inr z : Key) with
  | some (.int n) => n
  | _ => 0
def Trm.worth (f : Str → Int) : Trm → Int
  | .num i => i
  | .name z => f z
  | .op o a b => opW o (a.worth f) (b.worth f)
/-- each name has a number, and no part is too great -/
def Trm.fine (kvs : List (Key × V)) : Trm → Prop
  | .num i => 0 ≤ i ∧ bl i ≤ 1000000
  | .name z => ∃ n, valV kvs (Sum.inr z : Key) = some (.int n) ∧ 0 ≤ n ∧ bl n ≤ 1000000
  | .op o a b => a.fine kvs ∧ b.fine kvs ∧ bl ((Trm.op o a b).worth (ansW kvs)) ≤ 1000000
theorem ansW_at {kvs : List (Key × V)} {z : Str} {n : Int} (h : valV kvs (Sum.inr z : Key) = some (.int n)) : ansW kvs z = n := by
  unfold ansW
  rw [h]
theorem Trm.fine.ok {kvs : List (Key × V)} : ∀ {t : Trm}, t.fine kvs → 0 ≤ t.worth (ansW kvs) ∧ bl (t.worth (ansW kvs)) ≤ 1000000
  | .num _, h => h
  | .name z, h => by
    obtain ⟨n, e, h1, h2⟩ := h
    show 0 ≤ ansW kvs z ∧ bl (ansW kvs z) ≤ 1000000
    rw [ansW_at e]
    exact ⟨h1, h2⟩
  | .op o a b, h => ⟨opW_nn (Trm.fine.ok h.1).1 (Trm.fine.ok h.2.1).1, h.2.2⟩
def worK (kvs : List (Key × V)) : FoldK Int Empty where
  Rv := fun n v _ => v = .int n
  lone := fun t => .ok (t.worth (ansW kvs))
  both := fun o x y => .ok (opW o x y)
  Er := fun e => e.elim
  good := fun t => t.fine kvs
  gop := fun h => ⟨h.1, h.2.1⟩
  st := fun _ h => h
theorem worK_fold (kvs : List (Key × V)) : ∀ t : Trm, (worK kvs).fold t = .ok (t.worth (ansW kvs))
  | .num _ => rfl
  | .name _ => rfl
  | .op o a b => by
    unfold FoldK.fold
    rw [worK_fold kvs a, worK_fold kvs b]
    rfl
/-! answers: numbers by names -/
def AnsD (B : Nat) (kvs : List (Key × V)) : Prop := Uniq kvs ∧ ∀ q ∈ kvs, ∃ (x : Str) (n : Int), q = ((Sum.inr x : Key), V.int n) ∧ 0 ≤ n ∧ bl n ≤ B
theorem AnsD.nil {B : Nat} : AnsD B [] := ⟨Uniq.nil, fun q h => by cases h⟩
theorem AnsD.put {B : Nat} {kvs : List (Key × V)} {x : Str} {n : Int} (h : AnsD B kvs) (h0 : 0 ≤ n) (h1 : bl n ≤ B) : AnsD B (putK kvs (Sum.inr x : Key) (.int n)) := by
  refine ⟨h.1.put _ _, fun q hq => ?_⟩
  rcases putK_mem hq with rfl | ⟨h2, _⟩
  · exact ⟨x, n, rfl, h0, h1⟩
  · exact h.2 q h2
theorem AnsD.up {B B' : Nat} {kvs : List (Key × V)} (h : AnsD B kvs) (g : B ≤ B') : AnsD B' kvs := ⟨h.1, fun q hq => by
  obtain ⟨x, n, e, h0, h1⟩ := h.2 q hq
  exact ⟨x, n, e, h0, Nat.le_trans h1 g⟩⟩
theorem AnsD.find {B : Nat} {kvs : List (Key × V)} (h : AnsD B kvs) {z : Str} {v : V} (e : valV kvs (Sum.inr z : Key) = some v) : ∃ n, v = .int n ∧ 0 ≤ n ∧ bl n ≤ B := by
  obtain ⟨x, n, q, h0, h1⟩ := h.2 _ (valV_mem e)
  exact ⟨n, congrArg Prod.snd q, h0, h1⟩
theorem AnsD.flat {B : Nat} {kvs : List (Key × V)} (h : AnsD B kvs) : ∀ q ∈ kvs, valV kvs q.1 = some q.2 ∧ flatB q.2 = true := fun q hq => by
  obtain ⟨x, n, e, _⟩ := h.2 q hq
  exact ⟨h.1 q hq, by rw [e]; rfl⟩
/-- the answer has these names -/
def HasN (kvs : List (Key × V)) (zs : List Str) : Prop := ∀ z ∈ zs, ∃ v, valV kvs (Sum.inr z : Key) = some v
theorem HasN.put {kvs : List (Key × V)} {zs : List Str} (h : HasN kvs zs) (k : Key) (v : V) : HasN (putK kvs k v) zs := fun z hz => by
  rw [valV_put]
  by_cases e : (Sum.inr z : Key) = k
  · rw [if_pos e]
    exact ⟨v, rfl⟩
  · rw [if_neg e]
    exact h z hz
theorem HasN.new {kvs : List (Key × V)} {zs : List Str} (h : HasN kvs zs) (z : Str) (v : V) : HasN (putK kvs (Sum.inr z : Key) v) (zs ++ [z]) := fun y hy => by
  rcases List.mem_append.mp hy with hy | hy
  · exact h.put _ _ y hy
  · rw [List.mem_singleton.mp hy, valV_put, if_pos rfl]
    exact ⟨v, rfl⟩
/-- names of a list, numbers of so many bits at most, powers to 4 -/
def Trm.tame (zs : List Str) (B : Nat) : Trm → Prop
  | .num i => 0 ≤ i ∧ bl i ≤ B
  | .name z => z ∈ zs
  | .op .power a b => a.tame zs B ∧ ∃ j, b = .num j ∧ 0 ≤ j ∧ j ≤ 4
  | .op _ a b => a.tame zs B ∧ b.tame zs B
theorem bl_add {a b : Int} {k : Nat} (ha : 0 ≤ a) (hb : 0 ≤ b) (h1 : bl a ≤ k) (h2 : bl b ≤ k) : bl (a + b) ≤ k + 1 := by
  refine bl_le (Int.add_nonneg ha hb) ?_
  have g1 := Nat.lt_of_lt_of_le (bl_lt ha) (Nat.pow_le_pow_right (show 0 < 2 by decide) h1)
  have g2 := Nat.lt_of_lt_of_le (bl_lt hb) (Nat.pow_le_pow_right (show 0 < 2 by decide) h2)
  rw [Nat.pow_succ]
  omega
theorem bl_ipow {a : Int} (ha : 0 ≤ a) : ∀ e : Nat, bl (a ^ e) ≤ e * bl a + 1
  | 0 => by
    rw [Int.pow_zero, bl_one]
    omega
  | e + 1 => by
    have ih := bl_ipow ha e
    cases e with
    | zero =>
      rw [Int.pow_succ, Int.pow_zero, Int.one_mul]
      omega
    | succ e =>
      rw [Int.pow_succ]
      have := bl_mul (ipow_nonneg ha (e + 1)) ha
      rw [Nat.succ_mul]
      omega
/-- the bits of such a term -/
def grow (B : Nat) : Nat → Nat
  | 0 => B
  | d + 1 => 4 * grow B d + 1
theorem grow_mono (B : Nat) : ∀ {d e : Nat}, d ≤ e → grow B d ≤ grow B e
  | d, 0, h => by
    have : d = 0 := by omega
    rw [this]
    exact Nat.le_refl _
  | d, e + 1, h => by
    rcases Nat.lt_or_ge d (e + 1) with g | g
    · have ih := grow_mono B (d := d) (e := e) (by omega)
      show grow B d ≤ 4 * grow B e + 1
      omega
    · have : d = e + 1 := by omega
      rw [this]
      exact Nat.le_refl _
theorem Trm.tame.fine {zs : List Str} {B : Nat} {kvs : List (Key × V)} (hB : 1 ≤ B) (ha : AnsD B kvs) (hn : HasN kvs zs) : ∀ {t : Trm} (d : Nat), t.tame zs B → t.deep ≤ d → grow B d ≤ 1000000 → t.fine kvs ∧ bl (t.worth (ansW kvs)) ≤ grow B d
  | .num i, d, h, _, g => by
    have h : 0 ≤ i ∧ bl i ≤ B := h
    have m := grow_mono B (Nat.zero_le d)
    have m : B ≤ grow B d := m
    exact ⟨⟨h.1, by omega⟩, by show bl i ≤ _; omega⟩
  | .name z, d, h, _, g => by
    obtain ⟨v, e⟩ := hn z h
    obtain ⟨n, rfl, h0, h1⟩ := ha.find e
    have m := grow_mono B (Nat.zero_le d)
    have m : B ≤ grow B d := m
    refine ⟨⟨n, e, h0, by omega⟩, ?_⟩
    show bl (ansW kvs z) ≤ _
    rw [ansW_at e]
    omega
  | .op o a b, 0, _, hd, _ => by
    have : 1 + max a.deep b.deep ≤ 0 := hd
    omega
  | .op o a b, d + 1, h, hd, g => by
    have hd : 1 + max a.deep b.deep ≤ d + 1 := hd
    have g : 4 * grow B d + 1 ≤ 1000000 := g
    have fin : ∀ {a b : Trm}, a.fine kvs → b.fine kvs → bl ((Trm.op o a b).worth (ansW kvs)) ≤ 4 * grow B d + 1 → (Trm.op o a b).fine kvs ∧ bl ((Trm.op o a b).worth (ansW kvs)) ≤ grow B (d + 1) := fun fa fb m => ⟨⟨fa, fb, by omega⟩, m⟩
    cases o with
    | plus =>
      obtain ⟨ta, tb⟩ : a.tame zs B ∧ b.tame zs B := h
      obtain ⟨fa, wa⟩ := Trm.tame.fine hB ha hn d ta (by omega) (by omega)
      obtain ⟨fb, wb⟩ := Trm.tame.fine hB ha hn d tb (by omega) (by omega)
      refine fin fa fb ?_
      have := bl_add fa.ok.1 fb.ok.1 wa wb
      show bl (a.worth (ansW kvs) + b.worth (ansW kvs)) ≤ _
      omega
    | times =>
      obtain ⟨ta, tb⟩ : a.tame zs B ∧ b.tame zs B := h
      obtain ⟨fa, wa⟩ := Trm.tame.fine hB ha hn d ta (by omega) (by omega)
      obtain ⟨fb, wb⟩ := Trm.tame.fine hB ha hn d tb (by omega) (by omega)
      refine fin fa fb ?_
      have := bl_mul fa.ok.1 fb.ok.1
      show bl (a.worth (ansW kvs) * b.worth (ansW kvs)) ≤ _
      omega
    | power =>
      obtain ⟨ta, j, rfl, j0, j4⟩ : a.tame zs B ∧ ∃ j, b = .num j ∧ 0 ≤ j ∧ j ≤ 4 := h
      obtain ⟨fa, wa⟩ := Trm.tame.fine hB ha hn d ta (by omega) (by omega)
      have fj : (Trm.num j).fine kvs := ⟨j0, Nat.le_trans (bl_le (k := 3) j0 (by show j.toNat < 8; omega)) (by decide)⟩
      refine fin fa fj ?_
      have := bl_ipow fa.ok.1 j.toNat
      have m : j.toNat * bl (a.worth (ansW kvs)) ≤ 4 * grow B d := Nat.mul_le_mul (by omega) wa
      show bl (a.worth (ansW kvs) ^ j.toNat) ≤ _
      omega
theorem bl_of_lt {n : Int} {k : Nat} (h : 0 ≤ n) (g : n < 2 ^ k) : bl n ≤ k := by
  refine bl_le h ?_
  have e : ((2 ^ k : Nat) : Int) = (2 : Int) ^ k := by rw [Int.natCast_pow]; rfl
  omega
/-! the law's own worth -/
/-- powers to 4 of numbers that are not too great -/
def Trm.wk (kvs : List (Key × V)) : Trm → Prop
  | .num _ => True
  | .name z => ∃ n, valV kvs (Sum.inr z : Key) = some (.int n)
  | .op .plus a b => a.wk kvs ∧ b.wk kvs
  | .op .times a b => a.wk kvs ∧ b.wk kvs ∧ 0 ≤ a.worth (ansW kvs) ∧ 0 ≤ b.worth (ansW kvs) ∧ bl (a.worth (ansW kvs)) ≤ 120000 ∧ bl (b.worth (ansW kvs)) ≤ 120000
  | .op .power a b => a.wk kvs ∧ (∃ j, b = .num j ∧ 0 ≤ j ∧ j ≤ 4) ∧ 0 ≤ a.worth (ansW kvs) ∧ bl (a.worth (ansW kvs)) ≤ 120000
theorem Trm.tame.wk {zs : List Str} {B : Nat} {kvs : List (Key × V)} (hB : 1 ≤ B) (ha : AnsD B kvs) (hn : HasN kvs zs) : ∀ {t : Trm} (d : Nat), t.tame zs B → t.deep ≤ d + 1 → grow B d ≤ 120000 → t.wk kvs
  | .num _, _, _, _, _ => trivial
  | .name z, _, h, _, _ => by
    obtain ⟨v, e⟩ := hn z h
    obtain ⟨n, rfl, _⟩ := ha.find e
    exact ⟨n, e⟩
  | .op o a b, d, h, hd, g => by
    have hd : 1 + max a.deep b.deep ≤ d + 1 := hd
    have sub : ∀ {t : Trm}, t.tame zs B → t.deep ≤ d → t.wk kvs := fun {t} ht hl => by
      cases d with
      | zero =>
        cases t with
        | num _ => trivial
        | name z =>
          obtain ⟨v, e⟩ := hn z ht
          obtain ⟨n, rfl, _⟩ := ha.find e
          exact ⟨n, e⟩
        | op o a b =>
          have : 1 + max a.deep b.deep ≤ 0 := hl
          omega
      | succ d => exact Trm.tame.wk hB ha hn d ht hl (Nat.le_trans (grow_mono B (Nat.le_succ d)) g)
    have num : ∀ {t : Trm}, t.tame zs B → t.deep ≤ d → 0 ≤ t.worth (ansW kvs) ∧ bl (t.worth (ansW kvs)) ≤ 120000 := fun ht hl => by
      obtain ⟨f, m⟩ := Trm.tame.fine hB ha hn d ht hl (by omega)
      exact ⟨f.ok.1, by omega⟩
    cases o with
    | plus =>
      obtain ⟨ta, tb⟩ : a.tame zs B ∧ b.tame zs B := h
      exact ⟨sub ta (by omega), sub tb (by omega)⟩
    | times =>
      obtain ⟨ta, tb⟩ : a.tame zs B ∧ b.tame zs B := h
      obtain ⟨a0, a1⟩ := num ta (by omega)
      obtain ⟨b0, b1⟩ := num tb (by omega)
      exact ⟨sub ta (by omega), sub tb (by omega), a0, b0, a1, b1⟩
    | power =>
      obtain ⟨ta, hj⟩ : a.tame zs B ∧ ∃ j, b = .num j ∧ 0 ≤ j ∧ j ≤ 4 := h
      obtain ⟨a0, a1⟩ := num ta (by omega)
      exact ⟨sub ta (by omega), hj, a0, a1⟩
theorem cmulw_of {a b : Int} (ha : 0 ≤ a) (hb : 0 ≤ b) (h : bl a + bl b ≤ 999999) : CMulW a b := by
  have lg : ∀ x : Int, 0 ≤ x → x.natAbs.log2 ≤ bl x := fun x hx => by
    by_cases z : x.natAbs = 0
    · rw [z]
      exact Nat.zero_le _
    · have g := bl_lt hx
      have e : x.natAbs = x.toNat := by omega
      have := (Nat.log2_lt z).mpr (e ▸ g)
      omega
  have g1 := lg a ha
  have g2 := lg b hb
  show a.natAbs.log2 + b.natAbs.log2 < 1000000
  omega
theorem w_plus_times : ¬ Str.ofString "times" = Str.ofString "plus" := by decide +kernel
theorem w_plus_power : ¬ Str.ofString "power" = Str.ofString "plus" := by decide +kernel
theorem w_times_power : ¬ Str.ofString "power" = Str.ofString "times" := by decide +kernel
end RV

/-! choosing numbers, halvings, carries -/
namespace RV
open PySem PySem.Spec L2
open PyProof.Rows hiding St
/-! ways to choose -/
def ch : Nat → Nat → Nat
  | _, 0 => 1
  | 0, _ + 1 => 0
  | n + 1, k + 1 => ch n k + ch n (k + 1)
theorem ch_zero (n : Nat) : ch n 0 = 1 := by cases n <;> rfl
theorem ch_succ (n k : Nat) : ch (n + 1) (k + 1) = ch n k + ch n (k + 1) := rfl
theorem ch_above : ∀ {n k : Nat}, n < k → ch n k = 0
  | _, 0, h => absurd h (by omega)
  | 0, _ + 1, _ => rfl
  | n + 1, k + 1, h => by rw [ch_succ, ch_above (show n < k by omega), ch_above (show n < k + 1 by omega)]
theorem ch_self : ∀ n : Nat, ch n n = 1
  | 0 => rfl
  | n + 1 => by rw [ch_succ, ch_self n, ch_above (show n < n + 1 by omega)]
theorem ch_pos : ∀ {n k : Nat}, k ≤ n → 0 < ch n k
  | n, 0, _ => by rw [ch_zero]; decide
  | 0, k + 1, h => absurd h (by omega)
  | n + 1, k + 1, h => by
    have := ch_pos (show k ≤ n by omega)
    rw [ch_succ]
    omega
theorem ch_le : ∀ n k : Nat, ch n k ≤ 2 ^ n
  | n, 0 => by rw [ch_zero]; exact Nat.one_le_two_pow
  | 0, _ + 1 => Nat.zero_le _
  | n + 1, k + 1 => by
    have a := ch_le n k
    have b := ch_le n (k + 1)
    rw [ch_succ, Nat.pow_succ]
    omega
theorem ch_mul : ∀ n k : Nat, ch (n + 1) (k + 1) * (k + 1) = (n + 1) * ch n k
  | 0, 0 => rfl
  | 0, k + 1 => by rw [ch_above (show 0 + 1 < k + 1 + 1 by omega), ch_above (show 0 < k + 1 by omega), Nat.zero_mul, Nat.mul_zero]
  | n + 1, 0 => by
    have a := ch_mul n 0
    rw [ch_zero] at a
    rw [ch_succ, ch_zero, Nat.mul_one]
    omega
  | n + 1, k + 1 => by
    have a := ch_mul n k
    have b := ch_mul n (k + 1)
    rw [ch_succ (n + 1) (k + 1), Nat.add_mul, b, Nat.mul_succ (ch (n + 1) (k + 1)), a, Nat.succ_mul (n + 1), ch_succ n k, Nat.mul_add]
    omega
/-- the product of so many numbers downwards -/
def fl (n : Nat) : Nat → Nat
  | 0 => 1
  | k + 1 => fl n k * (n - k)
def fac : Nat → Nat
  | 0 => 1
  | n + 1 => (n + 1) * fac n
theorem fac_pos : ∀ n : Nat, 0 < fac n
  | 0 => by decide
  | n + 1 => Nat.mul_pos (by omega) (fac_pos n)
theorem fac_le {m n : Nat} (h : m ≤ n) : fac m ≤ fac n := by
  induction n with
  | zero => rw [show m = 0 by omega]; exact Nat.le_refl _
  | succ n ih =>
    by_cases e : m = n + 1
    · rw [e]; exact Nat.le_refl _
    · have := ih (by omega)
      exact Nat.le_trans this (Nat.le_mul_of_pos_left _ (by omega))
theorem fl_succ (n k : Nat) : fl (n + 1) (k + 1) = (n + 1) * fl n k := by
  induction k with
  | zero => show 1 * (n + 1 - 0) = (n + 1) * 1; omega
  | succ k ih =>
    show fl (n + 1) (k + 1) * (n + 1 - (k + 1)) = (n + 1) * (fl n k * (n - k))
    rw [ih, Nat.mul_assoc, show n + 1 - (k + 1) = n - k by omega]
theorem fl_ch : ∀ n k : Nat, fl n k = ch n k * fac k
  | n, 0 => by rw [ch_zero]; rfl
  | 0, k + 1 => by
    rw [ch_above (show 0 < k + 1 by omega), Nat.zero_mul]
    induction k with
    | zero => rfl
    | succ k ih => show fl 0 (k + 1) * _ = 0; rw [ih, Nat.zero_mul]
  | n + 1, k + 1 => by
    rw [fl_succ, fl_ch n k, ← Nat.mul_assoc, ← ch_mul n k, Nat.mul_assoc]
    rfl
theorem fl_fac {n : Nat} : ∀ {k : Nat}, k ≤ n → fl n k * fac (n - k) = fac n
  | 0, _ => by show 1 * fac (n - 0) = fac n; rw [Nat.one_mul, Nat.sub_zero]
  | k + 1, h => by
    have e := fl_fac (n := n) (k := k) (by omega)
    have e2 : fac (n - k) = (n - k) * fac (n - (k + 1)) := by
      obtain ⟨d, hd⟩ : ∃ d, n - k = d + 1 := ⟨n - k - 1, by omega⟩
      rw [hd, show n - (k + 1) = d by omega]
      rfl
    show fl n k * (n - k) * fac (n - (k + 1)) = fac n
    rw [Nat.mul_assoc, ← e2, e]
theorem ch_fac {n k : Nat} (h : k ≤ n) : ch n k * fac k * fac (n - k) = fac n := by rw [← fl_ch, fl_fac h]
theorem ch_symm {n k : Nat} (h : k ≤ n) : ch n (n - k) = ch n k := by
  have a := ch_fac h
  have b := ch_fac (show n - k ≤ n by omega)
  rw [show n - (n - k) = k by omega, Nat.mul_assoc, Nat.mul_comm (fac (n - k)), ← Nat.mul_assoc, ← a] at b
  exact Nat.mul_right_cancel (fac_pos k) (Nat.mul_right_cancel (fac_pos (n - k)) b)
theorem fl_div {n k : Nat} : fl n k / fac k = ch n k := by rw [fl_ch]; exact Nat.mul_div_cancel _ (fac_pos k)
theorem fl_all (n : Nat) : fl n n = fac n := by rw [fl_ch, ch_self, Nat.one_mul]
theorem fp_nat (n : Nat) : ∀ {k : Nat}, k ≤ n → Builtin.Math.fallingProduct (n : Int) k = ((fl n k : Nat) : Int)
  | 0, _ => rfl
  | k + 1, h => by
    rw [PySem.W.mc_fp_succ, fp_nat n (show k ≤ n by omega)]
    show _ = ((fl n k * (n - k) : Nat) : Int)
    rw [Int.natCast_mul, Int.ofNat_sub (show k ≤ n by omega)]
theorem comb_nat (n k : Nat) : PySem.W.mcComb (n : Int) (k : Int) = ((ch n k : Nat) : Int) := by
  by_cases h : n < k
  · rw [PySem.W.mcComb_above (by omega), ch_above h]
    rfl
  · have key : ∀ m : Nat, m ≤ n → Builtin.Math.fallingProduct (n : Int) m / Builtin.Math.fallingProduct (m : Int) m = ((ch n m : Nat) : Int) := by
      intro m hm
      rw [fp_nat n hm, fp_nat m (Nat.le_refl m), fl_all, ← fl_div (n := n) (k := m)]
      exact (Int.natCast_ediv _ _).symm
    by_cases h2 : k ≤ n - k
    · rw [PySem.W.mcComb_at (m := (k : Int)) (by omega) (by omega) (by omega)]
      exact key k (by omega)
    · rw [PySem.W.mcComb_at (m := ((n - k : Nat) : Int)) (by omega) (by omega) (by omega), ← ch_symm (show k ≤ n by omega)]
      exact key (n - k) (by omega)
/-! the built-in function -/
section
variable {X : Cx}
def rComb : List V → Hp → VK → Prop := fun vs H Q => ∃ a b : Int, vs = [.int a, .int b] ∧ 0 ≤ a ∧ a ≤ 18000 ∧ 0 ≤ b ∧ Q (.int ((ch a.toNat b.toNat : Nat) : Int)) H
theorem cr_comb : CallR X (.builtin "math.comb") rComb := by
  intro pins s σ H vs us Q I r h
  obtain ⟨a, b, rfl, h0, h1, h2, q⟩ := h
  obtain ⟨t, u, rfl⟩ := Vals.int2 r
  have e : PySem.W.mcComb a b = ((ch a.toNat b.toNat : Nat) : Int) := by
    have := comb_nat a.toNat b.toNat
    rw [Int.toNat_of_nonneg h0, Int.toNat_of_nonneg h2] at this
    exact this
  exact PySem.W.mc_comb_v h0 h2 (by omega) (.inr h1) e ⟨.int _, H, I.tok _, ⟨_, rfl⟩, q⟩
theorem r_comb {H : Hp} {Q : VK} {a b : Int} (h0 : 0 ≤ a) (h1 : a ≤ 18000) (h2 : 0 ≤ b) (k : Q (.int ((ch a.toNat b.toNat : Nat) : Int)) H) : rComb [.int a, .int b] H Q := ⟨a, b, rfl, h0, h1, h2, k⟩
end
/-! halvings -/
def hv (n : Nat) : Nat := if h : n = 0 ∨ n % 2 = 1 then 0 else hv (n / 2) + 1
termination_by n
decreasing_by omega
theorem hv_odd {n : Nat} (h : n % 2 = 1) : hv n = 0 := by rw [hv, dif_pos (.inr h)]
theorem hv_even {n : Nat} (h0 : n ≠ 0) (h : n % 2 = 0) : hv n = hv (n / 2) + 1 := by rw [hv, dif_neg (by omega)]
theorem hv_two {n : Nat} (h0 : n ≠ 0) : hv (2 * n) = hv n + 1 := by rw [hv_even (by omega) (by omega), show 2 * n / 2 = n by omega]
theorem hv_zero {n : Nat} (h0 : n ≠ 0) : hv n = 0 ↔ n % 2 = 1 := by
  by_cases h : n % 2 = 1
  · exact ⟨fun _ => h, fun _ => hv_odd h⟩
  · rw [hv_even h0 (by omega)]
    exact ⟨fun z => by omega, fun z => by omega⟩
theorem hv_pow {n : Nat} (h0 : n ≠ 0) : ∀ m : Nat, hv (n * 2 ^ m) = hv n + m
  | 0 => by rw [Nat.pow_zero, Nat.mul_one]; rfl
  | m + 1 => by
    have hp : n * 2 ^ m ≠ 0 := Nat.mul_ne_zero h0 (Nat.pos_iff_ne_zero.mp (Nat.two_pow_pos m))
    rw [Nat.pow_succ, ← Nat.mul_assoc, Nat.mul_comm _ 2, hv_two hp, hv_pow h0 m]
    rfl
theorem hv_mul (x : Nat) : ∀ y : Nat, x ≠ 0 → y ≠ 0 → hv (x * y) = hv x + hv y := by
  induction x using Nat.strongRecOn with
  | ind x ih =>
    intro y hx hy
    by_cases h : x % 2 = 1
    · rw [hv_odd h, Nat.zero_add]
      induction y using Nat.strongRecOn with
      | ind y ihy =>
        by_cases g : y % 2 = 1
        · rw [hv_odd g, hv_odd]
          rw [Nat.mul_mod, h, g]
        · have e : y = 2 * (y / 2) := by omega
          have z := ihy (y / 2) (by omega) (by omega)
          rw [hv_even hy (by omega), ← z, e, Nat.mul_left_comm, hv_two (Nat.mul_ne_zero hx (by omega)), show 2 * (y / 2) / 2 = y / 2 by omega]
    · have e : x = 2 * (x / 2) := by omega
      have z := ih (x / 2) (by omega) y (by omega) hy
      have e3 : x * y = 2 * (x / 2 * y) := by rw [← Nat.mul_assoc, ← e]
      rw [hv_even hx (by omega), e3, hv_two (Nat.mul_ne_zero (by omega) hy), z]
      omega
theorem hv_next (n : Nat) : hv (n + 1) + pop (n + 1) = pop n + 1 := by
  induction n using Nat.strongRecOn with
  | ind n ih =>
    by_cases h : n % 2 = 0
    · rw [hv_odd (by omega), pop_eq (n + 1), pop_eq n, show (n + 1) / 2 = n / 2 by omega]
      omega
    · have z := ih (n / 2) (by omega)
      rw [hv_even (by omega) (by omega), pop_eq (n + 1), pop_eq n, show (n + 1) / 2 = n / 2 + 1 by omega]
      omega
theorem hv_fac : ∀ n : Nat, hv (fac n) + pop n = n
  | 0 => by
    rw [pop_zero]
    exact hv_odd (by decide)
  | n + 1 => by
    have a := hv_fac n
    have b := hv_next n
    show hv ((n + 1) * fac n) + pop (n + 1) = n + 1
    rw [hv_mul _ _ (by omega) (Nat.pos_iff_ne_zero.mp (fac_pos n))]
    omega
theorem hv_ch {n k : Nat} (h : k ≤ n) : hv (ch n k) + pop n = pop k + pop (n - k) := by
  have a := ch_fac h
  have p0 : ch n k ≠ 0 := Nat.pos_iff_ne_zero.mp (ch_pos h)
  have p1 : fac k ≠ 0 := Nat.pos_iff_ne_zero.mp (fac_pos k)
  have p2 : fac (n - k) ≠ 0 := Nat.pos_iff_ne_zero.mp (fac_pos (n - k))
  have e := congrArg hv a
  rw [hv_mul _ _ (Nat.mul_ne_zero p0 p1) p2, hv_mul _ _ p0 p1] at e
  have e1 := hv_fac n
  have e2 := hv_fac k
  have e3 := hv_fac (n - k)
  omega
/-! carries -/
theorem pop_step (a b c : Nat) : pop (a + b + c) = (a % 2 + b % 2 + c) % 2 + pop (a / 2 + b / 2 + (a % 2 + b % 2 + c) / 2) := by
  rw [pop_eq (a + b + c), show (a + b + c) % 2 = (a % 2 + b % 2 + c) % 2 by omega, show (a + b + c) / 2 = a / 2 + b / 2 + (a % 2 + b % 2 + c) / 2 by omega]
theorem pop_add (a : Nat) : ∀ b c : Nat, c ≤ 1 → pop (a + b + c) ≤ pop a + pop b + c := by
  suffices h : ∀ m a b c : Nat, a + b + c ≤ m → c ≤ 1 → pop (a + b + c) ≤ pop a + pop b + c from fun b c hc => h _ a b c (Nat.le_refl _) hc
  intro m
  induction m with
  | zero =>
    intro a b c h _
    rw [show a = 0 by omega, show b = 0 by omega, show c = 0 by omega]
    show pop 0 ≤ pop 0 + pop 0 + 0
    omega
  | succ m ih =>
    intro a b c h hc
    have hs := pop_step a b c
    have ha := pop_eq a
    have hb := pop_eq b
    by_cases z : a + b + c ≤ m
    · exact ih a b c z hc
    · have i := ih (a / 2) (b / 2) ((a % 2 + b % 2 + c) / 2) (by omega) (by omega)
      omega
theorem pop_both (a : Nat) : ∀ b : Nat, pop (a + b) = pop a + pop b ↔ a &&& b = 0 := by
  induction a using Nat.strongRecOn with
  | ind a ih =>
    intro b
    by_cases h0 : a = 0
    · subst h0
      rw [pop_zero, Nat.zero_add, Nat.zero_add, Nat.zero_and]
      exact ⟨fun _ => rfl, fun _ => rfl⟩
    · have i := ih (a / 2) (by omega) (b / 2)
      have hs := pop_step a b 0
      have ha := pop_eq a
      have hb := pop_eq b
      have p := and_par a b
      have q := and_half a b
      rw [Nat.add_zero, Nat.add_zero] at hs
      by_cases g : a % 2 = 1 ∧ b % 2 = 1
      · rw [g.1, g.2] at p hs
        have l := pop_add (a / 2) (b / 2) 1 (by omega)
        constructor
        · intro z
          exfalso
          have : (1 + 1) / 2 = 1 := rfl
          rw [this] at hs
          omega
        · intro z
          rw [z] at p
          omega
      · have c0 : (a % 2 + b % 2) / 2 = 0 := by omega
        rw [c0, Nat.add_zero] at hs
        have p0 : (a &&& b) % 2 = 0 := by
          rw [p]
          rcases Nat.mod_two_eq_zero_or_one a with h | h
          · rw [h, Nat.zero_mul]
          · rw [show b % 2 = 0 by omega, Nat.mul_zero]
        constructor
        · intro z
          have := i.mp (by omega)
          omega
        · intro z
          rw [z] at q
          have := i.mpr (by omega)
          omega
theorem out_both (a : Nat) : ∀ b : Nat, out a (a + b) = 0 ↔ a &&& b = 0 := by
  induction a using Nat.strongRecOn with
  | ind a ih =>
    intro b
    by_cases h0 : a = 0
    · subst h0
      rw [Nat.zero_and]
      exact ⟨fun _ => rfl, fun _ => by have := out_le 0 (0 + b); omega⟩
    · have i := ih (a / 2) (by omega) (b / 2)
      obtain ⟨o1, o2⟩ := out_half a (a + b)
      have p := and_par a b
      have q := and_half a b
      by_cases g : a % 2 = 1 ∧ b % 2 = 1
      · rw [g.1, g.2] at p
        rw [g.1, show (a + b) % 2 = 0 by omega] at o2
        constructor
        · intro z
          rw [z] at o2
          omega
        · intro z
          rw [z] at p
          omega
      · rw [show (a + b) / 2 = a / 2 + b / 2 by omega] at o1
        have p0 : (a &&& b) % 2 = 0 := by
          rw [p]
          rcases Nat.mod_two_eq_zero_or_one a with h | h
          · rw [h, Nat.zero_mul]
          · rw [show b % 2 = 0 by omega, Nat.mul_zero]
        have o0 : out a (a + b) % 2 = 0 := by
          rw [o2]
          rcases Nat.mod_two_eq_zero_or_one a with h | h
          · rw [h, Nat.zero_mul]
          · rw [show (a + b) % 2 = 1 by omega, Nat.mul_zero]
        constructor
        · intro z
          rw [z] at o1
          have := i.mp (by omega)
          omega
        · intro z
          rw [z] at q
          have := i.mpr (by omega)
          omega
theorem out_gt {a b : Nat} (h : b < a) : out a b ≠ 0 := by
  intro z
  have e : a &&& b ≤ b := Nat.and_le_right
  have f : out a b = a - (a &&& b) := rfl
  omega
/-- odd just where it fits -/
theorem ch_odd {n k : Nat} (h : k ≤ n) : hv (ch n k) = 0 ↔ out k n = 0 := by
  have a := hv_ch h
  have b := pop_both k (n - k)
  have c := out_both k (n - k)
  rw [show k + (n - k) = n by omega] at b c
  rw [c, ← b]
  omega
/-! the lowest one of the bits -/
theorem low_bit (m : Nat) : ∀ q : Nat, q % 2 = 1 → q * 2 ^ m - ((q * 2 ^ m) &&& (q * 2 ^ m - 1)) = 2 ^ m := by
  induction m with
  | zero =>
    intro q hq
    rw [Nat.pow_zero, Nat.mul_one]
    have p := and_par q (q - 1)
    have h := and_half q (q - 1)
    rw [show (q - 1) / 2 = q / 2 by omega, Nat.and_self] at h
    rw [show (q - 1) % 2 = 0 by omega, Nat.mul_zero] at p
    omega
  | succ m ih =>
    intro q hq
    have z := ih q hq
    have e : q * 2 ^ (m + 1) = 2 * (q * 2 ^ m) := by rw [Nat.pow_succ, ← Nat.mul_assoc, Nat.mul_comm]
    have hp : 0 < q * 2 ^ m := Nat.mul_pos (by omega) (Nat.two_pow_pos m)
    rw [e, Nat.pow_succ]
    generalize q * 2 ^ m = x at z hp
    have p := and_par (2 * x) (2 * x - 1)
    have h := and_half (2 * x) (2 * x - 1)
    rw [show 2 * x / 2 = x by omega, show (2 * x - 1) / 2 = x - 1 by omega] at h
    rw [show 2 * x % 2 = 0 by omega, Nat.zero_mul] at p
    have hl : x &&& (x - 1) ≤ x := Nat.and_le_left
    generalize 2 ^ m = y at z ⊢
    omega
theorem hv_split (n : Nat) (h0 : n ≠ 0) : ∃ q, q % 2 = 1 ∧ n = q * 2 ^ hv n := by
  induction n using Nat.strongRecOn with
  | ind n ih =>
    by_cases h : n % 2 = 1
    · exact ⟨n, h, by rw [hv_odd h, Nat.pow_zero, Nat.mul_one]⟩
    · obtain ⟨q, hq, e⟩ := ih (n / 2) (by omega) (by omega)
      refine ⟨q, hq, ?_⟩
      rw [hv_even h0 (by omega), Nat.pow_succ, ← Nat.mul_assoc, ← e]
      omega
theorem neg_and {n : Int} (h : 0 < n) : Builtin.bitAnd n (-n) = ((2 ^ hv n.toNat : Nat) : Int) := by
  obtain ⟨q, hq, e⟩ := hv_split n.toNat (by omega)
  have z := low_bit (hv n.toNat) q hq
  rw [← e] at z
  unfold Builtin.bitAnd
  rw [decide_eq_true (show (0 : Int) ≤ n by omega), decide_eq_false (show ¬ (0 : Int) ≤ -n by omega)]
  show n - ((n.toNat &&& (Builtin.bitNot (-n)).toNat : Nat) : Int) = _
  have e2 : (Builtin.bitNot (-n)).toNat = n.toNat - 1 := by
    unfold Builtin.bitNot
    omega
  rw [e2]
  have hl : n.toNat &&& (n.toNat - 1) ≤ n.toNat := Nat.and_le_left
  generalize 2 ^ hv n.toNat = y at z ⊢
  omega
theorem bits_pow (m : Nat) : Builtin.Int.intBits ((2 ^ m : Nat) : Int) = m + 1 := by
  unfold Builtin.Int.intBits
  have h : ((2 ^ m : Nat) : Int) ≠ 0 := by
    have := Nat.two_pow_pos m
    omega
  rw [Int.natAbs_natCast, Nat.log2_two_pow]
  split
  · rename_i z
    first
    | exact absurd z h
    | exact absurd (beq_iff_eq.mp z) h
  · rfl
/-! powers by figures -/
/-- the first so many choosing numbers as figures -/
def fs (u n : Nat) : Nat → Nat
  | 0 => 0
  | k + 1 => fs u n k + ch n k * u ^ k
theorem fs_next (u n : Nat) : ∀ k : Nat, fs u (n + 1) (k + 1) = fs u n (k + 1) + u * fs u n k
  | 0 => by
    show 0 + ch (n + 1) 0 * u ^ 0 = 0 + ch n 0 * u ^ 0 + u * 0
    rw [ch_zero, ch_zero]
    omega
  | k + 1 => by
    have i := fs_next u n k
    show fs u (n + 1) (k + 1) + ch (n + 1) (k + 1) * u ^ (k + 1) = fs u n (k + 1) + ch n (k + 1) * u ^ (k + 1) + u * (fs u n k + ch n k * u ^ k)
    rw [i, ch_succ, Nat.add_mul, Nat.mul_add, Nat.pow_succ]
    have e : ch n k * (u ^ k * u) = u * (ch n k * u ^ k) := by rw [Nat.mul_left_comm, Nat.mul_comm u (ch n k * u ^ k), Nat.mul_assoc, Nat.mul_left_comm]
    rw [e]
    omega
theorem fs_all (u : Nat) : ∀ n k : Nat, n < k → fs u n k = (u + 1) ^ n
  | 0, 0, h => absurd h (by omega)
  | 0, k + 1, _ => by
    induction k with
    | zero => rfl
    | succ k ih =>
      show fs u 0 (k + 1) + ch 0 (k + 1) * u ^ (k + 1) = (u + 1) ^ 0
      rw [ih (by omega), ch_above (by omega), Nat.zero_mul, Nat.add_zero]
  | n + 1, 0, h => absurd h (by omega)
  | n + 1, k + 1, h => by
    rw [fs_next, fs_all u n (k + 1) (by omega), fs_all u n k (by omega), Nat.pow_succ, Nat.mul_comm u, Nat.mul_add, Nat.mul_one, Nat.add_comm]
theorem fs_lt {u n : Nat} (h : 2 ^ n < u) : ∀ k : Nat, fs u n k < u ^ k
  | 0 => by show 0 < u ^ 0; rw [Nat.pow_zero]; decide
  | k + 1 => by
    have i := fs_lt h k
    have l := ch_le n k
    show fs u n k + ch n k * u ^ k < u ^ (k + 1)
    have m : (ch n k + 1) * u ^ k ≤ u * u ^ k := Nat.mul_le_mul_right _ (by omega)
    rw [Nat.add_mul, Nat.one_mul] at m
    rw [Nat.pow_succ, Nat.mul_comm _ u]
    omega
theorem fs_fig {u n : Nat} (h : 2 ^ n < u) (k : Nat) : (u + 1) ^ n / u ^ k % u = ch n k := by
  have hu : 0 < u := Nat.lt_of_le_of_lt (Nat.zero_le _) h
  have hk : 0 < u ^ k := Nat.pow_pos hu
  have key : ∀ d : Nat, ∃ r, fs u n (k + 1 + d) = fs u n k + u ^ k * (ch n k + u * r) := by
    intro d
    induction d with
    | zero =>
      refine ⟨0, ?_⟩
      show fs u n k + ch n k * u ^ k = _
      rw [Nat.mul_zero, Nat.add_zero, Nat.mul_comm]
    | succ d ih =>
      obtain ⟨r, e⟩ := ih
      refine ⟨r + ch n (k + 1 + d) * u ^ d, ?_⟩
      show fs u n (k + 1 + d) + ch n (k + 1 + d) * u ^ (k + 1 + d) = _
      have e2 : ch n (k + 1 + d) * u ^ (k + 1 + d) = u ^ k * (u * (ch n (k + 1 + d) * u ^ d)) := by
        rw [Nat.pow_add, Nat.pow_succ]
        simp only [Nat.mul_comm, Nat.mul_left_comm, Nat.mul_assoc]
      rw [e, e2, Nat.mul_add u, ← Nat.add_assoc (ch n k), Nat.mul_add (u ^ k) (ch n k + u * r), Nat.add_assoc]
  obtain ⟨r, e⟩ := key (n + 1)
  rw [fs_all u n _ (by omega)] at e
  rw [e, Nat.add_mul_div_left _ _ hk, Nat.div_eq_of_lt (fs_lt h k), Nat.zero_add, Nat.add_mul_mod_self_left]
  exact Nat.mod_eq_of_lt (Nat.lt_of_le_of_lt (ch_le n k) h)
theorem fs_one (n : Nat) : fs 1 n (n + 1) = 2 ^ n := fs_all 1 n (n + 1) (by omega)
end RV

/-! a text, the other way about -/
namespace RV
open PySem PySem.Spec L2
open PyProof.Rows hiding St
theorem rev_indices (n : Nat) : Builtin.Str.strSliceIndices none none (-1) n = (List.range n).reverse := by
  have e : Builtin.Str.strSliceIndices none none (-1) n = sliceRange ((n : Int) - 1) (-1) (-1) := by
    first
    | rfl
    | simp [Builtin.Str.strSliceIndices]
  rw [e, PySem.W.krv_sliceRange, PySem.W.krv_range]
def tRevS (te : TE) : TE := fun σ H Q => te σ H fun x H1 => ∃ z : Str, x = .str z ∧ z.length ≤ sizeLine ∧ Q (.str ⟨z.cps.toList.reverse.toArray⟩) H1
theorem pe_revS {X : Cx} {e : Expr} {te : TE} {k : Nat} {p1 p2 p3 pos : Pos} (he : PE X e te) : PE X (.Subscript e (.Slice none none (some (.UnaryOp .USub (.Constant (.int 1) k p1) p2)) p3) pos) (tRevS te) := by
  refine ⟨fun pins s σ H Q I h => ?_⟩
  refine Subscript_ (thn (he.run pins s σ H _ I h) fun v s1 ⟨x, H1, I1, r1, q1⟩ => ?_)
  obtain ⟨z, ex, hz, q⟩ := q1
  subst ex
  obtain ⟨t, rfl⟩ := (show ∃ t, v = Value.str z t from r1)
  have hst : PO X (some (.UnaryOp .USub (.Constant (.int 1) k p1) p2)) (tPart (tUn (rU fun i => .int (-i)) (tC (.int 1)))) := po_some (pe_un un_neg pe_int)
  refine wpAny_Slice (thn (po_none.run pins s1 σ H1 (fun o H2 => o = none ∧ H2 = H1) I1 ⟨rfl, rfl⟩) fun vl s2 ⟨l, H2, I2, pl, el, e2⟩ => ?_)
  subst el e2
  refine thn (po_none.run pins s2 σ H2 (fun o H3 => o = none ∧ H3 = H2) I2 ⟨rfl, rfl⟩) fun vu s3 ⟨u, H3, I3, pu, eu, e3⟩ => ?_
  subst eu e3
  refine thn (hst.run pins s3 σ H3 (fun o H4 => o = some (-1) ∧ H4 = H3) I3 ⟨1, rfl, -1, rfl, rfl, rfl⟩) fun vs s4 ⟨o, H4, I4, ps, eo, e4⟩ => ?_
  subst eo e4
  obtain ⟨l, rfl, hl⟩ := IsPart.raw pl
  obtain ⟨u, rfl, hu⟩ := IsPart.raw pu
  obtain ⟨st, rfl, hs⟩ := IsPart.raw ps
  have I5 : Inv X pins σ H4 { s4 with heap := s4.heap.push { cls := .type "slice", data := .fields #[partValue l, partValue u, partValue st] } } := I4.kept (t' := s4.toks) fun b ob q => Heap.get?_push_of_some _ q
  show wpAny (model X.prog X.w) X.A (subscriptTail e (.Slice none none (some (.UnaryOp .USub (.Constant (.int 1) k p1) p2)) p3) (.str z t) (.ref s4.heap.objs.size)) (EP X pins σ Q) X.xe { s4 with heap := s4.heap.push { cls := .type "slice", data := .fields #[partValue l, partValue u, partValue st] } }
  refine tail_any (ops := [.str z t, .ref s4.heap.objs.size]) (typeIs_str _ _ _) (F.slot_str_getitem.lookup) ?_ (by with_unfolding_all rfl)
  have h1 : (st.map (·.1)).getD 1 = -1 := by rw [hs]; rfl
  refine wpAny_getItem_str_slice (l := l) (u := u) (st := st) ⟨_, Heap.get?_push_size _ rfl, rfl, rfl⟩ (by rw [h1]; rfl) ?_
  have hp : slicePicked z l u st = (List.range z.length).reverse := by
    unfold slicePicked
    rw [hl, hu, h1]
    exact rev_indices z.length
  have hm : sliceMade z t l u st = .str ⟨z.cps.toList.reverse.toArray⟩ := by
    unfold sliceMade
    rw [h1, hp]
    rw [if_neg (by intro q; rw [Bool.and_eq_true] at q; exact absurd q.1 (by decide))]
    rw [List.filterMap_reverse]
    have e : (List.range z.length).filterMap (z.cps[·]?) = z.cps.toList := PySem.W.krv_all z.cps
    rw [e]
  rw [hm]
  refine ⟨by show (z.cps.toList.reverse.toArray).size ≤ sizeLine; rw [List.size_toArray, List.length_reverse, Array.length_toList]; exact hz, .str _, H4, I5.tok _, ⟨_, rfl⟩, q⟩
theorem r_revS {σ : St} {H : Hp} {Q : VK} {te : TE} (h : te σ H fun x H1 => ∃ z : Str, x = .str z ∧ z.length ≤ sizeLine ∧ Q (.str ⟨z.cps.toList.reverse.toArray⟩) H1) : tRevS te σ H Q := h
end RV

/-! sayings led down: the four that stand for one of fitting under, and what numbers keep them -/
namespace RV
open PySem PySem.Spec L2
open PyProof.Rows hiding St
/-- the figure of the power -/
theorem fig_ch (A B : Nat) : (2 ^ (B + 1) + 1) ^ B / (2 ^ (B + 1)) ^ A % 2 ^ (B + 1) = ch B A := fs_fig (Nat.pow_lt_pow_right (by decide) (by omega)) A
theorem ch_odd_iff (A B : Nat) : ch B A % 2 = 1 ↔ out A B = 0 := by
  by_cases h : A ≤ B
  · have p := ch_pos h
    rw [← hv_zero (by omega)]
    exact ch_odd h
  · have e : ch B A = 0 := ch_above (by omega)
    rw [e]
    exact ⟨fun z => by omega, fun z => absurd z (out_gt (by omega))⟩
/-- what the four say of numbers -/
structure Led (A B a b c d e f : Nat) : Prop where
  h1 : a = 2 ^ (B + 1)
  h2 : (a + 1) ^ B = b * a ^ (A + 1) + (2 * c + 1) * a ^ A + d
  h3 : d + e + 1 = a ^ A
  h4 : 2 * c + 2 + f = a
theorem split_pow (w a A : Nat) : w = w / a ^ (A + 1) * a ^ (A + 1) + w / a ^ A % a * a ^ A + w % a ^ A := by
  have e1 := Nat.div_add_mod w (a ^ A)
  have e2 := Nat.div_add_mod (w / a ^ A) a
  rw [Nat.div_div_eq_div_mul, ← Nat.pow_succ] at e2
  have e3 : w / a ^ (A + 1) * a ^ (A + 1) + w / a ^ A % a * a ^ A = a ^ A * (w / a ^ A) := by
    rw [Nat.pow_succ, ← Nat.mul_assoc, Nat.mul_right_comm, ← Nat.add_mul, Nat.mul_comm _ (a ^ A)]
    congr 1
    rw [Nat.pow_succ] at e2
    rw [Nat.mul_comm (w / (a ^ A * a)) a]
    exact e2
  omega
theorem led_of {A B : Nat} (h : out A B = 0) : Led A B (2 ^ (B + 1)) ((2 ^ (B + 1) + 1) ^ B / (2 ^ (B + 1)) ^ (A + 1)) (ch B A / 2) ((2 ^ (B + 1) + 1) ^ B % (2 ^ (B + 1)) ^ A) ((2 ^ (B + 1)) ^ A - (2 ^ (B + 1) + 1) ^ B % (2 ^ (B + 1)) ^ A - 1) (2 ^ (B + 1) - 2 * (ch B A / 2) - 2) := by
  have odd := (ch_odd_iff A B).mpr h
  have le := ch_le B A
  have hp : 0 < (2 ^ (B + 1)) ^ A := Nat.pow_pos (Nat.pow_pos (by decide))
  have hm := Nat.mod_lt ((2 ^ (B + 1) + 1) ^ B) hp
  refine ⟨rfl, ?_, by omega, ?_⟩
  · have e := split_pow ((2 ^ (B + 1) + 1) ^ B) (2 ^ (B + 1)) A
    rw [fig_ch] at e
    rw [show 2 * (ch B A / 2) + 1 = ch B A by omega]
    exact e
  · have : 2 ^ (B + 1) = 2 * 2 ^ B := by rw [Nat.pow_succ, Nat.mul_comm]
    have : 0 < 2 ^ B := Nat.pow_pos (by decide)
    omega
theorem Led.only {A B a b c d e f : Nat} (h : Led A B a b c d e f) : out A B = 0 ∧ a = 2 ^ (B + 1) ∧ b = (2 ^ (B + 1) + 1) ^ B / (2 ^ (B + 1)) ^ (A + 1) ∧ c = ch B A / 2 ∧ 2 * c + 1 = ch B A ∧ d = (2 ^ (B + 1) + 1) ^ B % (2 ^ (B + 1)) ^ A ∧ e = (2 ^ (B + 1)) ^ A - (2 ^ (B + 1) + 1) ^ B % (2 ^ (B + 1)) ^ A - 1 ∧ f = 2 ^ (B + 1) - 2 * (ch B A / 2) - 2 := by
  obtain ⟨h1, h2, h3, h4⟩ := h
  have e1 := fig_ch A B
  rw [← h1] at e1 ⊢
  have hd : d < a ^ A := by omega
  have hc : 2 * c + 1 < a := by omega
  have hw : (a + 1) ^ B = (b * a + (2 * c + 1)) * a ^ A + d := by
    rw [h2, Nat.pow_succ, Nat.add_mul (b * a), Nat.mul_comm (a ^ A) a, Nat.mul_assoc b]
  have hp : 0 < a ^ A := by omega
  have ha : 0 < a := by omega
  have d1 : (a + 1) ^ B / a ^ A = b * a + (2 * c + 1) := by
    rw [hw, Nat.add_comm, Nat.add_mul_div_right _ _ hp, Nat.div_eq_of_lt hd, Nat.zero_add]
  have m1 : (a + 1) ^ B % a ^ A = d := by
    rw [hw, Nat.add_comm, Nat.add_mul_mod_self_right, Nat.mod_eq_of_lt hd]
  have d2 : (a + 1) ^ B / a ^ (A + 1) = b := by
    rw [Nat.pow_succ, ← Nat.div_div_eq_div_mul, d1, Nat.add_comm, Nat.add_mul_div_right _ _ ha, Nat.div_eq_of_lt hc, Nat.zero_add]
  have e2 : ch B A = 2 * c + 1 := by
    rw [← e1, d1, Nat.add_comm, Nat.add_mul_mod_self_right, Nat.mod_eq_of_lt hc]
  refine ⟨(ch_odd_iff A B).mp (by omega), rfl, d2.symm, by omega, e2.symm, m1.symm, by omega, by omega⟩
/-! the same of terms -/
def led6 (za zb zc zd ze zf : Str) (l r : Trm) : List (Str × Trm × Trm) :=
  [(Str.ofString "same", .name za, .op .power (.num 2) (.op .plus r (.num 1))),
   (Str.ofString "same", .op .power (.op .plus (.name za) (.num 1)) r, .op .plus (.op .plus (.op .times (.name zb) (.op .power (.name za) (.op .plus l (.num 1)))) (.op .times (.op .plus (.op .times (.num 2) (.name zc)) (.num 1)) (.op .power (.name za) l))) (.name zd)),
   (Str.ofString "same", .op .plus (.op .plus (.name zd) (.name ze)) (.num 1), .op .power (.name za) l),
   (Str.ofString "same", .op .plus (.op .plus (.op .times (.num 2) (.name zc)) (.num 2)) (.name zf), .name za)]
theorem ieq_nat (a b : Nat) : ((a : Int) = (b : Int)) ↔ a = b := Int.ofNat_inj
theorem ipow_cast (a b : Nat) : ((a : Int)) ^ b = ((a ^ b : Nat) : Int) := (Int.natCast_pow a b).symm
theorem led_iff {g : Str → Int} {za zb zc zd ze zf : Str} {l r : Trm} {A B a b c d e f : Nat} (ha : g za = a) (hb : g zb = b) (hc : g zc = c) (hd : g zd = d) (he : g ze = e) (hf : g zf = f) (hl : l.worth g = A) (hr : r.worth g = B) :
    (∀ p ∈ led6 za zb zc zd ze zf l r, p.2.1.worth g = p.2.2.worth g) ↔ Led A B a b c d e f := by
  have w1 : (Trm.name za).worth g = (a : Int) := ha
  have w2 : (Trm.op .power (.num 2) (.op .plus r (.num 1))).worth g = ((2 ^ (B + 1) : Nat) : Int) := by
    show (2 : Int) ^ (r.worth g + 1).toNat = _
    rw [hr, show ((B : Int) + 1).toNat = B + 1 by omega, Int.natCast_pow]
    rfl
  have w3 : (Trm.op .power (.op .plus (.name za) (.num 1)) r).worth g = (((a + 1) ^ B : Nat) : Int) := by
    show (g za + 1) ^ (r.worth g).toNat = _
    rw [hr, ha, Int.toNat_natCast, Int.natCast_pow]
    rfl
  have w5 : (g za) ^ (l.worth g).toNat = ((a ^ A : Nat) : Int) := by rw [ha, hl, Int.toNat_natCast, Int.natCast_pow]
  have w6 : (g za) ^ (l.worth g + 1).toNat = ((a ^ (A + 1) : Nat) : Int) := by rw [ha, hl, show ((A : Int) + 1).toNat = A + 1 by omega, Int.natCast_pow]
  have w4 : (Trm.op .plus (.op .plus (.op .times (.name zb) (.op .power (.name za) (.op .plus l (.num 1)))) (.op .times (.op .plus (.op .times (.num 2) (.name zc)) (.num 1)) (.op .power (.name za) l))) (.name zd)).worth g = ((b * a ^ (A + 1) + (2 * c + 1) * a ^ A + d : Nat) : Int) := by
    show (g zb * (g za) ^ (l.worth g + 1).toNat + (2 * g zc + 1) * (g za) ^ (l.worth g).toNat) + g zd = _
    rw [w5, w6, hb, hc, hd, Int.natCast_add, Int.natCast_add, Int.natCast_mul, Int.natCast_mul]
    congr 2
  have w7 : (Trm.op .plus (.op .plus (.name zd) (.name ze)) (.num 1)).worth g = ((d + e + 1 : Nat) : Int) := by
    show g zd + g ze + 1 = _
    rw [hd, he]
    rfl
  have w8 : (Trm.op .power (.name za) l).worth g = ((a ^ A : Nat) : Int) := w5
  have w9 : (Trm.op .plus (.op .plus (.op .times (.num 2) (.name zc)) (.num 2)) (.name zf)).worth g = ((2 * c + 2 + f : Nat) : Int) := by
    show 2 * g zc + 2 + g zf = _
    rw [hc, hf]
    rfl
  refine ⟨fun h => ?_, fun h p hp => ?_⟩
  · have k1 := h _ (List.mem_cons_self)
    have k2 := h _ (List.mem_cons_of_mem _ List.mem_cons_self)
    have k3 := h _ (List.mem_cons_of_mem _ (List.mem_cons_of_mem _ List.mem_cons_self))
    have k4 := h _ (List.mem_cons_of_mem _ (List.mem_cons_of_mem _ (List.mem_cons_of_mem _ List.mem_cons_self)))
    dsimp only at k1 k2 k3 k4
    rw [w1, w2] at k1
    rw [w3, w4] at k2
    rw [w7, w8] at k3
    rw [w9, w1] at k4
    exact ⟨Int.ofNat_inj.mp k1, Int.ofNat_inj.mp k2, Int.ofNat_inj.mp k3, Int.ofNat_inj.mp k4⟩
  · obtain ⟨h1, h2, h3, h4⟩ := h
    unfold led6 at hp
    rcases List.mem_cons.mp hp with rfl | hp
    · dsimp only
      rw [w1, w2, h1]
    rcases List.mem_cons.mp hp with rfl | hp
    · dsimp only
      rw [w3, w4, h2]
    rcases List.mem_cons.mp hp with rfl | hp
    · dsimp only
      rw [w7, w8, h3]
    · rw [List.mem_singleton.mp hp]
      dsimp only
      rw [w9, w1, h4]
/-! what these come to is not too much -/
structure Fb (kvs : List (Key × V)) (k : Nat) (t : Trm) : Prop where
  f : t.fine kvs
  b : bl (t.worth (ansW kvs)) ≤ k
theorem fb_num {kvs : List (Key × V)} {i : Int} {k : Nat} (h0 : 0 ≤ i) (h : bl i ≤ k) (hk : k ≤ 1000000) : Fb kvs k (.num i) := ⟨⟨h0, Nat.le_trans h hk⟩, h⟩
theorem fb_name {kvs : List (Key × V)} {z : Str} {n : Int} {k : Nat} (e : valV kvs (Sum.inr z : Key) = some (.int n)) (h0 : 0 ≤ n) (h : bl n ≤ k) (hk : k ≤ 1000000) : Fb kvs k (.name z) := ⟨⟨n, e, h0, Nat.le_trans h hk⟩, by
  show bl (ansW kvs z) ≤ k
  rw [ansW_at e]
  exact h⟩
theorem fb_plus {kvs : List (Key × V)} {a b : Trm} {k m : Nat} (ha : Fb kvs k a) (hb : Fb kvs m b) (n : Nat) (h1 : k + 1 ≤ n) (h2 : m + 1 ≤ n) (hn : n ≤ 1000000) : Fb kvs n (.op .plus a b) := by
  have g := bl_add ha.f.ok.1 hb.f.ok.1 (k := n - 1) (Nat.le_trans ha.b (by omega)) (Nat.le_trans hb.b (by omega))
  have g2 : bl ((Trm.op .plus a b).worth (ansW kvs)) ≤ n := Nat.le_trans g (by omega)
  exact ⟨⟨ha.f, hb.f, Nat.le_trans g2 hn⟩, g2⟩
theorem fb_times {kvs : List (Key × V)} {a b : Trm} {k m : Nat} (ha : Fb kvs k a) (hb : Fb kvs m b) (n : Nat) (h : k + m ≤ n) (hn : n ≤ 1000000) : Fb kvs n (.op .times a b) := by
  have g := bl_mul ha.f.ok.1 hb.f.ok.1
  have g2 : bl ((Trm.op .times a b).worth (ansW kvs)) ≤ n := Nat.le_trans g (by have := ha.b; have := hb.b; omega)
  exact ⟨⟨ha.f, hb.f, Nat.le_trans g2 hn⟩, g2⟩
theorem fb_pow {kvs : List (Key × V)} {a b : Trm} {k : Nat} {m : Nat} (ha : Fb kvs k a) (hb : b.fine kvs) (he : b.worth (ansW kvs) ≤ (m : Int)) (n : Nat) (h : m * k + 1 ≤ n) (hn : n ≤ 1000000) : Fb kvs n (.op .power a b) := by
  have g := bl_ipow ha.f.ok.1 (b.worth (ansW kvs)).toNat
  have g1 : (b.worth (ansW kvs)).toNat * bl (a.worth (ansW kvs)) ≤ m * k := Nat.mul_le_mul (by have := hb.ok.1; omega) ha.b
  have g2 : bl ((Trm.op .power a b).worth (ansW kvs)) ≤ n := Nat.le_trans g (by omega)
  exact ⟨⟨ha.f, hb, Nat.le_trans g2 hn⟩, g2⟩
theorem Fb.up {kvs : List (Key × V)} {k m : Nat} {t : Trm} (h : Fb kvs k t) (g : k ≤ m) : Fb kvs m t := ⟨h.f, Nat.le_trans h.b g⟩
theorem led_fine {kvs : List (Key × V)} {za zb zc zd ze zf : Str} {l r : Trm} {a b c d e f : Int} (ha : valV kvs (Sum.inr za : Key) = some (.int a)) (hb : valV kvs (Sum.inr zb : Key) = some (.int b)) (hc : valV kvs (Sum.inr zc : Key) = some (.int c)) (hd : valV kvs (Sum.inr zd : Key) = some (.int d)) (he : valV kvs (Sum.inr ze : Key) = some (.int e)) (hf : valV kvs (Sum.inr zf : Key) = some (.int f))
    (a0 : 0 ≤ a ∧ bl a ≤ 602) (b0 : 0 ≤ b ∧ bl b ≤ 362000) (c0 : 0 ≤ c ∧ bl c ≤ 602) (d0 : 0 ≤ d ∧ bl d ≤ 362000) (e0 : 0 ≤ e ∧ bl e ≤ 362000) (f0 : 0 ≤ f ∧ bl f ≤ 602) (hl : l.fine kvs) (hr : r.fine kvs) (hlw : l.worth (ansW kvs) ≤ 600) (hrw : r.worth (ansW kvs) ≤ 600) :
    ∀ p ∈ led6 za zb zc zd ze zf l r, p.2.1.fine kvs ∧ p.2.2.fine kvs := by
  have f1 : Fb kvs 1 (.num 1) := fb_num (by decide) (by decide) (by decide)
  have f2 : Fb kvs 2 (.num 2) := fb_num (by decide) (by decide) (by decide)
  have fa := fb_name ha a0.1 a0.2 (by decide)
  have fb := fb_name hb b0.1 b0.2 (by decide)
  have fc := fb_name hc c0.1 c0.2 (by decide)
  have fd := fb_name hd d0.1 d0.2 (by decide)
  have fe := fb_name he e0.1 e0.2 (by decide)
  have ff := fb_name hf f0.1 f0.2 (by decide)
  have fl : Fb kvs 10 l := ⟨hl, bl_of_lt hl.ok.1 (by show l.worth (ansW kvs) < 1024; omega)⟩
  have fr : Fb kvs 10 r := ⟨hr, bl_of_lt hr.ok.1 (by show r.worth (ansW kvs) < 1024; omega)⟩
  have r1 := fb_plus fr f1 11 (by decide) (by decide) (by decide)
  have l1 := fb_plus fl f1 11 (by decide) (by decide) (by decide)
  have r1w : (Trm.op .plus r (.num 1)).worth (ansW kvs) ≤ ((601 : Nat) : Int) := by
    show r.worth (ansW kvs) + 1 ≤ 601
    omega
  have l1w : (Trm.op .plus l (.num 1)).worth (ansW kvs) ≤ ((601 : Nat) : Int) := by
    show l.worth (ansW kvs) + 1 ≤ 601
    omega
  have p1 := fb_pow f2 r1.f r1w 1300 (by decide) (by decide)
  have a1 := fb_plus fa f1 603 (by decide) (by decide) (by decide)
  have p2 := fb_pow (m := 600) a1 hr (by omega) 362000 (by decide) (by decide)
  have p3 := fb_pow (m := 600) fa hl (by omega) 362000 (by decide) (by decide)
  have p4 := fb_pow fa l1.f l1w 362000 (by decide) (by decide)
  have t2 := fb_times f2 fc 604 (by decide) (by decide)
  have o2 := fb_plus t2 f1 605 (by decide) (by decide) (by decide)
  have q1 := fb_times fb p4 724000 (by decide) (by decide)
  have q2 := fb_times o2 p3 724000 (by decide) (by decide)
  have q3 := fb_plus q1 q2 724001 (by decide) (by decide) (by decide)
  have q4 := fb_plus q3 fd 724002 (by decide) (by decide) (by decide)
  have s1 := fb_plus fd fe 362001 (by decide) (by decide) (by decide)
  have s2 := fb_plus s1 f1 362002 (by decide) (by decide) (by decide)
  have u1 := fb_plus t2 f2 605 (by decide) (by decide) (by decide)
  have u2 := fb_plus u1 ff 606 (by decide) (by decide) (by decide)
  intro p hp
  unfold led6 at hp
  rcases List.mem_cons.mp hp with rfl | hp
  · exact ⟨fa.f, p1.f⟩
  rcases List.mem_cons.mp hp with rfl | hp
  · exact ⟨p2.f, q4.f⟩
  rcases List.mem_cons.mp hp with rfl | hp
  · exact ⟨s2.f, p3.f⟩
  · rw [List.mem_singleton.mp hp]
    exact ⟨u2.f, fa.f⟩
/-- the numbers told, not too great -/
theorem led_small {A B : Nat} (hB : B ≤ 600) (hA : A ≤ B) : bl ((2 ^ (B + 1) : Nat) : Int) ≤ 602 ∧ bl (((2 ^ (B + 1) + 1) ^ B / (2 ^ (B + 1)) ^ (A + 1) : Nat) : Int) ≤ 362000 ∧ bl ((ch B A / 2 : Nat) : Int) ≤ 602 ∧ bl (((2 ^ (B + 1) + 1) ^ B % (2 ^ (B + 1)) ^ A : Nat) : Int) ≤ 362000 ∧ bl (((2 ^ (B + 1)) ^ A - (2 ^ (B + 1) + 1) ^ B % (2 ^ (B + 1)) ^ A - 1 : Nat) : Int) ≤ 362000 ∧ bl ((2 ^ (B + 1) - 2 * (ch B A / 2) - 2 : Nat) : Int) ≤ 602 := by
  have lt : ∀ {n k m : Nat}, n < 2 ^ k → k ≤ m → bl ((n : Nat) : Int) ≤ m := fun {n k m} h g => bl_le (Int.natCast_nonneg _) (by
    rw [Int.toNat_natCast]
    exact Nat.lt_of_lt_of_le h (Nat.pow_le_pow_right (by decide) g))
  have hp : 2 ^ (B + 1) < 2 ^ (B + 2) := Nat.pow_lt_pow_right (by decide) (by omega)
  have hw : (2 ^ (B + 1) + 1) ^ B < 2 ^ ((B + 2) * B + 1) := by
    rw [Nat.pow_succ (m := (B + 2) * B), Nat.pow_mul]
    have h1 : (2 ^ (B + 1) + 1) ^ B ≤ (2 ^ (B + 2)) ^ B := Nat.pow_le_pow_left (by omega) _
    have h2 : 0 < (2 ^ (B + 2)) ^ B := Nat.pow_pos (Nat.pow_pos (by decide))
    omega
  have hk : (B + 2) * B + 1 ≤ 362000 := by
    have := Nat.mul_le_mul (show B + 2 ≤ 602 by omega) hB
    omega
  have hq : (2 ^ (B + 1)) ^ A < 2 ^ ((B + 1) * A + 1) := by
    rw [Nat.pow_succ (m := (B + 1) * A), Nat.pow_mul]
    have h2 : 0 < (2 ^ (B + 1)) ^ A := Nat.pow_pos (Nat.pow_pos (by decide))
    omega
  have hk2 : (B + 1) * A + 1 ≤ 362000 := by
    have := Nat.mul_le_mul (show B + 1 ≤ 601 by omega) (show A ≤ 600 by omega)
    omega
  have le := ch_le B A
  have e : 2 ^ (B + 1) = 2 * 2 ^ B := by rw [Nat.pow_succ, Nat.mul_comm]
  have e0 : 0 < 2 ^ B := Nat.pow_pos (by decide)
  exact ⟨lt hp (by omega), lt (Nat.lt_of_le_of_lt (Nat.div_le_self _ _) hw) hk, lt (k := B + 1) (by omega) (by omega), lt (Nat.lt_of_le_of_lt (Nat.mod_le _ _) hw) hk, lt (Nat.lt_of_le_of_lt (Nat.le_trans (Nat.sub_le _ _) (Nat.sub_le _ _)) hq) hk2, lt (Nat.lt_of_le_of_lt (by omega) hp) (by omega)⟩
/-! lists led down -/
def nkS (t : Int) (c : Nat) : Str := Str.ofString "k" ++ (toString t : Str) ++ (⟨#[c]⟩ : Str)
def sixS (t : Int) : List Str := [nkS t 97, nkS t 98, nkS t 99, nkS t 100, nkS t 101, nkS t 102]
def ledT (t : Int) (l r : Trm) : List (Str × Trm × Trm) := led6 (nkS t 97) (nkS t 98) (nkS t 99) (nkS t 100) (nkS t 101) (nkS t 102) l r
def lowL : Nat → List (Str × Trm × Trm) → List (Str × Trm × Trm)
  | _, [] => []
  | t, p :: ps => (if p.1 = Str.ofString "same" then [p] else ledT ((t : Nat) : Int) p.2.1 p.2.2) ++ lowL (t + 1) ps
theorem lowL_app : ∀ (ps qs : List (Str × Trm × Trm)) (t : Nat), lowL t (ps ++ qs) = lowL t ps ++ lowL (t + ps.length) qs
  | [], qs, t => by simp [lowL]
  | p :: ps, qs, t => by
    show _ ++ lowL (t + 1) (ps ++ qs) = _
    rw [lowL_app ps qs (t + 1), ← List.append_assoc, List.length_cons, show t + 1 + ps.length = t + (ps.length + 1) by omega]
    rfl
theorem lowL_take {ps : List (Str × Trm × Trm)} {i : Nat} {p : Str × Trm × Trm} (h : ps[i]? = some p) : lowL 0 (ps.take (i + 1)) = lowL 0 (ps.take i) ++ (if p.1 = Str.ofString "same" then [p] else ledT ((i : Nat) : Int) p.2.1 p.2.2) := by
  have hi := (List.getElem?_eq_some_iff.mp h).1
  rw [List.take_add_one, h, lowL_app, List.length_take, Nat.min_eq_left (Nat.le_of_lt hi), Nat.zero_add]
  show _ ++ (_ ++ []) = _
  rw [List.append_nil]
theorem lowL_len : ∀ (ps : List (Str × Trm × Trm)) (t : Nat), (lowL t ps).length ≤ 4 * ps.length
  | [], _ => Nat.le_refl 0
  | p :: ps, t => by
    have ih := lowL_len ps (t + 1)
    show (_ ++ lowL (t + 1) ps).length ≤ _
    rw [List.length_append, List.length_cons]
    by_cases e : p.1 = Str.ofString "same"
    · rw [if_pos e]
      show 1 + _ ≤ _
      omega
    · rw [if_neg e]
      show 4 + _ ≤ _
      omega
theorem nk_small {t : Int} (h0 : 0 ≤ t) (h1 : t ≤ 999) : (toString t : Str).length ≤ 3 := by
  have h : ∀ n : _root_.Fin 1000, (toString ((n.val : Nat) : Int) : Str).length ≤ 3 := by decide +kernel
  have e := h ⟨t.toNat, by omega⟩
  rw [show (((⟨t.toNat, by omega⟩ : _root_.Fin 1000).val : Nat) : Int) = t from Int.toNat_of_nonneg h0] at e
  exact e
/-! answers led down -/
def undL (kvs : List (Key × V)) : Nat → List (Str × Trm × Trm) → List (Nat × Int × Int)
  | _, [] => []
  | t, p :: ps => (if p.1 = Str.ofString "under" then [(t, p.2.1.worth (ansW kvs), p.2.2.worth (ansW kvs))] else []) ++ undL kvs (t + 1) ps
theorem undL_app (kvs : List (Key × V)) : ∀ (ps qs : List (Str × Trm × Trm)) (t : Nat), undL kvs t (ps ++ qs) = undL kvs t ps ++ undL kvs (t + ps.length) qs
  | [], qs, t => by simp [undL]
  | p :: ps, qs, t => by
    show _ ++ undL kvs (t + 1) (ps ++ qs) = _
    rw [undL_app kvs ps qs (t + 1), ← List.append_assoc, List.length_cons, show t + 1 + ps.length = t + (ps.length + 1) by omega]
    rfl
theorem undL_take {kvs : List (Key × V)} {ps : List (Str × Trm × Trm)} {i : Nat} {p : Str × Trm × Trm} (h : ps[i]? = some p) : undL kvs 0 (ps.take (i + 1)) = undL kvs 0 (ps.take i) ++ (if p.1 = Str.ofString "under" then [(i, p.2.1.worth (ansW kvs), p.2.2.worth (ansW kvs))] else []) := by
  have hi := (List.getElem?_eq_some_iff.mp h).1
  rw [List.take_add_one, h, undL_app, List.length_take, Nat.min_eq_left (Nat.le_of_lt hi), Nat.zero_add]
  show _ ++ (_ ++ []) = _
  rw [List.append_nil]
theorem undL_len (kvs : List (Key × V)) : ∀ (ps : List (Str × Trm × Trm)) (t : Nat), (undL kvs t ps).length ≤ ps.length
  | [], _ => Nat.le_refl 0
  | p :: ps, t => by
    have ih := undL_len kvs ps (t + 1)
    show (_ ++ undL kvs (t + 1) ps).length ≤ _
    rw [List.length_append, List.length_cons]
    by_cases e : p.1 = Str.ofString "under"
    · rw [if_pos e]
      show 1 + _ ≤ _
      omega
    · rw [if_neg e]
      show 0 + _ ≤ _
      omega
theorem undL_mem {kvs : List (Key × V)} {u : Nat × Int × Int} : ∀ {ps : List (Str × Trm × Trm)} {t : Nat}, u ∈ undL kvs t ps → ∃ p ∈ ps, p.1 = Str.ofString "under" ∧ u.2.1 = p.2.1.worth (ansW kvs) ∧ u.2.2 = p.2.2.worth (ansW kvs) ∧ t ≤ u.1 ∧ u.1 < t + ps.length
  | [], _, h => by cases h
  | p :: ps, t, h => by
    rcases List.mem_append.mp (show u ∈ _ ++ undL kvs (t + 1) ps from h) with h | h
    · by_cases e : p.1 = Str.ofString "under"
      · rw [if_pos e] at h
        have h := List.mem_singleton.mp h
        subst h
        exact ⟨p, by simp, e, rfl, rfl, Nat.le_refl _, by simp⟩
      · rw [if_neg e] at h
        cases h
    · obtain ⟨q, hq, h1, h2, h3, h4, h5⟩ := undL_mem h
      exact ⟨q, by simp [hq], h1, h2, h3, by omega, by rw [List.length_cons]; omega⟩
def newN (x y : Int) : List Int :=
  [((2 ^ (y.toNat + 1) : Nat) : Int), (((2 ^ (y.toNat + 1) + 1) ^ y.toNat / (2 ^ (y.toNat + 1)) ^ (x.toNat + 1) : Nat) : Int), ((ch y.toNat x.toNat / 2 : Nat) : Int), (((2 ^ (y.toNat + 1) + 1) ^ y.toNat % (2 ^ (y.toNat + 1)) ^ x.toNat : Nat) : Int), (((2 ^ (y.toNat + 1)) ^ x.toNat - (2 ^ (y.toNat + 1) + 1) ^ y.toNat % (2 ^ (y.toNat + 1)) ^ x.toNat - 1 : Nat) : Int), ((2 ^ (y.toNat + 1) - 2 * (ch y.toNat x.toNat / 2) - 2 : Nat) : Int)]
def putL (kvs : List (Key × V)) (qs : List (Str × Int)) : List (Key × V) := qs.foldl (fun k q => putK k (Sum.inr q.1 : Key) (.int q.2)) kvs
theorem putL_take {kvs : List (Key × V)} {qs : List (Str × Int)} {i : Nat} {q : Str × Int} (h : qs[i]? = some q) : putL kvs (qs.take (i + 1)) = putK (putL kvs (qs.take i)) (Sum.inr q.1 : Key) (.int q.2) := by
  unfold putL
  rw [List.take_add_one, h, List.foldl_append]
  rfl
theorem putL_len : ∀ (qs : List (Str × Int)) (kvs : List (Key × V)), (putL kvs qs).length ≤ kvs.length + qs.length
  | [], _ => Nat.le_refl _
  | q :: qs, kvs => by
    have h1 := putL_len qs (putK kvs (Sum.inr q.1 : Key) (.int q.2))
    have h2 := length_putK kvs (Sum.inr q.1 : Key) (V.int q.2)
    show (putL (putK kvs (Sum.inr q.1 : Key) (.int q.2)) qs).length ≤ _
    rw [List.length_cons]
    omega
def addU (kvs : List (Key × V)) (u : Nat × Int × Int) : List (Key × V) := putL kvs ((sixS ((u.1 : Nat) : Int)).zip (newN u.2.1 u.2.2))
theorem addU_len (kvs : List (Key × V)) (u : Nat × Int × Int) : (addU kvs u).length ≤ kvs.length + 6 := putL_len _ _
def lowK (kvs : List (Key × V)) (us : List (Nat × Int × Int)) : List (Key × V) := us.foldl addU kvs

/-! what the names of an answer led down have -/
theorem putL_no {z : Str} : ∀ {qs : List (Str × Int)} {kvs : List (Key × V)}, (∀ q ∈ qs, z ≠ q.1) → valV (putL kvs qs) (Sum.inr z : Key) = valV kvs (Sum.inr z : Key)
  | [], _, _ => rfl
  | q :: qs, kvs, h => by
    show valV (putL (putK kvs (Sum.inr q.1 : Key) (.int q.2)) qs) (Sum.inr z : Key) = _
    rw [putL_no (qs := qs) fun r hr => h r (by simp [hr]), valV_put, if_neg fun e => h q (by simp) (Sum.inr.inj e)]
theorem putL_at {z : Str} {n : Int} : ∀ {qs : List (Str × Int)} {kvs : List (Key × V)}, (qs.map Prod.fst).Nodup → (z, n) ∈ qs → valV (putL kvs qs) (Sum.inr z : Key) = some (.int n)
  | [], _, _, h => by cases h
  | q :: qs, kvs, hn, h => by
    rw [List.map_cons, List.nodup_cons] at hn
    show valV (putL (putK kvs (Sum.inr q.1 : Key) (.int q.2)) qs) (Sum.inr z : Key) = _
    rcases List.mem_cons.mp h with e | e
    · subst e
      rw [putL_no fun r hr e => hn.1 (by show z ∈ _; rw [show z = r.1 from e]; exact List.mem_map_of_mem (f := Prod.fst) hr), valV_put, if_pos rfl]
    · exact putL_at hn.2 e
theorem nkS_list (t : Int) (c : Nat) : (nkS t c).cps.toList = 107 :: ((toString t : Str).cps.toList ++ [c]) := by
  have h : (Str.ofString "k").cps.toList = [107] := by decide +kernel
  show ((Str.ofString "k").cps ++ (toString t : Str).cps ++ #[c]).toList = _
  rw [Array.toList_append, Array.toList_append, h, List.append_assoc]
  rfl
theorem nkS_inj {t : Int} {c c2 : Nat} (h : nkS t c = nkS t c2) : c = c2 := by
  have e := congrArg (fun z : Str => z.cps.toList) h
  rw [nkS_list, nkS_list, List.cons.injEq, List.append_right_inj] at e
  exact (List.cons.inj e.2).1
theorem sixS_nodup (t : Int) : (sixS t).Nodup := by
  have e : sixS t = [97, 98, 99, 100, 101, 102].map (nkS t) := rfl
  rw [e]
  refine List.nodup_iff_pairwise_ne.mpr (List.pairwise_map.mpr ?_)
  exact List.Pairwise.imp (fun {a b} n e => n (nkS_inj e)) (show List.Pairwise (· ≠ ·) [97, 98, 99, 100, 101, 102] by decide)
/-- a name that does not begin with k -/
def noK (z : Str) : Prop := ∀ l, z.cps.toList ≠ 107 :: l
theorem noK.ne {z : Str} (h : noK z) (t : Int) (c : Nat) : z ≠ nkS t c := fun e => h _ (by rw [e, nkS_list])
theorem six_in {t : Int} {z : Str} (h : z ∈ sixS t) : ∃ c, z = nkS t c := by
  have e : sixS t = [97, 98, 99, 100, 101, 102].map (nkS t) := rfl
  rw [e] at h
  obtain ⟨c, _, rfl⟩ := List.mem_map.mp h
  exact ⟨c, rfl⟩
theorem addU_old {kvs : List (Key × V)} {u : Nat × Int × Int} {z : Str} (h : ∀ c, z ≠ nkS ((u.1 : Nat) : Int) c) : valV (addU kvs u) (Sum.inr z : Key) = valV kvs (Sum.inr z : Key) :=
  putL_no fun q hq e => by
    obtain ⟨c, hc⟩ := six_in (List.of_mem_zip (show (q.1, q.2) ∈ _ from hq)).1
    exact h c (e.trans hc)
theorem addU_new {kvs : List (Key × V)} {u : Nat × Int × Int} {i : Nat} {z : Str} {n : Int} (h1 : (sixS ((u.1 : Nat) : Int))[i]? = some z) (h2 : (newN u.2.1 u.2.2)[i]? = some n) : valV (addU kvs u) (Sum.inr z : Key) = some (.int n) := by
  refine putL_at ?_ (List.mem_of_getElem? (List.getElem?_zip_eq_some (z := (z, n)).mpr ⟨h1, h2⟩))
  rw [List.map_fst_zip (by show 6 ≤ 6; decide)]
  exact sixS_nodup _
/-- the four of an under hold of its new numbers, and are not too great -/
theorem led_new {kvs : List (Key × V)} {t : Nat} {l r : Trm} {x y : Int} {K2 : List (Key × V)} (hx : x = l.worth (ansW K2)) (hy : y = r.worth (ansW K2)) (fl : l.fine K2) (fr : r.fine K2) (h6 : y ≤ 600) (ho : out x.toNat y.toNat = 0)
    (hn : ∀ (i : Nat) z n, (sixS ((t : Nat) : Int))[i]? = some z → (newN x y)[i]? = some n → valV K2 (Sum.inr z : Key) = some (.int n)) :
    (∀ p ∈ ledT ((t : Nat) : Int) l r, p.2.1.fine K2 ∧ p.2.2.fine K2) ∧ ∀ p ∈ ledT ((t : Nat) : Int) l r, p.2.1.worth (ansW K2) = p.2.2.worth (ansW K2) := by
  have x0 : 0 ≤ x := by rw [hx]; exact fl.ok.1
  have y0 : 0 ≤ y := by rw [hy]; exact fr.ok.1
  obtain ⟨A, rfl⟩ := Int.eq_ofNat_of_zero_le x0
  obtain ⟨B, rfl⟩ := Int.eq_ofNat_of_zero_le y0
  rw [Int.toNat_natCast, Int.toNat_natCast] at ho
  have hAB : A ≤ B := Nat.le_of_not_lt fun h => out_gt h ho
  have hB : B ≤ 600 := by omega
  unfold newN at hn
  rw [Int.toNat_natCast, Int.toNat_natCast] at hn
  have va := hn 0 _ _ rfl rfl
  have vb := hn 1 _ _ rfl rfl
  have vc := hn 2 _ _ rfl rfl
  have vd := hn 3 _ _ rfl rfl
  have ve := hn 4 _ _ rfl rfl
  have vf := hn 5 _ _ rfl rfl
  obtain ⟨m1, m2, m3, m4, m5, m6⟩ := led_small hB hAB
  refine ⟨led_fine va vb vc vd ve vf ⟨Int.natCast_nonneg _, m1⟩ ⟨Int.natCast_nonneg _, m2⟩ ⟨Int.natCast_nonneg _, m3⟩ ⟨Int.natCast_nonneg _, m4⟩ ⟨Int.natCast_nonneg _, m5⟩ ⟨Int.natCast_nonneg _, m6⟩ fl fr (by rw [← hx]; omega) (by rw [← hy]; omega), ?_⟩
  exact (led_iff (ansW_at va) (ansW_at vb) (ansW_at vc) (ansW_at vd) (ansW_at ve) (ansW_at vf) hx.symm hy.symm).mpr (led_of ho)
/-! bits one by one -/
theorem bin_rev (n : Nat) : ∀ k : Nat, (bin n).reverse[k]? = some 49 ↔ n.testBit k = true := by
  induction n using Nat.strongRecOn with
  | _ n ih =>
    intro k
    by_cases h : n < 2
    · rw [bin_small h]
      have : n = 0 ∨ n = 1 := by omega
      rcases this with rfl | rfl
      · cases k <;> simp
      · cases k with
        | zero => decide
        | succ k => simp [Nat.testBit_succ]
    · rw [bin_big (by omega), List.reverse_append]
      cases k with
      | zero =>
        show some (48 + n % 2) = some 49 ↔ _
        rw [Nat.testBit_zero, decide_eq_true_iff]
        exact ⟨fun e => by have := Option.some.inj e; omega, fun e => by rw [e]⟩
      | succ k =>
        show (bin (n / 2)).reverse[k]? = some 49 ↔ _
        rw [ih (n / 2) (by omega), Nat.testBit_succ]
theorem out_bits (a b : Nat) : out a b = 0 ↔ ∀ k, a.testBit k = true → b.testBit k = true := by
  have h0 := Nat.and_le_left (n := a) (m := b)
  have e : out a b = a - (a &&& b) := rfl
  refine ⟨fun h k hk => ?_, fun h => ?_⟩
  · have e2 : a &&& b = a := by omega
    have h1 : (a &&& b).testBit k = true := by rw [e2]; exact hk
    rw [Nat.testBit_and, hk] at h1
    simpa using h1
  · have e2 : a &&& b = a := by
      refine Nat.eq_of_testBit_eq fun k => ?_
      rw [Nat.testBit_and]
      cases hk : a.testBit k with
      | false => rfl
      | true => rw [h k hk]; rfl
    omega
theorem pop_parts (a : Nat) : ∀ b : Nat, pop (a &&& b) + pop (out a b) = pop a := by
  induction a using Nat.strongRecOn with
  | _ a ih =>
    intro b
    by_cases h : a = 0
    · subst h
      have e1 : 0 &&& b = 0 := Nat.zero_and b
      have e2 : out 0 b = 0 := by have := out_le 0 b; omega
      rw [e1, e2, pop_zero]
    · rw [pop_eq (a &&& b), pop_eq (out a b), pop_eq a, and_half, and_par, (out_half a b).1, (out_half a b).2]
      have := ih (a / 2) (by omega) (b / 2)
      have h1 : b % 2 = 0 ∨ b % 2 = 1 := by omega
      rcases h1 with e | e <;> rw [e] <;> omega
theorem pop_fit (a b : Nat) : pop (a &&& b) = pop a ↔ out a b = 0 := by
  have h := pop_parts a b
  rw [out_self_zero]
  omega
theorem led_same {t : Int} {l r : Trm} : ∀ p ∈ ledT t l r, p.1 = Str.ofString "same" := by
  intro p hp
  unfold ledT led6 at hp
  rcases List.mem_cons.mp hp with rfl | hp
  · rfl
  rcases List.mem_cons.mp hp with rfl | hp
  · rfl
  rcases List.mem_cons.mp hp with rfl | hp
  · rfl
  · rw [List.mem_singleton.mp hp]
theorem led_sizes {t : Int} {l r : Trm} {n : Nat} (hl : l.size ≤ n) (hr : r.size ≤ n) : ∀ p ∈ ledT t l r, p.2.1.size ≤ 3 * n + 30 ∧ p.2.2.size ≤ 3 * n + 30 := by
  intro p hp
  unfold ledT led6 at hp
  rcases List.mem_cons.mp hp with rfl | hp
  · simp only [Trm.size]
    omega
  rcases List.mem_cons.mp hp with rfl | hp
  · simp only [Trm.size]
    omega
  rcases List.mem_cons.mp hp with rfl | hp
  · simp only [Trm.size]
    omega
  · rw [List.mem_singleton.mp hp]
    simp only [Trm.size]
    omega
theorem sub_and {x y : Int} (h0 : 0 ≤ x) (h1 : 0 ≤ y) : x - Builtin.bitAnd x y = ((out x.toNat y.toNat : Nat) : Int) := by
  rw [iand h0 h1]
  have h := Nat.and_le_left (n := x.toNat) (m := y.toNat)
  have e : out x.toNat y.toNat = x.toNat - (x.toNat &&& y.toNat) := rfl
  rw [e]
  omega
end RV


namespace K88






open PySem PySem.Spec L2 RV LamX
open PyProof.Rows hiding St
def topS (i : Nat) : Stmt := PySem.Challenge.pw_runsums_k88_arguments_by_names.main.body.getD i (.Pass ⟨0, 0, 0, 0⟩)
abbrev s_p_terms_in : Stmt := topS 37
theorem sc_p_terms_in : FnScope ["term"] ["term"] (defScope s_p_terms_in) := ⟨rfl, rfl, rfl, by decide +kernel, rfl, by decide +kernel, by decide +kernel⟩
abbrev s_p_is_same_term : Stmt := topS 57
theorem sc_p_is_same_term : FnScope ["one", "other", "waiting", "first", "second"] ["one", "other"] (defScope s_p_is_same_term) := ⟨rfl, rfl, rfl, by decide +kernel, rfl, by decide +kernel, by decide +kernel⟩
abbrev s_Saying_eq : Stmt := inClass (topS 56) 1
theorem sc_Saying_eq : FnScope ["self", "other"] ["self", "other"] (defScope s_Saying_eq) := ⟨rfl, rfl, rfl, by decide +kernel, rfl, by decide +kernel, by decide +kernel⟩
abbrev s_box : Stmt := topS 76
theorem sc_box : FnScope ["script", "at", "cell", "seed"] ["script", "at"] (defScope s_box) := ⟨rfl, rfl, rfl, by decide +kernel, rfl, by decide +kernel, by decide +kernel⟩
abbrev s_Saying_init : Stmt := inClass (topS 56) 0
theorem sc_Saying_init : FnScope ["self", "word", "left", "right"] ["self", "word", "left", "right"] (defScope s_Saying_init) := ⟨rfl, rfl, rfl, by decide +kernel, rfl, by decide +kernel, by decide +kernel⟩
abbrev s_take : Stmt := topS 77
theorem sc_take : FnScope ["box", "wide", "digit", "first"] ["box", "wide"] (defScope s_take) := ⟨rfl, rfl, rfl, by decide +kernel, rfl, by decide +kernel, by decide +kernel⟩
abbrev s_p_check_words : Stmt := topS 67
theorem sc_p_check_words : FnScope ["sayings", "at", "saying"] ["sayings"] (defScope s_p_check_words) := ⟨rfl, rfl, rfl, by decide +kernel, rfl, by decide +kernel, by decide +kernel⟩
abbrev s_p_same : Stmt := topS 63
theorem sc_p_same : FnScope ["left", "right"] ["left", "right"] (defScope s_p_same) := ⟨rfl, rfl, rfl, by decide +kernel, rfl, by decide +kernel, by decide +kernel⟩
abbrev s_p_plus : Stmt := topS 61
theorem sc_p_plus : FnScope ["left", "right"] ["left", "right"] (defScope s_p_plus) := ⟨rfl, rfl, rfl, by decide +kernel, rfl, by decide +kernel, by decide +kernel⟩
abbrev s_p_times : Stmt := topS 62
theorem sc_p_times : FnScope ["left", "right"] ["left", "right"] (defScope s_p_times) := ⟨rfl, rfl, rfl, by decide +kernel, rfl, by decide +kernel, by decide +kernel⟩
abbrev s_p_either : Stmt := topS 66
theorem sc_p_either : FnScope ["one", "other"] ["one", "other"] (defScope s_p_either) := ⟨rfl, rfl, rfl, by decide +kernel, rfl, by decide +kernel, by decide +kernel⟩
abbrev s_p_sum_of : Stmt := topS 36
theorem sc_p_sum_of : FnScope ["terms", "total", "term"] ["terms"] (defScope s_p_sum_of) := ⟨rfl, rfl, rfl, by decide +kernel, rfl, by decide +kernel, by decide +kernel⟩
abbrev s_p_num : Stmt := topS 59
theorem sc_p_num : FnScope ["number"] ["number"] (defScope s_p_num) := ⟨rfl, rfl, rfl, by decide +kernel, rfl, by decide +kernel, by decide +kernel⟩
abbrev s_p_made_one : Stmt := topS 65
theorem sc_p_made_one : FnScope ["sayings", "saying", "squares", "taken_off"] ["sayings"] (defScope s_p_made_one) := ⟨rfl, rfl, rfl, by decide +kernel, rfl, by decide +kernel, by decide +kernel⟩
abbrev s_p_figure : Stmt := topS 2
theorem sc_p_figure : FnScope ["number", "base", "k", "rest", "_"] ["number", "base", "k"] (defScope s_p_figure) := ⟨rfl, rfl, rfl, by decide +kernel, rfl, by decide +kernel, by decide +kernel⟩
abbrev s_p_of_figures : Stmt := topS 4
theorem sc_p_of_figures : FnScope ["some", "base", "number", "one"] ["some", "base"] (defScope s_p_of_figures) := ⟨rfl, rfl, rfl, by decide +kernel, rfl, by decide +kernel, by decide +kernel⟩
abbrev s_p_ones : Stmt := topS 5
theorem sc_p_ones : FnScope ["base", "many"] ["base", "many"] (defScope s_p_ones) := ⟨rfl, rfl, rfl, by decide +kernel, rfl, by decide +kernel, by decide +kernel⟩
abbrev s_p_figures : Stmt := topS 3
theorem sc_p_figures : FnScope ["number", "base", "many", "told", "rest", "_", "lowest"] ["number", "base", "many"] (defScope s_p_figures) := ⟨rfl, rfl, rfl, by decide +kernel, rfl, by decide +kernel, by decide +kernel⟩
abbrev s_figures_right : Stmt := topS 78
theorem sc_figures_right : FnScope ["whole", "wide", "count", "due", "told"] ["whole", "wide", "count"] (defScope s_figures_right) := ⟨rfl, rfl, rfl, by decide +kernel, rfl, by decide +kernel, by decide +kernel⟩
abbrev s_p_bits_of : Stmt := topS 14
theorem sc_p_bits_of : FnScope ["number"] ["number"] (defScope s_p_bits_of) := ⟨rfl, rfl, rfl, by decide +kernel, rfl, by decide +kernel, by decide +kernel⟩
abbrev s_p_stands_out : Stmt := topS 17
theorem sc_p_stands_out : FnScope ["one", "other"] ["one", "other"] (defScope s_p_stands_out) := ⟨rfl, rfl, rfl, by decide +kernel, rfl, by decide +kernel, by decide +kernel⟩
abbrev s_p_fits : Stmt := topS 16
theorem sc_p_fits : FnScope ["one", "other"] ["one", "other"] (defScope s_p_fits) := ⟨rfl, rfl, rfl, by decide +kernel, rfl, by decide +kernel, by decide +kernel⟩
abbrev s_p_of_bits : Stmt := topS 15
theorem sc_p_of_bits : FnScope ["text", "at", "sign"] ["text"] (defScope s_p_of_bits) := ⟨rfl, rfl, rfl, by decide +kernel, rfl, by decide +kernel, by decide +kernel⟩
abbrev s_p_how_many : Stmt := topS 18
theorem sc_p_how_many : FnScope ["number"] ["number"] (defScope s_p_how_many) := ⟨rfl, rfl, rfl, by decide +kernel, rfl, by decide +kernel, by decide +kernel⟩
abbrev s_bits_right : Stmt := topS 79
theorem sc_bits_right : FnScope ["first", "second", "signs"] ["first", "second"] (defScope s_bits_right) := ⟨rfl, rfl, rfl, by decide +kernel, rfl, by decide +kernel, by decide +kernel⟩
abbrev s_p_choose : Stmt := topS 20
theorem sc_p_choose : FnScope ["n", "k"] ["n", "k"] (defScope s_p_choose) := ⟨rfl, rfl, rfl, by decide +kernel, rfl, by decide +kernel, by decide +kernel⟩
abbrev s_p_halvings : Stmt := topS 21
theorem sc_p_halvings : FnScope ["number"] ["number"] (defScope s_p_halvings) := ⟨rfl, rfl, rfl, by decide +kernel, rfl, by decide +kernel, by decide +kernel⟩
abbrev s_p_carries : Stmt := topS 22
theorem sc_p_carries : FnScope ["one", "other"] ["one", "other"] (defScope s_p_carries) := ⟨rfl, rfl, rfl, by decide +kernel, rfl, by decide +kernel, by decide +kernel⟩
abbrev s_p_is_odd : Stmt := topS 23
theorem sc_p_is_odd : FnScope ["n", "k"] ["n", "k"] (defScope s_p_is_odd) := ⟨rfl, rfl, rfl, by decide +kernel, rfl, by decide +kernel, by decide +kernel⟩
abbrev s_p_figure_of_power : Stmt := topS 69
theorem sc_p_figure_of_power : FnScope ["n", "k"] ["n", "k"] (defScope s_p_figure_of_power) := ⟨rfl, rfl, rfl, by decide +kernel, rfl, by decide +kernel, by decide +kernel⟩
abbrev s_choosing_right : Stmt := topS 80
theorem sc_choosing_right : FnScope ["first", "second", "ways"] ["first", "second"] (defScope s_choosing_right) := ⟨rfl, rfl, rfl, by decide +kernel, rfl, by decide +kernel, by decide +kernel⟩
abbrev s_p_folded : Stmt := topS 38
theorem sc_p_folded : FnScope ["term", "lone_of", "both_of", "waiting", "found", "part", "opened", "second", "first"] ["term", "lone_of", "both_of"] (defScope s_p_folded) := ⟨rfl, rfl, rfl, by decide +kernel, rfl, by decide +kernel, by decide +kernel⟩
abbrev s_p_term_of : Stmt := topS 74
theorem sc_p_term_of : FnScope ["word", "first", "second"] ["word", "first", "second"] (defScope s_p_term_of) := ⟨rfl, rfl, rfl, by decide +kernel, rfl, by decide +kernel, by decide +kernel⟩
abbrev s_p_named : Stmt := topS 60
theorem sc_p_named : FnScope ["text"] ["text"] (defScope s_p_named) := ⟨rfl, rfl, rfl, by decide +kernel, rfl, by decide +kernel, by decide +kernel⟩
abbrev s_p_renamed_lone : Stmt := topS 73
theorem sc_p_renamed_lone : FnScope ["term", "names"] ["term", "names"] (defScope s_p_renamed_lone) := ⟨rfl, rfl, rfl, by decide +kernel, rfl, by decide +kernel, by decide +kernel⟩
abbrev s_p_renamed_term : Stmt := topS 72
theorem sc_p_renamed_term : FnScope ["term", "names"] ["term", "names"] (defScope s_p_renamed_term) := ⟨rfl, rfl, rfl, by decide +kernel, rfl, by decide +kernel, by decide +kernel⟩
abbrev s_p_renamed : Stmt := topS 71
theorem sc_p_renamed : FnScope ["saying", "names"] ["saying", "names"] (defScope s_p_renamed) := ⟨rfl, rfl, rfl, by decide +kernel, rfl, by decide +kernel, by decide +kernel⟩
abbrev s_p_cut : Stmt := topS 34
theorem sc_p_cut : FnScope ["bits", "places", "behind"] ["bits", "places"] (defScope s_p_cut) := ⟨rfl, rfl, rfl, by decide +kernel, rfl, by decide +kernel, by decide +kernel⟩
abbrev s_p_head : Stmt := topS 32
theorem sc_p_head : FnScope ["number"] ["number"] (defScope s_p_head) := ⟨rfl, rfl, rfl, by decide +kernel, rfl, by decide +kernel, by decide +kernel⟩
abbrev s_p_check_bits : Stmt := topS 31
theorem sc_p_check_bits : FnScope ["head", "bits", "places"] ["head"] (defScope s_p_check_bits) := ⟨rfl, rfl, rfl, by decide +kernel, rfl, by decide +kernel, by decide +kernel⟩
abbrev s_p_product_of_heads : Stmt := topS 33
theorem sc_p_product_of_heads : FnScope ["one", "other"] ["one", "other"] (defScope s_p_product_of_heads) := ⟨rfl, rfl, rfl, by decide +kernel, rfl, by decide +kernel, by decide +kernel⟩
abbrev s_p_check_power : Stmt := topS 30
theorem sc_p_check_power : FnScope ["base", "exponent", "head", "least", "bit"] ["base", "exponent"] (defScope s_p_check_power) := ⟨rfl, rfl, rfl, by decide +kernel, rfl, by decide +kernel, by decide +kernel⟩
abbrev s_p_bounded : Stmt := topS 27
theorem sc_p_bounded : FnScope ["number"] ["number"] (defScope s_p_bounded) := ⟨rfl, rfl, rfl, by decide +kernel, rfl, by decide +kernel, by decide +kernel⟩
abbrev s_p_bounded_product : Stmt := topS 28
theorem sc_p_bounded_product : FnScope ["first", "second"] ["first", "second"] (defScope s_p_bounded_product) := ⟨rfl, rfl, rfl, by decide +kernel, rfl, by decide +kernel, by decide +kernel⟩
abbrev s_p_bounded_power : Stmt := topS 29
theorem sc_p_bounded_power : FnScope ["base", "exponent", "power", "bit"] ["base", "exponent"] (defScope s_p_bounded_power) := ⟨rfl, rfl, rfl, by decide +kernel, rfl, by decide +kernel, by decide +kernel⟩
abbrev s_p_joined : Stmt := topS 41
theorem sc_p_joined : FnScope ["word", "first", "second"] ["word", "first", "second"] (defScope s_p_joined) := ⟨rfl, rfl, rfl, by decide +kernel, rfl, by decide +kernel, by decide +kernel⟩
abbrev s_p_lone_worth : Stmt := topS 40
theorem sc_p_lone_worth : FnScope ["term", "answer"] ["term", "answer"] (defScope s_p_lone_worth) := ⟨rfl, rfl, rfl, by decide +kernel, rfl, by decide +kernel, by decide +kernel⟩
abbrev s_p_worth : Stmt := topS 39
theorem sc_p_worth : FnScope ["term", "answer"] ["term", "answer"] (defScope s_p_worth) := ⟨rfl, rfl, rfl, by decide +kernel, rfl, by decide +kernel, by decide +kernel⟩
abbrev s_p_sides : Stmt := topS 47
theorem sc_p_sides : FnScope ["saying", "answer", "left"] ["saying", "answer"] (defScope s_p_sides) := ⟨rfl, rfl, rfl, by decide +kernel, rfl, by decide +kernel, by decide +kernel⟩
abbrev s_p_holds : Stmt := topS 43
theorem sc_p_holds : FnScope ["saying", "answer", "left", "right"] ["saying", "answer"] (defScope s_p_holds) := ⟨rfl, rfl, rfl, by decide +kernel, rfl, by decide +kernel, by decide +kernel⟩
abbrev s_p_off : Stmt := topS 45
theorem sc_p_off : FnScope ["saying", "answer", "left", "right", "difference"] ["saying", "answer"] (defScope s_p_off) := ⟨rfl, rfl, rfl, by decide +kernel, rfl, by decide +kernel, by decide +kernel⟩
abbrev s_p_first_wrong : Stmt := topS 44
theorem sc_p_first_wrong : FnScope ["sayings", "answer", "at", "saying"] ["sayings", "answer"] (defScope s_p_first_wrong) := ⟨rfl, rfl, rfl, by decide +kernel, rfl, by decide +kernel, by decide +kernel⟩
abbrev s_p_far_off : Stmt := topS 46
theorem sc_p_far_off : FnScope ["sayings", "answer", "saying"] ["sayings", "answer"] (defScope s_p_far_off) := ⟨rfl, rfl, rfl, by decide +kernel, rfl, by decide +kernel, by decide +kernel⟩
abbrev s_looking_right : Stmt := topS 81
theorem sc_looking_right : FnScope ["first", "second", "word", "said", "pair", "rest", "due", "called"] ["first", "second", "word"] (defScope s_looking_right) := ⟨rfl, rfl, rfl, by decide +kernel, rfl, by decide +kernel, by decide +kernel⟩
abbrev s_law : Stmt := topS 82
theorem sc_law : FnScope ["script", "at", "box", "whole", "wide", "count", "first", "second", "word", "said", "called"] ["script"] (defScope s_law) := ⟨rfl, rfl, rfl, by decide +kernel, rfl, by decide +kernel, by decide +kernel⟩
structure Txt (K : PySem.W.Frag) (mg : Str → Option Value) (w : World) (base : Heap) where
  nm : Addr → Str
  C_Saying : Addr
  f_p_terms_in : Addr
  d_p_terms_in : FuncData
  F_p_terms_in : Fun K "terms_in" "terms_in" s_p_terms_in f_p_terms_in d_p_terms_in
  g_p_terms_in : mg "terms_in" = some (.ref f_p_terms_in)
  b_p_terms_in : Binds K d_p_terms_in ["term"] []
  f_p_is_same_term : Addr
  d_p_is_same_term : FuncData
  F_p_is_same_term : Fun K "_is_same_term" "_is_same_term" s_p_is_same_term f_p_is_same_term d_p_is_same_term
  g_p_is_same_term : mg "_is_same_term" = some (.ref f_p_is_same_term)
  b_p_is_same_term : Binds K d_p_is_same_term ["one", "other"] []
  f_Saying_eq : Addr
  d_Saying_eq : FuncData
  F_Saying_eq : Fun K "__eq__" "Saying.__eq__" s_Saying_eq f_Saying_eq d_Saying_eq
  m_Saying_eq : Meth K C_Saying "__eq__" f_Saying_eq
  b_Saying_eq : Binds K d_Saying_eq ["self", "other"] []
  f_box : Addr
  d_box : FuncData
  F_box : Fun K "_law_box" "_law_box" s_box f_box d_box
  g_box : mg "_law_box" = some (.ref f_box)
  b_box : Binds K d_box ["script", "at"] []
  f_Saying_init : Addr
  d_Saying_init : FuncData
  F_Saying_init : Fun K "__init__" "Saying.__init__" s_Saying_init f_Saying_init d_Saying_init
  m_Saying_init : Meth K C_Saying "__init__" f_Saying_init
  b_Saying_init : Binds K d_Saying_init ["self", "word", "left", "right"] []
  f_take : Addr
  d_take : FuncData
  F_take : Fun K "_law_take" "_law_take" s_take f_take d_take
  g_take : mg "_law_take" = some (.ref f_take)
  b_take : Binds K d_take ["box", "wide"] []
  f_p_check_words : Addr
  d_p_check_words : FuncData
  F_p_check_words : Fun K "_check_words" "_check_words" s_p_check_words f_p_check_words d_p_check_words
  g_p_check_words : mg "_check_words" = some (.ref f_p_check_words)
  b_p_check_words : Binds K d_p_check_words ["sayings"] []
  f_p_same : Addr
  d_p_same : FuncData
  F_p_same : Fun K "same" "same" s_p_same f_p_same d_p_same
  g_p_same : mg "same" = some (.ref f_p_same)
  b_p_same : Binds K d_p_same ["left", "right"] []
  f_p_plus : Addr
  d_p_plus : FuncData
  F_p_plus : Fun K "plus" "plus" s_p_plus f_p_plus d_p_plus
  g_p_plus : mg "plus" = some (.ref f_p_plus)
  b_p_plus : Binds K d_p_plus ["left", "right"] []
  f_p_times : Addr
  d_p_times : FuncData
  F_p_times : Fun K "times" "times" s_p_times f_p_times d_p_times
  g_p_times : mg "times" = some (.ref f_p_times)
  b_p_times : Binds K d_p_times ["left", "right"] []
  f_p_either : Addr
  d_p_either : FuncData
  F_p_either : Fun K "either" "either" s_p_either f_p_either d_p_either
  g_p_either : mg "either" = some (.ref f_p_either)
  b_p_either : Binds K d_p_either ["one", "other"] []
  kb_p_either_0 : KBinds K d_p_either ["one", "other"] ["other", "one"] (kgen 0 2 [1, 0]) (kgen 0 2 [1, 0])
  f_p_sum_of : Addr
  d_p_sum_of : FuncData
  F_p_sum_of : Fun K "sum_of" "sum_of" s_p_sum_of f_p_sum_of d_p_sum_of
  g_p_sum_of : mg "sum_of" = some (.ref f_p_sum_of)
  b_p_sum_of : Binds K d_p_sum_of ["terms"] []
  f_p_num : Addr
  d_p_num : FuncData
  F_p_num : Fun K "num" "num" s_p_num f_p_num d_p_num
  g_p_num : mg "num" = some (.ref f_p_num)
  b_p_num : Binds K d_p_num ["number"] []
  f_p_made_one : Addr
  d_p_made_one : FuncData
  F_p_made_one : Fun K "made_one" "made_one" s_p_made_one f_p_made_one d_p_made_one
  g_p_made_one : mg "made_one" = some (.ref f_p_made_one)
  b_p_made_one : Binds K d_p_made_one ["sayings"] []
  kb_p_made_one_0 : KBinds K d_p_made_one ["sayings"] ["sayings"] (kgen 0 1 [0]) (kgen 0 1 [0])
  f_p_figure : Addr
  d_p_figure : FuncData
  F_p_figure : Fun K "figure" "figure" s_p_figure f_p_figure d_p_figure
  g_p_figure : mg "figure" = some (.ref f_p_figure)
  b_p_figure : Binds K d_p_figure ["number", "base", "k"] []
  kb_p_figure_0 : KBinds K d_p_figure ["number", "base", "k"] ["k", "base", "number"] (kgen 0 3 [2, 1, 0]) (kgen 0 3 [2, 1, 0])
  kb_p_figure_1 : KBinds K d_p_figure ["number", "base", "k"] ["base", "k", "number"] (kgen 0 3 [2, 0, 1]) (kgen 0 3 [2, 0, 1])
  f_p_of_figures : Addr
  d_p_of_figures : FuncData
  F_p_of_figures : Fun K "of_figures" "of_figures" s_p_of_figures f_p_of_figures d_p_of_figures
  g_p_of_figures : mg "of_figures" = some (.ref f_p_of_figures)
  b_p_of_figures : Binds K d_p_of_figures ["some", "base"] []
  kb_p_of_figures_0 : KBinds K d_p_of_figures ["some", "base"] ["base", "some"] (kgen 0 2 [1, 0]) (kgen 0 2 [1, 0])
  f_p_ones : Addr
  d_p_ones : FuncData
  F_p_ones : Fun K "ones" "ones" s_p_ones f_p_ones d_p_ones
  g_p_ones : mg "ones" = some (.ref f_p_ones)
  b_p_ones : Binds K d_p_ones ["base", "many"] []
  kb_p_ones_0 : KBinds K d_p_ones ["base", "many"] ["many", "base"] (kgen 0 2 [1, 0]) (kgen 0 2 [1, 0])
  f_p_figures : Addr
  d_p_figures : FuncData
  F_p_figures : Fun K "figures" "figures" s_p_figures f_p_figures d_p_figures
  g_p_figures : mg "figures" = some (.ref f_p_figures)
  b_p_figures : Binds K d_p_figures ["number", "base", "many"] []
  kb_p_figures_0 : KBinds K d_p_figures ["number", "base", "many"] ["many", "base", "number"] (kgen 0 3 [2, 1, 0]) (kgen 0 3 [2, 1, 0])
  f_figures_right : Addr
  d_figures_right : FuncData
  F_figures_right : Fun K "_law_figures_right" "_law_figures_right" s_figures_right f_figures_right d_figures_right
  g_figures_right : mg "_law_figures_right" = some (.ref f_figures_right)
  b_figures_right : Binds K d_figures_right ["whole", "wide", "count"] []
  f_p_bits_of : Addr
  d_p_bits_of : FuncData
  F_p_bits_of : Fun K "bits_of" "bits_of" s_p_bits_of f_p_bits_of d_p_bits_of
  g_p_bits_of : mg "bits_of" = some (.ref f_p_bits_of)
  b_p_bits_of : Binds K d_p_bits_of ["number"] []
  kb_p_bits_of_0 : KBinds K d_p_bits_of ["number"] ["number"] (kgen 0 1 [0]) (kgen 0 1 [0])
  f_p_stands_out : Addr
  d_p_stands_out : FuncData
  F_p_stands_out : Fun K "stands_out" "stands_out" s_p_stands_out f_p_stands_out d_p_stands_out
  g_p_stands_out : mg "stands_out" = some (.ref f_p_stands_out)
  b_p_stands_out : Binds K d_p_stands_out ["one", "other"] []
  kb_p_stands_out_0 : KBinds K d_p_stands_out ["one", "other"] ["other", "one"] (kgen 0 2 [1, 0]) (kgen 0 2 [1, 0])
  f_p_fits : Addr
  d_p_fits : FuncData
  F_p_fits : Fun K "fits" "fits" s_p_fits f_p_fits d_p_fits
  g_p_fits : mg "fits" = some (.ref f_p_fits)
  b_p_fits : Binds K d_p_fits ["one", "other"] []
  kb_p_fits_0 : KBinds K d_p_fits ["one", "other"] ["other", "one"] (kgen 0 2 [1, 0]) (kgen 0 2 [1, 0])
  f_p_of_bits : Addr
  d_p_of_bits : FuncData
  F_p_of_bits : Fun K "of_bits" "of_bits" s_p_of_bits f_p_of_bits d_p_of_bits
  g_p_of_bits : mg "of_bits" = some (.ref f_p_of_bits)
  b_p_of_bits : Binds K d_p_of_bits ["text"] []
  kb_p_of_bits_0 : KBinds K d_p_of_bits ["text"] ["text"] (kgen 0 1 [0]) (kgen 0 1 [0])
  f_p_how_many : Addr
  d_p_how_many : FuncData
  F_p_how_many : Fun K "how_many" "how_many" s_p_how_many f_p_how_many d_p_how_many
  g_p_how_many : mg "how_many" = some (.ref f_p_how_many)
  b_p_how_many : Binds K d_p_how_many ["number"] []
  kb_p_how_many_0 : KBinds K d_p_how_many ["number"] ["number"] (kgen 0 1 [0]) (kgen 0 1 [0])
  f_bits_right : Addr
  d_bits_right : FuncData
  F_bits_right : Fun K "_law_bits_right" "_law_bits_right" s_bits_right f_bits_right d_bits_right
  g_bits_right : mg "_law_bits_right" = some (.ref f_bits_right)
  b_bits_right : Binds K d_bits_right ["first", "second"] []
  f_p_choose : Addr
  d_p_choose : FuncData
  F_p_choose : Fun K "choose" "choose" s_p_choose f_p_choose d_p_choose
  g_p_choose : mg "choose" = some (.ref f_p_choose)
  b_p_choose : Binds K d_p_choose ["n", "k"] []
  kb_p_choose_0 : KBinds K d_p_choose ["n", "k"] ["k", "n"] (kgen 0 2 [1, 0]) (kgen 0 2 [1, 0])
  f_p_halvings : Addr
  d_p_halvings : FuncData
  F_p_halvings : Fun K "halvings" "halvings" s_p_halvings f_p_halvings d_p_halvings
  g_p_halvings : mg "halvings" = some (.ref f_p_halvings)
  b_p_halvings : Binds K d_p_halvings ["number"] []
  kb_p_halvings_0 : KBinds K d_p_halvings ["number"] ["number"] (kgen 0 1 [0]) (kgen 0 1 [0])
  f_p_carries : Addr
  d_p_carries : FuncData
  F_p_carries : Fun K "carries" "carries" s_p_carries f_p_carries d_p_carries
  g_p_carries : mg "carries" = some (.ref f_p_carries)
  b_p_carries : Binds K d_p_carries ["one", "other"] []
  kb_p_carries_0 : KBinds K d_p_carries ["one", "other"] ["other", "one"] (kgen 0 2 [1, 0]) (kgen 0 2 [1, 0])
  f_p_is_odd : Addr
  d_p_is_odd : FuncData
  F_p_is_odd : Fun K "is_odd" "is_odd" s_p_is_odd f_p_is_odd d_p_is_odd
  g_p_is_odd : mg "is_odd" = some (.ref f_p_is_odd)
  b_p_is_odd : Binds K d_p_is_odd ["n", "k"] []
  kb_p_is_odd_0 : KBinds K d_p_is_odd ["n", "k"] ["k", "n"] (kgen 0 2 [1, 0]) (kgen 0 2 [1, 0])
  f_p_figure_of_power : Addr
  d_p_figure_of_power : FuncData
  F_p_figure_of_power : Fun K "figure_of_power" "figure_of_power" s_p_figure_of_power f_p_figure_of_power d_p_figure_of_power
  g_p_figure_of_power : mg "figure_of_power" = some (.ref f_p_figure_of_power)
  b_p_figure_of_power : Binds K d_p_figure_of_power ["n", "k"] []
  kb_p_figure_of_power_0 : KBinds K d_p_figure_of_power ["n", "k"] ["k", "n"] (kgen 0 2 [1, 0]) (kgen 0 2 [1, 0])
  f_choosing_right : Addr
  d_choosing_right : FuncData
  F_choosing_right : Fun K "_law_choosing_right" "_law_choosing_right" s_choosing_right f_choosing_right d_choosing_right
  g_choosing_right : mg "_law_choosing_right" = some (.ref f_choosing_right)
  b_choosing_right : Binds K d_choosing_right ["first", "second"] []
  f_p_folded : Addr
  d_p_folded : FuncData
  F_p_folded : Fun K "folded" "folded" s_p_folded f_p_folded d_p_folded
  g_p_folded : mg "folded" = some (.ref f_p_folded)
  b_p_folded : Binds K d_p_folded ["term", "lone_of", "both_of"] []
  f_p_term_of : Addr
  d_p_term_of : FuncData
  F_p_term_of : Fun K "_term_of" "_term_of" s_p_term_of f_p_term_of d_p_term_of
  g_p_term_of : mg "_term_of" = some (.ref f_p_term_of)
  b_p_term_of : Binds K d_p_term_of ["word", "first", "second"] []
  f_p_named : Addr
  d_p_named : FuncData
  F_p_named : Fun K "named" "named" s_p_named f_p_named d_p_named
  g_p_named : mg "named" = some (.ref f_p_named)
  b_p_named : Binds K d_p_named ["text"] []
  f_p_renamed_lone : Addr
  d_p_renamed_lone : FuncData
  F_p_renamed_lone : Fun K "_renamed_lone" "_renamed_lone" s_p_renamed_lone f_p_renamed_lone d_p_renamed_lone
  g_p_renamed_lone : mg "_renamed_lone" = some (.ref f_p_renamed_lone)
  b_p_renamed_lone : Binds K d_p_renamed_lone ["term", "names"] []
  f_p_renamed_term : Addr
  c_p_renamed_term : Addr
  t_p_renamed_term : Addr
  d_p_renamed_term : FuncData
  F_p_renamed_term : FunC K "_renamed_term" "_renamed_term" s_p_renamed_term f_p_renamed_term c_p_renamed_term d_p_renamed_term
  tb_p_renamed_term : TabB base mg c_p_renamed_term t_p_renamed_term
  nm_p_renamed_term : nm t_p_renamed_term = (("_renamed_term" : Str) ++ ".<locals>.") ++ "<lambda>"
  g_p_renamed_term : mg "_renamed_term" = some (.ref f_p_renamed_term)
  b_p_renamed_term : Binds K d_p_renamed_term ["term", "names"] []
  f_p_renamed : Addr
  d_p_renamed : FuncData
  F_p_renamed : Fun K "renamed" "renamed" s_p_renamed f_p_renamed d_p_renamed
  g_p_renamed : mg "renamed" = some (.ref f_p_renamed)
  b_p_renamed : Binds K d_p_renamed ["saying", "names"] []
  kb_p_renamed_0 : KBinds K d_p_renamed ["saying", "names"] ["names", "saying"] (kgen 0 2 [1, 0]) (kgen 0 2 [1, 0])
  f_p_cut : Addr
  d_p_cut : FuncData
  F_p_cut : Fun K "_cut" "_cut" s_p_cut f_p_cut d_p_cut
  g_p_cut : mg "_cut" = some (.ref f_p_cut)
  b_p_cut : Binds K d_p_cut ["bits", "places"] []
  f_p_head : Addr
  d_p_head : FuncData
  F_p_head : Fun K "_head" "_head" s_p_head f_p_head d_p_head
  g_p_head : mg "_head" = some (.ref f_p_head)
  b_p_head : Binds K d_p_head ["number"] []
  f_p_check_bits : Addr
  d_p_check_bits : FuncData
  F_p_check_bits : Fun K "_check_bits" "_check_bits" s_p_check_bits f_p_check_bits d_p_check_bits
  g_p_check_bits : mg "_check_bits" = some (.ref f_p_check_bits)
  b_p_check_bits : Binds K d_p_check_bits ["head"] []
  f_p_product_of_heads : Addr
  d_p_product_of_heads : FuncData
  F_p_product_of_heads : Fun K "_product_of_heads" "_product_of_heads" s_p_product_of_heads f_p_product_of_heads d_p_product_of_heads
  g_p_product_of_heads : mg "_product_of_heads" = some (.ref f_p_product_of_heads)
  b_p_product_of_heads : Binds K d_p_product_of_heads ["one", "other"] []
  f_p_check_power : Addr
  d_p_check_power : FuncData
  F_p_check_power : Fun K "_check_power" "_check_power" s_p_check_power f_p_check_power d_p_check_power
  g_p_check_power : mg "_check_power" = some (.ref f_p_check_power)
  b_p_check_power : Binds K d_p_check_power ["base", "exponent"] []
  f_p_bounded : Addr
  d_p_bounded : FuncData
  F_p_bounded : Fun K "bounded" "bounded" s_p_bounded f_p_bounded d_p_bounded
  g_p_bounded : mg "bounded" = some (.ref f_p_bounded)
  b_p_bounded : Binds K d_p_bounded ["number"] []
  f_p_bounded_product : Addr
  d_p_bounded_product : FuncData
  F_p_bounded_product : Fun K "bounded_product" "bounded_product" s_p_bounded_product f_p_bounded_product d_p_bounded_product
  g_p_bounded_product : mg "bounded_product" = some (.ref f_p_bounded_product)
  b_p_bounded_product : Binds K d_p_bounded_product ["first", "second"] []
  f_p_bounded_power : Addr
  d_p_bounded_power : FuncData
  F_p_bounded_power : Fun K "bounded_power" "bounded_power" s_p_bounded_power f_p_bounded_power d_p_bounded_power
  g_p_bounded_power : mg "bounded_power" = some (.ref f_p_bounded_power)
  b_p_bounded_power : Binds K d_p_bounded_power ["base", "exponent"] []
  f_p_joined : Addr
  d_p_joined : FuncData
  F_p_joined : Fun K "_joined" "_joined" s_p_joined f_p_joined d_p_joined
  g_p_joined : mg "_joined" = some (.ref f_p_joined)
  b_p_joined : Binds K d_p_joined ["word", "first", "second"] []
  f_p_lone_worth : Addr
  d_p_lone_worth : FuncData
  F_p_lone_worth : Fun K "_lone_worth" "_lone_worth" s_p_lone_worth f_p_lone_worth d_p_lone_worth
  g_p_lone_worth : mg "_lone_worth" = some (.ref f_p_lone_worth)
  b_p_lone_worth : Binds K d_p_lone_worth ["term", "answer"] []
  f_p_worth : Addr
  c_p_worth : Addr
  t_p_worth : Addr
  d_p_worth : FuncData
  F_p_worth : FunC K "worth" "worth" s_p_worth f_p_worth c_p_worth d_p_worth
  tb_p_worth : TabB base mg c_p_worth t_p_worth
  nm_p_worth : nm t_p_worth = (("worth" : Str) ++ ".<locals>.") ++ "<lambda>"
  g_p_worth : mg "worth" = some (.ref f_p_worth)
  b_p_worth : Binds K d_p_worth ["term", "answer"] []
  f_p_sides : Addr
  d_p_sides : FuncData
  F_p_sides : Fun K "_sides" "_sides" s_p_sides f_p_sides d_p_sides
  g_p_sides : mg "_sides" = some (.ref f_p_sides)
  b_p_sides : Binds K d_p_sides ["saying", "answer"] []
  f_p_holds : Addr
  d_p_holds : FuncData
  F_p_holds : Fun K "holds" "holds" s_p_holds f_p_holds d_p_holds
  g_p_holds : mg "holds" = some (.ref f_p_holds)
  b_p_holds : Binds K d_p_holds ["saying", "answer"] []
  kb_p_holds_0 : KBinds K d_p_holds ["saying", "answer"] ["answer", "saying"] (kgen 0 2 [1, 0]) (kgen 0 2 [1, 0])
  f_p_off : Addr
  d_p_off : FuncData
  F_p_off : Fun K "off" "off" s_p_off f_p_off d_p_off
  g_p_off : mg "off" = some (.ref f_p_off)
  b_p_off : Binds K d_p_off ["saying", "answer"] []
  kb_p_off_0 : KBinds K d_p_off ["saying", "answer"] ["answer", "saying"] (kgen 0 2 [1, 0]) (kgen 0 2 [1, 0])
  f_p_first_wrong : Addr
  d_p_first_wrong : FuncData
  F_p_first_wrong : Fun K "first_wrong" "first_wrong" s_p_first_wrong f_p_first_wrong d_p_first_wrong
  g_p_first_wrong : mg "first_wrong" = some (.ref f_p_first_wrong)
  b_p_first_wrong : Binds K d_p_first_wrong ["sayings", "answer"] []
  kb_p_first_wrong_0 : KBinds K d_p_first_wrong ["sayings", "answer"] ["answer", "sayings"] (kgen 0 2 [1, 0]) (kgen 0 2 [1, 0])
  f_p_far_off : Addr
  d_p_far_off : FuncData
  F_p_far_off : Fun K "far_off" "far_off" s_p_far_off f_p_far_off d_p_far_off
  g_p_far_off : mg "far_off" = some (.ref f_p_far_off)
  b_p_far_off : Binds K d_p_far_off ["sayings", "answer"] []
  kb_p_far_off_0 : KBinds K d_p_far_off ["sayings", "answer"] ["answer", "sayings"] (kgen 0 2 [1, 0]) (kgen 0 2 [1, 0])
  f_looking_right : Addr
  d_looking_right : FuncData
  F_looking_right : Fun K "_law_looking_right" "_law_looking_right" s_looking_right f_looking_right d_looking_right
  g_looking_right : mg "_law_looking_right" = some (.ref f_looking_right)
  b_looking_right : Binds K d_looking_right ["first", "second", "word"] []
  f_law : Addr
  d_law : FuncData
  F_law : Fun K "law" "law" s_law f_law d_law
  g_law : mg "law" = some (.ref f_law)
  b_law : Binds K d_law ["script"] []
  cl_Saying : Cls K C_Saying
  g_Saying : mg "Saying" = some (.ref C_Saying)
  n_Saying_word : NoAttr K C_Saying "word"
  n_Saying_left : NoAttr K C_Saying "left"
  n_Saying_right : NoAttr K C_Saying "right"
  mk_Saying : Mk K C_Saying f_Saying_init
  ic_Saying : C8.InsC K C_Saying
  eq_Saying : EqC K C_Saying f_Saying_eq
  w_MARKS : Addr
  we_MARKS : Array DictEntry
  wn_MARKS : Nat
  wk_MARKS : KDict K w w_MARKS we_MARKS wn_MARKS
  g_MARKS : mg "MARKS" = some (.ref w_MARKS)
  wv_MARKS_0 : Value
  wf_MARKS_0 : PySem.W.nsIn K w_MARKS (Str.ofString "same") = some (some wv_MARKS_0)
  wr_MARKS_0 : RelV (V.str (Str.ofString "=")) wv_MARKS_0
  wv_MARKS_1 : Value
  wf_MARKS_1 : PySem.W.nsIn K w_MARKS (Str.ofString "under") = some (some wv_MARKS_1)
  wr_MARKS_1 : RelV (V.str (Str.ofString "under")) wv_MARKS_1
  k_BITS : Tok
  g_BITS : mg "BITS" = some (Value.str (Str.ofString "01") k_BITS)
  k_HEAD_BITS : Tok
  g_HEAD_BITS : mg "HEAD_BITS" = some (Value.int 128 k_HEAD_BITS)
  k_MOST_BITS : Tok
  g_MOST_BITS : mg "MOST_BITS" = some (Value.int 1000000 k_MOST_BITS)
  z_divmod : mg "divmod" = none
  z_enumerate : mg "enumerate" = none
  z_int : mg "int" = none
  z_isinstance : mg "isinstance" = none
  z_len : mg "len" = none
  z_max : mg "max" = none
  z_min : mg "min" = none
  z_range : mg "range" = none
  z_reversed : mg "reversed" = none
  z_sum : mg "sum" = none
  g_comb : mg "comb" = some (.builtin "math.comb")
  s_msd : PySem.W.nsIn K cStatics "sys.int_max_str_digits" = some none
section
variable {P : Program} {w : World} {K : PySem.W.Frag} {mg : Str → Option Value} {base : Heap}
/-! the reading, step by step: own words, by strings -/
local macro_rules | `(tactic| tm_at "ne") => `(tactic| with_reducible first
  | assumption
  | exact Ne.symm (by assumption)
  | exact ne_fr (by assumption) (by tm_at "mv")
  | exact box_ne (by assumption) (by tm_at "mv")
  | exact (ne_fr (by assumption) (by tm_at "mv")).symm
  | exact (box_ne (by assumption) (by tm_at "mv")).symm)
local macro_rules | `(tactic| tm_at "mv") => `(tactic| with_reducible first
  | assumption
  | (show upd _ _ _ _ = some _; first
    | exact upd_same
    | exact (sm_upd (by assumption)).to _ _ (by tm_at "mv")
    | exact chg_upd.to _ _ (by tm_at "ne") (by tm_at "mv"))
  | (show _ = some _; first
    | exact Sm.to (by assumption) _ _ (by tm_at "mv")
    | exact Chg.to (by assumption) _ _ (by tm_at "ne") (by tm_at "mv"))
  | (show SqL _ (upd _ _ _) _ _; first
    | exact SqL.of (by assumption)
    | exact SqL.of upd_same
    | exact (sm_upd (by assumption)).seq (by tm_at "mv")
    | exact chg_upd.seq (by tm_at "ne") (by tm_at "mv"))
  | (show SqL _ _ _ _; first
    | exact SqL.of (by assumption)
    | exact Sm.seq (by assumption) (by tm_at "mv")
    | exact Chg.seq (by assumption) (by tm_at "ne") (by tm_at "mv"))
  | (show SqT _ (upd _ _ _) _ _; first
    | exact SqT.of (by assumption)
    | exact SqT.of upd_same
    | exact (sm_upd (by assumption)).seqT (by tm_at "mv")
    | exact chg_upd.seqT (by tm_at "ne") (by tm_at "mv"))
  | (show SqT _ _ _ _; first
    | exact SqT.of (by assumption)
    | exact Sm.seqT (by assumption) (by tm_at "mv")
    | exact Chg.seqT (by assumption) (by tm_at "ne") (by tm_at "mv"))
  | (show Dp _ (upd _ _ _) _ _; exact (sm_upd (by assumption)).dp (by tm_at "mv"))
  | (show Dp _ _ _ _; exact Sm.dp (by assumption) (by tm_at "mv"))
  | (show BoxAt (upd _ _ _) _; first
    | exact BoxAt.sm (sm_upd (by assumption)) (by tm_at "mv")
    | exact BoxAt.chg chg_upd (by tm_at "ne") (by tm_at "mv"))
  | (show BoxAt _ _; first
    | exact BoxAt.sm (by assumption) (by tm_at "mv")
    | exact BoxAt.chg (by assumption) (by tm_at "ne") (by tm_at "mv")))
local macro_rules | `(tactic| tm_at "sd") => `(tactic| first
  | assumption
  | exact cmul_l (by decide)
  | exact cmul_r (by decide)
  | exact cshl1 (by omega) (by omega)
  | exact cdiv_s (by omega) (by omega)
  | exact cmul_r (by omega)
  | exact cmul_l (by omega)
  | (show (0 : Int) < _; first | decide | omega)
  | omega
  | exact ⟨by decide, by decide, by decide⟩
  | exact sz_le (by simp only [List.length_cons, List.length_nil]; omega))
local macro_rules | `(tactic| tm_at "if") => `(tactic| with_reducible first
  | refine ite_y rfl ?_
  | refine ite_o rfl ?_
  | refine ite_y (decide_eq_true (by first | assumption | omega)) ?_
  | refine ite_o (decide_eq_false (by first | assumption | omega)) ?_)
local macro_rules | `(tactic| tm_at "1") => `(tactic| with_reducible first
  | refine r_seq ?_
  | refine r_nx ?_
  | refine r_rt ?_
  | refine r_next ?_
  | refine r_op ?_
  | refine r_var rfl ?_
  | refine r_C ?_
  | refine r_asg ?_
  | refine r_gN ?_
  | refine r_cons ?_
  | refine r_nil ?_
  | refine r_call ?_
  | refine r_CB ?_
  | refine r_ret ?_
  | refine r_if ?_
  | refine r_test ?_
  | refine r_bl ?_
  | refine r_addI ?_
  | refine r_I0 ?_
  | refine r_eqI ?_
  | refine r_neI ?_
  | refine r_eqS ?_
  | refine r_neS ?_
  | refine r_eqB ?_
  | refine r_neB ?_
  | refine r_un ?_
  | refine r_U ?_
  | refine r_drop ?_
  | refine r_lst ?_
  | refine r_tup ?_
  | refine r_par ?_
  | refine r_vw ?_
  | refine r_aug rfl ?_
  | refine r_ip ?_
  | refine r_and ?_
  | refine r_or ?_
  | refine r_not ?_
  | refine r_notT ?_
  | refine r_orT ?_
  | refine r_andT ?_
  | refine r_tru_bl ?_
  | refine r_tru_int ?_
  | refine r_ifE ?_
  | refine r_gS ?_
  | refine r_gC ?_
  | refine r_g0 ?_
  | refine r_retN ?_
  | refine r_sl ?_
  | refine r_noPart ?_
  | refine r_part ?_
  | refine r_exI ?_
  | refine r_callK ?_
  | refine r_bm ?_
  | refine r_chain ?_
  | refine r_isB ?_
  | refine r_isi_int rfl ?_
  | refine r_isi_bl rfl ?_
  | refine r_isi_str rfl ?_
  | refine r_inS ?_
  | refine r_notInS ?_
  | refine r_bmS ?_
  | refine r_lc ?_
  | refine r_for ?_
  | refine r_R1 ?_
  | refine r_yes ?_
  | refine r_aS ?_
  | refine r_intB ?_
  | refine r_intI ?_
  | refine r_strS ?_)
local macro_rules | `(tactic| tm_at "h") => `(tactic| first
  | ((with_reducible show rI _ _ (V.int _) (V.int _) _ _); refine r_I (by tm_at "sd") ?_)
  | ((with_reducible show rMulA _ (V.int _) (V.int _) _ _); refine r_mulS (by tm_at "sd") ?_)
  | ((with_reducible show rIx _ (V.ref _) (V.int _) _ _); first
    | ((with_reducible show rIx _ (V.ref _) (V.int 0) _ _); first | refine r_ixL0 (by tm_at "mv") ?_ | refine r_ixT0 (by tm_at "mv") ?_)
    | ((with_reducible show rIx _ (V.ref _) (V.int 1) _ _); first | refine r_ixL1 (by tm_at "mv") ?_ | refine r_ixT1 (by tm_at "mv") ?_)
    | ((with_reducible show rIx _ (V.ref _) (V.int 2) _ _); first | refine r_ixL2 (by tm_at "mv") ?_ | refine r_ixT2 (by tm_at "mv") ?_))
  | ((with_reducible show rLenA _ [V.ref _] _ _); first
    | refine r_lenL (by tm_at "mv") ?_
    | refine r_lenT (by tm_at "mv") ?_)
  | ((with_reducible show rSetL (V.ref _) (V.int _) _ _ _); first | refine r_setB0 (by tm_at "mv") ?_ | refine r_setB1 (by tm_at "mv") ?_)
  | ((with_reducible show gTup _ _ _ (V.ref _) _ _ _); refine r_gT (by tm_at "mv") (by exact rfl) ?_)
  | ((with_reducible show tyV _ "list" (V.ref _) _ ∧ _); refine r_bmL (by tm_at "mv") ?_)
  | ((with_reducible show tAug _ _ _ _ _ _); refine r_aug (by exact rfl) ?_)
  | ((with_reducible show rMaxA _ [V.int _, V.int _] _ _); refine r_maxF ?_; intro _ _ _ _)
  | ((with_reducible show rMinA _ [V.int _, V.int _] _ _); refine r_minF ?_; intro _ _ _ _)
  | ((with_reducible show wipe _ _ = wipe _ _ ∧ _); refine r_wipe (by exact rfl) ?_)
  | ((with_reducible show ∃ j, [V.int _] = [V.int j] ∧ _); refine r_rng (by omega) (by omega) ?_)
  | ((with_reducible show tVar _ _ _ _); refine r_var (by exact rfl) ?_))
local macro_rules | `(tactic| tm_at "sm") => `(tactic| with_reducible first
  | exact Sm.refl _
  | assumption
  | (show Sm _ (upd _ _ _); first
    | exact sm_tr (sm_upd (by assumption)) (by tm_at "sm")
    | exact sm_acc2 (by assumption) (by tm_at "sm"))
  | exact sm_tr (by assumption) (by tm_at "sm")
  | exact sm_hid (by assumption) (by assumption) (by tm_at "sm"))
local macro_rules | `(tactic| tm_at "fr") => `(tactic| with_reducible first
  | assumption
  | exact fr_of (by assumption) (by tm_at "sm"))
local macro_rules | `(tactic| tm_at "al") => `(tactic| (refine ⟨by tm_at "sd", fun p np => ?_⟩))
local macro_rules | `(tactic| tm_at "rv") => `(tactic| repeat (first | tm_at "1" | tm_at "h" | tm_at "if" | ((with_reducible show _ ≤ sizeLine ∧ ∀ _, _); refine ⟨by tm_at "sd", fun p np => ?_⟩)))
local macro_rules | `(tactic| tm_at "ch") => `(tactic| with_reducible first
  | exact Chg.refl _ _
  | assumption
  | (show Chg _ _ (upd _ _ _); first
    | exact chg_tr (sm_upd (by assumption)).chg (by tm_at "ch")
    | exact chg_acc2 (by assumption) (by tm_at "ch")
    | exact chg_tr chg_upd (by tm_at "ch"))
  | exact chg_tr (by assumption) (by tm_at "ch")
  | exact chg_tr (Sm.chg (by assumption)) (by tm_at "ch"))

local macro_rules | `(tactic| tm_at "1") => `(tactic| with_reducible first
  | refine x_intB ?_
  | refine x_intI ?_)

local macro_rules | `(tactic| tm_at "1") => `(tactic| with_reducible first
  | refine r_bin ?_
  | refine r_par3 ?_
  | refine r_uvw ?_
  | refine r_tru_non ?_
  | refine r_joined ?_
  | refine r_js0 ?_
  | refine r_js1 ?_
  | refine r_fmtS ?_)


local macro_rules | `(tactic| tm_at "1") => `(tactic| with_reducible first
  | refine r_bits ?_
  | refine r_tB ?_
  | refine r_dnotin ?_
  | refine r_din ?_)

local macro_rules | `(tactic| tm_at "1") => `(tactic| with_reducible first
  | refine r_fld ?_
  | refine r_setF ?_
  | refine r_make ?_
  | refine r_pairs0 ?_
  | refine r_pairs1 ?_
  | refine r_dg ?_
  | refine r_zip ?_)
local macro_rules | `(tactic| tm_at "if") => `(tactic| with_reducible first
  | refine ite_o (not_o (by first | assumption | omega)) ?_
  | refine ite_y (not_y (by first | assumption | omega)) ?_)
local macro_rules | `(tactic| tm_at "if") => `(tactic| ((with_reducible show if decide (Str.ofString _ = Str.ofString _) = true then _ else _); first | refine ite_y (by decide +kernel) ?_ | refine ite_o (by decide +kernel) ?_))

theorem r_notNon {R : Prop} (k : R) : V.non = V.non ∧ R := ⟨rfl, k⟩
theorem notN_ref {a : Addr} : (!decide (V.ref a = V.non)) = true := rfl
theorem notN_non : (!decide (V.non = V.non)) = false := rfl
theorem isN_ref {a : Addr} : decide (V.ref a = V.non) = false := rfl
theorem isN_non : decide (V.non = V.non) = true := rfl
local macro_rules | `(tactic| tm_at "1") => `(tactic| with_reducible first
  | refine r_notNon ?_
  | refine r_and ?_)
local macro_rules | `(tactic| tm_at "if") => `(tactic| with_reducible first
  | refine ite_y notN_ref ?_
  | refine ite_o notN_non ?_
  | refine ite_o isN_ref ?_
  | refine ite_y isN_non ?_)

/-! bits of a number, written and read -/
def sp_p_bits_of : Sp := fun vs H Q _ => ∃ (n : Int) (k : Nat), vs = [.int n] ∧ 0 ≤ n ∧ n < 2 ^ k ∧ k ≤ 900000 ∧ Q (.str (SX.S (bin n.toNat))) H
theorem use_bits_of {H : Hp} {Q : VK} {E : XK} {n : Int} (k : Nat) (h0 : 0 ≤ n) (h1 : n < 2 ^ k) (hk : k ≤ 900000) (q : Q (.str (SX.S (bin n.toNat))) H) : sp_p_bits_of [.int n] H Q E := ⟨n, k, rfl, h0, h1, hk, q⟩
theorem ok_p_bits_of (T : Txt K mg w base) : FnOk P w K mg base CX0 1 T.f_p_bits_of T.d_p_bits_of ["number"] sp_p_bits_of := by
  refine T.F_p_bits_of.ok sc_p_bits_of (fun vs H Q E h => ?_) (fun cdv A outer s H vs Q E hr h => ?_)
  · obtain ⟨n, k, rfl, _⟩ := h
    rfl
  · obtain ⟨n, k, rfl, h0, h1, hk, q⟩ := h
    refine ⟨_, (pss_one (ps_ret (pe_joined1 (pe_bin (pv 0) (pe_joined1 pe_str))))), ?_⟩
    tm_at "rv"
    exact bin_ok h0 h1 hk q

/-! products and powers of bounded numbers, none too great -/
def sp_p_bounded : Sp := fun vs H Q _ => ∃ n : Int, vs = [.int n] ∧ 0 ≤ n ∧ bl n ≤ 1000000 ∧ Q (.int n) H
theorem use_bounded {H : Hp} {Q : VK} {E : XK} {n : Int} (h0 : 0 ≤ n) (h : bl n ≤ 1000000) (k : Q (.int n) H) : sp_p_bounded [.int n] H Q E := ⟨n, rfl, h0, h, k⟩
theorem ok_p_bounded (T : Txt K mg w base) : FnOk P w K mg base CX0 1 T.f_p_bounded T.d_p_bounded ["number"] sp_p_bounded := by
  refine T.F_p_bounded.ok sc_p_bounded (fun vs H Q E h => ?_) (fun cdv A outer s H vs Q E hr h => ?_)
  · obtain ⟨n, rfl, _⟩ := h
    rfl
  · obtain ⟨n, rfl, h0, h1, k⟩ := h
    refine ⟨_, (pss_cons (ps_if (pt_cmpR op_gt (pe_bits (pv 0)) (pe_glob (v := .int 1000000) (by rfl) T.g_MOST_BITS ⟨_, rfl⟩) (nomark _))
      (pss_one ps_never) pss_nil)
      (pss_one (ps_ret (pv 0)))), ?_⟩
    have h1 : Builtin.Int.intBits n ≤ 1000000 := h1
    tm_at "rv"
    exact k
def HdAt (n : Int) (t : Addr) (H : Hp) : Prop := ∃ m p : Int, H t = some (.tup [.int m, .int p]) ∧ Hd n m p
theorem HdAt.sm {n : Int} {t : Addr} {H H' : Hp} (e : Sm H H') (h : HdAt n t H) : HdAt n t H' := by
  obtain ⟨m, p, a, b⟩ := h
  exact ⟨m, p, e.to _ _ a, b⟩
def sp_p_cut : Sp := fun vs H Q _ => ∃ n b p : Int, vs = [.int b, .int p] ∧ 1 ≤ n ∧ 1 ≤ b ∧ 0 ≤ p ∧ b.toNat * 2 ^ p.toNat ≤ n.toNat ∧ ∀ t H', Sm H H' → HdAt n t H' → Q (.ref t) H'
theorem use_cut {H : Hp} {Q : VK} {E : XK} {b p : Int} (n : Int) (h0 : 1 ≤ n) (h1 : 1 ≤ b) (h2 : 0 ≤ p) (h3 : b.toNat * 2 ^ p.toNat ≤ n.toNat) (k : ∀ t H', Sm H H' → HdAt n t H' → Q (.ref t) H') : sp_p_cut [.int b, .int p] H Q E := ⟨n, b, p, rfl, h0, h1, h2, h3, k⟩
theorem ok_p_cut (T : Txt K mg w base) : FnOk P w K mg base CX0 1 T.f_p_cut T.d_p_cut ["bits", "places"] sp_p_cut := by
  refine T.F_p_cut.ok sc_p_cut (fun vs H Q E h => ?_) (fun cdv A outer s H vs Q E hr h => ?_)
  · obtain ⟨n, b, p, rfl, _⟩ := h
    rfl
  · obtain ⟨n, b, p, rfl, h0, h1, h2, h3, k⟩ := h
    refine ⟨_, (pss_cons (ps_set (i := 2) sc_p_cut.nd rfl (Or.inl rfl) (pe_callB (max_k (K := K) rfl rfl) (by rfl) T.z_max (by decide +kernel) (pa_cons pe_int (pa_cons (pe_op op_sub (pe_bits (pv 0)) (pe_glob (v := .int 128) (by rfl) T.g_HEAD_BITS ⟨_, rfl⟩)) pa_nil))))
      (pss_one (ps_ret (pe_tup (pa_cons (pe_op op_shr (pv 0) (pv 2)) (pa_cons (pe_op (add_k (K := K) rfl) (pv 1) (pv 2)) pa_nil)))))), ?_⟩
    tm_at "rv"
    rename_i mx g1 g2 g3 t nt
    exact k t _ (sm_upd nt) ⟨_, _, upd_same, Hd.cut h0 h1 h2 h3 g1 (by omega) g2⟩
def sp_p_head : Sp := fun vs H Q _ => ∃ n : Int, vs = [.int n] ∧ 1 ≤ n ∧ ∀ t H', Sm H H' → HdAt n t H' → Q (.ref t) H'
theorem use_head {H : Hp} {Q : VK} {E : XK} {n : Int} (h0 : 1 ≤ n) (k : ∀ t H', Sm H H' → HdAt n t H' → Q (.ref t) H') : sp_p_head [.int n] H Q E := ⟨n, rfl, h0, k⟩
theorem ok_p_head (T : Txt K mg w base) : FnOk P w K mg base CX0 2 T.f_p_head T.d_p_head ["number"] sp_p_head := by
  refine T.F_p_head.ok sc_p_head (fun vs H Q E h => ?_) (fun cdv A outer s H vs Q E hr h => ?_)
  · obtain ⟨n, rfl, _⟩ := h
    rfl
  · obtain ⟨n, rfl, h0, k⟩ := h
    refine ⟨_, (pss_one (ps_ret (pe_call (ok_p_cut T) hr (by rfl) T.g_p_cut T.F_p_cut.kp T.b_p_cut .nil pass0 (pa_cons (pv 0) (pa_cons pe_int pa_nil))))), ?_⟩
    tm_at "rv"
    refine use_cut n h0 h0 (Int.le_refl 0) (by show n.toNat * 2 ^ 0 ≤ n.toNat; omega) fun t H1 s1 h1 => ?_
    tm_at "rv"
    exact k t H1 s1 h1
def sp_p_product_of_heads : Sp := fun vs H Q _ => ∃ (a b : Addr) (n m : Int), vs = [.ref a, .ref b] ∧ HdAt n a H ∧ HdAt m b H ∧ ∀ t H', Sm H H' → HdAt (n * m) t H' → Q (.ref t) H'
theorem use_heads {H : Hp} {Q : VK} {E : XK} {a b : Addr} {n m : Int} (h : HdAt n a H) (g : HdAt m b H) (k : ∀ t H', Sm H H' → HdAt (n * m) t H' → Q (.ref t) H') : sp_p_product_of_heads [.ref a, .ref b] H Q E := ⟨a, b, n, m, rfl, h, g, k⟩
theorem ok_p_product_of_heads (T : Txt K mg w base) : FnOk P w K mg base CX0 2 T.f_p_product_of_heads T.d_p_product_of_heads ["one", "other"] sp_p_product_of_heads := by
  refine T.F_p_product_of_heads.ok sc_p_product_of_heads (fun vs H Q E h => ?_) (fun cdv A outer s H vs Q E hr h => ?_)
  · obtain ⟨a, b, n, m, rfl, _⟩ := h
    rfl
  · obtain ⟨a, b, n, m, rfl, ⟨m1, p1, e1, h1⟩, ⟨m2, p2, e2, h2⟩, k⟩ := h
    refine ⟨_, (pss_one (ps_ret (pe_call (ok_p_cut T) hr (by rfl) T.g_p_cut T.F_p_cut.kp T.b_p_cut .nil pass0 (pa_cons (pe_op op_mulX (pe_ix (ix_k (K := K) rfl) (pv 0) pe_int (fun _ _ => rfl)) (pe_ix (ix_k (K := K) rfl) (pv 1) pe_int (fun _ _ => rfl))) (pa_cons (pe_op (add_k (K := K) rfl) (pe_ix (ix_k (K := K) rfl) (pv 0) pe_int (fun _ _ => rfl)) (pe_ix (ix_k (K := K) rfl) (pv 1) pe_int (fun _ _ => rfl))) pa_nil))))), ?_⟩
    obtain ⟨g1, g2, g3, g4⟩ := h1.mul h2
    have f1 := h1.few
    have f2 := h2.few
    tm_at "rv"
    refine r_I (by show (bl m1 : Int) + (bl m2 : Int) ≤ 134217728; omega) ?_
    tm_at "rv"
    refine use_cut (n * m) g1 g2 g3 g4 fun t H1 s1 h1 => ?_
    tm_at "rv"
    exact k t H1 s1 h1
def sp_p_check_bits : Sp := fun vs H Q _ => ∃ (a : Addr) (n : Int), vs = [.ref a] ∧ HdAt n a H ∧ bl n ≤ 1000000 ∧ Q .non H
theorem use_check_bits {H : Hp} {Q : VK} {E : XK} {a : Addr} {n : Int} (h : HdAt n a H) (g : bl n ≤ 1000000) (k : Q .non H) : sp_p_check_bits [.ref a] H Q E := ⟨a, n, rfl, h, g, k⟩
theorem ok_p_check_bits (T : Txt K mg w base) : FnOk P w K mg base CX0 1 T.f_p_check_bits T.d_p_check_bits ["head"] sp_p_check_bits := by
  refine T.F_p_check_bits.ok sc_p_check_bits (fun vs H Q E h => ?_) (fun cdv A outer s H vs Q E hr h => ?_)
  · obtain ⟨a, n, rfl, _⟩ := h
    rfl
  · obtain ⟨a, n, rfl, ⟨m, p, e, h⟩, g, k⟩ := h
    refine ⟨_, (pss_cons (ps_asg (pv 0) (pg_tup rfl (pgs_cons (pg_name (i := 1) sc_p_check_bits.nd rfl (Or.inl rfl)) (pgs_cons (pg_name (i := 2) sc_p_check_bits.nd rfl (Or.inl rfl)) pgs_nil))))
      (pss_one (ps_if (pt_cmpR op_gt (pe_op (add_k (K := K) rfl) (pe_bits (pv 1)) (pv 2)) (pe_glob (v := .int 1000000) (by rfl) T.g_MOST_BITS ⟨_, rfl⟩) (nomark _))
      (pss_one ps_never) pss_nil))), ?_⟩
    have hb : (Builtin.Int.intBits m : Int) + p ≤ (bl n : Nat) := h.bits
    tm_at "rv"
    exact k
def sp_p_bounded_product : Sp := fun vs H Q _ => ∃ a b : Int, vs = [.int a, .int b] ∧ 0 ≤ a ∧ 0 ≤ b ∧ bl a ≤ 1000000 ∧ bl b ≤ 1000000 ∧ bl (a * b) ≤ 1000000 ∧ ∀ H', Sm H H' → Q (.int (a * b)) H'
theorem use_bproduct {H : Hp} {Q : VK} {E : XK} {a b : Int} (h0 : 0 ≤ a) (h1 : 0 ≤ b) (h2 : bl a ≤ 1000000) (h3 : bl b ≤ 1000000) (h4 : bl (a * b) ≤ 1000000) (k : ∀ H', Sm H H' → Q (.int (a * b)) H') : sp_p_bounded_product [.int a, .int b] H Q E := ⟨a, b, rfl, h0, h1, h2, h3, h4, k⟩
theorem ok_p_bounded_product (T : Txt K mg w base) : FnOk P w K mg base CX0 3 T.f_p_bounded_product T.d_p_bounded_product ["first", "second"] sp_p_bounded_product := by
  refine T.F_p_bounded_product.ok sc_p_bounded_product (fun vs H Q E h => ?_) (fun cdv A outer s H vs Q E hr h => ?_)
  · obtain ⟨a, b, rfl, _⟩ := h
    rfl
  · obtain ⟨a, b, rfl, h0, h1, h2, h3, h4, k⟩ := h
    refine ⟨_, (pss_cons (ps_if (pt_cmpR op_gt (pe_op (add_k (K := K) rfl) (pe_bits (pv 0)) (pe_bits (pv 1))) (pe_glob (v := .int 1000000) (by rfl) T.g_MOST_BITS ⟨_, rfl⟩) (nomark _))
      (pss_one (ps_expr (pe_call (ok_p_check_bits T) (hr.mono (by decide)) (by rfl) T.g_p_check_bits T.F_p_check_bits.kp T.b_p_check_bits .nil pass0 (pa_cons (pe_call (ok_p_product_of_heads T) hr (by rfl) T.g_p_product_of_heads T.F_p_product_of_heads.kp T.b_p_product_of_heads .nil pass0 (pa_cons (pe_call (ok_p_head T) hr (by rfl) T.g_p_head T.F_p_head.kp T.b_p_head .nil pass0 (pa_cons (pv 0) pa_nil)) (pa_cons (pe_call (ok_p_head T) hr (by rfl) T.g_p_head T.F_p_head.kp T.b_p_head .nil pass0 (pa_cons (pv 1) pa_nil)) pa_nil))) pa_nil)))) pss_nil)
      (pss_one (ps_ret (pe_call (ok_p_bounded T) (hr.mono (by decide)) (by rfl) T.g_p_bounded T.F_p_bounded.kp T.b_p_bounded .nil pass0 (pa_cons (pe_op op_mulX (pv 0) (pv 1)) pa_nil))))), ?_⟩
    have h2 : Builtin.Int.intBits a ≤ 1000000 := h2
    have h3 : Builtin.Int.intBits b ≤ 1000000 := h3
    have mx : CMulX a b := by
      show (bl a : Int) + (bl b : Int) ≤ 134217728
      show (Builtin.Int.intBits a : Int) + (Builtin.Int.intBits b : Int) ≤ 134217728
      omega
    tm_at "rv"
    refine ite_d (fun e => ?_) (fun e => ?_)
    · have a1 : 1 ≤ a := by
        rcases Int.lt_or_le 0 a with z | z
        · exact z
        · have : a = 0 := by omega
          subst this
          have : Builtin.Int.intBits 0 = 0 := bl_zero
          omega
      have b1 : 1 ≤ b := by
        rcases Int.lt_or_le 0 b with z | z
        · exact z
        · have : b = 0 := by omega
          subst this
          have : Builtin.Int.intBits 0 = 0 := bl_zero
          omega
      tm_at "rv"
      refine use_head a1 fun t1 H1 s1 g1 => ?_
      tm_at "rv"
      refine use_head b1 fun t2 H2 s2 g2 => ?_
      tm_at "rv"
      refine use_heads (g1.sm s2) g2 fun t3 H3 s3 g3 => ?_
      tm_at "rv"
      refine use_check_bits g3 h4 ?_
      tm_at "rv"
      refine use_bounded (Int.mul_nonneg h0 h1) h4 ?_
      tm_at "rv"
      exact k _ ((s1.trans s2).trans s3)
    · tm_at "rv"
      refine use_bounded (Int.mul_nonneg h0 h1) h4 ?_
      tm_at "rv"
      exact k _ (Sm.refl _)
theorem ofs_one : Str.ofString "1" = ⟨#[49]⟩ := by decide +kernel
theorem sign_one {c : Nat} (h : c = 48 ∨ c = 49) : (c = 48 ∧ ¬ (⟨#[c]⟩ : Str) = Str.ofString "1") ∨ (c = 49 ∧ (⟨#[c]⟩ : Str) = Str.ofString "1") := by
  rcases h with rfl | rfl
  · exact .inl ⟨rfl, by rw [ofs_one]; decide⟩
  · exact .inr ⟨rfl, ofs_one.symm⟩
def sp_p_check_power : Sp := fun vs H Q _ => ∃ b e : Int, vs = [.int b, .int e] ∧ 2 ≤ b ∧ 1 ≤ e ∧ bl (b ^ e.toNat) ≤ 1000000 ∧ ∀ H', Sm H H' → Q .non H'
theorem use_check_power {H : Hp} {Q : VK} {E : XK} {b e : Int} (h0 : 2 ≤ b) (h1 : 1 ≤ e) (h2 : bl (b ^ e.toNat) ≤ 1000000) (k : ∀ H', Sm H H' → Q .non H') : sp_p_check_power [.int b, .int e] H Q E := ⟨b, e, rfl, h0, h1, h2, k⟩
theorem exp_lt {b e : Int} (h0 : 2 ≤ b) (h1 : 1 ≤ e) (h2 : bl (b ^ e.toNat) ≤ 1000000) : e < 1000000 := by
  have := bl_pow h0 e.toNat
  omega
theorem exp_few {e : Int} (h1 : 1 ≤ e) (h : e < 1000000) : e < 2 ^ 20 ∧ (bin e.toNat).length ≤ 20 := by
  have e2 : (2 : Int) ^ 20 = 1048576 := by decide
  refine ⟨by omega, bin_len_le (k := 19) ?_⟩
  have e3 : (2 : Nat) ^ (19 + 1) = 1048576 := by decide
  omega
theorem ok_p_check_power (T : Txt K mg w base) : FnOk P w K mg base CX0 3 T.f_p_check_power T.d_p_check_power ["base", "exponent"] sp_p_check_power := by
  refine T.F_p_check_power.ok sc_p_check_power (fun vs H Q E h => ?_) (fun cdv A outer s H vs Q E hr h => ?_)
  · obtain ⟨b, e, rfl, _⟩ := h
    rfl
  · obtain ⟨b, e, rfl, h0, h1, h2, k⟩ := h
    refine ⟨_, (pss_cons (ps_if (pt_cmpR op_ge (pv 1) (pe_glob (v := .int 1000000) (by rfl) T.g_MOST_BITS ⟨_, rfl⟩) (nomark _))
      (pss_one ps_never) pss_nil)
      (pss_cons (ps_set (i := 2) sc_p_check_power.nd rfl (Or.inl rfl) (pe_call (ok_p_head T) hr (by rfl) T.g_p_head T.F_p_head.kp T.b_p_head .nil pass0 (pa_cons (pv 0) pa_nil)))
      (pss_cons (ps_set (i := 3) sc_p_check_power.nd rfl (Or.inl rfl) (pe_call (ok_p_head T) hr (by rfl) T.g_p_head T.F_p_head.kp T.b_p_head .nil pass0 (pa_cons pe_int pa_nil)))
      (pss_cons (ps_for PassesOwn.never rfl (any_pi (K := K) rfl (pe_call (ok_p_bits_of T) (hr.mono (by decide)) (by rfl) T.g_p_bits_of T.F_p_bits_of.kp T.b_p_bits_of .nil pass0 (pa_cons (pv 1) pa_nil))) (pg_name (i := 4) sc_p_check_power.nd rfl (Or.inl rfl))
      (pss_cons (ps_set (i := 3) sc_p_check_power.nd rfl (Or.inl rfl) (pe_call (ok_p_product_of_heads T) hr (by rfl) T.g_p_product_of_heads T.F_p_product_of_heads.kp T.b_p_product_of_heads .nil pass0 (pa_cons (pv 3) (pa_cons (pv 3) pa_nil))))
      (pss_one (ps_if (pt_cmpR (eq_k (K := K) rfl hr.units) (pv 4) pe_str (nomark _))
      (pss_one (ps_set (i := 3) sc_p_check_power.nd rfl (Or.inl rfl) (pe_call (ok_p_product_of_heads T) hr (by rfl) T.g_p_product_of_heads T.F_p_product_of_heads.kp T.b_p_product_of_heads .nil pass0 (pa_cons (pv 3) (pa_cons (pv 2) pa_nil))))) pss_nil))))
      (pss_one (ps_expr (pe_call (ok_p_check_bits T) (hr.mono (by decide)) (by rfl) T.g_p_check_bits T.F_p_check_bits.kp T.b_p_check_bits .nil pass0 (pa_cons (pv 3) pa_nil)))))))), ?_⟩
    have h3 := exp_lt h0 h1 h2
    obtain ⟨h4, h5⟩ := exp_few h1 h3
    tm_at "rv"
    refine use_head (by omega) fun t1 H1 s1 g1 => ?_
    tm_at "rv"
    refine use_head (by decide) fun t2 H2 s2 g2 => ?_
    tm_at "rv"
    refine r_iS ?_
    tm_at "rv"
    refine use_bits_of 20 (by omega) h4 (by decide) ?_
    tm_at "rv"
    have hs : (SX.S (bin e.toNat)).cps.size = (bin e.toNat).length := by show (bin e.toNat).toArray.size = _; simp
    have hg : ∀ i : Nat, (SX.S (bin e.toNat)).cps[i]? = (bin e.toNat)[i]? := fun i => by show (bin e.toNat).toArray[i]? = _; simp
    refine for_it walk_str (fun i σ H' => (∃ t x4, σ = [some (.int b), some (.int e), some (.ref t1), some (.ref t), x4] ∧ HdAt (b ^ pre e.toNat i) t H') ∧ Sm H2 H') ⟨⟨t2, _, rfl, by rw [pre_zero, Int.pow_zero]; exact g2⟩, Sm.refl _⟩ (fun _ _ _ _ _ => trivial) ?_ ?_
    · rintro i x σ Hi Hj hi ⟨⟨t, x4, rfl, ht⟩, si⟩ ⟨rfl, c, hc, rfl⟩
      rw [hg] at hc
      have hbit := bin_in e.toNat c (List.mem_of_getElem? hc)
      have hp := pre_succ hc
      tm_at "rv"
      refine use_heads ht ht fun t3 H3 s3 g3 => ?_
      tm_at "rv"
      have e2 : b ^ pre e.toNat i * b ^ pre e.toNat i = b ^ (2 * pre e.toNat i) := by rw [← Int.pow_add, Nat.two_mul]
      rw [e2] at g3
      rcases sign_one hbit with ⟨rfl, n⟩ | ⟨rfl, n⟩
      · refine ite_o (decide_eq_false n) ?_
        tm_at "rv"
        refine ⟨⟨t3, _, rfl, ?_⟩, si.trans s3⟩
        rw [hp]
        exact g3
      · refine ite_y (decide_eq_true n) ?_
        tm_at "rv"
        refine use_heads g3 (g1.sm ((s2.trans si).trans s3)) fun t4 H4 s4 g4 => ?_
        tm_at "rv"
        refine ⟨⟨t4, _, rfl, ?_⟩, (si.trans s3).trans s4⟩
        rw [hp, Int.pow_succ]
        exact g4
    · rintro σ Hi ⟨⟨t, x4, rfl, ht⟩, si⟩
      rw [hs, pre_all] at ht
      tm_at "rv"
      refine use_check_bits ht h2 ?_
      tm_at "rv"
      exact k _ ((s1.trans s2).trans si)
def sp_p_bounded_power : Sp := fun vs H Q _ => ∃ b e : Int, vs = [.int b, .int e] ∧ 0 ≤ b ∧ 0 ≤ e ∧ bl b ≤ 1000000 ∧ bl (b ^ e.toNat) ≤ 1000000 ∧ ∀ H', Sm H H' → Q (.int (b ^ e.toNat)) H'
theorem use_bpower {H : Hp} {Q : VK} {E : XK} {b e : Int} (h0 : 0 ≤ b) (h1 : 0 ≤ e) (h2 : bl b ≤ 1000000) (h3 : bl (b ^ e.toNat) ≤ 1000000) (k : ∀ H', Sm H H' → Q (.int (b ^ e.toNat)) H') : sp_p_bounded_power [.int b, .int e] H Q E := ⟨b, e, rfl, h0, h1, h2, h3, k⟩
theorem ok_p_bounded_power (T : Txt K mg w base) : FnOk P w K mg base CX0 4 T.f_p_bounded_power T.d_p_bounded_power ["base", "exponent"] sp_p_bounded_power := by
  refine T.F_p_bounded_power.ok sc_p_bounded_power (fun vs H Q E h => ?_) (fun cdv A outer s H vs Q E hr h => ?_)
  · obtain ⟨b, e, rfl, _⟩ := h
    rfl
  · obtain ⟨b, e, rfl, h0, h1, h2, h3, k⟩ := h
    refine ⟨_, (pss_cons (ps_if (pt_cmpR (eq_k (K := K) rfl hr.units) (pv 1) pe_int (nomark _))
      (pss_one (ps_ret pe_int)) pss_nil)
      (pss_cons (ps_if (pt_cmpR op_lt (pv 0) pe_int (nomark _))
      (pss_one (ps_ret (pv 0))) pss_nil)
      (pss_cons (ps_expr (pe_call (ok_p_check_power T) hr (by rfl) T.g_p_check_power T.F_p_check_power.kp T.b_p_check_power .nil pass0 (pa_cons (pv 0) (pa_cons (pv 1) pa_nil))))
      (pss_cons (ps_set (i := 2) sc_p_bounded_power.nd rfl (Or.inl rfl) pe_int)
      (pss_cons (ps_for PassesOwn.never rfl (any_pi (K := K) rfl (pe_call (ok_p_bits_of T) (hr.mono (by decide)) (by rfl) T.g_p_bits_of T.F_p_bits_of.kp T.b_p_bits_of .nil pass0 (pa_cons (pv 1) pa_nil))) (pg_name (i := 3) sc_p_bounded_power.nd rfl (Or.inl rfl))
      (pss_cons (ps_set (i := 2) sc_p_bounded_power.nd rfl (Or.inl rfl) (pe_call (ok_p_bounded_product T) hr (by rfl) T.g_p_bounded_product T.F_p_bounded_product.kp T.b_p_bounded_product .nil pass0 (pa_cons (pv 2) (pa_cons (pv 2) pa_nil))))
      (pss_one (ps_if (pt_cmpR (eq_k (K := K) rfl hr.units) (pv 3) pe_str (nomark _))
      (pss_one (ps_set (i := 2) sc_p_bounded_power.nd rfl (Or.inl rfl) (pe_call (ok_p_bounded_product T) hr (by rfl) T.g_p_bounded_product T.F_p_bounded_product.kp T.b_p_bounded_product .nil pass0 (pa_cons (pv 2) (pa_cons (pv 0) pa_nil))))) pss_nil))))
      (pss_one (ps_ret (pv 2)))))))), ?_⟩
    tm_at "rv"
    refine ite_d (fun e0 => ?_) (fun e0 => ?_)
    · tm_at "rv"
      have k := k _ (Sm.refl _)
      rw [e0] at k
      have k : Q (.int (b ^ 0)) H := k
      rw [Int.pow_zero] at k
      exact k
    · tm_at "rv"
      refine ite_d (fun b2 => ?_) (fun b2 => ?_)
      · tm_at "rv"
        have k := k _ (Sm.refl _)
        have hk : b ^ e.toNat = b := by
          obtain ⟨j, hj⟩ : ∃ j, e.toNat = j + 1 := ⟨e.toNat - 1, by omega⟩
          rcases (show b = 0 ∨ b = 1 by omega) with rfl | rfl
          · rw [hj, Int.pow_succ, Int.mul_zero]
          · rw [Int.one_pow]
        rw [hk] at k
        exact k
      · have h4 := exp_lt (by omega) (by omega) h3
        obtain ⟨h5, h6⟩ := exp_few (by omega) h4
        tm_at "rv"
        refine use_check_power (by omega) (by omega) h3 fun H1 s1 => ?_
        tm_at "rv"
        refine r_iS ?_
        tm_at "rv"
        refine use_bits_of 20 (by omega) h5 (by decide) ?_
        tm_at "rv"
        have hs : (SX.S (bin e.toNat)).cps.size = (bin e.toNat).length := by show (bin e.toNat).toArray.size = _; simp
        have hg : ∀ i : Nat, (SX.S (bin e.toNat)).cps[i]? = (bin e.toNat)[i]? := fun i => by show (bin e.toNat).toArray[i]? = _; simp
        have hle : ∀ j, j ≤ e.toNat → bl (b ^ j) ≤ 1000000 := fun j hj => Nat.le_trans (bl_mono (ipow_nonneg h0 j) (ipow_mono (by omega) hj)) h3
        refine for_it walk_str (fun i σ H' => (∃ x3, σ = [some (.int b), some (.int e), some (.int (b ^ pre e.toNat i)), x3]) ∧ Sm H1 H') ⟨⟨none, by rw [pre_zero, Int.pow_zero]; rfl⟩, Sm.refl _⟩ (fun _ _ _ _ _ => trivial) ?_ ?_
        · rintro i x σ Hi Hj hi ⟨⟨x3, rfl⟩, si⟩ ⟨rfl, c, hc, rfl⟩
          rw [hs] at hi
          rw [hg] at hc
          have hbit := bin_in e.toNat c (List.mem_of_getElem? hc)
          have hp := pre_succ hc
          have hp1 := pre_le' (n := e.toNat) (i := i + 1) (by omega)
          have e2 : b ^ pre e.toNat i * b ^ pre e.toNat i = b ^ (2 * pre e.toNat i) := by rw [← Int.pow_add, Nat.two_mul]
          have hp0 : 2 * pre e.toNat i ≤ e.toNat := by omega
          tm_at "rv"
          refine use_bproduct (ipow_nonneg h0 _) (ipow_nonneg h0 _) (hle _ (by omega)) (hle _ (by omega)) (by rw [e2]; exact hle _ hp0) fun H3 s3 => ?_
          rw [e2]
          tm_at "rv"
          rcases sign_one hbit with ⟨rfl, n⟩ | ⟨rfl, n⟩
          · refine ite_o (decide_eq_false n) ?_
            tm_at "rv"
            refine ⟨⟨some (.str ⟨#[48]⟩), ?_⟩, si.trans s3⟩
            rw [hp]
            rfl
          · refine ite_y (decide_eq_true n) ?_
            have e3 : b ^ (2 * pre e.toNat i) * b = b ^ (pre e.toNat (i + 1)) := by rw [hp, ← Int.pow_succ]
            tm_at "rv"
            refine use_bproduct (ipow_nonneg h0 _) h0 (hle _ hp0) h2 (by rw [e3]; exact hle _ hp1) fun H4 s4 => ?_
            rw [e3]
            tm_at "rv"
            exact ⟨⟨_, rfl⟩, (si.trans s3).trans s4⟩
        · rintro σ Hi ⟨⟨x3, rfl⟩, si⟩
          rw [hs, pre_all]
          tm_at "rv"
          exact k _ (s1.trans si)

/-! the program's own: sums, parts, depths -/
def sp_p_sum_of (K : PySem.W.Frag) : Sp := fun vs H Q _ => ∃ (a : Addr) (xs : List V) (ts : List Trm), vs = [.ref a] ∧ (SqL K H a xs ∨ SqT K H a xs) ∧ TmsAt H xs ts ∧ ts.length ≤ 1000 ∧ ∀ v H', Sm H H' → TmAt H' (sumT ts) v → Q v H'
theorem use_sum_of {H : Hp} {Q : VK} {E : XK} {a : Addr} {xs : List V} {ts : List Trm} (h : SqL K H a xs ∨ SqT K H a xs) (g : TmsAt H xs ts) (l : ts.length ≤ 1000) (k : ∀ v H', Sm H H' → TmAt H' (sumT ts) v → Q v H') : sp_p_sum_of K [.ref a] H Q E := ⟨a, xs, ts, rfl, h, g, l, k⟩
theorem ok_p_sum_of (T : Txt K mg w base) : FnOk P w K mg base CX0 1 T.f_p_sum_of T.d_p_sum_of ["terms"] (sp_p_sum_of K) := by
  refine T.F_p_sum_of.ok sc_p_sum_of (fun vs H Q E h => ?_) (fun cdv A outer s H vs Q E hr h => ?_)
  · obtain ⟨a, xs, ts, rfl, _⟩ := h
    rfl
  · obtain ⟨a, xs, ts, rfl, hS, hT, hl, k⟩ := h
    refine ⟨_, (pss_cons (ps_if (pt_cmpR (eq_k (K := K) rfl hr.units) (pe_callB (len_k (K := K) rfl) (by rfl) T.z_len (by decide +kernel) (pa_cons (pv 0) pa_nil)) pe_int (nomark _))
      (pss_one (ps_ret (pe_tup (pa_cons pe_str (pa_cons pe_int pa_nil))))) pss_nil)
      (pss_cons (ps_set (i := 1) sc_p_sum_of.nd rfl (Or.inl rfl) (pe_ix (ix_k (K := K) rfl) (pv 0) pe_int (fun _ _ => rfl)))
      (pss_cons (ps_for PassesOwn.never rfl (any_pi (K := K) rfl (pe_slice (sl_k (K := K) rfl) (pv 0) (po_some pe_int) po_none)) (pg_name (i := 2) sc_p_sum_of.nd rfl (Or.inl rfl))
      (pss_one (ps_set (i := 1) sc_p_sum_of.nd rfl (Or.inl rfl) (pe_tup (pa_cons pe_str (pa_cons (pv 1) (pa_cons (pv 2) pa_nil)))))))
      (pss_one (ps_ret (pv 1)))))), ?_⟩
    have hlen := hT.len
    cases ts with
    | nil =>
      obtain rfl : xs = [] := List.length_eq_zero_iff.mp hlen
      tm_at "rv"
      refine hS.elim (fun z => r_lenL z ?_) (fun z => r_lenT z ?_)
      · tm_at "rv"
        rename_i p np
        exact k _ _ (sm_upd np) ⟨_, rfl, upd_same⟩
      · tm_at "rv"
        rename_i p np
        exact k _ _ (sm_upd np) ⟨_, rfl, upd_same⟩
    | cons t ts =>
      cases xs with
      | nil => simp at hlen
      | cons x xs =>
        have hne : ¬ (((x :: xs).length : Nat) : Int) = 0 := by rw [List.length_cons]; omega
        have hl2 : xs.length = ts.length := by simpa using hlen
        rcases hS with hS | hS
        · tm_at "rv"
          refine r_iL ?_
          tm_at "rv"
          refine r_slL hS fun p np => ?_
          have s1 : Sm H (upd H p (.lst (cutV (x :: xs) (some 1) none))) := sm_upd np
          have e1 := upd_same (H := H) (a := p) (o := .lst (cutV (x :: xs) (some 1) none))
          generalize upd H p (.lst (cutV (x :: xs) (some 1) none)) = H1 at s1 e1 ⊢
          rw [cut_tail] at e1
          refine r_aL (SqL.of e1) ?_
          refine for_list (K := K) (a := p) (xs := xs) (fun i σ H' => (∃ tv x2, σ = [some (.ref a), some tv, x2] ∧ TmAt H' ((ts.take i).foldl (fun a b => Trm.op .plus a b) t) tv) ∧ Sm H1 H') ⟨⟨_, _, rfl, hT.1.sm s1⟩, Sm.refl _⟩ (fun i σ H' _ h => h.2.seq (SqL.of e1)) ?_ ?_
          · rintro i y σ H2 hy ⟨⟨tv, x2, rfl, hv⟩, s2⟩
            obtain ⟨u, hu, hy2⟩ := All2.get hT.2 hy
            tm_at "rv"
            rename_i q nq
            refine ⟨⟨_, _, rfl, ?_⟩, s2.trans (sm_upd nq)⟩
            rw [fold_take hu]
            exact ⟨q, _, _, rfl, upd_same, hv.sm (sm_upd nq), hy2.sm ((s1.trans s2).trans (sm_upd nq))⟩
          · rintro σ H2 ⟨⟨tv, x2, rfl, hv⟩, s2⟩
            tm_at "rv"
            rw [hl2, List.take_length] at hv
            exact k _ _ (s1.trans s2) hv
        · tm_at "rv"
          refine r_iT ?_
          tm_at "rv"
          refine r_slT hS fun p H1 s1 e1 => ?_
          rw [cut_tail] at e1
          refine r_aT (id e1) ?_
          refine for_tup (K := K) (a := p) (xs := xs) (fun i σ H' => (∃ tv x2, σ = [some (.ref a), some tv, x2] ∧ TmAt H' ((ts.take i).foldl (fun a b => Trm.op .plus a b) t) tv) ∧ Sm H1 H') ⟨⟨_, _, rfl, hT.1.sm s1⟩, Sm.refl _⟩ (fun i σ H' _ h => h.2.seqT (id e1)) ?_ ?_
          · rintro i y σ H2 hy ⟨⟨tv, x2, rfl, hv⟩, s2⟩
            obtain ⟨u, hu, hy2⟩ := All2.get hT.2 hy
            tm_at "rv"
            rename_i q nq
            refine ⟨⟨_, _, rfl, ?_⟩, s2.trans (sm_upd nq)⟩
            rw [fold_take hu]
            exact ⟨q, _, _, rfl, upd_same, hv.sm (sm_upd nq), hy2.sm ((s1.trans s2).trans (sm_upd nq))⟩
          · rintro σ H2 ⟨⟨tv, x2, rfl, hv⟩, s2⟩
            tm_at "rv"
            rw [hl2, List.take_length] at hv
            exact k _ _ (s1.trans s2) hv

/-- the terms in a term -/
def sp_p_terms_in (K : PySem.W.Frag) : Sp := fun vs H Q _ => ∃ (v : V) (t : Trm), vs = [v] ∧ TmAt H t v ∧ ∀ b H' xs, Sm H H' → SqT K H' b xs → TmsAt H' xs t.kids → Q (.ref b) H'
theorem use_terms_in {H : Hp} {Q : VK} {E : XK} {v : V} {t : Trm} (h : TmAt H t v) (k : ∀ b H' xs, Sm H H' → SqT K H' b xs → TmsAt H' xs t.kids → Q (.ref b) H') : sp_p_terms_in K [v] H Q E := ⟨v, t, rfl, h, k⟩
theorem ok_p_terms_in (T : Txt K mg w base) : FnOk P w K mg base CX0 1 T.f_p_terms_in T.d_p_terms_in ["term"] (sp_p_terms_in K) := by
  refine T.F_p_terms_in.ok sc_p_terms_in (fun vs H Q E h => ?_) (fun cdv A outer s H vs Q E hr h => ?_)
  · obtain ⟨v, t, rfl, _⟩ := h
    rfl
  · obtain ⟨v, t, rfl, ht, k⟩ := h
    refine ⟨_, (pss_cons (ps_if (pt_cmpR (in_k (K := K) rfl) (pe_ix (ix_k (K := K) rfl) (pv 0) pe_int (fun _ _ => rfl)) (pe_tup (pa_cons pe_str (pa_cons pe_str pa_nil))) (by rfl))
      (pss_one (ps_ret (pe_tup pa_nil))) pss_nil)
      (pss_one (ps_ret (pe_slice (sl_k (K := K) rfl) (pv 0) (po_some pe_int) po_none)))), ?_⟩
    obtain ⟨a, z, xs, rfl, ea, hx2, hy, hn⟩ := ht.tuple
    tm_at "rv"
    rename_i q nq
    have s1 : Sm H (upd H q (.tup [V.str (Str.ofString "num"), V.str (Str.ofString "name")])) := sm_upd nq
    have e1 := upd_same (H := H) (a := q) (o := .tup [V.str (Str.ofString "num"), V.str (Str.ofString "name")])
    generalize upd H q (.tup [V.str (Str.ofString "num"), V.str (Str.ofString "name")]) = H1 at s1 e1 ⊢
    refine r_inV (.inr (SqT.of e1)) rfl rfl ?_
    rw [in_two]
    tm_at "rv"
    refine ite_d (fun e => ?_) (fun e => ?_)
    · tm_at "rv"
      rename_i p np
      refine k p _ [] (s1.trans (sm_upd np)) (SqT.of upd_same) ?_
      rw [hy e]
      trivial
    · tm_at "rv"
      refine r_slT (SqT.of (s1.to _ _ ea)) fun p H2 s2 e2 => ?_
      rw [cut_tail] at e2
      tm_at "rv"
      exact k p _ xs (s1.trans s2) e2 (TmsAt.sm (s1.trans s2) (hn e))

/-! folds -/
theorem ok_p_folded (T : Txt K mg w base) {α ε : Type} (G : FoldK α ε) (N : Addr → Str) : Fn3 N P w K mg base 23 21 21 T.f_p_folded (G.SpF N) := by
  refine ⟨fun A outer s H u0 v0 f j s1 s2 Q E hr0 e0 rv0 C1 C2 h => ?_⟩
  obtain ⟨_, _, _, t, e, ht, hsz, hlf, h1, h2, k⟩ := h
  cases e
  obtain ⟨oc, od, kV, doc, pm, an, cdv, ct, osl, efd, lk, hcd⟩ := T.F_p_folded.ex
  have hb := T.b_p_folded
  generalize T.d_p_folded = fd at efd hb lk
  subst efd
  have KX : K.In s.heap := e0.mod.kin.keeps fun b o e => (e0.bs b o e).1
  have bt := hb s [u0, .ref f, .ref j] KX rfl
  rw [List.append_nil] at bt
  refine run_ofS (CX := L2.CX P w) (N := ["term", "lone_of", "both_of", "waiting", "found", "part", "opened", "second", "first"]) (us := [u0, .ref f, .ref j]) (vs := [v0, .ref f, .ref j]) lk hcd sc_p_folded hr0 e0 bt (.cons rv0 (.cons (show L2.RelV (.ref f) (.ref f) from rfl) (.cons (show L2.RelV (.ref j) (.ref j) from rfl) .nil))) rfl fun hr => ?_
  refine ⟨_, (pss_cons (ps_set (i := 3) sc_p_folded.nd rfl (Or.inl rfl) (pe_lst (pa_cons (pe_tup (pa_cons (pv 0) (pa_cons pe_bl pa_nil))) pa_nil)))
      (pss_cons (ps_set (i := 4) sc_p_folded.nd rfl (Or.inl rfl) (pe_lst pa_nil))
      (pss_cons (ps_while (passes_of rfl) (pt_truth (pv 3) (by intro _; rfl))
      (pss_cons (ps_asg (pe_bm0 PySem.F.plainAttrs_list PySem.F.slot_list_pop PySem.F.type_list_pop mt_pop (pv 3)) (pg_tup rfl (pgs_cons (pg_name (i := 5) sc_p_folded.nd rfl (Or.inl rfl)) (pgs_cons (pg_name (i := 6) sc_p_folded.nd rfl (Or.inl rfl)) pgs_nil))))
      (pss_one (ps_if (pt_truth (pv 6) (by intro _; rfl))
      (pss_cons (ps_set (i := 7) sc_p_folded.nd rfl (Or.inl rfl) (pe_bm0 PySem.F.plainAttrs_list PySem.F.slot_list_pop PySem.F.type_list_pop mt_pop (pv 4)))
      (pss_cons (ps_set (i := 8) sc_p_folded.nd rfl (Or.inl rfl) (pe_bm0 PySem.F.plainAttrs_list PySem.F.slot_list_pop PySem.F.type_list_pop mt_pop (pv 4)))
      (pss_one (ps_expr (pe_bm PySem.F.plainAttrs_list PySem.F.slot_list_append PySem.F.type_list_append mt_append (pv 4) (pa_cons (pe_callV (i := 2) C2 rfl (hr.mono (by decide)) rfl (Or.inl rfl) (L2.passes_call (takes_of rfl rfl rfl rfl) (fun _ _ _ _ h => h)) (pa_cons (pe_ix (ix_k (K := K) rfl) (pv 5) pe_int (fun _ _ => rfl)) (pa_cons (pv 8) (pa_cons (pv 7) pa_nil)))) pa_nil)))))) (pss_one (ps_if (pt_cmpR (eq_k (K := K) rfl hr.units) (pe_callB (len_k (K := K) rfl) (by rfl) T.z_len (by decide +kernel) (pa_cons (pe_call (ok_p_terms_in T) (hr.mono (by decide)) (by rfl) T.g_p_terms_in T.F_p_terms_in.kp T.b_p_terms_in .nil pass0 (pa_cons (pv 5) pa_nil)) pa_nil)) pe_int (nomark _))
      (pss_one (ps_expr (pe_bm PySem.F.plainAttrs_list PySem.F.slot_list_append PySem.F.type_list_append mt_append (pv 4) (pa_cons (pe_callV (i := 1) C1 rfl (hr.mono (by decide)) rfl (Or.inl rfl) (L2.passes_call (takes_of rfl rfl rfl rfl) (fun _ _ _ _ h => h)) (pa_cons (pv 5) pa_nil)) pa_nil)))) (pss_one (ps_expr (pe_bm PySem.F.plainAttrs_list PySem.F.slot_list_extend PySem.F.type_list_extend (ext_k (K := K) rfl) (pv 3) (pa_cons (pe_lst (pa_cons (pe_tup (pa_cons (pv 5) (pa_cons pe_bl pa_nil))) (pa_cons (pe_tup (pa_cons (pe_ix (ix_k (K := K) rfl) (pv 5) pe_int (fun _ _ => rfl)) (pa_cons pe_bl pa_nil))) (pa_cons (pe_tup (pa_cons (pe_ix (ix_k (K := K) rfl) (pv 5) pe_int (fun _ _ => rfl)) (pa_cons pe_bl pa_nil))) pa_nil)))) pa_nil))))))))))
      (pss_one (ps_ret (pe_ix (ix_k (K := K) rfl) (pv 4) pe_int (fun _ _ => rfl))))))), ?_⟩
  tm_at "rv"
  rename_i p0 n0 A nA B nB
  have s0 : Sw N H (upd (upd (upd H p0 (.tup [v0, V.bl false])) A (.lst [V.ref p0])) B (.lst [])) := ((sm_upd n0).trans ((sm_upd nA).trans (sm_upd nB))).sw
  have ep0 : upd (upd (upd H p0 (.tup [v0, V.bl false])) A (.lst [V.ref p0])) B (.lst []) p0 = some (.tup [v0, V.bl false]) := ((sm_upd nA).trans (sm_upd nB)).to _ _ upd_same
  have eA0 : upd (upd (upd H p0 (.tup [v0, V.bl false])) A (.lst [V.ref p0])) B (.lst []) A = some (.lst [V.ref p0]) := (sm_upd nB).to _ _ upd_same
  have eB0 := upd_same (H := upd (upd H p0 (.tup [v0, V.bl false])) A (.lst [V.ref p0])) (a := B) (o := .lst [])
  have nA0 : H A = none := (sm_upd n0).free nA
  have nB0 : H B = none := ((sm_upd n0).trans (sm_upd nA)).free nB
  have nAB : A ≠ B := ne_of_none upd_same nB
  generalize upd (upd (upd H p0 (.tup [v0, V.bl false])) A (.lst [V.ref p0])) B (.lst []) = H0 at s0 ep0 eA0 eB0 ⊢
  have hrun : G.Runs (G.fold t) [(t, false)] [] := by
    refine ⟨hlf, ?_⟩
    cases G.fold t with
    | ok x => exact ⟨x, rfl, rfl⟩
    | error e => rfl
  generalize G.fold t = r at k hrun
  refine ⟨fun m σ H' => ∃ (xs ys : List V) (ts : List (Trm × Bool)) (fs : List α) (x5 x6 x7 x8 : Option V), σ = [some v0, some (.ref f), some (.ref j), some (.ref A), some (.ref B), x5, x6, x7, x8] ∧ H' A = some (.lst xs) ∧ H' B = some (.lst ys) ∧ FoldK.Waits H' xs ts ∧ G.Founds H' ys fs ∧ G.Runs r ts.reverse fs.reverse ∧ m = FoldK.left ts.reverse ∧ m + fs.length ≤ 200000 ∧ Sw N H H',
    ⟨_, [V.ref p0], [], [(t, false)], [], _, _, _, _, rfl, eA0, eB0, ⟨⟨p0, v0, rfl, ep0, ht.tk s0.tk⟩, trivial⟩, trivial, hrun, rfl, by show 2 * t.size + 0 + 0 ≤ 200000; omega, s0⟩, ?_⟩
  rintro m σ H1 ⟨xs, ys, ts, fs, x5, x6, x7, x8, rfl, eA, eB, hW, hF, hR, rfl, hm, w1⟩
  tm_at "rv"
  refine r_truL (SqL.of eA) ?_
  rcases List.eq_nil_or_concat xs with rfl | ⟨zs, z, rfl⟩
  · have hz : ts = [] := List.length_eq_zero_iff.mp hW.len.symm
    subst hz
    obtain ⟨x, hx, rfl⟩ := hR
    have hfs : fs = [x] := by simpa using congrArg List.reverse hx
    subst hfs
    have hl : ys.length = 1 := hF.len
    obtain ⟨v, rfl⟩ := List.length_eq_one_iff.mp hl
    show (if false = true then _ else _)
    rw [if_neg Bool.false_ne_true]
    tm_at "rv"
    exact k v H1 w1 hF.1
  · rw [List.concat_eq_append] at eA hW ⊢
    obtain ⟨us, ⟨u, b⟩, rfl, hU, p, x, rfl, ep, hu⟩ := hW.last
    have ep : H1 p = some (.tup [x, .bl b]) := ep
    have hu : TmAt H1 u x := hu
    rw [List.reverse_append] at hR hm ⊢
    have hR : G.Runs r ((u, b) :: us.reverse) fs.reverse := hR
    have hm : FoldK.left ((u, b) :: us.reverse) + fs.length ≤ 200000 := hm
    have he : (zs ++ [V.ref p]).isEmpty = false := by simp
    rw [he]
    show (if true = true then _ else _)
    rw [if_pos rfl]
    refine ⟨fun σ' H' => ∃ m', m' < FoldK.left ((u, b) :: us.reverse) ∧ _, fun _ _ h => h, ?_⟩
    have hlu := hU.len
    have hll := FoldK.left_len us.reverse
    rw [List.length_reverse] at hll
    tm_at "rv"
    refine r_meth0 ?_
    tm_at "rv"
    refine r_pop eA ?_
    have t2 : TK H1 (upd H1 A (.lst zs)) := lst_tk eA
    have w2 : Sw N H (upd H1 A (.lst zs)) := w1.acc nA0 eA
    have eA2 := upd_same (H := H1) (a := A) (o := .lst zs)
    have eB2 : upd H1 A (.lst zs) B = some (.lst ys) := by rw [upd_ne (Ne.symm nAB)]; exact eB
    generalize upd H1 A (.lst zs) = H2 at t2 w2 eA2 eB2 ⊢
    have ep2 := t2.to _ _ ep
    tm_at "rv"
    cases b with
    | true =>
      obtain ⟨o, a, c, x1, y1, R, rfl, hgd, hfa, hfc, hfs, hz⟩ := hR
      have hfs : fs = R.reverse ++ [x1, y1] := by
        have := congrArg List.reverse hfs
        simpa using this
      subst hfs
      obtain ⟨pa, vx, vy, rfl, epa, _, _⟩ := id hu
      show (if true = true then _ else _)
      rw [if_pos rfl]
      have hsplit : ∃ ws v1 v2, ys = (ws ++ [v1]) ++ [v2] ∧ G.Founds H1 ws R.reverse ∧ G.Rv x1 v1 H1 ∧ G.Rv y1 v2 H1 := by
        have hF' : G.Founds H1 ys ((R.reverse ++ [x1]) ++ [y1]) := by simpa using hF
        rcases List.eq_nil_or_concat ys with rfl | ⟨ys1, v2, rfl⟩
        · have := hF'.len
          simp at this
        · rw [List.concat_eq_append] at hF' ⊢
          obtain ⟨us1, u1, e1, g1, g2⟩ := hF'.last
          obtain ⟨e2, e3⟩ := List.append_inj' e1 rfl
          cases e3
          rw [← e2] at g1
          rcases List.eq_nil_or_concat ys1 with rfl | ⟨ys2, v1, rfl⟩
          · have := g1.len
            simp at this
          · rw [List.concat_eq_append] at g1 ⊢
            obtain ⟨us2, u2, e4, g3, g4⟩ := g1.last
            obtain ⟨e5, e6⟩ := List.append_inj' e4 rfl
            cases e6
            rw [← e5] at g3
            exact ⟨ys2, v1, v2, rfl, g3, g4, g2⟩
      obtain ⟨ws, v1, v2, rfl, hws, hv1, hv2⟩ := hsplit
      have hwl := hws.len
      rw [List.length_reverse] at hwl
      have hm : 1 + FoldK.left us.reverse + (R.reverse ++ [x1, y1]).length ≤ 200000 := hm
      rw [List.length_append, List.length_reverse] at hm
      have hm : 1 + FoldK.left us.reverse + (R.length + 2) ≤ 200000 := hm
      tm_at "rv"
      refine r_meth0 ?_
      tm_at "rv"
      refine r_pop eB2 ?_
      have t3 : TK H2 (upd H2 B (.lst (ws ++ [v1]))) := lst_tk eB2
      have w3 : Sw N H (upd H2 B (.lst (ws ++ [v1]))) := w2.acc nB0 eB2
      have eB3 := upd_same (H := H2) (a := B) (o := .lst (ws ++ [v1]))
      have eA3 : upd H2 B (.lst (ws ++ [v1])) A = some (.lst zs) := by rw [upd_ne nAB]; exact eA2
      generalize upd H2 B (.lst (ws ++ [v1])) = H3 at t3 w3 eA3 eB3 ⊢
      tm_at "rv"
      refine r_meth0 ?_
      tm_at "rv"
      refine r_pop eB3 ?_
      have t4 : TK H3 (upd H3 B (.lst ws)) := lst_tk eB3
      have w4 : Sw N H (upd H3 B (.lst ws)) := w3.acc nB0 eB3
      have eB4 := upd_same (H := H3) (a := B) (o := .lst ws)
      have eA4 : upd H3 B (.lst ws) A = some (.lst zs) := by rw [upd_ne nAB]; exact eA3
      generalize upd H3 B (.lst ws) = H4 at t4 w4 eA4 eB4 ⊢
      have t14 := (t2.trans t3).trans t4
      have epa4 := t14.to _ _ epa
      tm_at "rv"
      refine r_callV rfl ?_
      tm_at "rv"
      refine ⟨w4, h2 o x1 y1 v1 v2 H4 _ _ ⟨a, c, hgd, hfa, hfc⟩ w4 (G.st t14 hv1) (G.st t14 hv2) ?_⟩
      cases hb2 : G.both o x1 y1 with
      | error er =>
        rw [hb2] at hz
        subst hz
        exact fun cls d H' sw he => k cls d H' (w4.trans sw) he
      | ok z1 =>
        rw [hb2] at hz
        intro v H5 w5 hv
        have eB5 := w5.to _ _ eB4
        tm_at "rv"
        refine r_app eB5 (len_lt (by omega)) ?_
        have t6 : TK H5 (upd H5 B (.lst (ws ++ [v]))) := lst_tk eB5
        refine ⟨_, FoldK.left_true, zs, ws ++ [v], us, R.reverse ++ [z1], _, _, _, _, rfl, ?_, upd_same, ?_, ?_, ?_, rfl, ?_, (w4.trans w5).acc nB0 eB5⟩
        · rw [upd_ne nAB]
          exact w5.to _ _ eA4
        · exact FoldK.Waits.tk ((t14.trans w5.tk).trans t6) hU
        · exact (G.founds_tk ((t14.trans w5.tk).trans t6) hws).snoc (G.st t6 hv)
        · rw [List.reverse_append, List.reverse_reverse]
          exact hz
        · rw [List.length_append, List.length_reverse]
          show _ + (R.length + 1) ≤ _
          omega
    | false =>
      show (if false = true then _ else _)
      rw [if_neg Bool.false_ne_true]
      have hu2 := hu.tk t2
      tm_at "rv"
      refine use_terms_in hu2 fun b H3 ks s3 hb3 hk3 => ?_
      have hkl : ks.length = u.kids.length := hk3.len
      have eA3 := s3.to _ _ eA2
      have eB3 := s3.to _ _ eB2
      have w3 : Sw N H H3 := w2.trans s3.sw
      have hu3 := hu2.sm s3
      tm_at "rv"
      refine ite_d (fun e => ?_) (fun e => ?_)
      · have hkids : u.kids = [] := List.length_eq_zero_iff.mp (by omega)
        obtain ⟨hlf1, hR1⟩ := G.runs_lone hkids hR
        tm_at "rv"
        refine r_callV rfl ?_
        tm_at "rv"
        refine ⟨w3, h1 u _ H3 _ _ hkids hlf1 w3 hu3 ?_⟩
        cases hb2 : G.lone u with
        | error er =>
          rw [hb2] at hR1
          subst hR1
          exact fun cls d H' sw he => k cls d H' (w3.trans sw) he
        | ok z1 =>
          rw [hb2] at hR1
          intro v H5 w5 hv
          have eB5 := w5.to _ _ eB3
          have hyl := hF.len
          have hu1 := u.size_pos
          have hm : 2 * u.size + FoldK.left us.reverse + fs.length ≤ 200000 := hm
          tm_at "rv"
          refine r_app eB5 (len_lt (by omega)) ?_
          have t6 : TK H5 (upd H5 B (.lst (ys ++ [v]))) := lst_tk eB5
          refine ⟨_, FoldK.left_false, zs, ys ++ [v], us, fs ++ [z1], _, _, _, _, rfl, ?_, upd_same, ?_, ?_, ?_, rfl, ?_, (w3.trans w5).acc nB0 eB5⟩
          · rw [upd_ne nAB]
            exact w5.to _ _ eA3
          · exact FoldK.Waits.tk (((t2.trans s3.tk).trans w5.tk).trans t6) hU
          · exact (G.founds_tk (((t2.trans s3.tk).trans w5.tk).trans t6) hF).snoc (G.st t6 hv)
          · rw [List.reverse_append]
            exact hR1
          · rw [List.length_append]
            show _ + (fs.length + 1) ≤ _
            omega
      · have hop : ∃ o a c, u = .op o a c := by
          cases u with
          | num i => exact absurd (show ((ks.length : Nat) : Int) = 0 by rw [hkl]; rfl) e
          | name z => exact absurd (show ((ks.length : Nat) : Int) = 0 by rw [hkl]; rfl) e
          | op o a c => exact ⟨o, a, c, rfl⟩
        obtain ⟨o, a, c, rfl⟩ := hop
        obtain ⟨pa, vx, vy, rfl, epa, hx, hy⟩ := id hu3
        have hR2 := G.runs_op hR
        tm_at "rv"
        rename_i p1 m1 p2 m2 p3 m3 l ml
        have sa := sm_upd (o := .tup [V.ref pa, V.bl true]) m1
        have ea := upd_same (H := H3) (a := p1) (o := .tup [V.ref pa, V.bl true])
        generalize upd H3 p1 (.tup [V.ref pa, V.bl true]) = Ha at sa ea m2 m3 ml ⊢
        have sb := sm_upd (o := .tup [vy, V.bl false]) m2
        have eb := upd_same (H := Ha) (a := p2) (o := .tup [vy, V.bl false])
        generalize upd Ha p2 (.tup [vy, V.bl false]) = Hb at sb eb m3 ml ⊢
        have sc := sm_upd (o := .tup [vx, V.bl false]) m3
        have ec := upd_same (H := Hb) (a := p3) (o := .tup [vx, V.bl false])
        generalize upd Hb p3 (.tup [vx, V.bl false]) = Hc at sc ec ml ⊢
        have sl := sm_upd (o := .lst [V.ref p1, V.ref p2, V.ref p3]) ml
        have el := upd_same (H := Hc) (a := l) (o := .lst [V.ref p1, V.ref p2, V.ref p3])
        generalize upd Hc l (.lst [V.ref p1, V.ref p2, V.ref p3]) = Hl at sl el ⊢
        have s3l := ((sa.trans sb).trans sc).trans sl
        have eAl := s3l.to _ _ eA3
        have hzl : zs.length = us.length := hlu
        have hm0 : FoldK.left ((Trm.op o a c, false) :: us.reverse) + fs.length ≤ 200000 := hm
        have hf0 := FoldK.left_false (t := .op o a c) (W := us.reverse)
        have hlt := FoldK.left_op (o := o) (a := a) (b := c) (W := us.reverse)
        refine r_extL eAl el (len_le (by show zs.length + 3 ≤ _; omega)) ?_
        tm_at "rv"
        have t6 : TK Hl (upd Hl A (.lst (zs ++ [V.ref p1, V.ref p2, V.ref p3]))) := lst_tk eAl
        have tall : TK H1 (upd Hl A (.lst (zs ++ [V.ref p1, V.ref p2, V.ref p3]))) := ((t2.trans s3.tk).trans s3l.tk).trans t6
        have sl6 := s3l.tk.trans t6
        refine ⟨_, hlt, _, ys, us ++ [(.op o a c, true), (c, false), (a, false)], fs, _, _, _, _, rfl, upd_same, ?_, ?_, G.founds_tk tall hF, ?_, ?_, ?_, (w3.trans s3l.sw).acc nA0 eAl⟩
        · rw [upd_ne (Ne.symm nAB)]
          exact s3l.to _ _ eB3
        · refine (FoldK.Waits.tk tall hU).app ⟨⟨p1, _, rfl, ((sb.trans sc).trans sl).tk.trans t6 |>.to _ _ ea, hu3.tk sl6⟩, ⟨p2, _, rfl, (sc.trans sl).tk.trans t6 |>.to _ _ eb, hy.tk sl6⟩, ⟨p3, _, rfl, sl.tk.trans t6 |>.to _ _ ec, hx.tk sl6⟩, trivial⟩
        · rw [List.reverse_append]
          exact hR2
        · rw [List.reverse_append]
          rfl
        · omega

/-! a Saying made of a good word -/
def sp_Saying_init (C : Addr) : Sp := fun vs H Q _ => ∃ (p dx : Addr) (w : Str) (x y : V), vs = [.ref p, .str w, x, y] ∧ H p = some (.ins C dx []) ∧ (w = Str.ofString "same" ∨ w = Str.ofString "under") ∧
  ∀ H', Chg p H H' → H' p = some (.ins C dx [("word", .str w), ("left", x), ("right", y)]) → Q .non H'
theorem marks_of (T : Txt K mg w base) {z : Str} (h : z = Str.ofString "same" ∨ z = Str.ofString "under") : ∃ u, PySem.W.nsIn K T.w_MARKS z = some (some u) := by
  rcases h with rfl | rfl
  · exact ⟨_, T.wf_MARKS_0⟩
  · exact ⟨_, T.wf_MARKS_1⟩
theorem ok_Saying_init (T : Txt K mg w base) : FnOk P w K mg base CX0 1 T.f_Saying_init T.d_Saying_init ["self", "word", "left", "right"] (sp_Saying_init T.C_Saying) := by
  refine T.F_Saying_init.ok sc_Saying_init (fun vs H Q E h => ?_) (fun cdv A outer s H vs Q E hr h => ?_)
  · obtain ⟨p, dx, w, x, y, rfl, _⟩ := h
    rfl
  · obtain ⟨p, dx, w, x, y, rfl, hp, hw, k⟩ := h
    refine ⟨_, (pss_cons (ps_if (pt_cmpR (op_notIn_kd T.wk_MARKS) (pv 1) (pe_glob (v := .ref T.w_MARKS) (by rfl) T.g_MARKS rfl) (by rfl))
      (pss_one ps_never) pss_nil)
      (pss_cons (ps_fld (pv 0) (pv 1) rfl)
      (pss_cons (ps_fld (pv 0) (pv 2) rfl)
      (pss_one (ps_fld (pv 0) (pv 3) rfl))))), ?_⟩
    obtain ⟨u, hu⟩ := marks_of T hw
    tm_at "rv"
    refine ⟨_, _, rfl, rfl, hu, ?_⟩
    tm_at "rv"
    refine r_setO hp T.cl_Saying T.n_Saying_word (by show 0 < 1000; decide) ?_
    tm_at "rv"
    refine r_setO upd_same T.cl_Saying T.n_Saying_left (by show 1 < 1000; decide) ?_
    tm_at "rv"
    refine r_setO upd_same T.cl_Saying T.n_Saying_right (by show 2 < 1000; decide) ?_
    tm_at "rv"
    rw [put_say]
    exact k _ ((chg_upd.trans chg_upd).trans chg_upd) upd_same
/-- the making, for a caller -/
theorem say_use {C p dx : Addr} {H : Hp} {R : Hp → Prop} {E : XK} {z : Str} {l r : Trm} {x y : V} (np : H p = none) (nd : H dx = none) (hz : z = Str.ofString "same" ∨ z = Str.ofString "under") (hl : TmAt H l x) (hr : TmAt H r y)
    (k : ∀ H', Sm H H' → SayAt C H' p z l r → R H') : sp_Saying_init C [.ref p, .str z, x, y] (upd (upd H dx (.own p)) p (.ins C dx [])) (fun v H2 => v = .non ∧ R H2) E := by
  refine ⟨p, dx, z, x, y, rfl, upd_same, hz, fun H' c e => ?_⟩
  have s := made_sm np nd c
  exact ⟨rfl, k H' s ⟨dx, x, y, e, hl.sm s, hr.sm s⟩⟩
/-! two terms, the same or not -/
def sp_p_is_same_term : Sp := fun vs H Q _ => ∃ (x y : V) (s t : Trm), vs = [x, y] ∧ TmAt H s x ∧ TmAt H t y ∧ s.size ≤ 100000 ∧ ∀ H', Sm H H' → Q (.bl (decide (s = t))) H'
theorem use_same_term {H : Hp} {Q : VK} {E : XK} {x y : V} {s t : Trm} (h : TmAt H s x) (g : TmAt H t y) (l : s.size ≤ 100000) (k : ∀ H', Sm H H' → Q (.bl (decide (s = t))) H') : sp_p_is_same_term [x, y] H Q E := ⟨x, y, s, t, rfl, h, g, l, k⟩
theorem ok_p_is_same_term (T : Txt K mg w base) : FnOk P w K mg base CX0 2 T.f_p_is_same_term T.d_p_is_same_term ["one", "other"] sp_p_is_same_term := by
  refine T.F_p_is_same_term.ok sc_p_is_same_term (fun vs H Q E h => ?_) (fun cdv A outer s' H vs Q E hr h => ?_)
  · obtain ⟨x, y, s, t, rfl, _⟩ := h
    rfl
  · obtain ⟨x, y, s, t, rfl, hs, ht, hl, k⟩ := h
    refine ⟨_, (pss_cons (ps_set (i := 2) sc_p_is_same_term.nd rfl (Or.inl rfl) (pe_lst (pa_cons (pe_tup (pa_cons (pv 0) (pa_cons (pv 1) pa_nil))) pa_nil)))
      (pss_cons (ps_while PassesOwn.never (pt_truth (pv 2) (by intro _; rfl))
      (pss_cons (ps_asg (pe_bm0 PySem.F.plainAttrs_list PySem.F.slot_list_pop PySem.F.type_list_pop mt_pop (pv 2)) (pg_tup rfl (pgs_cons (pg_name (i := 3) sc_p_is_same_term.nd rfl (Or.inl rfl)) (pgs_cons (pg_name (i := 4) sc_p_is_same_term.nd rfl (Or.inl rfl)) pgs_nil))))
      (pss_cons (ps_if (pt_cmpR (ne_k (K := K) rfl hr.units) (pe_ix (ix_k (K := K) rfl) (pv 3) pe_int (fun _ _ => rfl)) (pe_ix (ix_k (K := K) rfl) (pv 4) pe_int (fun _ _ => rfl)) (nomark _))
      (pss_one (ps_ret pe_bl)) pss_nil)
      (pss_one (ps_if (pt_cmpR op_gt (pe_callB (len_k (K := K) rfl) (by rfl) T.z_len (by decide +kernel) (pa_cons (pe_call (ok_p_terms_in T) hr (by rfl) T.g_p_terms_in T.F_p_terms_in.kp T.b_p_terms_in .nil pass0 (pa_cons (pv 3) pa_nil)) pa_nil)) pe_int (nomark _))
      (pss_one (ps_expr (pe_bm PySem.F.plainAttrs_list PySem.F.slot_list_extend PySem.F.type_list_extend (ext_k (K := K) rfl) (pv 2) (pa_cons (pe_lst (pa_cons (pe_tup (pa_cons (pe_ix (ix_k (K := K) rfl) (pv 3) pe_int (fun _ _ => rfl)) (pa_cons (pe_ix (ix_k (K := K) rfl) (pv 4) pe_int (fun _ _ => rfl)) pa_nil))) (pa_cons (pe_tup (pa_cons (pe_ix (ix_k (K := K) rfl) (pv 3) pe_int (fun _ _ => rfl)) (pa_cons (pe_ix (ix_k (K := K) rfl) (pv 4) pe_int (fun _ _ => rfl)) pa_nil))) pa_nil))) pa_nil)))) (pss_one (ps_if (pt_cmpR (ne_k (K := K) rfl hr.units) (pe_ix (ix_k (K := K) rfl) (pv 3) pe_int (fun _ _ => rfl)) (pe_ix (ix_k (K := K) rfl) (pv 4) pe_int (fun _ _ => rfl)) (nomark _))
      (pss_one (ps_ret pe_bl)) pss_nil)))))))
      (pss_one (ps_ret pe_bl)))), ?_⟩
    tm_at "rv"
    rename_i p0 n0 A nA
    have s0 : Sm H (upd (upd H p0 (.tup [x, y])) A (.lst [V.ref p0])) := (sm_upd n0).trans (sm_upd nA)
    have ep0 : upd (upd H p0 (.tup [x, y])) A (.lst [V.ref p0]) p0 = some (.tup [x, y]) := (sm_upd nA).to _ _ upd_same
    have eA0 := upd_same (H := upd H p0 (.tup [x, y])) (a := A) (o := .lst [V.ref p0])
    have nA0 : H A = none := (sm_upd n0).free nA
    generalize upd (upd H p0 (.tup [x, y])) A (.lst [V.ref p0]) = H0 at s0 ep0 eA0 ⊢
    refine ⟨fun m σ H' => ∃ (xs : List V) (ps : List (Trm × Trm)) (x3 x4 : Option V), σ = [some x, some y, some (.ref A), x3, x4] ∧ H' A = some (.lst xs) ∧ PmsAt H' xs ps ∧ (s = t ↔ ∀ p ∈ ps, p.1 = p.2) ∧ psz ps ≤ 100000 ∧ m = psz ps ∧ Sm H H',
      ⟨_, _, [(s, t)], _, _, rfl, eA0, ⟨⟨p0, x, y, rfl, ep0, hs.sm s0, ht.sm s0⟩, trivial⟩, by simp, by show s.size + 0 ≤ _; omega, rfl, s0⟩, ?_⟩
    rintro m σ H1 ⟨xs, ps, x3, x4, rfl, eA, hT, hiff, hsz, rfl, s1⟩
    tm_at "rv"
    refine r_truL (SqL.of eA) ?_
    rcases List.eq_nil_or_concat xs with rfl | ⟨ys, yl, rfl⟩
    · have hz : ps = [] := List.length_eq_zero_iff.mp hT.len.symm
      subst hz
      show (if false = true then _ else _)
      rw [if_neg Bool.false_ne_true]
      tm_at "rv"
      have e : s = t := hiff.mpr fun p hp => by cases hp
      have k := k _ s1
      rw [decide_eq_true e] at k
      exact k
    · rw [List.concat_eq_append] at eA hT ⊢
      obtain ⟨us, ⟨u, v⟩, rfl, hU, q, xu, xv, rfl, eq, hu, hv⟩ := hT.last
      have eq : H1 q = some (.tup [xu, xv]) := eq
      have hu : TmAt H1 u xu := hu
      have hv : TmAt H1 v xv := hv
      have he : (ys ++ [V.ref q]).isEmpty = false := by simp
      rw [he]
      show (if true = true then _ else _)
      rw [if_pos rfl]
      refine ⟨fun σ' H' => ∃ m', m' < psz (us ++ [(u, v)]) ∧ _, fun _ _ h => h, ?_⟩
      have eS : psz (us ++ [(u, v)]) = psz us + u.size := by
        rw [psz_app]
        show _ + (u.size + 0) = _
        omega
      have eL := psz_len us
      have hlu := hU.len
      have hpos := u.size_pos
      have hno : u ≠ v → s ≠ t := fun n e => n (hiff.mp e (u, v) (by simp))
      tm_at "rv"
      refine r_meth0 ?_
      tm_at "rv"
      refine r_pop eA ?_
      have t2 : TK H1 (upd H1 A (.lst ys)) := lst_tk eA
      have e2 := upd_same (H := H1) (a := A) (o := .lst ys)
      have c2 : Chg A H1 (upd H1 A (.lst ys)) := chg_upd
      generalize upd H1 A (.lst ys) = H2 at t2 e2 c2 ⊢
      have s2 : Sm H H2 := Chg.sm s1 nA0 c2
      have eq2 := t2.to _ _ eq
      have hu2 := hu.tk t2
      have hv2 := hv.tk t2
      have hU2 := PmsAt.tk t2 hU
      obtain ⟨au, ru, rfl, eu⟩ := hu2.head
      obtain ⟨av, rv', rfl, ev⟩ := hv2.head
      tm_at "rv"
      by_cases hw : u.word = v.word
      · refine ite_o (by rw [decide_eq_true hw]; rfl) ?_
        tm_at "rv"
        refine use_terms_in hu2 fun b H3 zs s3 hb hz => ?_
        have e3 := s3.to _ _ e2
        have hzl := hz.len
        have s23 := s2.trans s3
        have hu3 := hu2.sm s3
        have hv3 := hv2.sm s3
        have hU3 := PmsAt.tk s3.tk hU2
        tm_at "rv"
        rw [hzl]
        cases u with
        | num i =>
          cases v with
          | num j =>
            obtain ⟨a1, e4, e5⟩ := hu3
            obtain ⟨a2, e6, e7⟩ := hv3
            cases e4
            cases e6
            refine ite_o (decide_eq_false (by show ¬ (0 : Int) < ((0 : Nat) : Int); omega)) ?_
            tm_at "rv"
            refine ite_n (fun e => ?_) (fun e => ?_)
            · have n := hno fun z => e (by cases z; rfl)
              tm_at "rv"
              have k := k _ s23
              rw [decide_eq_false n] at k
              exact k
            · subst e
              tm_at "rv"
              refine ⟨psz us, by omega, _, us, _, _, rfl, e3, hU3, hiff.trans ⟨fun h p hp => h p (by simp [hp]), fun h p hp => ?_⟩, by omega, rfl, s23⟩
              rcases List.mem_append.mp hp with hp | hp
              · exact h p hp
              · rw [List.mem_singleton.mp hp]
          | name z => exact absurd hw w_num_name
          | op o c d => exact absurd hw (w_num_op o)
        | name z =>
          cases v with
          | num j => exact absurd hw fun e => w_num_name e.symm
          | name z2 =>
            obtain ⟨a1, e4, e5⟩ := hu3
            obtain ⟨a2, e6, e7⟩ := hv3
            cases e4
            cases e6
            refine ite_o (decide_eq_false (by show ¬ (0 : Int) < ((0 : Nat) : Int); omega)) ?_
            tm_at "rv"
            refine ite_n (fun e => ?_) (fun e => ?_)
            · have n := hno fun z => e (by cases z; rfl)
              tm_at "rv"
              have k := k _ s23
              rw [decide_eq_false n] at k
              exact k
            · subst e
              tm_at "rv"
              refine ⟨psz us, by omega, _, us, _, _, rfl, e3, hU3, hiff.trans ⟨fun h p hp => h p (by simp [hp]), fun h p hp => ?_⟩, by omega, rfl, s23⟩
              rcases List.mem_append.mp hp with hp | hp
              · exact h p hp
              · rw [List.mem_singleton.mp hp]
          | op o c d => exact absurd hw (w_name_op o)
        | op o a1 a2 =>
          cases v with
          | num j => exact absurd hw fun e => w_num_op o e.symm
          | name z => exact absurd hw fun e => w_name_op o e.symm
          | op o2 c1 c2' =>
            obtain rfl := Op3.word_inj hw
            obtain ⟨b1, y1, y2, e4, e5, g1, g2⟩ := hu3
            obtain ⟨b2, y3, y4, e6, e7, g3, g4⟩ := hv3
            cases e4
            cases e6
            refine ite_y (decide_eq_true (by show (0 : Int) < ((2 : Nat) : Int); omega)) ?_
            tm_at "rv"
            rename_i q1 m1 q2 m2 q3 m3
            have s4 : Sm H3 (upd (upd (upd H3 q1 (.tup [y2, y4])) q2 (.tup [y1, y3])) q3 (.lst [V.ref q1, V.ref q2])) := ((sm_upd m1).trans (sm_upd m2)).trans (sm_upd m3)
            have f1 : upd (upd (upd H3 q1 (.tup [y2, y4])) q2 (.tup [y1, y3])) q3 (.lst [V.ref q1, V.ref q2]) q1 = some (.tup [y2, y4]) := (sm_upd m3).to _ _ ((sm_upd m2).to _ _ upd_same)
            have f2 : upd (upd (upd H3 q1 (.tup [y2, y4])) q2 (.tup [y1, y3])) q3 (.lst [V.ref q1, V.ref q2]) q2 = some (.tup [y1, y3]) := (sm_upd m3).to _ _ upd_same
            have f3 := upd_same (H := upd (upd H3 q1 (.tup [y2, y4])) q2 (.tup [y1, y3])) (a := q3) (o := .lst [V.ref q1, V.ref q2])
            generalize upd (upd (upd H3 q1 (.tup [y2, y4])) q2 (.tup [y1, y3])) q3 (.lst [V.ref q1, V.ref q2]) = H4 at s4 f1 f2 f3 ⊢
            have e8 := s4.to _ _ e3
            refine r_extL e8 f3 (len_le (by show _ + 2 ≤ _; omega)) ?_
            tm_at "rv"
            have t5 : TK H4 (upd H4 A (.lst (ys ++ [V.ref q1, V.ref q2]))) := lst_tk e8
            have hsz2 : (Trm.op o a1 a2).size = 1 + a1.size + a2.size := rfl
            have e9 : psz (us ++ [(a2, c2'), (a1, c1)]) = psz us + (a2.size + a1.size) := by
              rw [psz_app]
              show _ + (a2.size + (a1.size + 0)) = _
              omega
            refine ⟨psz (us ++ [(a2, c2'), (a1, c1)]), by omega, _, us ++ [(a2, c2'), (a1, c1)], _, _, rfl, upd_same, PmsAt.tk t5 ((PmsAt.tk s4.tk hU3).app ⟨⟨q1, y2, y4, rfl, f1, g2.sm s4, g4.sm s4⟩, ⟨q2, y1, y3, rfl, f2, g1.sm s4, g3.sm s4⟩, trivial⟩), hiff.trans ⟨fun h p hp => ?_, fun h p hp => ?_⟩, by omega, rfl, Chg.sm (s23.trans s4) nA0 chg_upd⟩
            · rcases List.mem_append.mp hp with hp | hp
              · exact h p (by simp [hp])
              · have e := h (.op o a1 a2, .op o c1 c2') (by simp)
                have e := (op_eq_iff rfl).mp e
                rcases List.mem_cons.mp hp with rfl | hp
                · exact e.1
                · rw [List.mem_singleton.mp hp]
                  exact e.2
            · rcases List.mem_append.mp hp with hp | hp
              · exact h p (by simp [hp])
              · rw [List.mem_singleton.mp hp]
                exact (op_eq_iff rfl).mpr ⟨h (a2, c2') (by simp), h (a1, c1) (by simp)⟩
      · refine ite_y (by rw [decide_eq_false hw]; rfl) ?_
        have n := hno fun e => hw (by rw [e])
        tm_at "rv"
        have k := k _ s2
        rw [decide_eq_false n] at k
        exact k
/-! two sayings, the same or not -/
def sp_Saying_eq (C : Addr) : Sp := fun vs H Q _ => ∃ (p q : Addr) (w1 w2 : Str) (l1 r1 l2 r2 : Trm), vs = [.ref p, .ref q] ∧ SayAt C H p w1 l1 r1 ∧ SayAt C H q w2 l2 r2 ∧ (l1.size ≤ 100000 ∧ r1.size ≤ 100000) ∧ ∀ H', Sm H H' → Q (.bl (decide (w1 = w2 ∧ l1 = l2 ∧ r1 = r2))) H'
theorem use_say_eq {C : Addr} {H : Hp} {Q : VK} {E : XK} {p q : Addr} {w1 w2 : Str} {l1 r1 l2 r2 : Trm} (h : SayAt C H p w1 l1 r1) (g : SayAt C H q w2 l2 r2) (b : l1.size ≤ 100000 ∧ r1.size ≤ 100000) (k : ∀ H', Sm H H' → Q (.bl (decide (w1 = w2 ∧ l1 = l2 ∧ r1 = r2))) H') : sp_Saying_eq C [.ref p, .ref q] H Q E := ⟨p, q, w1, w2, l1, r1, l2, r2, rfl, h, g, b, k⟩
theorem ok_Saying_eq (T : Txt K mg w base) : FnOk P w K mg base CX0 3 T.f_Saying_eq T.d_Saying_eq ["self", "other"] (sp_Saying_eq T.C_Saying) := by
  refine T.F_Saying_eq.ok sc_Saying_eq (fun vs H Q E h => ?_) (fun cdv A outer s H vs Q E hr h => ?_)
  · obtain ⟨p, q, w1, w2, l1, r1, l2, r2, rfl, _⟩ := h
    rfl
  · obtain ⟨p, q, w1, w2, l1, r1, l2, r2, rfl, ⟨dx, x1, y1, e1, hl1, hr1⟩, ⟨dy, x2, y2, e2, hl2, hr2⟩, b, k⟩ := h
    refine ⟨_, (pss_cons (ps_if (PW.pt (pw_or (pt_not (pt_truth (pe_callB (isC_k (K := K) rfl T.ic_Saying) (by rfl) T.z_isinstance (by decide +kernel) (pa_cons (pv 1) (pa_cons (pe_glob (v := .ref T.C_Saying) (by rfl) T.g_Saying rfl) pa_nil))) (by intro _; rfl))) (pw_or1 (pt_cmpR (ne_k (K := K) rfl hr.units) (fld_k (K := K) rfl (pv 0) rfl) (fld_k (K := K) rfl (pv 1) rfl) (nomark _)))))
      (pss_one (ps_ret pe_bl)) pss_nil)
      (pss_one (ps_ret (andT_k (K := K) rfl (pe_call (ok_p_is_same_term T) hr (by rfl) T.g_p_is_same_term T.F_p_is_same_term.kp T.b_p_is_same_term .nil pass0 (pa_cons (fld_k (K := K) rfl (pv 0) rfl) (pa_cons (fld_k (K := K) rfl (pv 1) rfl) pa_nil))) (pe_one (pe_call (ok_p_is_same_term T) hr (by rfl) T.g_p_is_same_term T.F_p_is_same_term.kp T.b_p_is_same_term .nil pass0 (pa_cons (fld_k (K := K) rfl (pv 0) rfl) (pa_cons (fld_k (K := K) rfl (pv 1) rfl) pa_nil)))))))), ?_⟩
    tm_at "rv"
    refine ⟨q, _, _, rfl, e2, ?_⟩
    tm_at "rv"
    refine r_fldO e1 T.cl_Saying T.n_Saying_word (get_word _ _ _) ?_
    tm_at "rv"
    refine r_fldO e2 T.cl_Saying T.n_Saying_word (get_word _ _ _) ?_
    tm_at "rv"
    refine ite_n (fun e => ?_) (fun e => ?_)
    · tm_at "rv"
      have k := k _ (Sm.refl _)
      rw [decide_eq_false fun z => e z.1] at k
      exact k
    · tm_at "rv"
      refine r_fldO e1 T.cl_Saying T.n_Saying_left (get_left _ _ _) ?_
      tm_at "rv"
      refine r_fldO e2 T.cl_Saying T.n_Saying_left (get_left _ _ _) ?_
      tm_at "rv"
      refine use_same_term hl1 hl2 b.1 fun H1 s1 => ?_
      tm_at "rv"
      by_cases h1 : l1 = l2
      · refine ite_y (decide_eq_true h1) ?_
        tm_at "rv"
        refine r_fldO (s1.to _ _ e1) T.cl_Saying T.n_Saying_right (get_right _ _ _) ?_
        tm_at "rv"
        refine r_fldO (s1.to _ _ e2) T.cl_Saying T.n_Saying_right (get_right _ _ _) ?_
        tm_at "rv"
        refine use_same_term (hr1.sm s1) (hr2.sm s1) b.2 fun H2 s2 => ?_
        tm_at "rv"
        have k := k _ (s1.trans s2)
        rw [show decide (w1 = w2 ∧ l1 = l2 ∧ r1 = r2) = decide (r1 = r2) by simp [e, h1]] at k
        exact k
      · refine ite_o (decide_eq_false h1) ?_
        tm_at "rv"
        have k := k _ s1
        rw [decide_eq_false h1]
        rw [decide_eq_false fun z => h1 z.2.1] at k
        exact k
/-- two like sayings -/
def LikeSay (C : Addr) : Addr → Addr → Hp → Prop := fun p q H => ∃ (z : Str) (l r : Trm), SayAt C H p z l r ∧ SayAt C H q z l r ∧ l.size ≤ 100000 ∧ r.size ≤ 100000
theorem LikeSay.mon {C : Addr} : ∀ p q (H H' : Hp), Ext H H' → LikeSay C p q H → LikeSay C p q H' := fun p q H H' e h => by
  obtain ⟨z, l, r, a, b, c⟩ := h
  exact ⟨z, l, r, a.sm ⟨e⟩, b.sm ⟨e⟩, c⟩
theorem ok_Saying_like (T : Txt K mg w base) : FnOk P w K mg base CX0 3 T.f_Saying_eq T.d_Saying_eq ["self", "other"] (spEq (LikeSay T.C_Saying)) :=
  (ok_Saying_eq T).imp fun vs H Q E h => by
    obtain ⟨p, q, rfl, ⟨z, l, r, a, b, c⟩, k⟩ := h
    refine use_say_eq a b c fun H' s => ?_
    rw [decide_eq_true ⟨rfl, rfl, rfl⟩]
    exact k H' s.to
theorem r_eqSay {C : Addr} {H : Hp} {Q : VK} {E : XK} {p q : Addr} {w1 w2 : Str} {l1 r1 l2 r2 : Trm} (h : SayAt C H p w1 l1 r1) (g : SayAt C H q w2 l2 r2) (b : l1.size ≤ 100000 ∧ r1.size ≤ 100000) (k : ∀ H', Sm H H' → Q (.bl (decide (w1 = w2 ∧ l1 = l2 ∧ r1 = r2))) H') : rEqI C (sp_Saying_eq C) E (.ref p) (.ref q) H Q := by
  obtain ⟨dx, fs, e1⟩ := h.ins
  obtain ⟨dy, gs, e2⟩ := g.ins
  exact r_eqIn e1 e2 (use_say_eq h g b fun H' s => ⟨_, rfl, k H' s⟩)
theorem r_neSay {C : Addr} {H : Hp} {Q : VK} {E : XK} {p q : Addr} {w1 w2 : Str} {l1 r1 l2 r2 : Trm} (h : SayAt C H p w1 l1 r1) (g : SayAt C H q w2 l2 r2) (b : l1.size ≤ 100000 ∧ r1.size ≤ 100000) (k : ∀ H', Sm H H' → Q (.bl (!decide (w1 = w2 ∧ l1 = l2 ∧ r1 = r2))) H') : rNeI C (sp_Saying_eq C) E (.ref p) (.ref q) H Q := by
  obtain ⟨dx, fs, e1⟩ := h.ins
  obtain ⟨dy, gs, e2⟩ := g.ins
  exact r_neIn e1 e2 (use_say_eq h g b fun H' s => ⟨_, rfl, k H' s⟩)
theorem prs_says {C : Addr} {H : Hp} : ∀ {ps qs : List Addr}, ps.length = qs.length → (∀ (i : Nat) p q, ps[i]? = some p → qs[i]? = some q → LikeSay C p q H) → Prs (DIns C (LikeSay C)) (ps.map V.ref) (qs.map V.ref) H := by
  intro ps qs hl h
  refine ⟨by rw [List.length_map, List.length_map]; exact hl, fun i x y hx hy => ?_⟩
  rw [List.getElem?_map] at hx hy
  cases hp : ps[i]? with
  | none => rw [hp] at hx; cases hx
  | some p =>
    cases hq : qs[i]? with
    | none => rw [hq] at hy; cases hy
    | some q =>
      rw [hp] at hx
      rw [hq] at hy
      have hx : V.ref p = x := Option.some.inj hx
      have hy : V.ref q = y := Option.some.inj hy
      subst hx hy
      have hL := h i p q hp hq
      obtain ⟨z, l, r, a, b, c⟩ := id hL
      obtain ⟨dx, fs, e1⟩ := a.ins
      obtain ⟨dy, gs, e2⟩ := b.ins
      exact ⟨p, q, dx, dy, fs, gs, rfl, rfl, e1, e2, hL⟩

/-! what stands out, what fits, how many -/
def sp_p_stands_out : Sp := fun vs H Q _ => ∃ (a b : Int), vs = [.int a, .int b] ∧ 0 ≤ a ∧ 0 ≤ b ∧ Q (.int ((out a.toNat b.toNat : Nat) : Int)) H
theorem use_out {H : Hp} {Q : VK} {E : XK} {a b : Int} (h0 : 0 ≤ a) (h1 : 0 ≤ b) (k : Q (.int ((out a.toNat b.toNat : Nat) : Int)) H) : sp_p_stands_out [.int a, .int b] H Q E := ⟨a, b, rfl, h0, h1, k⟩
theorem ok_p_stands_out (T : Txt K mg w base) : FnOk P w K mg base CX0 1 T.f_p_stands_out T.d_p_stands_out ["one", "other"] sp_p_stands_out := by
  refine T.F_p_stands_out.ok sc_p_stands_out (fun vs H Q E h => ?_) (fun cdv A outer s H vs Q E hr h => ?_)
  · obtain ⟨a, b, rfl, _⟩ := h
    rfl
  · obtain ⟨a, b, rfl, h0, h1, k⟩ := h
    refine ⟨_, (pss_one (ps_ret (pe_op op_xor (pv 0) (pe_op op_and (pv 0) (pv 1))))), ?_⟩
    tm_at "rv"
    rw [iout h0 h1]
    exact k
def sp_p_fits : Sp := fun vs H Q _ => ∃ (a b : Int), vs = [.int a, .int b] ∧ 0 ≤ a ∧ 0 ≤ b ∧ Q (.bl (decide (((out a.toNat b.toNat : Nat) : Int) = 0))) H
theorem use_fits {H : Hp} {Q : VK} {E : XK} {a b : Int} (h0 : 0 ≤ a) (h1 : 0 ≤ b) (k : Q (.bl (decide (((out a.toNat b.toNat : Nat) : Int) = 0))) H) : sp_p_fits [.int a, .int b] H Q E := ⟨a, b, rfl, h0, h1, k⟩
theorem ok_p_fits (T : Txt K mg w base) : FnOk P w K mg base CX0 2 T.f_p_fits T.d_p_fits ["one", "other"] sp_p_fits := by
  refine T.F_p_fits.ok sc_p_fits (fun vs H Q E h => ?_) (fun cdv A outer s H vs Q E hr h => ?_)
  · obtain ⟨a, b, rfl, _⟩ := h
    rfl
  · obtain ⟨a, b, rfl, h0, h1, k⟩ := h
    refine ⟨_, (pss_one (ps_ret (pe_cmpR (eq_k (K := K) rfl hr.units) (pe_call (ok_p_stands_out T) hr (by rfl) T.g_p_stands_out T.F_p_stands_out.kp T.b_p_stands_out .nil pass0 (pa_cons (pv 0) (pa_cons (pv 1) pa_nil))) pe_int (nomark _)))), ?_⟩
    tm_at "rv"
    refine use_out h0 h1 ?_
    tm_at "rv"
    exact k

/-! what terms come to, none too great -/
def sp_p_joined : Sp := fun vs H Q _ => ∃ (o : Op3) (x y : Int), vs = [.str o.word, .int x, .int y] ∧ 0 ≤ x ∧ 0 ≤ y ∧ bl x ≤ 1000000 ∧ bl y ≤ 1000000 ∧ bl (opW o x y) ≤ 1000000 ∧ ∀ H', Sm H H' → Q (.int (opW o x y)) H'
theorem ok_p_joined (T : Txt K mg w base) : FnOk P w K mg base CX0 5 T.f_p_joined T.d_p_joined ["word", "first", "second"] sp_p_joined := by
  refine T.F_p_joined.ok sc_p_joined (fun vs H Q E h => ?_) (fun cdv A outer s H vs Q E hr h => ?_)
  · obtain ⟨o, x, y, rfl, _⟩ := h
    rfl
  · obtain ⟨o, x, y, rfl, h0, h1, h2, h3, h4, k⟩ := h
    refine ⟨_, (pss_cons (ps_if (pt_cmpR (eq_k (K := K) rfl hr.units) (pv 0) pe_str (nomark _))
      (pss_one (ps_ret (pe_call (ok_p_bounded T) (hr.mono (by decide)) (by rfl) T.g_p_bounded T.F_p_bounded.kp T.b_p_bounded .nil pass0 (pa_cons (pe_op (add_k (K := K) rfl) (pv 1) (pv 2)) pa_nil)))) pss_nil)
      (pss_cons (ps_if (pt_cmpR (eq_k (K := K) rfl hr.units) (pv 0) pe_str (nomark _))
      (pss_one (ps_ret (pe_call (ok_p_bounded_product T) (hr.mono (by decide)) (by rfl) T.g_p_bounded_product T.F_p_bounded_product.kp T.b_p_bounded_product .nil pass0 (pa_cons (pv 1) (pa_cons (pv 2) pa_nil))))) pss_nil)
      (pss_one (ps_ret (pe_call (ok_p_bounded_power T) hr (by rfl) T.g_p_bounded_power T.F_p_bounded_power.kp T.b_p_bounded_power .nil pass0 (pa_cons (pv 1) (pa_cons (pv 2) pa_nil))))))), ?_⟩
    cases o with
    | plus =>
      have h4 : bl (x + y) ≤ 1000000 := h4
      simp only [Op3.word]
      tm_at "rv"
      refine use_bounded (Int.add_nonneg h0 h1) h4 ?_
      tm_at "rv"
      exact k H (Sm.refl _)
    | times =>
      have h4 : bl (x * y) ≤ 1000000 := h4
      simp only [Op3.word]
      tm_at "rv"
      refine use_bproduct h0 h1 h2 h3 h4 fun H1 s1 => ?_
      tm_at "rv"
      exact k H1 s1
    | power =>
      have h4 : bl (x ^ y.toNat) ≤ 1000000 := h4
      simp only [Op3.word]
      tm_at "rv"
      refine use_bpower h0 h1 h2 h4 fun H1 s1 => ?_
      tm_at "rv"
      exact k H1 s1
def sp_p_lone_worth : Sp := fun vs H Q _ => ∃ (v : V) (d : Addr) (t : Trm) (kvs : List (Key × V)), vs = [v, .ref d] ∧ TmAt H t v ∧ t.kids = [] ∧ H d = some (.dK kvs) ∧ t.fine kvs ∧ ∀ H', Sm H H' → Q (.int (t.worth (ansW kvs))) H'
theorem ok_p_lone_worth (T : Txt K mg w base) : FnOk P w K mg base CX0 2 T.f_p_lone_worth T.d_p_lone_worth ["term", "answer"] sp_p_lone_worth := by
  refine T.F_p_lone_worth.ok sc_p_lone_worth (fun vs H Q E h => ?_) (fun cdv A outer s H vs Q E hr h => ?_)
  · obtain ⟨v, d, t, kvs, rfl, _⟩ := h
    rfl
  · obtain ⟨v, d, t, kvs, rfl, ht, hk, hd, hf, k⟩ := h
    refine ⟨_, (pss_cons (ps_if (pt_cmpR (eq_k (K := K) rfl hr.units) (pe_ix (ix_k (K := K) rfl) (pv 0) pe_int (fun _ _ => rfl)) pe_str (nomark _))
      (pss_one (ps_ret (pe_call (ok_p_bounded T) hr (by rfl) T.g_p_bounded T.F_p_bounded.kp T.b_p_bounded .nil pass0 (pa_cons (pe_ix (ix_k (K := K) rfl) (pv 0) pe_int (fun _ _ => rfl)) pa_nil)))) pss_nil)
      (pss_cons (ps_if (pt_cmp (pc_dnotin (hu_of hr) (pe_ix (ix_k (K := K) rfl) (pv 0) pe_int (fun _ _ => rfl)) (pv 1)))
      (pss_one ps_never) pss_nil)
      (pss_one (ps_ret (pe_call (ok_p_bounded T) hr (by rfl) T.g_p_bounded T.F_p_bounded.kp T.b_p_bounded .nil pass0 (pa_cons (pe_dget (hu_of hr) (pv 1) (pe_ix (ix_k (K := K) rfl) (pv 0) pe_int (fun _ _ => rfl)) (fun _ _ => rfl)) pa_nil)))))), ?_⟩
    cases t with
    | op o a b => cases hk
    | num i =>
      obtain ⟨a, rfl, e⟩ := ht
      tm_at "rv"
      refine use_bounded hf.1 hf.2 ?_
      tm_at "rv"
      exact k H (Sm.refl _)
    | name z =>
      obtain ⟨a, rfl, e⟩ := ht
      obtain ⟨n, e1, h0, h1⟩ := hf
      have k := k H (Sm.refl _)
      have k : Q (.int (ansW kvs z)) H := k
      rw [ansW_at e1] at k
      tm_at "rv"
      refine r_dgetS hd ?_
      rw [e1]
      tm_at "rv"
      refine r_getS hd e1 ?_
      tm_at "rv"
      refine use_bounded h0 h1 ?_
      tm_at "rv"
      exact k
def sp_p_worth (N : Addr → Str) (tp : Addr) : Sp := fun vs H Q _ => ∃ (v : V) (d : Addr) (t : Trm) (kvs : List (Key × V)), vs = [v, .ref d] ∧ TabS H tp (N tp) ∧ TmAt H t v ∧ t.size ≤ 100000 ∧ H d = some (.dK kvs) ∧ t.fine kvs ∧ ∀ H', Sw N H H' → Q (.int (t.worth (ansW kvs))) H'
theorem use_worth {N : Addr → Str} {tp : Addr} {H : Hp} {Q : VK} {E : XK} {v : V} {d : Addr} {t : Trm} {kvs : List (Key × V)} (h0 : TabS H tp (N tp)) (h1 : TmAt H t v) (h2 : t.size ≤ 100000) (h3 : H d = some (.dK kvs)) (h4 : t.fine kvs) (k : ∀ H', Sw N H H' → Q (.int (t.worth (ansW kvs))) H') : sp_p_worth N tp [v, .ref d] H Q E := ⟨v, d, t, kvs, rfl, h0, h1, h2, h3, h4, k⟩
theorem ok_p_worth (T : Txt K mg w base) : FnOk P w K mg base CX0 24 T.f_p_worth T.d_p_worth ["term", "answer"] (sp_p_worth T.nm T.t_p_worth) := by
  refine T.F_p_worth.ok sc_p_worth (fun vs H Q E h => ?_) (fun A outer s H vs Q E hr h => ?_)
  · obtain ⟨v, d, t, kvs, rfl, _⟩ := h
    rfl
  · obtain ⟨v, d, t, kvs, rfl, hT, ht, hsz, hd, hf, k⟩ := h
    have G3 := ok_p_folded (P := P) (w := w) (base := base) T (worK kvs) T.nm
    refine ⟨_, (pss_one (ps_ret (pe_foldL T.tb_p_worth rfl T.nm_p_worth G3 hr (by rfl) T.g_p_folded T.F_p_folded.kp (lamP_by (sc := defScope s_p_worth) (x := "part") (by decide +kernel)) (show ("part" : Str) ∉ (["term", "answer"] : List Str) by decide) rfl (fun _ _ _ _ _ _ => rfl) (pv 0) (fun _ _ _ _ _ _ _ hr => (pe_call (ok_p_lone_worth T) (hr.mono (by decide)) (by rfl) T.g_p_lone_worth T.F_p_lone_worth.kp T.b_p_lone_worth .nil pass0 (pa_cons (pv 2) (pa_cons (pv 1) pa_nil)))) (by rfl) T.g_p_joined (fun _ _ => act_fun T.F_p_joined (ok_p_joined T) (.inl rfl) (by decide) T.b_p_joined) passE0))), ?_⟩
    tm_at "rv"
    refine r_foldL ?_
    tm_at "rv"
    refine ⟨hT, fun f H2 w2 => ?_⟩
    refine ⟨v, f, _, t, rfl, ht.tk w2.tk, hsz, hf, fun t1 v1 H3 Q1 E1 k1 g1 w3 h3 q => ?_, fun o x y vx vy H3 Q1 E1 hab w3 hvx hvy q => ?_, ?_⟩
    · refine ⟨v1, rfl, ?_⟩
      tm_at "rv"
      exact ⟨v1, d, t1, kvs, rfl, h3, k1, (w2.trans w3).to _ _ hd, g1, fun H' s4 => q _ H' s4.sw rfl⟩
    · obtain ⟨a, b, gab, fa, fb⟩ := hab
      rw [worK_fold] at fa fb
      cases Except.ok.inj fa
      cases Except.ok.inj fb
      cases (show vx = _ from hvx)
      cases (show vy = _ from hvy)
      obtain ⟨ga, gb, gl⟩ := gab
      exact ⟨o, _, _, rfl, ga.ok.1, gb.ok.1, ga.ok.2, gb.ok.2, gl, fun H' s4 => q _ H' s4.sw rfl⟩
    · rw [worK_fold]
      exact fun v' H' w4 h4 => by
        cases (show v' = _ from h4)
        exact k H' (w2.trans w4)

/-! sayings looked at -/
def sp_p_sides (N : Addr → Str) (C tp : Addr) : Sp := fun vs H Q _ => ∃ (p d : Addr) (z : Str) (l r : Trm) (kvs : List (Key × V)), vs = [.ref p, .ref d] ∧ TabS H tp (N tp) ∧ SayAt C H p z l r ∧ (l.size ≤ 100000 ∧ r.size ≤ 100000) ∧ H d = some (.dK kvs) ∧ l.fine kvs ∧ r.fine kvs ∧ ∀ t H', Sw N H H' → H' t = some (.tup [.int (l.worth (ansW kvs)), .int (r.worth (ansW kvs))]) → Q (.ref t) H'
theorem use_sides {N : Addr → Str} {C tp : Addr} {H : Hp} {Q : VK} {E : XK} {p d : Addr} {z : Str} {l r : Trm} {kvs : List (Key × V)} (h0 : TabS H tp (N tp)) (h1 : SayAt C H p z l r) (h2 : l.size ≤ 100000 ∧ r.size ≤ 100000) (h3 : H d = some (.dK kvs)) (h4 : l.fine kvs) (h5 : r.fine kvs)
    (k : ∀ t H', Sw N H H' → H' t = some (.tup [.int (l.worth (ansW kvs)), .int (r.worth (ansW kvs))]) → Q (.ref t) H') : sp_p_sides N C tp [.ref p, .ref d] H Q E := ⟨p, d, z, l, r, kvs, rfl, h0, h1, h2, h3, h4, h5, k⟩
theorem ok_p_sides (T : Txt K mg w base) : FnOk P w K mg base CX0 25 T.f_p_sides T.d_p_sides ["saying", "answer"] (sp_p_sides T.nm T.C_Saying T.t_p_worth) := by
  refine T.F_p_sides.ok sc_p_sides (fun vs H Q E h => ?_) (fun cdv A outer s H vs Q E hr h => ?_)
  · obtain ⟨p, d, z, l, r, kvs, rfl, _⟩ := h
    rfl
  · obtain ⟨p, d, z, l, r, kvs, rfl, hT, ⟨dx, x, y, e1, hl, hr'⟩, hsz, hd, fl, fr, k⟩ := h
    refine ⟨_, (pss_cons (ps_set (i := 2) sc_p_sides.nd rfl (Or.inl rfl) (pe_call (ok_p_worth T) hr (by rfl) T.g_p_worth T.F_p_worth.kp T.b_p_worth .nil pass0 (pa_cons (fld_k (K := K) rfl (pv 0) rfl) (pa_cons (pv 1) pa_nil))))
      (pss_one (ps_ret (pe_tup (pa_cons (pv 2) (pa_cons (pe_call (ok_p_worth T) hr (by rfl) T.g_p_worth T.F_p_worth.kp T.b_p_worth .nil pass0 (pa_cons (fld_k (K := K) rfl (pv 0) rfl) (pa_cons (pv 1) pa_nil))) pa_nil)))))), ?_⟩
    tm_at "rv"
    refine r_fldO e1 T.cl_Saying T.n_Saying_left (get_left _ _ _) ?_
    tm_at "rv"
    refine use_worth hT hl hsz.1 hd fl fun H1 w1 => ?_
    tm_at "rv"
    refine r_fldO (w1.to _ _ e1) T.cl_Saying T.n_Saying_right (get_right _ _ _) ?_
    tm_at "rv"
    refine use_worth (w1.tq _ hT) (hr'.tk w1.tk) hsz.2 (w1.to _ _ hd) fr fun H2 w2 => ?_
    tm_at "rv"
    rename_i t nt
    exact k t _ ((w1.trans w2).trans (sm_upd nt).sw) upd_same
/-- does it hold -/
def holdsB (z : Str) (x y : Int) : Bool := if z = Str.ofString "same" then decide (x = y) else decide (((out x.toNat y.toNat : Nat) : Int) = 0)
def sp_p_holds (N : Addr → Str) (C tp : Addr) : Sp := fun vs H Q _ => ∃ (p d : Addr) (z : Str) (l r : Trm) (kvs : List (Key × V)), vs = [.ref p, .ref d] ∧ TabS H tp (N tp) ∧ SayAt C H p z l r ∧ (l.size ≤ 100000 ∧ r.size ≤ 100000) ∧ H d = some (.dK kvs) ∧ l.fine kvs ∧ r.fine kvs ∧ ∀ H', Sw N H H' → Q (.bl (holdsB z (l.worth (ansW kvs)) (r.worth (ansW kvs)))) H'
theorem use_holds {N : Addr → Str} {C tp : Addr} {H : Hp} {Q : VK} {E : XK} {p d : Addr} {z : Str} {l r : Trm} {kvs : List (Key × V)} (h0 : TabS H tp (N tp)) (h1 : SayAt C H p z l r) (h2 : l.size ≤ 100000 ∧ r.size ≤ 100000) (h3 : H d = some (.dK kvs)) (h4 : l.fine kvs) (h5 : r.fine kvs)
    (k : ∀ H', Sw N H H' → Q (.bl (holdsB z (l.worth (ansW kvs)) (r.worth (ansW kvs)))) H') : sp_p_holds N C tp [.ref p, .ref d] H Q E := ⟨p, d, z, l, r, kvs, rfl, h0, h1, h2, h3, h4, h5, k⟩
theorem ok_p_holds (T : Txt K mg w base) : FnOk P w K mg base CX0 26 T.f_p_holds T.d_p_holds ["saying", "answer"] (sp_p_holds T.nm T.C_Saying T.t_p_worth) := by
  refine T.F_p_holds.ok sc_p_holds (fun vs H Q E h => ?_) (fun cdv A outer s H vs Q E hr h => ?_)
  · obtain ⟨p, d, z, l, r, kvs, rfl, _⟩ := h
    rfl
  · obtain ⟨p, d, z, l, r, kvs, rfl, hT, hS, hsz, hd, fl, fr, k⟩ := h
    refine ⟨_, (pss_cons (ps_asg (pe_call (ok_p_sides T) hr (by rfl) T.g_p_sides T.F_p_sides.kp T.b_p_sides .nil pass0 (pa_cons (pv 0) (pa_cons (pv 1) pa_nil))) (pg_tup rfl (pgs_cons (pg_name (i := 2) sc_p_holds.nd rfl (Or.inl rfl)) (pgs_cons (pg_name (i := 3) sc_p_holds.nd rfl (Or.inl rfl)) pgs_nil))))
      (pss_one (ps_ret (pe_ifExp (pt_cmpR (eq_k (K := K) rfl hr.units) (fld_k (K := K) rfl (pv 0) rfl) pe_str (nomark _)) (pe_cmpR (eq_k (K := K) rfl hr.units) (pv 2) (pv 3) (nomark _)) (pe_call (ok_p_fits T) (hr.mono (by decide)) (by rfl) T.g_p_fits T.F_p_fits.kp T.b_p_fits .nil pass0 (pa_cons (pv 2) (pa_cons (pv 3) pa_nil))))))), ?_⟩
    tm_at "rv"
    refine use_sides hT hS hsz hd fl fr fun t H1 w1 et => ?_
    obtain ⟨dx, x, y, e1, _⟩ := hS.sw w1
    tm_at "rv"
    refine r_fldO e1 T.cl_Saying T.n_Saying_word (get_word _ _ _) ?_
    tm_at "rv"
    have k := k H1 w1
    refine ite_d (fun e => ?_) (fun e => ?_)
    · unfold holdsB at k
      rw [if_pos e] at k
      tm_at "rv"
      exact k
    · unfold holdsB at k
      rw [if_neg e] at k
      tm_at "rv"
      refine use_fits fl.ok.1 fr.ok.1 ?_
      tm_at "rv"
      exact k

/-! how far off -/
def offI (z : Str) (x y : Int) : Int := if z = Str.ofString "same" then (x - y) * (x - y) else ((out x.toNat y.toNat : Nat) : Int) * ((out x.toNat y.toNat : Nat) : Int)
theorem mulx_sub {x y : Int} {k : Nat} (hx : 0 ≤ x) (hy : 0 ≤ y) (bx : bl x ≤ k) (hb : bl y ≤ k) (h : k + k ≤ 134217728) : CMulX (x - y) (x - y) := by
  have g1 := Nat.lt_of_lt_of_le (bl_lt hx) (Nat.pow_le_pow_right (show 0 < 2 by decide) bx)
  have g2 := Nat.lt_of_lt_of_le (bl_lt hy) (Nat.pow_le_pow_right (show 0 < 2 by decide) hb)
  have g : (x - y).natAbs < 2 ^ k := by
    generalize 2 ^ k = w at g1 g2
    omega
  exact mulx_ok g g h
theorem mulx_out {x y : Int} {k : Nat} (hx : 0 ≤ x) (bx : bl x ≤ k) (h : k + k ≤ 134217728) : CMulX ((out x.toNat y.toNat : Nat) : Int) ((out x.toNat y.toNat : Nat) : Int) := by
  have g1 := Nat.lt_of_lt_of_le (bl_lt hx) (Nat.pow_le_pow_right (show 0 < 2 by decide) bx)
  have e : out x.toNat y.toNat = x.toNat - (x.toNat &&& y.toNat) := rfl
  have g : ((out x.toNat y.toNat : Nat) : Int).natAbs < 2 ^ k := by
    rw [e]
    generalize 2 ^ k = w at g1
    omega
  exact mulx_ok g g h
def sp_p_off (N : Addr → Str) (C tp : Addr) : Sp := fun vs H Q _ => ∃ (p d : Addr) (z : Str) (l r : Trm) (kvs : List (Key × V)), vs = [.ref p, .ref d] ∧ TabS H tp (N tp) ∧ SayAt C H p z l r ∧ (l.size ≤ 100000 ∧ r.size ≤ 100000) ∧ H d = some (.dK kvs) ∧ l.fine kvs ∧ r.fine kvs ∧ ∀ H', Sw N H H' → Q (.int (offI z (l.worth (ansW kvs)) (r.worth (ansW kvs)))) H'
theorem use_off {N : Addr → Str} {C tp : Addr} {H : Hp} {Q : VK} {E : XK} {p d : Addr} {z : Str} {l r : Trm} {kvs : List (Key × V)} (h0 : TabS H tp (N tp)) (h1 : SayAt C H p z l r) (h2 : l.size ≤ 100000 ∧ r.size ≤ 100000) (h3 : H d = some (.dK kvs)) (h4 : l.fine kvs) (h5 : r.fine kvs)
    (k : ∀ H', Sw N H H' → Q (.int (offI z (l.worth (ansW kvs)) (r.worth (ansW kvs)))) H') : sp_p_off N C tp [.ref p, .ref d] H Q E := ⟨p, d, z, l, r, kvs, rfl, h0, h1, h2, h3, h4, h5, k⟩
theorem ok_p_off (T : Txt K mg w base) : FnOk P w K mg base CX0 26 T.f_p_off T.d_p_off ["saying", "answer"] (sp_p_off T.nm T.C_Saying T.t_p_worth) := by
  refine T.F_p_off.ok sc_p_off (fun vs H Q E h => ?_) (fun cdv A outer s H vs Q E hr h => ?_)
  · obtain ⟨p, d, z, l, r, kvs, rfl, _⟩ := h
    rfl
  · obtain ⟨p, d, z, l, r, kvs, rfl, hT, hS, hsz, hd, fl, fr, k⟩ := h
    refine ⟨_, (pss_cons (ps_asg (pe_call (ok_p_sides T) hr (by rfl) T.g_p_sides T.F_p_sides.kp T.b_p_sides .nil pass0 (pa_cons (pv 0) (pa_cons (pv 1) pa_nil))) (pg_tup rfl (pgs_cons (pg_name (i := 2) sc_p_off.nd rfl (Or.inl rfl)) (pgs_cons (pg_name (i := 3) sc_p_off.nd rfl (Or.inl rfl)) pgs_nil))))
      (pss_cons (ps_set (i := 4) sc_p_off.nd rfl (Or.inl rfl) (pe_ifExp (pt_cmpR (eq_k (K := K) rfl hr.units) (fld_k (K := K) rfl (pv 0) rfl) pe_str (nomark _)) (pe_op op_sub (pv 2) (pv 3)) (pe_call (ok_p_stands_out T) (hr.mono (by decide)) (by rfl) T.g_p_stands_out T.F_p_stands_out.kp T.b_p_stands_out .nil pass0 (pa_cons (pv 2) (pa_cons (pv 3) pa_nil)))))
      (pss_one (ps_ret (pe_op op_mulX (pv 4) (pv 4)))))), ?_⟩
    tm_at "rv"
    refine use_sides hT hS hsz hd fl fr fun t H1 w1 et => ?_
    obtain ⟨dx, x, y, e1, _⟩ := hS.sw w1
    tm_at "rv"
    refine r_fldO e1 T.cl_Saying T.n_Saying_word (get_word _ _ _) ?_
    tm_at "rv"
    have k := k H1 w1
    refine ite_d (fun e => ?_) (fun e => ?_)
    · unfold offI at k
      rw [if_pos e] at k
      have mx := mulx_sub fl.ok.1 fr.ok.1 fl.ok.2 fr.ok.2 (by decide)
      tm_at "rv"
      exact k
    · unfold offI at k
      rw [if_neg e] at k
      tm_at "rv"
      refine use_out fl.ok.1 fr.ok.1 ?_
      have mx := mulx_out (y := r.worth (ansW kvs)) fl.ok.1 fl.ok.2 (by decide)
      tm_at "rv"
      exact k

/-! sayings of a list -/
abbrev SaidsAt (C : Addr) (H : Hp) : List V → List (Str × Trm × Trm) → Prop := All2 fun v p => ∃ q, v = .ref q ∧ SayAt C H q p.1 p.2.1 p.2.2
theorem SaidsAt.sw {C : Addr} {N : Addr → Str} {H H' : Hp} {xs : List V} {ps : List (Str × Trm × Trm)} (e : Sw N H H') (h : SaidsAt C H xs ps) : SaidsAt C H' xs ps := h.imp fun _ _ ⟨q, a, b⟩ => ⟨q, a, b.sw e⟩
theorem SaidsAt.sm {C : Addr} {H H' : Hp} {xs : List V} {ps : List (Str × Trm × Trm)} (e : Sm H H') (h : SaidsAt C H xs ps) : SaidsAt C H' xs ps := h.imp fun _ _ ⟨q, a, b⟩ => ⟨q, a, b.sm e⟩
theorem SaidsAt.chgL {C A : Addr} {H H' : Hp} {xs ys : List V} {ps : List (Str × Trm × Trm)} (hA : H A = some (.lst ys)) (e : Chg A H H') (h : SaidsAt C H xs ps) : SaidsAt C H' xs ps := h.imp fun _ _ ⟨q, a, b⟩ => ⟨q, a, b.chgL hA e⟩
theorem SaidsAt.chgB {C b : Addr} {H H' : Hp} {xs : List V} {ps : List (Str × Trm × Trm)} (hB : BoxAt H b) (e : Chg b H H') (h : SaidsAt C H xs ps) : SaidsAt C H' xs ps := h.imp fun _ _ ⟨q, x, z⟩ => ⟨q, x, z.chgB hB e⟩
def FineT (kvs : List (Key × V)) (p : Str × Trm × Trm) : Prop := (p.2.1.size ≤ 100000 ∧ p.2.2.size ≤ 100000) ∧ p.2.1.fine kvs ∧ p.2.2.fine kvs
theorem w_us : ¬ Str.ofString "under" = Str.ofString "same" := by decide +kernel

/-! the first that doesn't hold -/
def holdsT (kvs : List (Key × V)) (p : Str × Trm × Trm) : Bool := holdsB p.1 (p.2.1.worth (ansW kvs)) (p.2.2.worth (ansW kvs))
def fstW (kvs : List (Key × V)) : List (Str × Trm × Trm) → Option Nat
  | [] => none
  | p :: r => if holdsT kvs p = true then (fstW kvs r).map (· + 1) else some 0
def fstV : Option Nat → V
  | none => .non
  | some i => .int (i : Nat)
theorem fstW_none {kvs : List (Key × V)} : ∀ {ps : List (Str × Trm × Trm)}, (∀ p ∈ ps, holdsT kvs p = true) → fstW kvs ps = none
  | [], _ => rfl
  | p :: r, h => by
    show (if holdsT kvs p = true then (fstW kvs r).map (· + 1) else some 0) = none
    rw [if_pos (h p (by simp)), fstW_none fun q hq => h q (by simp [hq])]
    rfl
theorem fstW_all {kvs : List (Key × V)} : ∀ {ps : List (Str × Trm × Trm)}, fstW kvs ps = none → ∀ p ∈ ps, holdsT kvs p = true
  | [], _, p, hp => by cases hp
  | p :: r, h, q, hq => by
    have h : (if holdsT kvs p = true then (fstW kvs r).map (· + 1) else some 0) = none := h
    by_cases e : holdsT kvs p = true
    · rw [if_pos e] at h
      rcases List.mem_cons.mp hq with rfl | hq
      · exact e
      · exact fstW_all (by simpa using h) q hq
    · rw [if_neg e] at h
      cases h
theorem fstW_some {kvs : List (Key × V)} : ∀ {ps : List (Str × Trm × Trm)} {i : Nat} {p : Str × Trm × Trm}, (∀ k q, k < i → ps[k]? = some q → holdsT kvs q = true) → ps[i]? = some p → ¬ holdsT kvs p = true → fstW kvs ps = some i
  | [], i, p, _, h, _ => by simp at h
  | p :: r, 0, q, _, h, n => by
    have e : p = q := Option.some.inj h
    subst e
    show (if holdsT kvs p = true then (fstW kvs r).map (· + 1) else some 0) = some 0
    rw [if_neg n]
  | p :: r, i + 1, q, hk, h, n => by
    show (if holdsT kvs p = true then (fstW kvs r).map (· + 1) else some 0) = some (i + 1)
    rw [if_pos (hk 0 p (by omega) rfl), fstW_some (ps := r) (i := i) (p := q) (fun k x hx e => hk (k + 1) x (by omega) (by simpa using e)) (by simpa using h) n]
    rfl
/-- as far as it goes, nothing is too great -/
def FineW (kvs : List (Key × V)) (ps : List (Str × Trm × Trm)) : Prop := ∀ (i : Nat) p, ps[i]? = some p → (∀ k q, k < i → ps[k]? = some q → holdsT kvs q = true) → FineT kvs p
theorem fineW_of {kvs : List (Key × V)} {ps : List (Str × Trm × Trm)} (h : ∀ p ∈ ps, FineT kvs p) : FineW kvs ps := fun _ p hp _ => h p (List.mem_of_getElem? hp)
def sp_p_first_wrong (K : PySem.W.Frag) (N : Addr → Str) (C tp : Addr) : Sp := fun vs H Q _ => ∃ (a d : Addr) (xs : List V) (ps : List (Str × Trm × Trm)) (kvs : List (Key × V)), vs = [.ref a, .ref d] ∧ TabS H tp (N tp) ∧ (SqL K H a xs ∨ SqT K H a xs) ∧ SaidsAt C H xs ps ∧ H d = some (.dK kvs) ∧ FineW kvs ps ∧ ∀ H', Sw N H H' → Q (fstV (fstW kvs ps)) H'
theorem use_first_wrong {N : Addr → Str} {C tp : Addr} {H : Hp} {Q : VK} {E : XK} {a d : Addr} {xs : List V} {ps : List (Str × Trm × Trm)} {kvs : List (Key × V)} (h0 : TabS H tp (N tp)) (h1 : SqL K H a xs ∨ SqT K H a xs) (h2 : SaidsAt C H xs ps) (h3 : H d = some (.dK kvs)) (h4 : FineW kvs ps) (k : ∀ H', Sw N H H' → Q (fstV (fstW kvs ps)) H') : sp_p_first_wrong K N C tp [.ref a, .ref d] H Q E := ⟨a, d, xs, ps, kvs, rfl, h0, h1, h2, h3, h4, k⟩
theorem ok_p_first_wrong (T : Txt K mg w base) : FnOk P w K mg base CX0 27 T.f_p_first_wrong T.d_p_first_wrong ["sayings", "answer"] (sp_p_first_wrong K T.nm T.C_Saying T.t_p_worth) := by
  refine T.F_p_first_wrong.ok sc_p_first_wrong (fun vs H Q E h => ?_) (fun cdv A outer s H vs Q E hr h => ?_)
  · obtain ⟨a, d, xs, ps, kvs, rfl, _⟩ := h
    rfl
  · obtain ⟨a, d, xs, ps, kvs, rfl, hT, hS, hW, hd, hf, k⟩ := h
    refine ⟨_, (pss_cons (ps_for PassesOwn.never rfl (enum_k (K := K) rfl (by rfl) T.z_enumerate (pa_cons (pv 0) pa_nil)) (pg_tup rfl (pgs_cons (pg_name (i := 2) sc_p_first_wrong.nd rfl (Or.inl rfl)) (pgs_cons (pg_name (i := 3) sc_p_first_wrong.nd rfl (Or.inl rfl)) pgs_nil)))
      (pss_one (ps_if (pt_not (pt_truth (pe_call (ok_p_holds T) hr (by rfl) T.g_p_holds T.F_p_holds.kp T.b_p_holds .nil pass0 (pa_cons (pv 3) (pa_cons (pv 1) pa_nil))) (by intro _; rfl)))
      (pss_one (ps_ret (pv 2))) pss_nil)))
      (pss_one (ps_ret pe_non))), ?_⟩
    have hlen := hW.len
    have last : (∀ k q, k < xs.length → ps[k]? = some q → holdsT kvs q = true) → fstW kvs ps = none := fun h => fstW_none fun p hp => by
      obtain ⟨k, hk⟩ := List.getElem?_of_mem hp
      exact h k p (by rw [hlen]; exact (List.getElem?_eq_some_iff.mp hk).1) hk
    rcases hS with hS | hS
    · tm_at "rv"
      refine r_enumL ?_
      tm_at "rv"
      refine ⟨a, _, rfl, hS, ?_⟩
      refine for_it walk_enum (fun j σ H' => (∃ x1 x2, σ = [some (.ref a), some (.ref d), x1, x2]) ∧ Sw T.nm H H' ∧ ∀ k q, k < j → ps[k]? = some q → holdsT kvs q = true) ⟨⟨_, _, rfl⟩, .refl, fun k q hk _ => absurd hk (by omega)⟩ (fun j σ H' _ h => h.2.1.seq hS) ?_ ?_
      · rintro j x σ H1 H2 hj ⟨⟨x1, x2, rfl⟩, w1, hk⟩ ⟨tn, u, v, rfl, nt, rfl, hu, hv⟩
        have hu : u = .int (j : Nat) := (Option.some.inj hu).symm
        subst hu
        have hv : xs[j]? = some v := hv
        obtain ⟨p, hp, q, rfl, hq⟩ := All2.get hW hv
        obtain ⟨sz, f1, f2⟩ := hf j p hp hk
        have st := sm_upd (o := .tup [V.int (j : Nat), V.ref q]) nt
        have et := upd_same (H := H1) (a := tn) (o := .tup [V.int (j : Nat), V.ref q])
        generalize upd H1 tn (.tup [V.int (j : Nat), V.ref q]) = H3 at st et ⊢
        have w3 := w1.trans st.sw
        tm_at "rv"
        refine use_holds (w3.tq _ hT) (hq.sw w3) sz (w3.to _ _ hd) f1 f2 fun H4 w4 => ?_
        have w4 := w3.trans w4
        tm_at "rv"
        by_cases hw : holdsT kvs p = true
        · refine ite_o (by rw [show holdsB p.1 (p.2.1.worth (ansW kvs)) (p.2.2.worth (ansW kvs)) = true from hw]; rfl) ?_
          tm_at "rv"
          refine ⟨⟨_, _, rfl⟩, w4, fun k q hk2 e => ?_⟩
          rcases Nat.lt_succ_iff_lt_or_eq.mp hk2 with h | h
          · exact hk k q h e
          · subst h
            rw [hp] at e
            exact (Option.some.inj e) ▸ hw
        · refine ite_y (by rw [show holdsB p.1 (p.2.1.worth (ansW kvs)) (p.2.2.worth (ansW kvs)) = false from Bool.eq_false_iff.mpr hw]; rfl) ?_
          tm_at "rv"
          have k := k _ w4
          rw [fstW_some hk hp hw] at k
          exact k
      · rintro σ H1 ⟨⟨x1, x2, rfl⟩, w1, hk⟩
        tm_at "rv"
        have k := k _ w1
        rw [last hk] at k
        exact k
    · tm_at "rv"
      refine r_enumT ?_
      tm_at "rv"
      refine ⟨a, _, rfl, hS, ?_⟩
      refine for_it walk_enumT (fun j σ H' => (∃ x1 x2, σ = [some (.ref a), some (.ref d), x1, x2]) ∧ Sw T.nm H H' ∧ ∀ k q, k < j → ps[k]? = some q → holdsT kvs q = true) ⟨⟨_, _, rfl⟩, .refl, fun k q hk _ => absurd hk (by omega)⟩ (fun j σ H' _ h => h.2.1.seqT hS) ?_ ?_
      · rintro j x σ H1 H2 hj ⟨⟨x1, x2, rfl⟩, w1, hk⟩ ⟨tn, u, v, rfl, nt, rfl, hu, hv⟩
        have hu : u = .int (j : Nat) := (Option.some.inj hu).symm
        subst hu
        have hv : xs[j]? = some v := hv
        obtain ⟨p, hp, q, rfl, hq⟩ := All2.get hW hv
        obtain ⟨sz, f1, f2⟩ := hf j p hp hk
        have st := sm_upd (o := .tup [V.int (j : Nat), V.ref q]) nt
        have et := upd_same (H := H1) (a := tn) (o := .tup [V.int (j : Nat), V.ref q])
        generalize upd H1 tn (.tup [V.int (j : Nat), V.ref q]) = H3 at st et ⊢
        have w3 := w1.trans st.sw
        tm_at "rv"
        refine use_holds (w3.tq _ hT) (hq.sw w3) sz (w3.to _ _ hd) f1 f2 fun H4 w4 => ?_
        have w4 := w3.trans w4
        tm_at "rv"
        by_cases hw : holdsT kvs p = true
        · refine ite_o (by rw [show holdsB p.1 (p.2.1.worth (ansW kvs)) (p.2.2.worth (ansW kvs)) = true from hw]; rfl) ?_
          tm_at "rv"
          refine ⟨⟨_, _, rfl⟩, w4, fun k q hk2 e => ?_⟩
          rcases Nat.lt_succ_iff_lt_or_eq.mp hk2 with h | h
          · exact hk k q h e
          · subst h
            rw [hp] at e
            exact (Option.some.inj e) ▸ hw
        · refine ite_y (by rw [show holdsB p.1 (p.2.1.worth (ansW kvs)) (p.2.2.worth (ansW kvs)) = false from Bool.eq_false_iff.mpr hw]; rfl) ?_
          tm_at "rv"
          have k := k _ w4
          rw [fstW_some hk hp hw] at k
          exact k
      · rintro σ H1 ⟨⟨x1, x2, rfl⟩, w1, hk⟩
        tm_at "rv"
        have k := k _ w1
        rw [last hk] at k
        exact k

/-! how far off all are, together -/
def offT (kvs : List (Key × V)) (p : Str × Trm × Trm) : Int := offI p.1 (p.2.1.worth (ansW kvs)) (p.2.2.worth (ansW kvs))
def sp_p_far_off (K : PySem.W.Frag) (N : Addr → Str) (C tp : Addr) : Sp := fun vs H Q _ => ∃ (a d : Addr) (xs : List V) (ps : List (Str × Trm × Trm)) (kvs : List (Key × V)), vs = [.ref a, .ref d] ∧ TabS H tp (N tp) ∧ (SqL K H a xs ∨ SqT K H a xs) ∧ SaidsAt C H xs ps ∧ ps.length ≤ 1000 ∧ H d = some (.dK kvs) ∧ (∀ p ∈ ps, FineT kvs p) ∧ ∀ H', Sw N H H' → Q (.int ((ps.map (offT kvs)).sum)) H'
theorem use_far_off {N : Addr → Str} {C tp : Addr} {H : Hp} {Q : VK} {E : XK} {a d : Addr} {xs : List V} {ps : List (Str × Trm × Trm)} {kvs : List (Key × V)} (h0 : TabS H tp (N tp)) (h1 : SqL K H a xs ∨ SqT K H a xs) (h2 : SaidsAt C H xs ps) (hl : ps.length ≤ 1000) (h3 : H d = some (.dK kvs)) (h4 : ∀ p ∈ ps, FineT kvs p) (k : ∀ H', Sw N H H' → Q (.int ((ps.map (offT kvs)).sum)) H') : sp_p_far_off K N C tp [.ref a, .ref d] H Q E := ⟨a, d, xs, ps, kvs, rfl, h0, h1, h2, hl, h3, h4, k⟩
theorem ok_p_far_off (T : Txt K mg w base) : FnOk P w K mg base CX0 27 T.f_p_far_off T.d_p_far_off ["sayings", "answer"] (sp_p_far_off K T.nm T.C_Saying T.t_p_worth) := by
  refine T.F_p_far_off.ok sc_p_far_off (fun vs H Q E h => ?_) (fun cdv A outer s H vs Q E hr h => ?_)
  · obtain ⟨a, d, xs, ps, kvs, rfl, _⟩ := h
    rfl
  · obtain ⟨a, d, xs, ps, kvs, rfl, hT, hS, hW, hl, hd, hf, k⟩ := h
    refine ⟨_, (pss_one (ps_ret (pe_callB (sum_k (K := K) rfl rfl) (by rfl) T.z_sum (by decide +kernel) (pa_cons (pe_lc (own := [("saying", 2)]) rfl sc_p_far_off.nd (any_pi (K := K) rfl (pv 0)) (blkOk_by (N := ["sayings", "answer", "saying"]) (sc := defScope s_p_far_off) (own := [("saying", 2)]) (by decide +kernel)) (fun _ _ _ _ _ => (pg_name (i := 2) sc_p_far_off.nd rfl (Or.inl rfl))) (fun _ _ _ _ _ => pts_nil) (fun _ _ _ _ _ => (pe_call (ok_p_off T) hr (by rfl) T.g_p_off T.F_p_off.kp T.b_p_off .nil pass0 (pa_cons (pv 2) (pa_cons (pv 1) pa_nil))))) pa_nil)))), ?_⟩
    have hlen := hW.len
    rcases hS with hS | hS
    · tm_at "rv"
      refine r_iL ?_
      tm_at "rv"
      refine r_aL hS ?_
      intro D nD
      refine lc_list (K := K) (a := a) (xs := xs) (fun i H' => H' D = some (.lst (((ps.take i).map (offT kvs)).map V.int)) ∧ Sw T.nm H H') ⟨upd_same, (sm_upd nD).sw⟩ (fun i H' _ h => h.2.seq hS) ?_ ?_
      · rintro i x H1 hx ⟨hD, w1⟩
        obtain ⟨p, hp, q, rfl, hq⟩ := All2.get hW hx
        have hi := (List.getElem?_eq_some_iff.mp hx).1
        obtain ⟨sz, f1, f2⟩ := hf p (List.mem_of_getElem? hp)
        tm_at "rv"
        refine use_off (w1.tq _ hT) (hq.sw w1) sz (w1.to _ _ hd) f1 f2 fun H2 w2 => ?_
        have hD2 := w2.to _ _ hD
        refine r_acc hD2 (len_lt (by rw [List.length_map, List.length_map, List.length_take]; omega)) ⟨?_, (w1.trans w2).acc nD hD2⟩
        rw [upd_same, List.take_add_one, hp, List.map_append, List.map_append]
        rfl
      · rintro H1 ⟨hD, w1⟩
        rw [hlen, List.take_length] at hD
        tm_at "rv"
        refine r_sum (SqL.of hD) ?_
        exact k _ w1
    · tm_at "rv"
      refine r_iT ?_
      tm_at "rv"
      refine r_aT hS ?_
      intro D nD
      refine lc_tup (K := K) (a := a) (xs := xs) (fun i H' => H' D = some (.lst (((ps.take i).map (offT kvs)).map V.int)) ∧ Sw T.nm H H') ⟨upd_same, (sm_upd nD).sw⟩ (fun i H' _ h => h.2.seqT hS) ?_ ?_
      · rintro i x H1 hx ⟨hD, w1⟩
        obtain ⟨p, hp, q, rfl, hq⟩ := All2.get hW hx
        have hi := (List.getElem?_eq_some_iff.mp hx).1
        obtain ⟨sz, f1, f2⟩ := hf p (List.mem_of_getElem? hp)
        tm_at "rv"
        refine use_off (w1.tq _ hT) (hq.sw w1) sz (w1.to _ _ hd) f1 f2 fun H2 w2 => ?_
        have hD2 := w2.to _ _ hD
        refine r_acc hD2 (len_lt (by rw [List.length_map, List.length_map, List.length_take]; omega)) ⟨?_, (w1.trans w2).acc nD hD2⟩
        rw [upd_same, List.take_add_one, hp, List.map_append, List.map_append]
        rfl
      · rintro H1 ⟨hD, w1⟩
        rw [hlen, List.take_length] at hD
        tm_at "rv"
        refine r_sum (SqL.of hD) ?_
        exact k _ w1

def sp_p_named : Sp := fun vs H Q _ => ∃ (z : Str), vs = [.str z] ∧ ∀ v H', Sm H H' → TmAt H' (.name z) v → Q v H'
theorem ok_p_named (T : Txt K mg w base) : FnOk P w K mg base CX0 1 T.f_p_named T.d_p_named ["text"] sp_p_named := by
  refine T.F_p_named.ok sc_p_named (fun vs H Q E h => ?_) (fun cdv A outer s H vs Q E hr h => ?_)
  · obtain ⟨z, rfl, _⟩ := h
    rfl
  · obtain ⟨z, rfl, k⟩ := h
    refine ⟨_, (pss_one (ps_ret (pe_tup (pa_cons pe_str (pa_cons (pv 0) pa_nil))))), ?_⟩
    tm_at "rv"
    rename_i p np
    exact k _ _ (sm_upd np) ⟨p, rfl, upd_same⟩

/-! names that give way -/
theorem use_named {H : Hp} {Q : VK} {E : XK} {z : Str} (k : ∀ v H', Sm H H' → TmAt H' (.name z) v → Q v H') : sp_p_named [.str z] H Q E := ⟨z, rfl, k⟩
def renK (kvs : List (Key × V)) : FoldK Trm Empty where
  Rv := fun t v H => TmAt H t v
  lone := fun t => .ok (t.led (way kvs))
  both := fun o x y => .ok (.op o x y)
  Er := fun e => e.elim
  good := fun _ => True
  gop := fun _ => ⟨trivial, trivial⟩
  st := fun e h => h.tk e
theorem renK_fold (kvs : List (Key × V)) : ∀ t : Trm, (renK kvs).fold t = .ok (t.led (way kvs))
  | .num _ => rfl
  | .name _ => rfl
  | .op o a b => by
    unfold FoldK.fold
    rw [renK_fold kvs a, renK_fold kvs b]
    rfl
def sp_p_renamed_lone : Sp := fun vs H Q _ => ∃ (v : V) (d : Addr) (t : Trm) (kvs : List (Key × V)), vs = [v, .ref d] ∧ TmAt H t v ∧ t.kids = [] ∧ H d = some (.dK kvs) ∧ TxtD okZ kvs ∧ ∀ v' H', Sm H H' → TmAt H' (t.led (way kvs)) v' → Q v' H'
theorem ok_p_renamed_lone (T : Txt K mg w base) : FnOk P w K mg base CX0 2 T.f_p_renamed_lone T.d_p_renamed_lone ["term", "names"] sp_p_renamed_lone := by
  refine T.F_p_renamed_lone.ok sc_p_renamed_lone (fun vs H Q E h => ?_) (fun cdv A outer s H vs Q E hr h => ?_)
  · obtain ⟨v, d, t, kvs, rfl, _⟩ := h
    rfl
  · obtain ⟨v, d, t, kvs, rfl, ht, hk, hd, hx, k⟩ := h
    refine ⟨_, (pss_cons (ps_if (PW.pt (pw_and (pt_cmpR (eq_k (K := K) rfl hr.units) (pe_ix (ix_k (K := K) rfl) (pv 0) pe_int (fun _ _ => rfl)) pe_str (nomark _)) (pw_and1 (pt_cmp (pc_din (hu_of hr) (pe_ix (ix_k (K := K) rfl) (pv 0) pe_int (fun _ _ => rfl)) (pv 1))))))
      (pss_one (ps_ret (pe_call (ok_p_named T) hr (by rfl) T.g_p_named T.F_p_named.kp T.b_p_named .nil pass0 (pa_cons (pe_dget (hu_of hr) (pv 1) (pe_ix (ix_k (K := K) rfl) (pv 0) pe_int (fun _ _ => rfl)) (fun _ _ => rfl)) pa_nil)))) pss_nil)
      (pss_one (ps_ret (pv 0)))), ?_⟩
    cases t with
    | op o a b => cases hk
    | num i =>
      have h0 := ht
      obtain ⟨a, rfl, e⟩ := ht
      tm_at "rv"
      exact k _ _ (Sm.refl _) h0
    | name z =>
      have h0 := ht
      obtain ⟨a, rfl, e⟩ := ht
      tm_at "rv"
      refine r_dgetS hd ?_
      rcases hx.find z with ⟨e1, e2⟩ | ⟨y, e1, e2, _⟩
      · rw [e1]
        tm_at "rv"
        refine k _ _ (Sm.refl _) ?_
        show TmAt H (.name (way kvs z)) _
        rw [e2]
        exact h0
      · rw [e1]
        tm_at "rv"
        refine r_getS hd e1 ?_
        tm_at "rv"
        refine use_named fun v' H' s1 h1 => ?_
        tm_at "rv"
        refine k _ _ s1 ?_
        show TmAt H' (.name (way kvs z)) _
        rw [e2]
        exact h1
def sp_p_term_of : Sp := fun vs H Q _ => ∃ (z : Str) (x y : V), vs = [.str z, x, y] ∧ ∀ p, H p = none → Q (.ref p) (upd H p (.tup [.str z, x, y]))
theorem ok_p_term_of (T : Txt K mg w base) : FnOk P w K mg base CX0 1 T.f_p_term_of T.d_p_term_of ["word", "first", "second"] sp_p_term_of := by
  refine T.F_p_term_of.ok sc_p_term_of (fun vs H Q E h => ?_) (fun cdv A outer s H vs Q E hr h => ?_)
  · obtain ⟨z, x, y, rfl, _⟩ := h
    rfl
  · obtain ⟨z, x, y, rfl, k⟩ := h
    refine ⟨_, (pss_one (ps_ret (pe_tup (pa_cons (pv 0) (pa_cons (pv 1) (pa_cons (pv 2) pa_nil)))))), ?_⟩
    tm_at "rv"
    rename_i p np
    exact k p np
def sp_p_renamed_term (N : Addr → Str) (tp : Addr) : Sp := fun vs H Q _ => ∃ (v : V) (d : Addr) (t : Trm) (kvs : List (Key × V)), vs = [v, .ref d] ∧ TabS H tp (N tp) ∧ TmAt H t v ∧ t.size ≤ 100000 ∧ H d = some (.dK kvs) ∧ TxtD okZ kvs ∧ ∀ v' H', Sw N H H' → TmAt H' (t.led (way kvs)) v' → Q v' H'
theorem use_renamed_term {N : Addr → Str} {tp : Addr} {H : Hp} {Q : VK} {E : XK} {v : V} {d : Addr} {t : Trm} {kvs : List (Key × V)} (h0 : TabS H tp (N tp)) (h1 : TmAt H t v) (h2 : t.size ≤ 100000) (h3 : H d = some (.dK kvs)) (h4 : TxtD okZ kvs) (k : ∀ v' H', Sw N H H' → TmAt H' (t.led (way kvs)) v' → Q v' H') : sp_p_renamed_term N tp [v, .ref d] H Q E := ⟨v, d, t, kvs, rfl, h0, h1, h2, h3, h4, k⟩
theorem ok_p_renamed_term (T : Txt K mg w base) : FnOk P w K mg base CX0 24 T.f_p_renamed_term T.d_p_renamed_term ["term", "names"] (sp_p_renamed_term T.nm T.t_p_renamed_term) := by
  refine T.F_p_renamed_term.ok sc_p_renamed_term (fun vs H Q E h => ?_) (fun A outer s H vs Q E hr h => ?_)
  · obtain ⟨v, d, t, kvs, rfl, _⟩ := h
    rfl
  · obtain ⟨v, d, t, kvs, rfl, hT, ht, hsz, hd, hx, k⟩ := h
    have G3 := ok_p_folded (P := P) (w := w) (base := base) T (renK kvs) T.nm
    refine ⟨_, (pss_one (ps_ret (pe_foldL T.tb_p_renamed_term rfl T.nm_p_renamed_term G3 hr (by rfl) T.g_p_folded T.F_p_folded.kp (lamP_by (sc := defScope s_p_renamed_term) (x := "part") (by decide +kernel)) (show ("part" : Str) ∉ (["term", "names"] : List Str) by decide) rfl (fun _ _ _ _ _ _ => rfl) (pv 0) (fun _ _ _ _ _ _ _ hr => (pe_call (ok_p_renamed_lone T) (hr.mono (by decide)) (by rfl) T.g_p_renamed_lone T.F_p_renamed_lone.kp T.b_p_renamed_lone .nil pass0 (pa_cons (pv 2) (pa_cons (pv 1) pa_nil)))) (by rfl) T.g_p_term_of (fun _ _ => act_fun T.F_p_term_of (ok_p_term_of T) (.inl rfl) (by decide) T.b_p_term_of) passE0))), ?_⟩
    tm_at "rv"
    refine r_foldL ?_
    tm_at "rv"
    refine ⟨hT, fun f H2 w2 => ?_⟩
    refine ⟨v, f, _, t, rfl, ht.tk w2.tk, hsz, trivial, fun t1 v1 H3 Q1 E1 k1 _ w3 h3 q => ?_, fun o x y vx vy H3 Q1 E1 _ w3 hvx hvy q => ?_, ?_⟩
    · refine ⟨v1, rfl, ?_⟩
      tm_at "rv"
      exact ⟨v1, d, t1, kvs, rfl, h3, k1, (w2.trans w3).to _ _ hd, hx, fun v' H' s4 h4 => q v' H' s4.sw h4⟩
    · exact ⟨_, vx, vy, rfl, fun p np => q _ _ (sm_upd np).sw ⟨p, vx, vy, rfl, upd_same, hvx.tk (sm_upd np).tk, hvy.tk (sm_upd np).tk⟩⟩
    · rw [renK_fold]
      exact fun v' H' w4 h4 => k v' H' (w2.trans w4) h4
def sp_p_renamed (N : Addr → Str) (C tp : Addr) : Sp := fun vs H Q _ => ∃ (p d : Addr) (z : Str) (l r : Trm) (kvs : List (Key × V)), vs = [.ref p, .ref d] ∧ TabS H tp (N tp) ∧ SayAt C H p z l r ∧ (z = Str.ofString "same" ∨ z = Str.ofString "under") ∧ (l.size ≤ 100000 ∧ r.size ≤ 100000) ∧ H d = some (.dK kvs) ∧ TxtD okZ kvs ∧
  ∀ p' H', Sw N H H' → SayAt C H' p' z (l.led (way kvs)) (r.led (way kvs)) → Q (.ref p') H'
theorem use_renamed {N : Addr → Str} {C tp : Addr} {H : Hp} {Q : VK} {E : XK} {p d : Addr} {z : Str} {l r : Trm} {kvs : List (Key × V)} (h0 : TabS H tp (N tp)) (h1 : SayAt C H p z l r) (hz : z = Str.ofString "same" ∨ z = Str.ofString "under") (h2 : l.size ≤ 100000 ∧ r.size ≤ 100000) (h3 : H d = some (.dK kvs)) (h4 : TxtD okZ kvs)
    (k : ∀ p' H', Sw N H H' → SayAt C H' p' z (l.led (way kvs)) (r.led (way kvs)) → Q (.ref p') H') : sp_p_renamed N C tp [.ref p, .ref d] H Q E := ⟨p, d, z, l, r, kvs, rfl, h0, h1, hz, h2, h3, h4, k⟩
theorem ok_p_renamed (T : Txt K mg w base) : FnOk P w K mg base CX0 25 T.f_p_renamed T.d_p_renamed ["saying", "names"] (sp_p_renamed T.nm T.C_Saying T.t_p_renamed_term) := by
  refine T.F_p_renamed.ok sc_p_renamed (fun vs H Q E h => ?_) (fun cdv A outer s H vs Q E hr h => ?_)
  · obtain ⟨p, d, z, l, r, kvs, rfl, _⟩ := h
    rfl
  · obtain ⟨p, d, z, l, r, kvs, rfl, hT, ⟨dx, x, y, e1, hl, hr'⟩, hz, hsz, hd, hx, k⟩ := h
    refine ⟨_, (pss_one (ps_ret (pe_make T.mk_Saying (ok_Saying_init T) (hr.mono (by decide)) (by rfl) T.g_Saying T.b_Saying_init .nil pass0 (pa_cons (fld_k (K := K) rfl (pv 0) rfl) (pa_cons (pe_call (ok_p_renamed_term T) hr (by rfl) T.g_p_renamed_term T.F_p_renamed_term.kp T.b_p_renamed_term .nil pass0 (pa_cons (fld_k (K := K) rfl (pv 0) rfl) (pa_cons (pv 1) pa_nil))) (pa_cons (pe_call (ok_p_renamed_term T) hr (by rfl) T.g_p_renamed_term T.F_p_renamed_term.kp T.b_p_renamed_term .nil pass0 (pa_cons (fld_k (K := K) rfl (pv 0) rfl) (pa_cons (pv 1) pa_nil))) pa_nil)))))), ?_⟩
    tm_at "rv"
    refine r_fldO e1 T.cl_Saying T.n_Saying_word (get_word _ _ _) ?_
    tm_at "rv"
    refine r_fldO e1 T.cl_Saying T.n_Saying_left (get_left _ _ _) ?_
    tm_at "rv"
    refine use_renamed_term hT hl hsz.1 hd hx fun v1 H1 w1 h1 => ?_
    tm_at "rv"
    refine r_fldO (w1.to _ _ e1) T.cl_Saying T.n_Saying_right (get_right _ _ _) ?_
    tm_at "rv"
    refine use_renamed_term (w1.tq _ hT) (hr'.tk w1.tk) hsz.2 (w1.to _ _ hd) hx fun v2 H2 w2 h2 => ?_
    tm_at "rv"
    intro p2 dxp np ndp _
    refine say_use np ndp hz (h1.tk w2.tk) h2 fun H3 s3 hS => ?_
    tm_at "rv"
    exact k p2 _ ((w1.trans w2).trans s3.sw) hS

/-! terms and sayings made -/
def sp_p_plus : Sp := fun vs H Q _ => ∃ (x y : V) (s t : Trm), vs = [x, y] ∧ TmAt H s x ∧ TmAt H t y ∧ ∀ v H', Sm H H' → TmAt H' (.op .plus s t) v → Q v H'
theorem use_plus {H : Hp} {Q : VK} {E : XK} {x y : V} {s t : Trm} (h : TmAt H s x) (g : TmAt H t y) (k : ∀ v H', Sm H H' → TmAt H' (.op .plus s t) v → Q v H') : sp_p_plus [x, y] H Q E := ⟨x, y, s, t, rfl, h, g, k⟩
theorem ok_p_plus (T : Txt K mg w base) : FnOk P w K mg base CX0 1 T.f_p_plus T.d_p_plus ["left", "right"] sp_p_plus := by
  refine T.F_p_plus.ok sc_p_plus (fun vs H Q E h => ?_) (fun cdv A outer s' H vs Q E hr h => ?_)
  · obtain ⟨x, y, s, t, rfl, _⟩ := h
    rfl
  · obtain ⟨x, y, s, t, rfl, hs, ht, k⟩ := h
    refine ⟨_, (pss_one (ps_ret (pe_tup (pa_cons pe_str (pa_cons (pv 0) (pa_cons (pv 1) pa_nil)))))), ?_⟩
    tm_at "rv"
    rename_i p np
    exact k _ _ (sm_upd np) ⟨p, x, y, rfl, upd_same, hs.sm (sm_upd np), ht.sm (sm_upd np)⟩
def sp_p_times : Sp := fun vs H Q _ => ∃ (x y : V) (s t : Trm), vs = [x, y] ∧ TmAt H s x ∧ TmAt H t y ∧ ∀ v H', Sm H H' → TmAt H' (.op .times s t) v → Q v H'
theorem use_times {H : Hp} {Q : VK} {E : XK} {x y : V} {s t : Trm} (h : TmAt H s x) (g : TmAt H t y) (k : ∀ v H', Sm H H' → TmAt H' (.op .times s t) v → Q v H') : sp_p_times [x, y] H Q E := ⟨x, y, s, t, rfl, h, g, k⟩
theorem ok_p_times (T : Txt K mg w base) : FnOk P w K mg base CX0 1 T.f_p_times T.d_p_times ["left", "right"] sp_p_times := by
  refine T.F_p_times.ok sc_p_times (fun vs H Q E h => ?_) (fun cdv A outer s' H vs Q E hr h => ?_)
  · obtain ⟨x, y, s, t, rfl, _⟩ := h
    rfl
  · obtain ⟨x, y, s, t, rfl, hs, ht, k⟩ := h
    refine ⟨_, (pss_one (ps_ret (pe_tup (pa_cons pe_str (pa_cons (pv 0) (pa_cons (pv 1) pa_nil)))))), ?_⟩
    tm_at "rv"
    rename_i p np
    exact k _ _ (sm_upd np) ⟨p, x, y, rfl, upd_same, hs.sm (sm_upd np), ht.sm (sm_upd np)⟩
def sp_p_same (C : Addr) : Sp := fun vs H Q _ => ∃ (x y : V) (s t : Trm), vs = [x, y] ∧ TmAt H s x ∧ TmAt H t y ∧ ∀ p H', Sm H H' → SayAt C H' p (Str.ofString "same") s t → Q (.ref p) H'
theorem use_same {C : Addr} {H : Hp} {Q : VK} {E : XK} {x y : V} {s t : Trm} (h : TmAt H s x) (g : TmAt H t y) (k : ∀ p H', Sm H H' → SayAt C H' p (Str.ofString "same") s t → Q (.ref p) H') : sp_p_same C [x, y] H Q E := ⟨x, y, s, t, rfl, h, g, k⟩
theorem ok_p_same (T : Txt K mg w base) : FnOk P w K mg base CX0 3 T.f_p_same T.d_p_same ["left", "right"] (sp_p_same T.C_Saying) := by
  refine T.F_p_same.ok sc_p_same (fun vs H Q E h => ?_) (fun cdv A outer s' H vs Q E hr h => ?_)
  · obtain ⟨x, y, s, t, rfl, _⟩ := h
    rfl
  · obtain ⟨x, y, s, t, rfl, hs, ht, k⟩ := h
    refine ⟨_, (pss_one (ps_ret (pe_make T.mk_Saying (ok_Saying_init T) (hr.mono (by decide)) (by rfl) T.g_Saying T.b_Saying_init .nil pass0 (pa_cons pe_str (pa_cons (pv 0) (pa_cons (pv 1) pa_nil)))))), ?_⟩
    tm_at "rv"
    intro p dxp np ndp _
    refine say_use np ndp (.inl rfl) hs ht fun H1 s1 hS => ?_
    tm_at "rv"
    exact k p _ s1 hS
/-- all of the word same -/
def sp_p_check_words (K : PySem.W.Frag) (C : Addr) : Sp := fun vs H Q _ => ∃ (a : Addr) (xs : List V) (ps : List (Trm × Trm)), vs = [.ref a] ∧ (SqL K H a xs ∨ SqT K H a xs) ∧ All2 (fun v p => ∃ q, v = .ref q ∧ SayAt C H q (Str.ofString "same") p.1 p.2) xs ps ∧ ∀ H', Sm H H' → Q .non H'
theorem use_check_words {C : Addr} {H : Hp} {Q : VK} {E : XK} {a : Addr} {xs : List V} {ps : List (Trm × Trm)} (h : SqL K H a xs ∨ SqT K H a xs) (g : All2 (fun v p => ∃ q, v = .ref q ∧ SayAt C H q (Str.ofString "same") p.1 p.2) xs ps) (k : ∀ H', Sm H H' → Q .non H') : sp_p_check_words K C [.ref a] H Q E := ⟨a, xs, ps, rfl, h, g, k⟩
theorem ok_p_check_words (T : Txt K mg w base) : FnOk P w K mg base CX0 1 T.f_p_check_words T.d_p_check_words ["sayings"] (sp_p_check_words K T.C_Saying) := by
  refine T.F_p_check_words.ok sc_p_check_words (fun vs H Q E h => ?_) (fun cdv A outer s' H vs Q E hr h => ?_)
  · obtain ⟨a, xs, ps, rfl, _⟩ := h
    rfl
  · obtain ⟨a, xs, ps, rfl, hS, hA, k⟩ := h
    refine ⟨_, (pss_one (ps_for PassesOwn.never rfl (enum_k (K := K) rfl (by rfl) T.z_enumerate (pa_cons (pv 0) pa_nil)) (pg_tup rfl (pgs_cons (pg_name (i := 1) sc_p_check_words.nd rfl (Or.inl rfl)) (pgs_cons (pg_name (i := 2) sc_p_check_words.nd rfl (Or.inl rfl)) pgs_nil)))
      (pss_one (ps_if (pt_cmpR (ne_k (K := K) rfl hr.units) (fld_k (K := K) rfl (pv 2) rfl) pe_str (nomark _))
      (pss_one ps_never) pss_nil)))), ?_⟩
    rcases hS with hS | hS
    · tm_at "rv"
      refine r_enumL ?_
      tm_at "rv"
      refine ⟨a, _, rfl, hS, ?_⟩
      refine for_it walk_enum (fun j σ H' => (∃ x1 x2, σ = [some (.ref a), x1, x2]) ∧ Sm H H') ⟨⟨_, _, rfl⟩, Sm.refl _⟩ (fun j σ H' _ h => h.2.seq hS) ?_ ?_
      · rintro j x σ H1 H2 hj ⟨⟨x1, x2, rfl⟩, s1⟩ ⟨tn, u, v, rfl, nt, rfl, hu, hv⟩
        have hv : xs[j]? = some v := hv
        obtain ⟨p, hp, q, rfl, hq⟩ := All2.get hA hv
        have st := sm_upd (o := .tup [u, V.ref q]) nt
        have et := upd_same (H := H1) (a := tn) (o := .tup [u, V.ref q])
        generalize upd H1 tn (.tup [u, V.ref q]) = H3 at st et ⊢
        obtain ⟨dx, y1, y2, e1, _⟩ := hq.sm (s1.trans st)
        tm_at "rv"
        refine r_fldO e1 T.cl_Saying T.n_Saying_word (get_word _ _ _) ?_
        tm_at "rv"
        exact ⟨⟨_, _, rfl⟩, s1.trans st⟩
      · rintro σ H1 ⟨⟨x1, x2, rfl⟩, s1⟩
        tm_at "rv"
        exact k _ s1
    · tm_at "rv"
      refine r_enumT ?_
      tm_at "rv"
      refine ⟨a, _, rfl, hS, ?_⟩
      refine for_it walk_enumT (fun j σ H' => (∃ x1 x2, σ = [some (.ref a), x1, x2]) ∧ Sm H H') ⟨⟨_, _, rfl⟩, Sm.refl _⟩ (fun j σ H' _ h => h.2.seqT hS) ?_ ?_
      · rintro j x σ H1 H2 hj ⟨⟨x1, x2, rfl⟩, s1⟩ ⟨tn, u, v, rfl, nt, rfl, hu, hv⟩
        have hv : xs[j]? = some v := hv
        obtain ⟨p, hp, q, rfl, hq⟩ := All2.get hA hv
        have st := sm_upd (o := .tup [u, V.ref q]) nt
        have et := upd_same (H := H1) (a := tn) (o := .tup [u, V.ref q])
        generalize upd H1 tn (.tup [u, V.ref q]) = H3 at st et ⊢
        obtain ⟨dx, y1, y2, e1, _⟩ := hq.sm (s1.trans st)
        tm_at "rv"
        refine r_fldO e1 T.cl_Saying T.n_Saying_word (get_word _ _ _) ?_
        tm_at "rv"
        exact ⟨⟨_, _, rfl⟩, s1.trans st⟩
      · rintro σ H1 ⟨⟨x1, x2, rfl⟩, s1⟩
        tm_at "rv"
        exact k _ s1

/-! many made one -/
abbrev sqT (p : Trm × Trm) : Trm := .op .plus (.op .times p.1 p.1) (.op .times p.2 p.2)
abbrev prT (p : Trm × Trm) : Trm := .op .times (.num 2) (.op .times p.1 p.2)
abbrev SaysAt (C : Addr) (H : Hp) : List V → List (Trm × Trm) → Prop := All2 fun v p => ∃ q, v = .ref q ∧ SayAt C H q (Str.ofString "same") p.1 p.2
theorem SaysAt.sm {C : Addr} {H H' : Hp} {xs : List V} {ps : List (Trm × Trm)} (e : Sm H H') (h : SaysAt C H xs ps) : SaysAt C H' xs ps := h.imp fun _ _ ⟨q, a, b⟩ => ⟨q, a, b.sm e⟩
def sp_p_num : Sp := fun vs H Q _ => ∃ i : Int, vs = [.int i] ∧ ∀ v H', Sm H H' → TmAt H' (.num i) v → Q v H'
theorem use_num {H : Hp} {Q : VK} {E : XK} {i : Int} (k : ∀ v H', Sm H H' → TmAt H' (.num i) v → Q v H') : sp_p_num [.int i] H Q E := ⟨i, rfl, k⟩
theorem ok_p_num (T : Txt K mg w base) : FnOk P w K mg base CX0 1 T.f_p_num T.d_p_num ["number"] sp_p_num := by
  refine T.F_p_num.ok sc_p_num (fun vs H Q E h => ?_) (fun cdv A outer s' H vs Q E hr h => ?_)
  · obtain ⟨i, rfl, _⟩ := h
    rfl
  · obtain ⟨i, rfl, k⟩ := h
    refine ⟨_, (pss_one (ps_ret (pe_tup (pa_cons pe_str (pa_cons (pv 0) pa_nil))))), ?_⟩
    tm_at "rv"
    rename_i p np
    exact k _ _ (sm_upd np) ⟨p, rfl, upd_same⟩
def sp_p_made_one (K : PySem.W.Frag) (C : Addr) : Sp := fun vs H Q _ => ∃ (a : Addr) (xs : List V) (ps : List (Trm × Trm)), vs = [.ref a] ∧ (SqL K H a xs ∨ SqT K H a xs) ∧ SaysAt C H xs ps ∧ ps.length ≤ 999 ∧ ∀ f H', Sm H H' → SayAt C H' f (Str.ofString "same") (sumT (ps.map sqT)) (sumT (ps.map prT)) → Q (.ref f) H'
theorem use_made_one {C : Addr} {H : Hp} {Q : VK} {E : XK} {a : Addr} {xs : List V} {ps : List (Trm × Trm)} (h : SqL K H a xs ∨ SqT K H a xs) (g : SaysAt C H xs ps) (l : ps.length ≤ 999) (k : ∀ f H', Sm H H' → SayAt C H' f (Str.ofString "same") (sumT (ps.map sqT)) (sumT (ps.map prT)) → Q (.ref f) H') : sp_p_made_one K C [.ref a] H Q E := ⟨a, xs, ps, rfl, h, g, l, k⟩
theorem ok_p_made_one (T : Txt K mg w base) : FnOk P w K mg base CX0 4 T.f_p_made_one T.d_p_made_one ["sayings"] (sp_p_made_one K T.C_Saying) := by
  refine T.F_p_made_one.ok sc_p_made_one (fun vs H Q E h => ?_) (fun cdv A outer s' H vs Q E hr h => ?_)
  · obtain ⟨a, xs, ps, rfl, _⟩ := h
    rfl
  · obtain ⟨a, xs, ps, rfl, hS, hA, hl, k⟩ := h
    refine ⟨_, (pss_cons (ps_expr (pe_call (ok_p_check_words T) (hr.mono (by decide)) (by rfl) T.g_p_check_words T.F_p_check_words.kp T.b_p_check_words .nil pass0 (pa_cons (pv 0) pa_nil)))
      (pss_cons (ps_setLc (i := 2) (own := [("saying", 1)]) rfl sc_p_made_one.nd rfl rfl (sw_true rfl rfl rfl (by decide +kernel)) (any_pi (K := K) rfl (pv 0)) (blkOk_by (N := ["sayings", "saying", "squares", "taken_off"]) (sc := defScope s_p_made_one) (own := [("saying", 1)]) (by decide +kernel)) (fun _ _ _ _ _ => (pg_name (i := 1) sc_p_made_one.nd rfl (Or.inl rfl))) (fun _ _ _ _ _ => pts_nil) (fun _ _ _ _ _ => (pe_call (ok_p_plus T) (hr.mono (by decide)) (by rfl) T.g_p_plus T.F_p_plus.kp T.b_p_plus .nil pass0 (pa_cons (pe_call (ok_p_times T) (hr.mono (by decide)) (by rfl) T.g_p_times T.F_p_times.kp T.b_p_times .nil pass0 (pa_cons (fld_k (K := K) rfl (pv 1) rfl) (pa_cons (fld_k (K := K) rfl (pv 1) rfl) pa_nil))) (pa_cons (pe_call (ok_p_times T) (hr.mono (by decide)) (by rfl) T.g_p_times T.F_p_times.kp T.b_p_times .nil pass0 (pa_cons (fld_k (K := K) rfl (pv 1) rfl) (pa_cons (fld_k (K := K) rfl (pv 1) rfl) pa_nil))) pa_nil)))))
      (pss_cons (ps_setLc (i := 3) (own := [("saying", 1)]) rfl sc_p_made_one.nd rfl rfl (sw_true rfl rfl rfl (by decide +kernel)) (any_pi (K := K) rfl (pv 0)) (blkOk_by (N := ["sayings", "saying", "squares", "taken_off"]) (sc := defScope s_p_made_one) (own := [("saying", 1)]) (by decide +kernel)) (fun _ _ _ _ _ => (pg_name (i := 1) sc_p_made_one.nd rfl (Or.inl rfl))) (fun _ _ _ _ _ => pts_nil) (fun _ _ _ _ _ => (pe_call (ok_p_times T) (hr.mono (by decide)) (by rfl) T.g_p_times T.F_p_times.kp T.b_p_times .nil pass0 (pa_cons (pe_call (ok_p_num T) (hr.mono (by decide)) (by rfl) T.g_p_num T.F_p_num.kp T.b_p_num .nil pass0 (pa_cons pe_int pa_nil)) (pa_cons (pe_call (ok_p_times T) (hr.mono (by decide)) (by rfl) T.g_p_times T.F_p_times.kp T.b_p_times .nil pass0 (pa_cons (fld_k (K := K) rfl (pv 1) rfl) (pa_cons (fld_k (K := K) rfl (pv 1) rfl) pa_nil))) pa_nil)))))
      (pss_one (ps_ret (pe_call (ok_p_same T) hr (by rfl) T.g_p_same T.F_p_same.kp T.b_p_same .nil pass0 (pa_cons (pe_call (ok_p_sum_of T) (hr.mono (by decide)) (by rfl) T.g_p_sum_of T.F_p_sum_of.kp T.b_p_sum_of .nil pass0 (pa_cons (pv 2) pa_nil)) (pa_cons (pe_call (ok_p_sum_of T) (hr.mono (by decide)) (by rfl) T.g_p_sum_of T.F_p_sum_of.kp T.b_p_sum_of .nil pass0 (pa_cons (pv 3) pa_nil)) pa_nil)))))))), ?_⟩
    have hlen := hA.len
    have hl : ps.length ≤ 1000 := by omega
    rcases hS with hS | hS
    · tm_at "rv"
      refine use_check_words (.inl hS) hA fun H1 s1 => ?_
      have hS1 := s1.seq hS
      have hA1 := SaysAt.sm s1 hA
      tm_at "rv"
      refine r_iL ?_
      tm_at "rv"
      refine r_aL hS1 ?_
      intro D nD
      refine lc_list (K := K) (a := a) (xs := xs) (fun i H' => ∃ ws, H' D = some (.lst ws) ∧ TmsAt H' ws ((ps.take i).map sqT) ∧ Sm H1 H') ⟨[], upd_same, by simp [All2], sm_upd nD⟩ (fun i H' _ h => by
        obtain ⟨_, _, _, s⟩ := h
        exact s.seq hS1) ?_ ?_
      · rintro i x H2 hx ⟨ws, hD, hW, s2⟩
        obtain ⟨p, hp, q, rfl, hq⟩ := All2.get hA1 hx
        have hi := (List.getElem?_eq_some_iff.mp hx).1
        have hwl := hW.len
        rw [List.length_map, List.length_take] at hwl
        obtain ⟨dx, x1, y1, e1, hx1, hy1⟩ := hq.sm s2
        tm_at "rv"
        refine r_fldO e1 T.cl_Saying T.n_Saying_left (get_left _ _ _) ?_
        tm_at "rv"
        refine r_fldO e1 T.cl_Saying T.n_Saying_left (get_left _ _ _) ?_
        tm_at "rv"
        refine use_times hx1 hx1 fun v3 H3 s3 h3 => ?_
        have e1 := s3.to _ _ e1
        tm_at "rv"
        refine r_fldO e1 T.cl_Saying T.n_Saying_right (get_right _ _ _) ?_
        tm_at "rv"
        refine r_fldO e1 T.cl_Saying T.n_Saying_right (get_right _ _ _) ?_
        tm_at "rv"
        refine use_times (hy1.sm s3) (hy1.sm s3) fun v4 H4 s4 h4 => ?_
        tm_at "rv"
        refine use_plus (h3.sm s4) h4 fun v5 H5 s5 h5 => ?_
        tm_at "rv"
        have s35 := (s3.trans s4).trans s5
        have hD5 := s35.to _ _ hD
        have tD := lst_tk (ys := ws ++ [v5]) hD5
        refine r_acc hD5 (small1000 (by omega)) ⟨ws ++ [v5], upd_same, ?_, sm_acc (s2.trans s35) nD⟩
        rw [List.take_add_one, hp, List.map_append]
        exact TmsAt.tk tD ((TmsAt.sm s35 hW).snoc h5)
      rintro H2 ⟨ws, hD, hW, s2⟩
      rw [hlen, List.take_length] at hW
      have hS2 := s2.seq hS1
      have hA2 := SaysAt.sm s2 hA1
      tm_at "rv"
      refine r_iL ?_
      tm_at "rv"
      refine r_aL hS2 ?_
      intro R nR
      refine lc_list (K := K) (a := a) (xs := xs) (fun i H' => ∃ vs, H' R = some (.lst vs) ∧ TmsAt H' vs ((ps.take i).map prT) ∧ Sm H2 H') ⟨[], upd_same, by simp [All2], sm_upd nR⟩ (fun i H' _ h => by
        obtain ⟨_, _, _, s⟩ := h
        exact s.seq hS2) ?_ ?_
      · rintro i x H3 hx ⟨vs, hR, hV, s3⟩
        obtain ⟨p, hp, q, rfl, hq⟩ := All2.get hA2 hx
        have hi := (List.getElem?_eq_some_iff.mp hx).1
        have hvl := hV.len
        rw [List.length_map, List.length_take] at hvl
        tm_at "rv"
        refine use_num fun v4 H4 s4 h4 => ?_
        obtain ⟨dx, x1, y1, e1, hx1, hy1⟩ := hq.sm (s3.trans s4)
        tm_at "rv"
        refine r_fldO e1 T.cl_Saying T.n_Saying_left (get_left _ _ _) ?_
        tm_at "rv"
        refine r_fldO e1 T.cl_Saying T.n_Saying_right (get_right _ _ _) ?_
        tm_at "rv"
        refine use_times hx1 hy1 fun v5 H5 s5 h5 => ?_
        tm_at "rv"
        refine use_times (h4.sm s5) h5 fun v6 H6 s6 h6 => ?_
        tm_at "rv"
        have s46 := (s4.trans s5).trans s6
        have hR6 := s46.to _ _ hR
        have tR := lst_tk (ys := vs ++ [v6]) hR6
        refine r_acc hR6 (small1000 (by omega)) ⟨vs ++ [v6], upd_same, ?_, sm_acc (s3.trans s46) nR⟩
        rw [List.take_add_one, hp, List.map_append]
        exact TmsAt.tk tR ((TmsAt.sm s46 hV).snoc h6)
      rintro H3 ⟨vs, hR, hV, s3⟩
      rw [hlen, List.take_length] at hV
      have hW3 := TmsAt.sm s3 hW
      have hD3 := s3.to _ _ hD
      tm_at "rv"
      refine use_sum_of (.inl (SqL.of hD3)) hW3 (by rw [List.length_map]; exact hl) fun v4 H4 s4 h4 => ?_
      tm_at "rv"
      refine use_sum_of (.inl (SqL.of (s4.to _ _ hR))) (TmsAt.sm s4 hV) (by rw [List.length_map]; exact hl) fun v5 H5 s5 h5 => ?_
      tm_at "rv"
      refine use_same (h4.sm s5) h5 fun f H6 s6 h6 => ?_
      tm_at "rv"
      exact k f _ (((s1.trans s2).trans s3).trans ((s4.trans s5).trans s6)) h6
    · tm_at "rv"
      refine use_check_words (.inr hS) hA fun H1 s1 => ?_
      have hS1 := s1.seqT hS
      have hA1 := SaysAt.sm s1 hA
      tm_at "rv"
      refine r_iT ?_
      tm_at "rv"
      refine r_aT hS1 ?_
      intro D nD
      refine lc_tup (K := K) (a := a) (xs := xs) (fun i H' => ∃ ws, H' D = some (.lst ws) ∧ TmsAt H' ws ((ps.take i).map sqT) ∧ Sm H1 H') ⟨[], upd_same, by simp [All2], sm_upd nD⟩ (fun i H' _ h => by
        obtain ⟨_, _, _, s⟩ := h
        exact s.seqT hS1) ?_ ?_
      · rintro i x H2 hx ⟨ws, hD, hW, s2⟩
        obtain ⟨p, hp, q, rfl, hq⟩ := All2.get hA1 hx
        have hi := (List.getElem?_eq_some_iff.mp hx).1
        have hwl := hW.len
        rw [List.length_map, List.length_take] at hwl
        obtain ⟨dx, x1, y1, e1, hx1, hy1⟩ := hq.sm s2
        tm_at "rv"
        refine r_fldO e1 T.cl_Saying T.n_Saying_left (get_left _ _ _) ?_
        tm_at "rv"
        refine r_fldO e1 T.cl_Saying T.n_Saying_left (get_left _ _ _) ?_
        tm_at "rv"
        refine use_times hx1 hx1 fun v3 H3 s3 h3 => ?_
        have e1 := s3.to _ _ e1
        tm_at "rv"
        refine r_fldO e1 T.cl_Saying T.n_Saying_right (get_right _ _ _) ?_
        tm_at "rv"
        refine r_fldO e1 T.cl_Saying T.n_Saying_right (get_right _ _ _) ?_
        tm_at "rv"
        refine use_times (hy1.sm s3) (hy1.sm s3) fun v4 H4 s4 h4 => ?_
        tm_at "rv"
        refine use_plus (h3.sm s4) h4 fun v5 H5 s5 h5 => ?_
        tm_at "rv"
        have s35 := (s3.trans s4).trans s5
        have hD5 := s35.to _ _ hD
        have tD := lst_tk (ys := ws ++ [v5]) hD5
        refine r_acc hD5 (small1000 (by omega)) ⟨ws ++ [v5], upd_same, ?_, sm_acc (s2.trans s35) nD⟩
        rw [List.take_add_one, hp, List.map_append]
        exact TmsAt.tk tD ((TmsAt.sm s35 hW).snoc h5)
      rintro H2 ⟨ws, hD, hW, s2⟩
      rw [hlen, List.take_length] at hW
      have hS2 := s2.seqT hS1
      have hA2 := SaysAt.sm s2 hA1
      tm_at "rv"
      refine r_iT ?_
      tm_at "rv"
      refine r_aT hS2 ?_
      intro R nR
      refine lc_tup (K := K) (a := a) (xs := xs) (fun i H' => ∃ vs, H' R = some (.lst vs) ∧ TmsAt H' vs ((ps.take i).map prT) ∧ Sm H2 H') ⟨[], upd_same, by simp [All2], sm_upd nR⟩ (fun i H' _ h => by
        obtain ⟨_, _, _, s⟩ := h
        exact s.seqT hS2) ?_ ?_
      · rintro i x H3 hx ⟨vs, hR, hV, s3⟩
        obtain ⟨p, hp, q, rfl, hq⟩ := All2.get hA2 hx
        have hi := (List.getElem?_eq_some_iff.mp hx).1
        have hvl := hV.len
        rw [List.length_map, List.length_take] at hvl
        tm_at "rv"
        refine use_num fun v4 H4 s4 h4 => ?_
        obtain ⟨dx, x1, y1, e1, hx1, hy1⟩ := hq.sm (s3.trans s4)
        tm_at "rv"
        refine r_fldO e1 T.cl_Saying T.n_Saying_left (get_left _ _ _) ?_
        tm_at "rv"
        refine r_fldO e1 T.cl_Saying T.n_Saying_right (get_right _ _ _) ?_
        tm_at "rv"
        refine use_times hx1 hy1 fun v5 H5 s5 h5 => ?_
        tm_at "rv"
        refine use_times (h4.sm s5) h5 fun v6 H6 s6 h6 => ?_
        tm_at "rv"
        have s46 := (s4.trans s5).trans s6
        have hR6 := s46.to _ _ hR
        have tR := lst_tk (ys := vs ++ [v6]) hR6
        refine r_acc hR6 (small1000 (by omega)) ⟨vs ++ [v6], upd_same, ?_, sm_acc (s3.trans s46) nR⟩
        rw [List.take_add_one, hp, List.map_append]
        exact TmsAt.tk tR ((TmsAt.sm s46 hV).snoc h6)
      rintro H3 ⟨vs, hR, hV, s3⟩
      rw [hlen, List.take_length] at hV
      have hW3 := TmsAt.sm s3 hW
      have hD3 := s3.to _ _ hD
      tm_at "rv"
      refine use_sum_of (.inl (SqL.of hD3)) hW3 (by rw [List.length_map]; exact hl) fun v4 H4 s4 h4 => ?_
      tm_at "rv"
      refine use_sum_of (.inl (SqL.of (s4.to _ _ hR))) (TmsAt.sm s4 hV) (by rw [List.length_map]; exact hl) fun v5 H5 s5 h5 => ?_
      tm_at "rv"
      refine use_same (h4.sm s5) h5 fun f H6 s6 h6 => ?_
      tm_at "rv"
      exact k f _ (((s1.trans s2).trans s3).trans ((s4.trans s5).trans s6)) h6

/-! one or the other -/
abbrev eitherL (p q : Trm × Trm) : Trm := .op .plus (.op .times p.1 q.1) (.op .times p.2 q.2)
abbrev eitherR (p q : Trm × Trm) : Trm := .op .plus (.op .times p.1 q.2) (.op .times p.2 q.1)
def sp_p_either (C : Addr) : Sp := fun vs H Q _ => ∃ (a b : Addr) (p q : Trm × Trm), vs = [.ref a, .ref b] ∧ SayAt C H a (Str.ofString "same") p.1 p.2 ∧ SayAt C H b (Str.ofString "same") q.1 q.2 ∧ ∀ f H', Sm H H' → SayAt C H' f (Str.ofString "same") (eitherL p q) (eitherR p q) → Q (.ref f) H'
theorem use_either {C : Addr} {H : Hp} {Q : VK} {E : XK} {a b : Addr} {p q : Trm × Trm} (h : SayAt C H a (Str.ofString "same") p.1 p.2) (g : SayAt C H b (Str.ofString "same") q.1 q.2) (k : ∀ f H', Sm H H' → SayAt C H' f (Str.ofString "same") (eitherL p q) (eitherR p q) → Q (.ref f) H') : sp_p_either C [.ref a, .ref b] H Q E := ⟨a, b, p, q, rfl, h, g, k⟩
theorem ok_p_either (T : Txt K mg w base) : FnOk P w K mg base CX0 4 T.f_p_either T.d_p_either ["one", "other"] (sp_p_either T.C_Saying) := by
  refine T.F_p_either.ok sc_p_either (fun vs H Q E h => ?_) (fun cdv A outer s' H vs Q E hr h => ?_)
  · obtain ⟨a, b, p, q, rfl, _⟩ := h
    rfl
  · obtain ⟨a, b, p, q, rfl, ha, hb, k⟩ := h
    refine ⟨_, (pss_cons (ps_expr (pe_call (ok_p_check_words T) (hr.mono (by decide)) (by rfl) T.g_p_check_words T.F_p_check_words.kp T.b_p_check_words .nil pass0 (pa_cons (pe_lst (pa_cons (pv 0) (pa_cons (pv 1) pa_nil))) pa_nil)))
      (pss_one (ps_ret (pe_call (ok_p_same T) hr (by rfl) T.g_p_same T.F_p_same.kp T.b_p_same .nil pass0 (pa_cons (pe_call (ok_p_plus T) (hr.mono (by decide)) (by rfl) T.g_p_plus T.F_p_plus.kp T.b_p_plus .nil pass0 (pa_cons (pe_call (ok_p_times T) (hr.mono (by decide)) (by rfl) T.g_p_times T.F_p_times.kp T.b_p_times .nil pass0 (pa_cons (fld_k (K := K) rfl (pv 0) rfl) (pa_cons (fld_k (K := K) rfl (pv 1) rfl) pa_nil))) (pa_cons (pe_call (ok_p_times T) (hr.mono (by decide)) (by rfl) T.g_p_times T.F_p_times.kp T.b_p_times .nil pass0 (pa_cons (fld_k (K := K) rfl (pv 0) rfl) (pa_cons (fld_k (K := K) rfl (pv 1) rfl) pa_nil))) pa_nil))) (pa_cons (pe_call (ok_p_plus T) (hr.mono (by decide)) (by rfl) T.g_p_plus T.F_p_plus.kp T.b_p_plus .nil pass0 (pa_cons (pe_call (ok_p_times T) (hr.mono (by decide)) (by rfl) T.g_p_times T.F_p_times.kp T.b_p_times .nil pass0 (pa_cons (fld_k (K := K) rfl (pv 0) rfl) (pa_cons (fld_k (K := K) rfl (pv 1) rfl) pa_nil))) (pa_cons (pe_call (ok_p_times T) (hr.mono (by decide)) (by rfl) T.g_p_times T.F_p_times.kp T.b_p_times .nil pass0 (pa_cons (fld_k (K := K) rfl (pv 0) rfl) (pa_cons (fld_k (K := K) rfl (pv 1) rfl) pa_nil))) pa_nil))) pa_nil)))))), ?_⟩
    tm_at "rv"
    rename_i d nd
    have s1 := sm_upd (o := .lst [V.ref a, V.ref b]) nd
    have e1 := upd_same (H := H) (a := d) (o := .lst [V.ref a, V.ref b])
    generalize upd H d (.lst [V.ref a, V.ref b]) = H1 at s1 e1 ⊢
    refine use_check_words (ps := [p, q]) (.inl (SqL.of e1)) ⟨⟨a, rfl, ha.sm s1⟩, ⟨b, rfl, hb.sm s1⟩, trivial⟩ fun H2 s2 => ?_
    have s12 := s1.trans s2
    obtain ⟨dx, x1, y1, f1, hx1, hy1⟩ := ha.sm s12
    obtain ⟨dy, x2, y2, f2, hx2, hy2⟩ := hb.sm s12
    tm_at "rv"
    refine r_fldO f1 T.cl_Saying T.n_Saying_left (get_left _ _ _) ?_
    tm_at "rv"
    refine r_fldO f2 T.cl_Saying T.n_Saying_left (get_left _ _ _) ?_
    tm_at "rv"
    refine use_times hx1 hx2 fun v3 H3 s3 h3 => ?_
    have f1 := s3.to _ _ f1
    have f2 := s3.to _ _ f2
    tm_at "rv"
    refine r_fldO f1 T.cl_Saying T.n_Saying_right (get_right _ _ _) ?_
    tm_at "rv"
    refine r_fldO f2 T.cl_Saying T.n_Saying_right (get_right _ _ _) ?_
    tm_at "rv"
    refine use_times (hy1.sm s3) (hy2.sm s3) fun v4 H4 s4 h4 => ?_
    have f1 := s4.to _ _ f1
    have f2 := s4.to _ _ f2
    tm_at "rv"
    refine use_plus (h3.sm s4) h4 fun v5 H5 s5 h5 => ?_
    have f1 := s5.to _ _ f1
    have f2 := s5.to _ _ f2
    have s345 := (s3.trans s4).trans s5
    tm_at "rv"
    refine r_fldO f1 T.cl_Saying T.n_Saying_left (get_left _ _ _) ?_
    tm_at "rv"
    refine r_fldO f2 T.cl_Saying T.n_Saying_right (get_right _ _ _) ?_
    tm_at "rv"
    refine use_times (hx1.sm s345) (hy2.sm s345) fun v6 H6 s6 h6 => ?_
    have f1 := s6.to _ _ f1
    have f2 := s6.to _ _ f2
    tm_at "rv"
    refine r_fldO f1 T.cl_Saying T.n_Saying_right (get_right _ _ _) ?_
    tm_at "rv"
    refine r_fldO f2 T.cl_Saying T.n_Saying_left (get_left _ _ _) ?_
    tm_at "rv"
    refine use_times (hy1.sm (s345.trans s6)) (hx2.sm (s345.trans s6)) fun v7 H7 s7 h7 => ?_
    tm_at "rv"
    refine use_plus (h6.sm s7) h7 fun v8 H8 s8 h8 => ?_
    tm_at "rv"
    refine use_same (h5.sm ((s6.trans s7).trans s8)) h8 fun f H9 s9 h9 => ?_
    tm_at "rv"
    exact k f _ ((s12.trans s345).trans (((s6.trans s7).trans s8).trans s9)) h9

def sp_choose : Sp := fun vs H Q _ => ∃ (n k : Int), vs = [.int n, .int k] ∧ 0 ≤ n ∧ n ≤ 1000 ∧ 0 ≤ k ∧ k ≤ 1000 ∧ Q (.int ((ch n.toNat k.toNat : Nat) : Int)) H
theorem use_choose {H : Hp} {Q : VK} {E : XK} {n i : Int} (h0 : 0 ≤ n) (h1 : n ≤ 1000) (h2 : 0 ≤ i) (h3 : i ≤ 1000) (k : Q (.int ((ch n.toNat i.toNat : Nat) : Int)) H) : sp_choose [.int n, .int i] H Q E := ⟨n, i, rfl, h0, h1, h2, h3, k⟩
theorem ok_p_choose (T : Txt K mg w base) : FnOk P w K mg base CX0 1 T.f_p_choose T.d_p_choose ["n", "k"] sp_choose := by
  refine T.F_p_choose.ok sc_p_choose (fun vs H Q E h => ?_) (fun cdv A outer s H vs Q E hr h => ?_)
  · obtain ⟨n, k, rfl, _⟩ := h
    rfl
  · obtain ⟨n, i, rfl, h0, h1, h2, h3, k⟩ := h
    refine ⟨_, (pss_one (ps_ret (pe_callBfun cr_comb (by rfl) T.g_comb (pa_cons (pv 0) (pa_cons (pv 1) pa_nil))))), ?_⟩
    tm_at "rv"
    refine r_comb h0 (by omega) h2 ?_
    exact k

def sp_p_fig : Sp := fun vs H Q _ => ∃ (n k : Int), vs = [.int n, .int k] ∧ 0 ≤ n ∧ n ≤ 1000 ∧ 0 ≤ k ∧ k ≤ 1000 ∧ Q (.int ((ch n.toNat k.toNat : Nat) : Int)) H
theorem use_figp {H : Hp} {Q : VK} {E : XK} {n i : Int} (h0 : 0 ≤ n) (h1 : n ≤ 1000) (h2 : 0 ≤ i) (h3 : i ≤ 1000) (k : Q (.int ((ch n.toNat i.toNat : Nat) : Int)) H) : sp_p_fig [.int n, .int i] H Q E := ⟨n, i, rfl, h0, h1, h2, h3, k⟩
theorem ok_p_figure_of_power (T : Txt K mg w base) : FnOk P w K mg base CX0 2 T.f_p_figure_of_power T.d_p_figure_of_power ["n", "k"] sp_p_fig := by
  refine T.F_p_figure_of_power.ok sc_p_figure_of_power (fun vs H Q E h => ?_) (fun cdv A outer s H vs Q E hr h => ?_)
  · obtain ⟨n, k, rfl, _⟩ := h
    rfl
  · obtain ⟨n, i, rfl, h0, h1, h2, h3, k⟩ := h
    refine ⟨_, (pss_one (ps_ret (pe_call (ok_p_choose T) hr (by rfl) T.g_p_choose T.F_p_choose.kp T.b_p_choose .nil pass0 (pa_cons (pv 0) (pa_cons (pv 1) pa_nil))))), ?_⟩
    tm_at "rv"
    refine use_choose h0 h1 h2 h3 ?_
    tm_at "rv"
    exact k

/-! the drawer -/
def sp_take : Sp := fun vs H Q _ => ∃ (b : Addr) (wide : Int), vs = [.ref b, .int wide] ∧ BoxAt H b ∧ 0 < wide ∧ CDivW 0 wide ∧ ∀ d H', Chg b H H' → BoxAt H' b → 0 ≤ d → d < wide → Q (.int d) H'
theorem use_take {H : Hp} {Q : VK} {E : XK} {b : Addr} {wide : Int} (h : BoxAt H b) (h0 : 0 < wide) (h1 : CDivW 0 wide) (k : ∀ d H', Chg b H H' → BoxAt H' b → 0 ≤ d → d < wide → Q (.int d) H') : sp_take [.ref b, .int wide] H Q E := ⟨b, wide, rfl, h, h0, h1, k⟩
theorem ok_take (T : Txt K mg w base) : FnOk P w K mg base CX0 1 T.f_take T.d_take ["box", "wide"] sp_take := by
  refine T.F_take.ok sc_take (fun vs H Q E h => ?_) (fun cdv A outer s H vs Q E hr h => ?_)
  · obtain ⟨b, wide, rfl, _⟩ := h
    rfl
  · obtain ⟨b, wide, rfl, ⟨c, z, hb⟩, hw, hd, k⟩ := h
    refine ⟨_, (pss_cons (ps_if (pt_cmpR op_gt (pe_ix (ix_k (K := K) rfl) (pv 0) pe_int (fun _ _ => rfl)) pe_int (nomark _))
      (pss_cons (ps_set (i := 2) sc_take.nd rfl (Or.inl rfl) (pe_op op_mod (pe_ix (ix_k (K := K) rfl) (pv 0) pe_int (fun _ _ => rfl)) (pv 1)))
      (pss_cons (ps_asg (pe_op op_fdivW (pe_ix (ix_k (K := K) rfl) (pv 0) pe_int (fun _ _ => rfl)) (pv 1)) (pg_sub (pv 0) pe_int set_list))
      (pss_one (ps_ret (pv 2))))) pss_nil)
      (pss_cons (ps_set (i := 3) sc_take.nd rfl (Or.inl rfl) (pe_op op_mod (pe_op (mul_k (K := K) rfl) (pe_ix (ix_k (K := K) rfl) (pv 0) pe_int (fun _ _ => rfl)) pe_int) pe_int))
      (pss_cons (ps_asg (pe_op (add_k (K := K) rfl) (pe_op op_mod (pe_op (add_k (K := K) rfl) (pe_op (mul_k (K := K) rfl) (pv 3) pe_int) pe_int) pe_int) pe_int) (pg_sub (pv 0) pe_int set_list))
      (pss_one (ps_ret (pe_op op_mod (pe_op op_fdivW (pe_op (add_k (K := K) rfl) (pe_op (mul_k (K := K) rfl) (pv 3) pe_int) (pe_ix (ix_k (K := K) rfl) (pv 0) pe_int (fun _ _ => rfl))) pe_int) (pv 1))))))), ?_⟩
    tm_at "rv"
    refine ite_d (fun e => ?_) (fun e => ?_)
    · tm_at "rv"
      exact k _ _ chg_upd ⟨_, _, upd_same⟩ (Int.emod_nonneg _ (by omega)) (Int.emod_lt_of_pos _ hw)
    · tm_at "rv"
      exact k _ _ chg_upd ⟨_, _, upd_same⟩ (Int.emod_nonneg _ (by omega)) (Int.emod_lt_of_pos _ hw)

/-! the drawer made -/
def sp_box (K : PySem.W.Frag) : Sp := fun vs H Q _ => ∃ (a : Addr) (k : Int) (ns : List Int), vs = [.ref a, .int k] ∧ SqL K H a (ns.map V.int) ∧ 0 ≤ k ∧ ∀ b H', Sm H H' → H b = none → BoxAt H' b → Q (.ref b) H'
theorem use_box {H : Hp} {Q : VK} {E : XK} {a : Addr} {i : Int} {ns : List Int} (h : SqL K H a (ns.map V.int)) (h0 : 0 ≤ i) (k : ∀ b H', Sm H H' → H b = none → BoxAt H' b → Q (.ref b) H') : sp_box K [.ref a, .int i] H Q E := ⟨a, i, ns, rfl, h, h0, k⟩
theorem ok_box (T : Txt K mg w base) : FnOk P w K mg base CX0 1 T.f_box T.d_box ["script", "at"] (sp_box K) := by
  refine T.F_box.ok sc_box (fun vs H Q E h => ?_) (fun cdv A outer s H vs Q E hr h => ?_)
  · obtain ⟨a, k, ns, rfl, _⟩ := h
    rfl
  · obtain ⟨a, k, ns, rfl, hS, h0, q⟩ := h
    have item : ∀ i : Int, 0 ≤ i → i < ((ns.map V.int).length : Int) → ∃ n, atI (ns.map V.int) i = some (V.int n) := fun i a b => by
      obtain ⟨v, e, m⟩ := atI_mem a b
      obtain ⟨n, _, rfl⟩ := List.mem_map.mp m
      exact ⟨n, e⟩
    refine ⟨_, (pss_cons (ps_set (i := 2) sc_box.nd rfl (Or.inl rfl) (pe_op (add_k (K := K) rfl) (pe_op (mul_k (K := K) rfl) pe_int (pv 1)) pe_int))
      (pss_cons (ps_if (pt_cmpR op_lt (pv 1) (pe_callB (len_k (K := K) rfl) (by rfl) T.z_len (by decide +kernel) (pa_cons (pv 0) pa_nil)) (nomark _))
      (pss_one (ps_set (i := 2) sc_box.nd rfl (Or.inl rfl) (pe_ix (ix_k (K := K) rfl) (pv 0) (pv 1) (fun _ _ => rfl)))) (pss_one (ps_if (pt_cmpR op_gt (pe_callB (len_k (K := K) rfl) (by rfl) T.z_len (by decide +kernel) (pa_cons (pv 0) pa_nil)) pe_int (nomark _))
      (pss_one (ps_set (i := 2) sc_box.nd rfl (Or.inl rfl) (pe_op (add_k (K := K) rfl) (pv 2) (pe_op (mul_k (K := K) rfl) (pe_op op_mod (pe_ix (ix_k (K := K) rfl) (pv 0) (pe_op op_mod (pv 1) (pe_callB (len_k (K := K) rfl) (by rfl) T.z_len (by decide +kernel) (pa_cons (pv 0) pa_nil))) (fun _ _ => rfl)) pe_int) pe_int)))) pss_nil)))
      (pss_cons (ps_set (i := 3) sc_box.nd rfl (Or.inl rfl) (pe_op (add_k (K := K) rfl) (pe_op op_mod (pe_op (add_k (K := K) rfl) (pe_op (mul_k (K := K) rfl) (pe_op op_mod (pv 2) pe_int) pe_int) (pe_op (mul_k (K := K) rfl) pe_int (pv 1))) pe_int) pe_int))
      (pss_one (ps_ret (pe_lst (pa_cons (pe_ix (ix_k (K := K) rfl) (pe_lst (pa_cons pe_int (pa_cons (pv 2) pa_nil))) (pe_callTy (int_x (K := K) rfl T.s_msd) (by rfl) T.z_int (by decide +kernel) (pa_cons (pe_cmpR op_ge (pv 2) (pe_op op_pow pe_int pe_int) (nomark _)) pa_nil)) (fun _ _ => rfl)) (pa_cons (pv 3) pa_nil)))))))), ?_⟩
    tm_at "rv"
    have hlen : ((ns.map V.int).length : Int) = (ns.length : Int) := by rw [List.length_map]
    refine ite_d (fun e1 => ?_) (fun e1 => ?_)
    · tm_at "rv"
      obtain ⟨n, en⟩ := item k h0 e1
      refine r_ixL (by tm_at "mv") en ?_
      tm_at "rv"
      refine r_ixL (by tm_at "mv") ix2 ?_
      tm_at "rv"
      exact q _ _ (by tm_at "sm") (by tm_at "fr") ⟨_, _, upd_same⟩
    · tm_at "rv"
      refine ite_d (fun e2 => ?_) (fun e2 => ?_)
      · tm_at "rv"
        obtain ⟨n, en⟩ := item (k % ((ns.map V.int).length : Int)) (Int.emod_nonneg _ (by omega)) (Int.emod_lt_of_pos _ e2)
        refine r_ixL (by tm_at "mv") en ?_
        tm_at "rv"
        refine r_ixL (by tm_at "mv") ix2 ?_
        tm_at "rv"
        exact q _ _ (by tm_at "sm") (by tm_at "fr") ⟨_, _, upd_same⟩
      · tm_at "rv"
        refine r_ixL (by tm_at "mv") ix2 ?_
        tm_at "rv"
        exact q _ _ (by tm_at "sm") (by tm_at "fr") ⟨_, _, upd_same⟩

/-- the number that figures come to -/
def val (b : Int) : List Int → Int
  | [] => 0
  | x :: r => x + b * val b r
theorem val_snoc (b x : Int) : ∀ l : List Int, val b (l ++ [x]) = val b l + x * b ^ l.length
  | [] => by
    show x + b * 0 = 0 + x * b ^ 0
    rw [Int.pow_zero]
    omega
  | y :: r => by
    show y + b * val b (r ++ [x]) = y + b * val b r + x * (b ^ (r.length + 1))
    rw [val_snoc b x r, Int.mul_add, Int.pow_succ, Int.add_assoc, ← Int.mul_assoc, Int.mul_comm b x, Int.mul_assoc, Int.mul_comm b (b ^ r.length)]
def sp_p_of_figures (K : PySem.W.Frag) : Sp := fun vs H Q _ => ∃ (a : Addr) (ns : List Int) (b : Int), vs = [.ref a, .int b] ∧ (SqL K H a (ns.map V.int) ∨ SqT K H a (ns.map V.int)) ∧ 2 ≤ b ∧ b ≤ 1099511627776 ∧ Q (.int (val b ns)) H
theorem use_ofF {H : Hp} {Q : VK} {E : XK} {a : Addr} {ns : List Int} {b : Int} (h : SqL K H a (ns.map V.int) ∨ SqT K H a (ns.map V.int)) (h1 : 2 ≤ b) (h2 : b ≤ 1099511627776) (k : Q (.int (val b ns)) H) : sp_p_of_figures K [.ref a, .int b] H Q E := ⟨a, ns, b, rfl, h, h1, h2, k⟩
theorem ok_p_of_figures (T : Txt K mg w base) : FnOk P w K mg base CX0 1 T.f_p_of_figures T.d_p_of_figures ["some", "base"] (sp_p_of_figures K) := by
  refine T.F_p_of_figures.ok sc_p_of_figures (fun vs H Q E h => ?_) (fun cdv A outer s H vs Q E hr h => ?_)
  · obtain ⟨a, ns, b, rfl, _⟩ := h
    rfl
  · obtain ⟨a, ns, b, rfl, hS, h1, h2, k⟩ := h
    refine ⟨_, (pss_cons (ps_set (i := 2) sc_p_of_figures.nd rfl (Or.inl rfl) pe_int)
      (pss_cons (ps_for PassesOwn.never rfl (rev_pi (K := K) rfl (by rfl) T.z_reversed (pv 0)) (pg_name (i := 3) sc_p_of_figures.nd rfl (Or.inl rfl))
      (pss_one (ps_set (i := 2) sc_p_of_figures.nd rfl (Or.inl rfl) (pe_op (add_k (K := K) rfl) (pe_op (mul_k (K := K) rfl) (pv 2) (pv 1)) (pv 3)))))
      (pss_one (ps_ret (pv 2))))), ?_⟩
    have hl : (ns.map V.int).length = ns.length := List.length_map _
    have step : ∀ (i : Nat) (x : V), i < (ns.map V.int).length → (ns.map V.int)[(ns.map V.int).length - 1 - i]? = some x → ∃ n, x = .int n ∧ val b (ns.drop (ns.length - (i + 1))) = n + b * val b (ns.drop (ns.length - i)) := by
      intro i x hi hx
      rw [hl] at hi hx
      rw [List.getElem?_map] at hx
      have hj : ns.length - 1 - i < ns.length := by omega
      rw [List.getElem?_eq_getElem hj] at hx
      refine ⟨ns[ns.length - 1 - i], (Option.some.inj hx).symm, ?_⟩
      have e1 : ns.length - (i + 1) = ns.length - 1 - i := by omega
      have e2 : ns.length - i = ns.length - 1 - i + 1 := by omega
      rw [e1, e2, List.drop_eq_getElem_cons hj]
      rfl
    have fin : val b (ns.drop (ns.length - (ns.map V.int).length)) = val b ns := by
      rw [hl, Nat.sub_self, List.drop_zero]
    have beg : val b (ns.drop (ns.length - 0)) = 0 := by
      rw [Nat.sub_zero, List.drop_length]
      rfl
    tm_at "rv"
    refine r_rev ?_
    tm_at "rv"
    rcases hS with hS | hS
    · refine r_revL hS ?_
      refine RT.for_Itv (K := K) (a := a) (xs := ns.map V.int) (fun i σ H' => (∃ x3, σ = [some (.ref a), some (.int b), some (.int (val b (ns.drop (ns.length - i)))), x3]) ∧ H' = H) ⟨⟨_, by rw [beg]; rfl⟩, rfl⟩ (fun i σ H' h => h.2 ▸ hS) ?_ ?_
      · rintro i x σ Hj hi hx ⟨⟨x3, rfl⟩, rfl⟩
        obtain ⟨n, rfl, e⟩ := step i x hi hx
        tm_at "rv"
        refine ⟨⟨some (.int n), ?_⟩, rfl⟩
        rw [e, Int.add_comm n, Int.mul_comm b]
        rfl
      · rintro σ Hj ⟨⟨x3, rfl⟩, rfl⟩
        tm_at "rv"
        rw [fin]
        exact k
    · refine r_revT hS ?_
      refine RT.for_ItvT (K := K) (a := a) (xs := ns.map V.int) (fun i σ H' => (∃ x3, σ = [some (.ref a), some (.int b), some (.int (val b (ns.drop (ns.length - i)))), x3]) ∧ H' = H) ⟨⟨_, by rw [beg]; rfl⟩, rfl⟩ (fun i σ H' h => h.2 ▸ hS) ?_ ?_
      · rintro i x σ Hj hi hx ⟨⟨x3, rfl⟩, rfl⟩
        obtain ⟨n, rfl, e⟩ := step i x hi hx
        tm_at "rv"
        refine ⟨⟨some (.int n), ?_⟩, rfl⟩
        rw [e, Int.add_comm n, Int.mul_comm b]
        rfl
      · rintro σ Hj ⟨⟨x3, rfl⟩, rfl⟩
        tm_at "rv"
        rw [fin]
        exact k

theorem bits01 {c : Nat} (h : c = 48 ∨ c = 49) : (!decide (c ∈ (Str.ofString "01").cps.toList)) = false := by
  have e : (Str.ofString "01").cps.toList = [48, 49] := by decide +kernel
  rw [e]
  rcases h with rfl | rfl <;> decide
theorem s_empty {l : List Nat} (h : l ≠ []) : decide (SX.S l = (Str.ofString "")) = false := by
  refine decide_eq_false fun e => h ?_
  have e2 : (Str.ofString "") = SX.S [] := by decide +kernel
  rw [e2] at e
  exact SX.S_inj e
def sp_p_of_bits : Sp := fun vs H Q _ => ∃ l : List Nat, vs = [.str (SX.S l)] ∧ Bits l ∧ l ≠ [] ∧ ∀ H', Sm H H' → Q (.int ((bitsNum l : Nat) : Int)) H'
theorem use_of_bits {H : Hp} {Q : VK} {E : XK} {l : List Nat} (hb : Bits l) (hn : l ≠ []) (k : ∀ H', Sm H H' → Q (.int ((bitsNum l : Nat) : Int)) H') : sp_p_of_bits [.str (SX.S l)] H Q E := ⟨l, rfl, hb, hn, k⟩
theorem ok_p_of_bits (T : Txt K mg w base) : FnOk P w K mg base CX0 1 T.f_p_of_bits T.d_p_of_bits ["text"] sp_p_of_bits := by
  refine T.F_p_of_bits.ok sc_p_of_bits (fun vs H Q E h => ?_) (fun cdv A outer s H vs Q E hr h => ?_)
  · obtain ⟨l, rfl, _⟩ := h
    rfl
  · obtain ⟨l, rfl, hb, hn, k⟩ := h
    refine ⟨_, (pss_cons (ps_if (pt_cmpR (eq_k (K := K) rfl hr.units) (pv 0) pe_str (nomark _))
      (pss_one ps_never) pss_nil)
      (pss_cons (ps_for PassesOwn.never rfl (enum_k (K := K) rfl (by rfl) T.z_enumerate (pa_cons (pv 0) pa_nil)) (pg_tup rfl (pgs_cons (pg_name (i := 1) sc_p_of_bits.nd rfl (Or.inl rfl)) (pgs_cons (pg_name (i := 2) sc_p_of_bits.nd rfl (Or.inl rfl)) pgs_nil)))
      (pss_one (ps_if (pt_cmpR (notIn_k (K := K) rfl) (pv 2) (pe_glob (v := .str (Str.ofString "01")) (by rfl) T.g_BITS ⟨_, rfl⟩) (by rfl))
      (pss_one ps_never) pss_nil)))
      (pss_one (ps_ret (pe_callTy (int_two (K := K) rfl T.s_msd) (by rfl) T.z_int (by decide +kernel) (pa_cons (pv 0) (pa_cons pe_int pa_nil))))))), ?_⟩
    tm_at "rv"
    refine ite_o (s_empty hn) ?_
    tm_at "rv"
    refine r_enumS ?_
    tm_at "rv"
    refine ⟨_, rfl, ?_⟩
    refine for_it walk_enumS (fun i σ H' => (∃ x1 x2, σ = [some (.str (SX.S l)), x1, x2]) ∧ Sm H H') ⟨⟨_, _, rfl⟩, Sm.refl _⟩ (fun _ _ _ _ _ => trivial) ?_ ?_
    · rintro i x σ Hi H2 hi ⟨⟨x1, x2, rfl⟩, si⟩ ⟨t, c, rfl, nt, rfl, hc⟩
      tm_at "rv"
      have hm : c ∈ l := List.mem_of_getElem? (str_get hc)
      refine ite_o (bits01 (hb c hm)) ?_
      tm_at "rv"
      exact ⟨⟨_, _, rfl⟩, si.trans (sm_upd nt)⟩
    · rintro σ Hi ⟨⟨x1, x2, rfl⟩, si⟩
      tm_at "rv"
      refine r_int2 hb hn ?_
      tm_at "rv"
      exact k _ si

def sp_p_how_many : Sp := fun vs H Q _ => ∃ (n : Int) (k : Nat), vs = [.int n] ∧ 0 ≤ n ∧ n < 2 ^ k ∧ k ≤ 900000 ∧ Q (.int ((pop n.toNat : Nat) : Int)) H
theorem use_many {H : Hp} {Q : VK} {E : XK} {n : Int} (k : Nat) (h0 : 0 ≤ n) (h1 : n < 2 ^ k) (hk : k ≤ 900000) (q : Q (.int ((pop n.toNat : Nat) : Int)) H) : sp_p_how_many [.int n] H Q E := ⟨n, k, rfl, h0, h1, hk, q⟩
theorem ok_p_how_many (T : Txt K mg w base) : FnOk P w K mg base CX0 2 T.f_p_how_many T.d_p_how_many ["number"] sp_p_how_many := by
  refine T.F_p_how_many.ok sc_p_how_many (fun vs H Q E h => ?_) (fun cdv A outer s H vs Q E hr h => ?_)
  · obtain ⟨n, k, rfl, _⟩ := h
    rfl
  · obtain ⟨n, k, rfl, h0, h1, hk, q⟩ := h
    refine ⟨_, (pss_one (ps_ret (pe_bm PySem.F.plainAttrs_str PySem.F.slot_str_count PySem.F.type_str_count mt_count (pe_call (ok_p_bits_of T) hr (by rfl) T.g_p_bits_of T.F_p_bits_of.kp T.b_p_bits_of .nil pass0 (pa_cons (pv 0) pa_nil)) (pa_cons pe_str pa_nil)))), ?_⟩
    tm_at "rv"
    refine use_bits_of k h0 h1 hk ?_
    tm_at "rv"
    refine ⟨_, _, rfl, rfl, ?_⟩
    rw [count_bin]
    exact q

def sp_odd : Sp := fun vs H Q _ => ∃ (n k : Int), vs = [.int n, .int k] ∧ 0 ≤ n ∧ n ≤ 1000 ∧ 0 ≤ k ∧ k ≤ 1000 ∧ Q (.bl (decide (((out k.toNat n.toNat : Nat) : Int) = 0))) H
theorem use_odd {H : Hp} {Q : VK} {E : XK} {n i : Int} (h0 : 0 ≤ n) (h1 : n ≤ 1000) (h2 : 0 ≤ i) (h3 : i ≤ 1000) (k : Q (.bl (decide (((out i.toNat n.toNat : Nat) : Int) = 0))) H) : sp_odd [.int n, .int i] H Q E := ⟨n, i, rfl, h0, h1, h2, h3, k⟩
theorem ok_p_is_odd (T : Txt K mg w base) : FnOk P w K mg base CX0 3 T.f_p_is_odd T.d_p_is_odd ["n", "k"] sp_odd := by
  refine T.F_p_is_odd.ok sc_p_is_odd (fun vs H Q E h => ?_) (fun cdv A outer s H vs Q E hr h => ?_)
  · obtain ⟨n, k, rfl, _⟩ := h
    rfl
  · obtain ⟨n, i, rfl, h0, h1, h2, h3, k⟩ := h
    refine ⟨_, (pss_one (ps_ret (pe_call (ok_p_fits T) hr (by rfl) T.g_p_fits T.F_p_fits.kp T.b_p_fits .nil pass0 (pa_cons (pv 1) (pa_cons (pv 0) pa_nil))))), ?_⟩
    tm_at "rv"
    refine use_fits h2 h0 ?_
    tm_at "rv"
    exact k

/-! halvings -/
def sp_hv : Sp := fun vs H Q _ => ∃ (n : Int), vs = [.int n] ∧ 0 < n ∧ Q (.int ((hv n.toNat : Nat) : Int)) H
theorem use_hv {H : Hp} {Q : VK} {E : XK} {n : Int} (h0 : 0 < n) (k : Q (.int ((hv n.toNat : Nat) : Int)) H) : sp_hv [.int n] H Q E := ⟨n, rfl, h0, k⟩
theorem ok_p_halvings (T : Txt K mg w base) : FnOk P w K mg base CX0 1 T.f_p_halvings T.d_p_halvings ["number"] sp_hv := by
  refine T.F_p_halvings.ok sc_p_halvings (fun vs H Q E h => ?_) (fun cdv A outer s H vs Q E hr h => ?_)
  · obtain ⟨n, rfl, _⟩ := h
    rfl
  · obtain ⟨n, rfl, h0, k⟩ := h
    refine ⟨_, (pss_one (ps_ret (pe_op op_sub (pe_bits (pe_op op_and (pv 0) (pe_un un_neg (pv 0)))) pe_int))), ?_⟩
    tm_at "rv"
    rw [neg_and h0, bits_pow]
    tm_at "rv"
    have e : ((hv n.toNat + 1 : Nat) : Int) - 1 = ((hv n.toNat : Nat) : Int) := by omega
    rw [e]
    exact k

/-- how many carries -/
def cry (a b : Int) : Int := ((pop a.toNat : Nat) : Int) + ((pop b.toNat : Nat) : Int) - ((pop (a + b).toNat : Nat) : Int)
theorem cry_comm (a b : Int) : cry a b = cry b a := by unfold cry; rw [Int.add_comm b a]; omega
theorem pop_two (n : Nat) : pop (2 * n) = pop n := by rw [pop_eq (2 * n), show 2 * n / 2 = n by omega, show 2 * n % 2 = 0 by omega, Nat.zero_add]
theorem cry_two {a b : Int} (h0 : 0 ≤ a) (h1 : 0 ≤ b) : cry (2 * a) (2 * b) = cry a b := by
  unfold cry
  rw [show (2 * a).toNat = 2 * a.toNat by omega, show (2 * b).toNat = 2 * b.toNat by omega, show (2 * a + 2 * b).toNat = 2 * (a + b).toNat by omega, pop_two, pop_two, pop_two]
theorem cry_none {a b : Int} (h0 : 0 ≤ a) (h1 : 0 ≤ b) (h : Builtin.bitAnd a b = 0) : cry a b = 0 := by
  rw [iand h0 h1] at h
  have := (pop_both a.toNat b.toNat).mpr (by omega)
  unfold cry
  rw [show (a + b).toNat = a.toNat + b.toNat by omega, this]
  omega
def sp_cry : Sp := fun vs H Q _ => ∃ (a b : Int), vs = [.int a, .int b] ∧ 0 ≤ a ∧ a < 2 ^ 2700 ∧ 0 ≤ b ∧ b < 2 ^ 2700 ∧ Q (.int (cry a b)) H
theorem use_cry {H : Hp} {Q : VK} {E : XK} {a b : Int} (h0 : 0 ≤ a) (h1 : a < 2 ^ 2700) (h2 : 0 ≤ b) (h3 : b < 2 ^ 2700) (k : Q (.int (cry a b)) H) : sp_cry [.int a, .int b] H Q E := ⟨a, b, rfl, h0, h1, h2, h3, k⟩
theorem room3 : (2 : Int) ^ 2700 + 2 ^ 2700 < 2 ^ 2710 := by decide +kernel
theorem ok_p_carries (T : Txt K mg w base) : FnOk P w K mg base CX0 3 T.f_p_carries T.d_p_carries ["one", "other"] sp_cry := by
  refine T.F_p_carries.ok sc_p_carries (fun vs H Q E h => ?_) (fun cdv A outer s H vs Q E hr h => ?_)
  · obtain ⟨a, b, rfl, _⟩ := h
    rfl
  · obtain ⟨a, b, rfl, h0, h1, h2, h3, k⟩ := h
    refine ⟨_, (pss_one (ps_ret (pe_op op_sub (pe_op (add_k (K := K) rfl) (pe_call (ok_p_how_many T) hr (by rfl) T.g_p_how_many T.F_p_how_many.kp T.b_p_how_many .nil pass0 (pa_cons (pv 0) pa_nil)) (pe_call (ok_p_how_many T) hr (by rfl) T.g_p_how_many T.F_p_how_many.kp T.b_p_how_many .nil pass0 (pa_cons (pv 1) pa_nil))) (pe_call (ok_p_how_many T) hr (by rfl) T.g_p_how_many T.F_p_how_many.kp T.b_p_how_many .nil pass0 (pa_cons (pe_op (add_k (K := K) rfl) (pv 0) (pv 1)) pa_nil))))), ?_⟩
    tm_at "rv"
    refine use_many 2700 h0 h1 (by decide) ?_
    tm_at "rv"
    refine use_many 2700 h2 h3 (by decide) ?_
    tm_at "rv"
    refine use_many 2710 (by omega) (Int.lt_trans (by omega) room3) (by decide) ?_
    tm_at "rv"
    exact k

/-- so often divided -/
def fdn (n b : Int) : Nat → Int
  | 0 => n
  | k + 1 => fdn n b k / b
/-- the first so many figures -/
def fgs (n b : Int) (m : Nat) : List Int := (List.range m).map fun j => fdn n b j % b
theorem fgs_len (n b : Int) (m : Nat) : (fgs n b m).length = m := by rw [fgs, List.length_map, List.length_range]
theorem fgs_snoc (n b : Int) (m : Nat) : fgs n b (m + 1) = fgs n b m ++ [fdn n b m % b] := by
  rw [fgs, List.range_succ, List.map_append]
  rfl
theorem fgs_in {n b : Int} {m : Nat} (h1 : 2 ≤ b) {x : Int} (h : x ∈ fgs n b m) : 0 ≤ x ∧ x < b := by
  obtain ⟨j, _, rfl⟩ := List.mem_map.mp h
  exact ⟨Int.emod_nonneg _ (by omega), Int.emod_lt_of_pos _ (by omega)⟩
/-- the figures and what is left come to the number -/
theorem fgs_val (n b : Int) : ∀ m : Nat, val b (fgs n b m) + fdn n b m * b ^ m = n
  | 0 => by
    show val b [] + n * b ^ 0 = n
    rw [Int.pow_zero]
    show 0 + n * 1 = n
    omega
  | m + 1 => by
    have ih := fgs_val n b m
    rw [fgs_snoc, val_snoc, fgs_len, Int.pow_succ]
    have e := Int.emod_add_mul_ediv (fdn n b m) b
    have e2 : fdn n b (m + 1) = fdn n b m / b := rfl
    rw [e2]
    generalize fdn n b m = f at *
    have e3 : f / b * (b ^ m * b) = b * (f / b) * b ^ m := by
      rw [Int.mul_comm (b ^ m) b, ← Int.mul_assoc, Int.mul_comm (f / b) b]
    rw [e3, Int.add_assoc, ← Int.add_mul, e]
    exact ih
/-- divided so often that nothing is left -/
theorem fdn_zero {n b : Int} {i : Nat} (h : fdn n b i = 0) : ∀ j, i ≤ j → fdn n b j = 0 := by
  intro j hj
  induction j with
  | zero =>
    have : i = 0 := by omega
    rw [this] at h
    exact h
  | succ j ih =>
    by_cases e : i = j + 1
    · rw [← e]; exact h
    · show fdn n b j / b = 0
      rw [ih (by omega)]
      exact Int.zero_ediv b
theorem fgs_all {n b : Int} {i m : Nat} (h : fdn n b i = 0) (hm : i ≤ m) : val b (fgs n b m) = n := by
  have e := fgs_val n b m
  rw [fdn_zero h m hm, Int.zero_mul, Int.add_zero] at e
  exact e
theorem fdn_nn {n b : Int} (h0 : 0 ≤ n) (h1 : 2 ≤ b) : ∀ j, 0 ≤ fdn n b j
  | 0 => h0
  | j + 1 => Int.ediv_nonneg (fdn_nn h0 h1 j) (by omega)
def sp_fgs : Sp := fun vs H Q _ => ∃ (n b m : Int), vs = [.int n, .int b, .int m] ∧ 2 ≤ b ∧ b ≤ 1099511627776 ∧ 0 ≤ m ∧ m ≤ 300 ∧ ∀ l H', Sm H H' → H l = none → H' l = some (.lst ((fgs n b m.toNat).map V.int)) → Q (.ref l) H'
theorem use_fgs {H : Hp} {Q : VK} {E : XK} {n b m : Int} (h1 : 2 ≤ b) (h2 : b ≤ 1099511627776) (h3 : 0 ≤ m) (h4 : m ≤ 300) (k : ∀ l H', Sm H H' → H l = none → H' l = some (.lst ((fgs n b m.toNat).map V.int)) → Q (.ref l) H') : sp_fgs [.int n, .int b, .int m] H Q E := ⟨n, b, m, rfl, h1, h2, h3, h4, k⟩
theorem cdivP {i j : Int} (h : CDivW i j) : CDivP i j := ⟨h.1, PyProof.noPylong_of_log2 h.2⟩
theorem r_dm {H : Hp} {Q : VK} {i j : Int} (h : CDivP i j) (k : ∀ p, H p = none → Q (.ref p) (upd H p (.tup [.int (i / j), .int (i % j)]))) : ∃ i' j', [V.int i, V.int j] = [.int i', .int j'] ∧ CDivP i' j' ∧ ∀ p, H p = none → Q (.ref p) (upd H p (.tup [.int (i' / j'), .int (i' % j')])) := ⟨i, j, rfl, h, k⟩
theorem ok_p_figures (T : Txt K mg w base) : FnOk P w K mg base CX0 1 T.f_p_figures T.d_p_figures ["number", "base", "many"] sp_fgs := by
  refine T.F_p_figures.ok sc_p_figures (fun vs H Q E h => ?_) (fun cdv A outer s H vs Q E hr h => ?_)
  · obtain ⟨n, b, k, rfl, _⟩ := h
    rfl
  · obtain ⟨n, b, m, rfl, h1, h2, h3, h4, k⟩ := h
    refine ⟨_, (pss_cons (ps_set (i := 3) sc_p_figures.nd rfl (Or.inl rfl) (pe_lst pa_nil))
      (pss_cons (ps_set (i := 4) sc_p_figures.nd rfl (Or.inl rfl) (pv 0))
      (pss_cons (ps_for PassesOwn.never rfl (pi_range1 (by rfl) T.z_range (pa_cons (pv 2) pa_nil)) (pg_name (i := 5) sc_p_figures.nd rfl (Or.inl rfl))
      (pss_cons (ps_asg (pe_callB call_divmodW (by rfl) T.z_divmod (by decide +kernel) (pa_cons (pv 4) (pa_cons (pv 1) pa_nil))) (pg_tup rfl (pgs_cons (pg_name (i := 4) sc_p_figures.nd rfl (Or.inl rfl)) (pgs_cons (pg_name (i := 6) sc_p_figures.nd rfl (Or.inl rfl)) pgs_nil))))
      (pss_one (ps_expr (pe_bm PySem.F.plainAttrs_list PySem.F.slot_list_append PySem.F.type_list_append mt_append (pv 3) (pa_cons (pv 6) pa_nil))))))
      (pss_one (ps_ret (pv 3)))))), ?_⟩
    tm_at "rv"
    rename_i D nD
    refine for_range (lo := 0) (n := m.toNat) (fun j σ H' => (∃ x5 x6, σ = [some (.int n), some (.int b), some (.int m), some (.ref D), some (.int (fdn n b j)), x5, x6]) ∧ H' D = some (.lst ((fgs n b j).map V.int)) ∧ Sm H H') ⟨⟨_, _, rfl⟩, upd_same, sm_upd nD⟩ ?_ ?_
    · rintro j σ Hj hj ⟨⟨x5, x6, rfl⟩, hD, sj⟩
      tm_at "rv"
      refine ⟨fdn n b j, b, rfl, cdivP (cdiv_s (by omega) (by omega)), fun p np => ?_⟩
      tm_at "rv"
      have hD2 : upd Hj p (.tup [.int (fdn n b j / b), .int (fdn n b j % b)]) D = some (.lst ((fgs n b j).map V.int)) := by tm_at "mv"
      refine r_app hD2 (small1000 (by rw [List.length_map, fgs_len]; omega)) ?_
      tm_at "rv"
      refine ⟨⟨_, _, rfl⟩, ?_, ?_⟩
      · rw [upd_same, fgs_snoc, List.map_append]
        rfl
      · exact sm_acc (sj.trans (sm_upd np)) nD
    · rintro σ Hj ⟨⟨x5, x6, rfl⟩, hD, sj⟩
      tm_at "rv"
      exact k D Hj sj nD hD

def sp_fig : Sp := fun vs H Q _ => ∃ (n b k : Int), vs = [.int n, .int b, .int k] ∧ 2 ≤ b ∧ b ≤ 1099511627776 ∧ 0 ≤ k ∧ k ≤ 300 ∧ Q (.int (fdn n b k.toNat % b)) H
theorem use_fig {H : Hp} {Q : VK} {E : XK} {n b i : Int} (h1 : 2 ≤ b) (h2 : b ≤ 1099511627776) (h3 : 0 ≤ i) (h4 : i ≤ 300) (k : Q (.int (fdn n b i.toNat % b)) H) : sp_fig [.int n, .int b, .int i] H Q E := ⟨n, b, i, rfl, h1, h2, h3, h4, k⟩
theorem ok_p_figure (T : Txt K mg w base) : FnOk P w K mg base CX0 1 T.f_p_figure T.d_p_figure ["number", "base", "k"] sp_fig := by
  refine T.F_p_figure.ok sc_p_figure (fun vs H Q E h => ?_) (fun cdv A outer s H vs Q E hr h => ?_)
  · obtain ⟨n, b, k, rfl, _⟩ := h
    rfl
  · obtain ⟨n, b, i, rfl, h1, h2, h3, h4, k⟩ := h
    refine ⟨_, (pss_cons (ps_set (i := 3) sc_p_figure.nd rfl (Or.inl rfl) (pv 0))
      (pss_cons (ps_for PassesOwn.never rfl (pi_range1 (by rfl) T.z_range (pa_cons (pv 2) pa_nil)) (pg_name (i := 4) sc_p_figure.nd rfl (Or.inl rfl))
      (pss_cons (ps_if (pt_cmpR (eq_k (K := K) rfl hr.units) (pv 3) pe_int (nomark _))
      (pss_one (ps_ret pe_int)) pss_nil)
      (pss_one (ps_set (i := 3) sc_p_figure.nd rfl (Or.inl rfl) (pe_op op_fdivW (pv 3) (pv 1))))))
      (pss_one (ps_ret (pe_op op_mod (pv 3) (pv 1)))))), ?_⟩
    tm_at "rv"
    refine for_range (lo := 0) (n := i.toNat) (fun j σ H' => (∃ x4, σ = [some (.int n), some (.int b), some (.int i), some (.int (fdn n b j)), x4]) ∧ H' = H) ⟨⟨_, rfl⟩, rfl⟩ ?_ ?_
    · rintro j σ Hj hj ⟨⟨x4, rfl⟩, rfl⟩
      tm_at "rv"
      refine ite_d (fun e1 => ?_) (fun e1 => ?_)
      · have e2 := fdn_zero e1 i.toNat (by omega)
        rw [e2, Int.zero_emod] at k
        tm_at "rv"
        exact k
      · tm_at "rv"
        exact ⟨⟨_, rfl⟩, rfl⟩
    · rintro σ Hj ⟨⟨x4, rfl⟩, rfl⟩
      tm_at "rv"
      exact k

def sp_p_ones : Sp := fun vs H Q _ => ∃ (b m : Int), vs = [.int b, .int m] ∧ 2 ≤ b ∧ b ≤ 1099511627776 ∧ 0 ≤ m ∧ m ≤ 301 ∧ ∀ H', Sm H H' → Q (.int (val b (List.replicate m.toNat 1))) H'
theorem use_ones {H : Hp} {Q : VK} {E : XK} {b m : Int} (h1 : 2 ≤ b) (h2 : b ≤ 1099511627776) (h3 : 0 ≤ m) (h4 : m ≤ 301) (k : ∀ H', Sm H H' → Q (.int (val b (List.replicate m.toNat 1))) H') : sp_p_ones [.int b, .int m] H Q E := ⟨b, m, rfl, h1, h2, h3, h4, k⟩
theorem ok_p_ones (T : Txt K mg w base) : FnOk P w K mg base CX0 2 T.f_p_ones T.d_p_ones ["base", "many"] sp_p_ones := by
  refine T.F_p_ones.ok sc_p_ones (fun vs H Q E h => ?_) (fun cdv A outer s H vs Q E hr h => ?_)
  · obtain ⟨b, m, rfl, _⟩ := h
    rfl
  · obtain ⟨b, m, rfl, h1, h2, h3, h4, k⟩ := h
    refine ⟨_, (pss_one (ps_ret (pe_call (ok_p_of_figures T) hr (by rfl) T.g_p_of_figures T.F_p_of_figures.kp T.b_p_of_figures .nil pass0 (pa_cons (pe_op (mul_k (K := K) rfl) (pe_lst (pa_cons pe_int pa_nil)) (pv 1)) (pa_cons (pv 0) pa_nil))))), ?_⟩
    tm_at "rv"
    refine r_repI (x := 1) (by tm_at "mv") h3 (by omega) fun p1 H5 s5 n5 e5 => ?_
    tm_at "rv"
    refine use_ofF (.inl (SqL.of e5)) h1 h2 ?_
    tm_at "rv"
    exact k _ (by tm_at "sm")

local macro_rules | `(tactic| tm_at "tm") => `(tactic| with_reducible first
  | assumption
  | exact TmAt.sm (by assumption) (by tm_at "tm"))
local macro_rules | `(tactic| tm_at "sy") => `(tactic| with_reducible first
  | assumption
  | exact SayAt.sm (by assumption) (by tm_at "sy"))


/-! two ways of a statement joined: what is left is walked once -/
theorem r_seqJ {t u : TS} {D : Ends} {σ : St} {H : Hp} (R : St → Hp → Prop) (h2 : ∀ σ' H', R σ' H' → u D σ' H') (h1 : ∀ N : St → Hp → Prop, (∀ σ' H', R σ' H' → N σ' H') → t { D with nx := N } σ H) : tSeq t u D σ H := h1 _ h2

/-! figures, asked for by names -/
theorem rep_ones (n : Nat) : (List.replicate n [V.int 1]).flatten = (List.replicate n (1 : Int)).map V.int := by
  induction n with
  | zero => rfl
  | succ n ih => rw [List.replicate_succ, List.flatten_cons, ih, List.replicate_succ, List.map_cons]; rfl
def sp_figures_right : Sp := fun vs H Q _ => ∃ (n b m : Int), vs = [.int n, .int b, .int m] ∧ 0 ≤ n ∧ n ≤ 1000000 ∧ 2 ≤ b ∧ b ≤ 1000 ∧ 0 ≤ m ∧ m ≤ 40 ∧ ∀ H', Sm H H' → Q (.bl true) H'
theorem use_figures_right {H : Hp} {Q : VK} {E : XK} {n b m : Int} (h1 : 0 ≤ n) (h2 : n ≤ 1000000) (h3 : 2 ≤ b) (h4 : b ≤ 1000) (h5 : 0 ≤ m) (h6 : m ≤ 40) (k : ∀ H', Sm H H' → Q (.bl true) H') : sp_figures_right [.int n, .int b, .int m] H Q E := ⟨n, b, m, rfl, h1, h2, h3, h4, h5, h6, k⟩
theorem ok_figures_right (T : Txt K mg w base) : FnOk P w K mg base CX0 3 T.f_figures_right T.d_figures_right ["whole", "wide", "count"] sp_figures_right := by
  refine T.F_figures_right.ok sc_figures_right (fun vs H Q E h => ?_) (fun cdv A outer s H vs Q E hr h => ?_)
  · obtain ⟨n, b, m, rfl, _⟩ := h
    rfl
  · obtain ⟨n, b, m, rfl, h1, h2, h3, h4, h5, h6, k⟩ := h
    refine ⟨_, (pss_cons (ps_set (i := 3) sc_figures_right.nd rfl (Or.inl rfl) (pe_lst (pa_cons (pe_op op_mod (pv 0) (pv 1)) (pa_cons (pe_op op_mod (pe_op op_fdivW (pv 0) (pv 1)) (pv 1)) pa_nil))))
      (pss_cons (ps_set (i := 4) sc_figures_right.nd rfl (Or.inl rfl) (pe_lst (pa_cons (pe_callK0 (ok_p_figure T) (hr.mono (by decide)) (by rfl) T.g_p_figure T.F_p_figure.kp T.kb_p_figure_0 pass0 (pk_cons pe_int (pk_cons (pv 1) (pk_cons (pv 0) pk_nil)))) (pa_cons (pe_callK0 (ok_p_figure T) (hr.mono (by decide)) (by rfl) T.g_p_figure T.F_p_figure.kp T.kb_p_figure_1 pass0 (pk_cons (pv 1) (pk_cons pe_int (pk_cons (pv 0) pk_nil)))) pa_nil))))
      (pss_cons (ps_if (PW.pt (pw_or (pt_cmpR (ne_k (K := K) rfl hr.units) (pv 4) (pv 3) (nomark _)) (pw_or1 (pt_cmpR (ne_k (K := K) rfl hr.units) (pe_callK0 (ok_p_figures T) (hr.mono (by decide)) (by rfl) T.g_p_figures T.F_p_figures.kp T.kb_p_figures_0 pass0 (pk_cons pe_int (pk_cons (pv 1) (pk_cons (pv 0) pk_nil)))) (pv 3) (nomark _)))))
      (pss_one (ps_ret pe_bl)) pss_nil)
      (pss_cons (ps_if (pt_cmpR (ne_k (K := K) rfl hr.units) (pe_callK0 (ok_p_of_figures T) (hr.mono (by decide)) (by rfl) T.g_p_of_figures T.F_p_of_figures.kp T.kb_p_of_figures_0 pass0 (pk_cons (pv 1) (pk_cons (pv 3) pk_nil))) (pe_op (add_k (K := K) rfl) (pe_ix (ix_k (K := K) rfl) (pv 3) pe_int (fun _ _ => rfl)) (pe_op (mul_k (K := K) rfl) (pv 1) (pe_ix (ix_k (K := K) rfl) (pv 3) pe_int (fun _ _ => rfl)))) (nomark _))
      (pss_one (ps_ret pe_bl)) pss_nil)
      (pss_one (ps_ret (pe_cmpR (eq_k (K := K) rfl hr.units) (pe_callK0 (ok_p_ones T) hr (by rfl) T.g_p_ones T.F_p_ones.kp T.kb_p_ones_0 pass0 (pk_cons (pv 2) (pk_cons (pv 1) pk_nil))) (pe_call (ok_p_of_figures T) (hr.mono (by decide)) (by rfl) T.g_p_of_figures T.F_p_of_figures.kp T.b_p_of_figures .nil pass0 (pa_cons (pe_op (mul_k (K := K) rfl) (pe_lst (pa_cons pe_int pa_nil)) (pv 2)) (pa_cons (pv 1) pa_nil))) (nomark _)))))))), ?_⟩
    tm_at "rv"
    rename_i p1 n1
    have s1 := sm_upd (o := .lst [V.int (n % b), V.int (n / b % b)]) n1
    have e1 : (upd H p1 (.lst [V.int (n % b), V.int (n / b % b)])) p1 = some (.lst ([n % b, n / b % b].map V.int)) := upd_same
    generalize upd H p1 (.lst [V.int (n % b), V.int (n / b % b)]) = H1 at s1 e1 ⊢
    refine use_fig (i := 0) h3 (by omega) (by decide) (by decide) ?_
    rw [show fdn n b (0 : Int).toNat = n from rfl]
    tm_at "rv"
    refine use_fig (i := 1) h3 (by omega) (by decide) (by decide) ?_
    rw [show fdn n b (1 : Int).toNat = n / b from rfl]
    tm_at "rv"
    rename_i p2 n2
    have s2 := sm_upd (o := .lst [V.int (n % b), V.int (n / b % b)]) n2
    have e2 : (upd H1 p2 (.lst [V.int (n % b), V.int (n / b % b)])) p2 = some (.lst ([n % b, n / b % b].map V.int)) := upd_same
    generalize upd H1 p2 (.lst [V.int (n % b), V.int (n / b % b)]) = H2 at s2 e2 ⊢
    have e12 := s2.to _ _ e1
    refine r_neLL (SqL.of e2) (SqL.of e12) ?_
    tm_at "rv"
    refine use_fgs h3 (by omega) (by decide) (by decide) fun p3 H3 s3 n3 e3 => ?_
    tm_at "rv"
    have e3 : H3 p3 = some (.lst ([n % b, n / b % b].map V.int)) := e3
    have e13 := s3.to _ _ e12
    refine r_neLL (SqL.of e3) (SqL.of e13) ?_
    tm_at "rv"
    refine use_ofF (.inl (SqL.of e13)) h3 (by omega) ?_
    have hv : val b [n % b, n / b % b] = n % b + b * (n / b % b) := by
      show n % b + b * (n / b % b + b * 0) = _
      rw [Int.mul_zero, Int.add_zero]
    rw [hv]
    tm_at "rv"
    refine r_ixL0 (x0 := .int (n % b)) (xs := [.int (n / b % b)]) (SqL.of e13) ?_
    tm_at "rv"
    refine r_ixL1 (x0 := .int (n % b)) (x1 := .int (n / b % b)) (xs := []) (SqL.of e13) ?_
    tm_at "rv"
    first
      | refine ite_o (by rw [decide_eq_true rfl]; rfl) ?_
      | skip
    tm_at "rv"
    refine use_ones h3 (by omega) h5 (by omega) fun H4 s4 => ?_
    tm_at "rv"
    rename_i p5 n5
    have s5 := sm_upd (o := .lst [V.int 1]) n5
    have e5 := upd_same (H := H4) (a := p5) (o := .lst [V.int 1])
    generalize upd H4 p5 (.lst [V.int 1]) = H5 at s5 e5 ⊢
    refine r_mulL e5 (by omega) (by omega) (len_le (by show 1 * _ ≤ _; omega)) fun p6 H6 s6 n6 e6 => ?_
    have e6 : H6 p6 = some (.lst ((List.replicate m.toNat 1).map V.int)) := by
      rw [e6]
      exact congrArg (fun z => some (HO.lst z)) (rep_ones m.toNat)
    tm_at "rv"
    refine use_ofF (.inl (SqL.of e6)) h3 (by omega) ?_
    tm_at "rv"
    rw [decide_eq_true rfl]
    exact k _ ((((s1.trans s2).trans s3).trans s4).trans (s5.trans s6))
theorem out_as {x y : Int} (h0 : 0 ≤ x) (h1 : 0 ≤ y) : x - Builtin.bitAnd x y = ((out x.toNat y.toNat : Nat) : Int) := by
  rw [iand h0 h1]
  have h := Nat.and_le_left (n := x.toNat) (m := y.toNat)
  have e : out x.toNat y.toNat = x.toNat - (x.toNat &&& y.toNat) := rfl
  omega
theorem fits_as {x y : Int} (h0 : 0 ≤ x) (h1 : 0 ≤ y) : decide (Builtin.bitAnd x y = x) = decide (((out x.toNat y.toNat : Nat) : Int) = 0) := by
  have h := out_as h0 h1
  exact decide_eq_decide.mpr (by omega)
theorem hv_cry {x y : Int} (h0 : 0 ≤ x) (h1 : 0 ≤ y) : cry x y = ((hv (ch (x + y).toNat x.toNat) : Nat) : Int) := by
  have h := hv_ch (n := (x + y).toNat) (k := x.toNat) (by omega)
  rw [show (x + y).toNat - x.toNat = y.toNat by omega] at h
  unfold cry
  omega
/-! bits -/
def sp_bits_right : Sp := fun vs H Q _ => ∃ (x y : Int), vs = [.int x, .int y] ∧ 0 ≤ x ∧ x ≤ 61 ∧ 0 ≤ y ∧ y ≤ 61 ∧ ∀ H', Sm H H' → Q (.bl true) H'
theorem use_bits_right {H : Hp} {Q : VK} {E : XK} {x y : Int} (h1 : 0 ≤ x) (h2 : x ≤ 61) (h3 : 0 ≤ y) (h4 : y ≤ 61) (k : ∀ H', Sm H H' → Q (.bl true) H') : sp_bits_right [.int x, .int y] H Q E := ⟨x, y, rfl, h1, h2, h3, h4, k⟩
theorem ok_bits_right (T : Txt K mg w base) : FnOk P w K mg base CX0 3 T.f_bits_right T.d_bits_right ["first", "second"] sp_bits_right := by
  refine T.F_bits_right.ok sc_bits_right (fun vs H Q E h => ?_) (fun cdv A outer s H vs Q E hr h => ?_)
  · obtain ⟨x, y, rfl, _⟩ := h
    rfl
  · obtain ⟨x, y, rfl, h1, h2, h3, h4, k⟩ := h
    refine ⟨_, (pss_cons (ps_set (i := 2) sc_bits_right.nd rfl (Or.inl rfl) (pe_callK0 (ok_p_bits_of T) (hr.mono (by decide)) (by rfl) T.g_p_bits_of T.F_p_bits_of.kp T.kb_p_bits_of_0 pass0 (pk_cons (pv 0) pk_nil)))
      (pss_cons (ps_if (PW.pt (pw_or (pt_cmpR (ne_k (K := K) rfl hr.units) (pv 2) (pe_call (ok_p_bits_of T) (hr.mono (by decide)) (by rfl) T.g_p_bits_of T.F_p_bits_of.kp T.b_p_bits_of .nil pass0 (pa_cons (pv 0) pa_nil)) (nomark _)) (pw_or (pt_cmpR (ne_k (K := K) rfl hr.units) (pe_callK0 (ok_p_of_bits T) (hr.mono (by decide)) (by rfl) T.g_p_of_bits T.F_p_of_bits.kp T.kb_p_of_bits_0 pass0 (pk_cons (pv 2) pk_nil)) (pv 0) (nomark _)) (pw_or1 (pt_cmpR (ne_k (K := K) rfl hr.units) (pe_callK0 (ok_p_how_many T) hr (by rfl) T.g_p_how_many T.F_p_how_many.kp T.kb_p_how_many_0 pass0 (pk_cons (pv 0) pk_nil)) (pe_bm PySem.F.plainAttrs_str PySem.F.slot_str_count PySem.F.type_str_count mt_count (pv 2) (pa_cons pe_str pa_nil)) (nomark _))))))
      (pss_one (ps_ret pe_bl)) pss_nil)
      (pss_cons (ps_if (pt_cmpR (ne_k (K := K) rfl hr.units) (pe_callK0 (ok_p_fits T) hr (by rfl) T.g_p_fits T.F_p_fits.kp T.kb_p_fits_0 pass0 (pk_cons (pv 1) (pk_cons (pv 0) pk_nil))) (pe_cmpR (eq_k (K := K) rfl hr.units) (pe_op op_and (pv 0) (pv 1)) (pv 0) (nomark _)) (nomark _))
      (pss_one (ps_ret pe_bl)) pss_nil)
      (pss_one (ps_ret (pe_cmpR (eq_k (K := K) rfl hr.units) (pe_callK0 (ok_p_stands_out T) (hr.mono (by decide)) (by rfl) T.g_p_stands_out T.F_p_stands_out.kp T.kb_p_stands_out_0 pass0 (pk_cons (pv 1) (pk_cons (pv 0) pk_nil))) (pe_op op_sub (pv 0) (pe_op op_and (pv 0) (pv 1))) (nomark _))))))), ?_⟩
    tm_at "rv"
    refine use_bits_of 20 h1 (by omega) (by decide) ?_
    tm_at "rv"
    refine use_bits_of 20 h1 (by omega) (by decide) ?_
    tm_at "rv"
    first
      | rw [decide_eq_true rfl]
      | skip
    tm_at "rv"
    refine use_of_bits (bin_in x.toNat) (bin_ne _) fun H1 s1 => ?_
    rw [bitsNum_bin, Int.toNat_of_nonneg h1]
    tm_at "rv"
    refine use_many 20 h1 (by omega) (by decide) ?_
    tm_at "rv"
    refine ⟨_, _, rfl, rfl, ?_⟩
    rw [count_bin]
    tm_at "rv"
    refine use_fits h1 h3 ?_
    tm_at "rv"
    rw [fits_as h1 h3]
    refine ite_o (by rw [decide_eq_true rfl]; rfl) ?_
    tm_at "rv"
    refine use_out h1 h3 ?_
    rw [← out_as h1 h3]
    tm_at "rv"
    rw [decide_eq_true rfl]
    exact k _ s1
/-! choosing -/
def sp_choosing_right : Sp := fun vs H Q _ => ∃ (x y : Int), vs = [.int x, .int y] ∧ 0 ≤ x ∧ x ≤ 61 ∧ 0 ≤ y ∧ y ≤ 61 ∧ ∀ H', Sm H H' → Q (.bl true) H'
theorem use_choosing_right {H : Hp} {Q : VK} {E : XK} {x y : Int} (h1 : 0 ≤ x) (h2 : x ≤ 61) (h3 : 0 ≤ y) (h4 : y ≤ 61) (k : ∀ H', Sm H H' → Q (.bl true) H') : sp_choosing_right [.int x, .int y] H Q E := ⟨x, y, rfl, h1, h2, h3, h4, k⟩
theorem ok_choosing_right (T : Txt K mg w base) : FnOk P w K mg base CX0 4 T.f_choosing_right T.d_choosing_right ["first", "second"] sp_choosing_right := by
  refine T.F_choosing_right.ok sc_choosing_right (fun vs H Q E h => ?_) (fun cdv A outer s H vs Q E hr h => ?_)
  · obtain ⟨x, y, rfl, _⟩ := h
    rfl
  · obtain ⟨x, y, rfl, h1, h2, h3, h4, k⟩ := h
    refine ⟨_, (pss_cons (ps_set (i := 2) sc_choosing_right.nd rfl (Or.inl rfl) (pe_callK0 (ok_p_choose T) (hr.mono (by decide)) (by rfl) T.g_p_choose T.F_p_choose.kp T.kb_p_choose_0 pass0 (pk_cons (pv 0) (pk_cons (pe_op (add_k (K := K) rfl) (pv 0) (pv 1)) pk_nil))))
      (pss_cons (ps_if (PW.pt (pw_or (pt_cmpR (ne_k (K := K) rfl hr.units) (pv 2) (pe_call (ok_p_choose T) (hr.mono (by decide)) (by rfl) T.g_p_choose T.F_p_choose.kp T.b_p_choose .nil pass0 (pa_cons (pe_op (add_k (K := K) rfl) (pv 0) (pv 1)) (pa_cons (pv 0) pa_nil))) (nomark _)) (pw_or1 (pt_cmpR (ne_k (K := K) rfl hr.units) (pe_callK0 (ok_p_figure_of_power T) (hr.mono (by decide)) (by rfl) T.g_p_figure_of_power T.F_p_figure_of_power.kp T.kb_p_figure_of_power_0 pass0 (pk_cons (pv 0) (pk_cons (pe_op (add_k (K := K) rfl) (pv 0) (pv 1)) pk_nil))) (pv 2) (nomark _)))))
      (pss_one (ps_ret pe_bl)) pss_nil)
      (pss_cons (ps_if (pt_cmpR (ne_k (K := K) rfl hr.units) (pe_callK0 (ok_p_halvings T) (hr.mono (by decide)) (by rfl) T.g_p_halvings T.F_p_halvings.kp T.kb_p_halvings_0 pass0 (pk_cons (pv 2) pk_nil)) (pe_callK0 (ok_p_carries T) hr (by rfl) T.g_p_carries T.F_p_carries.kp T.kb_p_carries_0 pass0 (pk_cons (pv 1) (pk_cons (pv 0) pk_nil))) (nomark _))
      (pss_one (ps_ret pe_bl)) pss_nil)
      (pss_one (ps_ret (pe_cmpR (eq_k (K := K) rfl hr.units) (pe_callK0 (ok_p_is_odd T) hr (by rfl) T.g_p_is_odd T.F_p_is_odd.kp T.kb_p_is_odd_0 pass0 (pk_cons (pv 0) (pk_cons (pe_op (add_k (K := K) rfl) (pv 0) (pv 1)) pk_nil))) (pe_cmpR (eq_k (K := K) rfl hr.units) (pe_op op_mod (pv 2) pe_int) pe_int (nomark _)) (nomark _))))))), ?_⟩
    tm_at "rv"
    refine use_choose (by omega) (by omega) h1 (by omega) ?_
    tm_at "rv"
    refine use_choose (by omega) (by omega) h1 (by omega) ?_
    tm_at "rv"
    refine use_figp (by omega) (by omega) h1 (by omega) ?_
    tm_at "rv"
    have hch := ch_pos (n := (x + y).toNat) (k := x.toNat) (by omega)
    refine use_hv (by omega) ?_
    rw [Int.toNat_natCast]
    tm_at "rv"
    have big : (400 : Int) < 2 ^ 2700 := by decide +kernel
    refine use_cry h1 (Int.lt_of_le_of_lt (by omega) big) h3 (Int.lt_of_le_of_lt (by omega) big) ?_
    clear big
    rw [hv_cry h1 h3]
    tm_at "rv"
    refine use_odd (by omega) (by omega) h1 (by omega) ?_
    have hod := ch_odd_iff x.toNat (x + y).toNat
    rw [show decide (((out x.toNat (x + y).toNat : Nat) : Int) = 0) = decide (((ch (x + y).toNat x.toNat : Nat) : Int) % 2 = 1) from decide_eq_decide.mpr (by omega)]
    tm_at "rv"
    rw [decide_eq_true rfl]
    exact k _ (Sm.refl _)
/-! looking -/
theorem r_neF {K : PySem.W.Frag} {H : Hp} {Q : VK} {o : Option Nat} (k : Q (.bl false) H) : rNeA K (fstV o) (fstV o) H Q := by
  cases o with
  | none => exact .inl ⟨rfl, by rw [decide_eq_true rfl]; exact k⟩
  | some i => exact r_neI (by rw [decide_eq_true rfl]; exact k)
def sp_looking_right (N : Addr → Str) (tp tq : Addr) : Sp := fun vs H Q _ => ∃ (x y : Int) (z : Str), vs = [.int x, .int y, .str z] ∧ TabS H tp (N tp) ∧ TabS H tq (N tq) ∧ (z = Str.ofString "same" ∨ z = Str.ofString "under") ∧ 0 ≤ x ∧ x ≤ 61 ∧ 0 ≤ y ∧ y ≤ 61 ∧ ∀ H', Sw N H H' → Q (.bl true) H'
theorem use_looking_right {N : Addr → Str} {tp tq : Addr} {H : Hp} {Q : VK} {E : XK} {x y : Int} {z : Str} (t1 : TabS H tp (N tp)) (t2 : TabS H tq (N tq)) (hz : z = Str.ofString "same" ∨ z = Str.ofString "under") (h1 : 0 ≤ x) (h2 : x ≤ 61) (h3 : 0 ≤ y) (h4 : y ≤ 61) (k : ∀ H', Sw N H H' → Q (.bl true) H') : sp_looking_right N tp tq [.int x, .int y, .str z] H Q E := ⟨x, y, z, rfl, t1, t2, hz, h1, h2, h3, h4, k⟩
theorem ok_looking_right (T : Txt K mg w base) : FnOk P w K mg base CX0 28 T.f_looking_right T.d_looking_right ["first", "second", "word"] (sp_looking_right T.nm T.t_p_worth T.t_p_renamed_term) := by
  refine T.F_looking_right.ok sc_looking_right (fun vs H Q E h => ?_) (fun cdv A outer s H vs Q E hr h => ?_)
  · obtain ⟨x, y, z, rfl, _⟩ := h
    rfl
  · obtain ⟨x, y, z, rfl, t1, t2, hz, h1, h2, h3, h4, k⟩ := h
    refine ⟨_, (pss_cons (ps_par (i := 3) (j := 4) rfl sc_looking_right.nd rfl rfl (by decide) rfl rfl (pa_cons (pe_make T.mk_Saying (ok_Saying_init T) (hr.mono (by decide)) (by rfl) T.g_Saying T.b_Saying_init .nil pass0 (pa_cons (pv 2) (pa_cons (pe_tup (pa_cons pe_str (pa_cons pe_str pa_nil))) (pa_cons (pe_tup (pa_cons pe_str (pa_cons pe_str pa_nil))) pa_nil)))) (pa_cons (pe_disp (pps_cons pe_str (pv 0) (pps_cons pe_str (pv 1) pps_nil)) (by rfl) (by rfl) (by decide) (by decide)) pa_nil)) (by rfl))
      (pss_cons (ps_set (i := 5) sc_looking_right.nd rfl (Or.inl rfl) (pe_op op_sub (pv 0) (pv 1)))
      (pss_cons (ps_if (pt_cmpR (eq_k (K := K) rfl hr.units) (pv 2) pe_str (nomark _))
      (pss_one (ps_set (i := 5) sc_looking_right.nd rfl (Or.inl rfl) (pe_op op_sub (pv 0) (pe_op op_and (pv 0) (pv 1))))) pss_nil)
      (pss_cons (ps_if (PW.pt (pw_or (pt_cmpR (ne_k (K := K) rfl hr.units) (pe_callK0 (ok_p_holds T) (hr.mono (by decide)) (by rfl) T.g_p_holds T.F_p_holds.kp T.kb_p_holds_0 pass0 (pk_cons (pv 4) (pk_cons (pv 3) pk_nil))) (pe_cmpR (eq_k (K := K) rfl hr.units) (pv 5) pe_int (nomark _)) (nomark _)) (pw_or1 (pt_cmpR (ne_k (K := K) rfl hr.units) (pe_callK0 (ok_p_off T) (hr.mono (by decide)) (by rfl) T.g_p_off T.F_p_off.kp T.kb_p_off_0 pass0 (pk_cons (pv 4) (pk_cons (pv 3) pk_nil))) (pe_op (mul_k (K := K) rfl) (pv 5) (pv 5)) (nomark _)))))
      (pss_one (ps_ret pe_bl)) pss_nil)
      (pss_cons (ps_set (i := 6) sc_looking_right.nd rfl (Or.inl rfl) (pe_ix (ix_k (K := K) rfl) (pe_lst (pa_cons pe_int (pa_cons pe_non pa_nil))) (pe_callTy (int_x (K := K) rfl T.s_msd) (by rfl) T.z_int (by decide +kernel) (pa_cons (pe_cmpR (eq_k (K := K) rfl hr.units) (pv 5) pe_int (nomark _)) pa_nil)) (fun _ _ => rfl)))
      (pss_cons (ps_if (PW.pt (pw_or (pt_cmpR (ne_k (K := K) rfl hr.units) (pe_callK0 (ok_p_first_wrong T) hr (by rfl) T.g_p_first_wrong T.F_p_first_wrong.kp T.kb_p_first_wrong_0 pass0 (pk_cons (pv 4) (pk_cons (pe_lst (pa_cons (pv 3) pa_nil)) pk_nil))) (pv 6) (nomark _)) (pw_or1 (pt_cmpR (ne_k (K := K) rfl hr.units) (pe_callK0 (ok_p_far_off T) hr (by rfl) T.g_p_far_off T.F_p_far_off.kp T.kb_p_far_off_0 pass0 (pk_cons (pv 4) (pk_cons (pe_lst (pa_cons (pv 3) pa_nil)) pk_nil))) (pe_op (mul_k (K := K) rfl) (pv 5) (pv 5)) (nomark _)))))
      (pss_one (ps_ret pe_bl)) pss_nil)
      (pss_cons (ps_set (i := 7) sc_looking_right.nd rfl (Or.inl rfl) (pe_callK0 (ok_p_renamed T) (hr.mono (by decide)) (by rfl) T.g_p_renamed T.F_p_renamed.kp T.kb_p_renamed_0 pass0 (pk_cons (pe_disp (pps_cons pe_str pe_str pps_nil) (by rfl) (by rfl) (by decide) (by decide)) (pk_cons (pv 3) pk_nil))))
      (pss_one (ps_ret (pe_cmpR (op_eqI T.eq_Saying (ok_Saying_eq T) (hr.mono (by decide)) T.b_Saying_eq pass0) (pv 7) (pe_make T.mk_Saying (ok_Saying_init T) (hr.mono (by decide)) (by rfl) T.g_Saying T.b_Saying_init .nil pass0 (pa_cons (pv 2) (pa_cons (pe_tup (pa_cons pe_str (pa_cons pe_str pa_nil))) (pa_cons (pe_tup (pa_cons pe_str (pa_cons pe_str pa_nil))) pa_nil)))) (nomark _))))))))))), ?_⟩
    tm_at "rv"
    rename_i p1 m1 p2 m2
    have sa := sm_upd (o := .tup [V.str (Str.ofString "name"), V.str (Str.ofString "a")]) m1
    have ea := upd_same (H := H) (a := p1) (o := .tup [V.str (Str.ofString "name"), V.str (Str.ofString "a")])
    generalize upd H p1 (.tup [V.str (Str.ofString "name"), V.str (Str.ofString "a")]) = Ha at sa ea m2 ⊢
    have sb := sm_upd (o := .tup [V.str (Str.ofString "name"), V.str (Str.ofString "b")]) m2
    have eb := upd_same (H := Ha) (a := p2) (o := .tup [V.str (Str.ofString "name"), V.str (Str.ofString "b")])
    generalize upd Ha p2 (.tup [V.str (Str.ofString "name"), V.str (Str.ofString "b")]) = Hb at sb eb ⊢
    intro m dm nm ndm _
    refine say_use nm ndm hz (l := .name (Str.ofString "a")) (r := .name (Str.ofString "b")) ⟨p1, rfl, sb.to _ _ ea⟩ ⟨p2, rfl, eb⟩ fun H5 s5 hM => ?_
    have s05 := (sa.trans sb).trans s5
    tm_at "rv"
    refine r_disp fun d nd => ?_
    tm_at "rv"
    refine ⟨upd_same, [((Sum.inr (Str.ofString "a") : Key), V.int x), ((Sum.inr (Str.ofString "b") : Key), V.int y)], rfl, by show 2 ≤ 15; decide, ?_⟩
    obtain ⟨kvs, hkvs⟩ : ∃ kvs, kvs = mergeK [] [((Sum.inr (Str.ofString "a") : Key), V.int x), ((Sum.inr (Str.ofString "b") : Key), V.int y)] := ⟨_, rfl⟩
    rw [← hkvs]
    have hkvs2 : kvs = putK (putK [] (Sum.inr (Str.ofString "a") : Key) (V.int x)) (Sum.inr (Str.ofString "b") : Key) (V.int y) := hkvs
    have nab : ¬ (Sum.inr (Str.ofString "a") : Key) = Sum.inr (Str.ofString "b") := fun e => absurd (Sum.inr.inj e) (by decide +kernel)
    have va : valV kvs (Sum.inr (Str.ofString "a") : Key) = some (.int x) := by rw [hkvs2, valV_put, if_neg nab, valV_put, if_pos rfl]
    have vb : valV kvs (Sum.inr (Str.ofString "b") : Key) = some (.int y) := by rw [hkvs2, valV_put, if_pos rfl]
    have s6 : Sm H5 (upd (upd H5 d (.dK [])) d (.dK kvs)) := sm_acc (sm_upd nd) nd
    have e6 := upd_same (H := upd H5 d (.dK [])) (a := d) (o := .dK kvs)
    generalize upd (upd H5 d (.dK [])) d (.dK kvs) = H6 at s6 e6 ⊢
    have s06 := s05.trans s6
    have hM6 := hM.sm s6
    have hT6 := s06.sw.tq _ t1
    have hU6 := s06.sw.tq _ t2
    clear hkvs hkvs2
    have bx : bl x ≤ 1000000 := Nat.le_trans (bl_of_lt (k := 10) h1 (by show x < 1024; omega)) (by decide)
    have by' : bl y ≤ 1000000 := Nat.le_trans (bl_of_lt (k := 10) h3 (by show y < 1024; omega)) (by decide)
    have fl : (Trm.name (Str.ofString "a")).fine kvs := ⟨x, va, h1, bx⟩
    have fr : (Trm.name (Str.ofString "b")).fine kvs := ⟨y, vb, h3, by'⟩
    have wl : (Trm.name (Str.ofString "a")).worth (ansW kvs) = x := ansW_at va
    have wr : (Trm.name (Str.ofString "b")).worth (ansW kvs) = y := ansW_at vb
    have sz : (Trm.name (Str.ofString "a")).size ≤ 100000 ∧ (Trm.name (Str.ofString "b")).size ≤ 100000 := ⟨by decide, by decide⟩
    refine r_nil ?_
    refine ⟨_, _, rfl, ?_⟩
    refine r_nx ?_
    refine r_seqJ (fun σ' H' => σ' = [some (.int x), some (.int y), some (.str z), some (.ref m), some (.ref d), some (.int (x - y)), none, none] ∧ H6 = H') ?_ fun N hN => ?_
    rotate_left
    · tm_at "rv"
      exact hN _ _ ⟨rfl, rfl⟩
    rintro σ H' ⟨rfl, rfl⟩
    refine r_seqJ (fun σ' H' => ∃ R : Int, σ' = [some (.int x), some (.int y), some (.str z), some (.ref m), some (.ref d), some (.int R), none, none] ∧ H6 = H' ∧ holdsB z x y = decide (R = 0) ∧ offI z x y = R * R ∧ (-61 ≤ R ∧ R ≤ 61)) ?_ fun N hN => ?_
    rotate_left
    · tm_at "rv"
      rcases hz with rfl | rfl
      · refine ite_o (decide_eq_false fun e => w_us e.symm) ?_
        tm_at "rv"
        refine hN _ _ ⟨_, rfl, rfl, ?_, ?_, by omega⟩
        · unfold holdsB
          rw [if_pos rfl]
          exact decide_eq_decide.mpr (by omega)
        · unfold offI
          rw [if_pos rfl]
      · refine ite_y (decide_eq_true rfl) ?_
        tm_at "rv"
        rw [out_as h1 h3]
        refine hN _ _ ⟨_, rfl, rfl, ?_, ?_, by have := out_le x.toNat y.toNat; omega⟩
        · unfold holdsB
          rw [if_neg w_us]
        · unfold offI
          rw [if_neg w_us]
    · rintro σ H' ⟨R, rfl, rfl, hh, ho, hR⟩
      tm_at "rv"
      refine use_holds hT6 hM6 sz e6 fl fr fun H7 w7 => ?_
      rw [wl, wr, hh]
      tm_at "rv"
      refine ite_o (by rw [decide_eq_true rfl]; rfl) ?_
      tm_at "rv"
      refine use_off (w7.tq _ hT6) (hM6.sw w7) sz (w7.to _ _ e6) fl fr fun H8 w8 => ?_
      rw [wl, wr, ho]
      have w68 := w7.trans w8
      have hfw : fstW kvs [(z, Trm.name (Str.ofString "a"), Trm.name (Str.ofString "b"))] = if R = 0 then none else some 0 := by
        show (if holdsT kvs (z, Trm.name (Str.ofString "a"), Trm.name (Str.ofString "b")) = true then _ else _) = _
        have e : holdsT kvs (z, Trm.name (Str.ofString "a"), Trm.name (Str.ofString "b")) = decide (R = 0) := by
          rw [← hh]
          show holdsB z ((Trm.name (Str.ofString "a")).worth (ansW kvs)) ((Trm.name (Str.ofString "b")).worth (ansW kvs)) = _
          rw [wl, wr]
        rw [e]
        by_cases g : R = 0
        · rw [decide_eq_true g, if_pos rfl, if_pos g]
          rfl
        · rw [decide_eq_false g, if_neg (by decide), if_neg g]
      have hix : atI [V.int 0, V.non] (if decide (R = 0) = true then 1 else 0) = some (fstV (fstW kvs [(z, Trm.name (Str.ofString "a"), Trm.name (Str.ofString "b"))])) := by
        rw [hfw]
        by_cases g : R = 0
        · rw [decide_eq_true g, if_pos rfl, if_pos g]
          rfl
        · rw [decide_eq_false g, if_neg (by decide), if_neg g]
          rfl
      have hsum : ([(z, Trm.name (Str.ofString "a"), Trm.name (Str.ofString "b"))].map (offT kvs)).sum = R * R := by
        show offI z ((Trm.name (Str.ofString "a")).worth (ansW kvs)) ((Trm.name (Str.ofString "b")).worth (ansW kvs)) + 0 = _
        rw [wl, wr, ho, Int.add_zero]
      clear hfw
      tm_at "rv"
      first
        | refine r_mulS (i := R) (j := R) (cmul_l (by omega)) ?_
        | skip
      tm_at "rv"
      first
        | refine ite_o (by rw [decide_eq_true rfl]; rfl) ?_
        | skip
      tm_at "rv"
      rename_i q1 k1
      have s9 := sm_upd (o := .lst [V.int 0, V.non]) k1
      have e9 := upd_same (H := H8) (a := q1) (o := .lst [V.int 0, V.non])
      generalize upd H8 q1 (.lst [V.int 0, V.non]) = H9 at s9 e9 ⊢
      have w69 := w68.trans s9.sw
      refine r_ixL (SqL.of e9) hix ?_
      tm_at "rv"
      rename_i q2 k2
      have s10 := sm_upd (o := .lst [V.ref m]) k2
      have e10 := upd_same (H := H9) (a := q2) (o := .lst [V.ref m])
      generalize upd H9 q2 (.lst [V.ref m]) = H10 at s10 e10 ⊢
      have w610 := w69.trans s10.sw
      refine use_first_wrong (w610.tq _ hT6) (.inl (SqL.of e10)) (ps := [(z, Trm.name (Str.ofString "a"), Trm.name (Str.ofString "b"))]) ⟨⟨m, rfl, hM6.sw w610⟩, trivial⟩ (w610.to _ _ e6) (fineW_of fun q hq => by rw [List.mem_singleton.mp hq]; exact ⟨sz, fl, fr⟩) fun H11 w11 => ?_
      have w611 := w610.trans w11
      generalize fstW kvs [(z, Trm.name (Str.ofString "a"), Trm.name (Str.ofString "b"))] = fo
      tm_at "rv"
      refine r_neF ?_
      tm_at "rv"
      rename_i q3 k3
      have s12 := sm_upd (o := .lst [V.ref m]) k3
      have e12 := upd_same (H := H11) (a := q3) (o := .lst [V.ref m])
      generalize upd H11 q3 (.lst [V.ref m]) = H12 at s12 e12 ⊢
      have w612 := w611.trans s12.sw
      refine use_far_off (w612.tq _ hT6) (.inl (SqL.of e12)) (ps := [(z, Trm.name (Str.ofString "a"), Trm.name (Str.ofString "b"))]) ⟨⟨m, rfl, hM6.sw w612⟩, trivial⟩ (by show 1 ≤ 1000; decide) (w612.to _ _ e6) (fun q hq => by rw [List.mem_singleton.mp hq]; exact ⟨sz, fl, fr⟩) fun H13 w13 => ?_
      have w613 := w612.trans w13
      rw [hsum]
      tm_at "rv"
      first
        | refine r_mulS (i := R) (j := R) (cmul_l (by omega)) ?_
        | skip
      tm_at "rv"
      first
        | refine ite_o (by rw [decide_eq_true rfl]; rfl) ?_
        | skip
      tm_at "rv"
      refine r_disp fun d2 nd2 => ?_
      tm_at "rv"
      refine ⟨upd_same, [((Sum.inr (Str.ofString "a") : Key), V.str (Str.ofString "c"))], rfl, by show 1 ≤ 15; decide, ?_⟩
      have hway : ∀ (v : V), v = .str (Str.ofString "c") → valV (mergeK [] [((Sum.inr (Str.ofString "a") : Key), V.str (Str.ofString "c"))]) (Sum.inr (Str.ofString "a") : Key) = some v ∧ valV (mergeK [] [((Sum.inr (Str.ofString "a") : Key), V.str (Str.ofString "c"))]) (Sum.inr (Str.ofString "b") : Key) = none := by
        rintro v rfl
        have e : mergeK [] [((Sum.inr (Str.ofString "a") : Key), V.str (Str.ofString "c"))] = putK [] (Sum.inr (Str.ofString "a") : Key) (V.str (Str.ofString "c")) := rfl
        have nba : ¬ (Sum.inr (Str.ofString "b") : Key) = Sum.inr (Str.ofString "a") := fun e => nab e.symm
        rw [e, valV_put, valV_put, if_pos rfl]
        refine ⟨rfl, ?_⟩
        first
          | rw [if_neg nba]; rfl
          | rw [if_neg nab]; rfl
      have hW := hway _ rfl
      have htx : TxtD okZ (mergeK [] [((Sum.inr (Str.ofString "a") : Key), V.str (Str.ofString "c"))]) := TxtD.put TxtD.nil ⟨[97], by decide +kernel, by unfold Low; decide, by decide⟩ ⟨[99], by decide +kernel, by unfold Low; decide, by decide⟩
      clear hway
      generalize mergeK [] [((Sum.inr (Str.ofString "a") : Key), V.str (Str.ofString "c"))] = kv2 at hW htx ⊢
      have s14 : Sm H13 (upd (upd H13 d2 (.dK [])) d2 (.dK kv2)) := sm_acc (sm_upd nd2) nd2
      have e14 := upd_same (H := upd H13 d2 (.dK [])) (a := d2) (o := .dK kv2)
      generalize upd (upd H13 d2 (.dK [])) d2 (.dK kv2) = H14 at s14 e14 ⊢
      have w614 := w613.trans s14.sw
      have wa : way kv2 (Str.ofString "a") = Str.ofString "c" := by unfold way; rw [hW.1]
      have wb : way kv2 (Str.ofString "b") = Str.ofString "b" := by unfold way; rw [hW.2]
      tm_at "rv"
      refine use_renamed (w614.tq _ hU6) (hM6.sw w614) hz sz e14 htx fun f H15 w15 hF => ?_
      have hF : SayAt T.C_Saying H15 f z (.name (Str.ofString "c")) (.name (Str.ofString "b")) := by
        have e1 : (Trm.name (Str.ofString "a")).led (way kv2) = .name (Str.ofString "c") := congrArg Trm.name wa
        have e2 : (Trm.name (Str.ofString "b")).led (way kv2) = .name (Str.ofString "b") := congrArg Trm.name wb
        rw [e1, e2] at hF
        exact hF
      have w615 := w614.trans w15
      tm_at "rv"
      rename_i q4 k4 q5 k5
      have s16 := sm_upd (o := .tup [V.str (Str.ofString "name"), V.str (Str.ofString "c")]) k4
      have e16 := upd_same (H := H15) (a := q4) (o := .tup [V.str (Str.ofString "name"), V.str (Str.ofString "c")])
      generalize upd H15 q4 (.tup [V.str (Str.ofString "name"), V.str (Str.ofString "c")]) = H16 at s16 e16 k5 ⊢
      have s17 := sm_upd (o := .tup [V.str (Str.ofString "name"), V.str (Str.ofString "b")]) k5
      have e17 := upd_same (H := H16) (a := q5) (o := .tup [V.str (Str.ofString "name"), V.str (Str.ofString "b")])
      generalize upd H16 q5 (.tup [V.str (Str.ofString "name"), V.str (Str.ofString "b")]) = H17 at s17 e17 ⊢
      intro m2 dm2 nm2 ndm2 _
      refine say_use nm2 ndm2 hz (l := .name (Str.ofString "c")) (r := .name (Str.ofString "b")) ⟨q4, rfl, s17.to _ _ e16⟩ ⟨q5, rfl, e17⟩ fun H18 s18 hG => ?_
      refine r_eqSay (hF.sm ((s16.trans s17).trans s18)) hG ⟨Nat.le_of_ble_eq_true rfl, Nat.le_of_ble_eq_true rfl⟩ fun H19 s19 => ?_
      rw [decide_eq_true ⟨rfl, rfl, rfl⟩]
      exact k _ (s06.sw.trans (w615.trans (((s16.trans s17).trans s18).trans s19).sw))
def sp_law (K : PySem.W.Frag) (N : Addr → Str) (ts : List Addr) : Sp := fun vs H Q _ => ∃ (a : Addr) (ns : List Int), vs = [.ref a] ∧ SqL K H a (ns.map V.int) ∧ ns.length ≤ 63 ∧ (∀ t ∈ ts, TabS H t (N t)) ∧ ∀ H', Q (.bl true) H'
theorem sp_law_of {K : PySem.W.Frag} {N : Addr → Str} {ts : List Addr} {H : Hp} {a : Addr} {ns : List Int} (h1 : ns.length ≤ 63) (h : SqL K H a (ns.map V.int)) (h2 : ∀ t ∈ ts, TabS H t (N t)) : sp_law K N ts [.ref a] H (fun v _ => v = .bl true) fun _ _ _ => False := ⟨a, ns, rfl, h, h1, h2, fun _ => rfl⟩
theorem ok_law (T : Txt K mg w base) : FnOk P w K mg base CX0 29 T.f_law T.d_law ["script"] (sp_law K T.nm [T.t_p_renamed_term, T.t_p_worth]) := by
  refine T.F_law.ok sc_law (fun vs H Q E h => ?_) (fun cdv A outer s H vs Q E hr h => ?_)
  · obtain ⟨a, ns, rfl, _⟩ := h
    rfl
  · obtain ⟨a, ns, rfl, hS, hn, hTs, k⟩ := h
    have hT := hTs T.t_p_worth (by simp)
    have hT2 := hTs T.t_p_renamed_term (by simp)
    refine ⟨_, (pss_cons (ps_for PassesOwn.never rfl (pi_range1 (by rfl) T.z_range (pa_cons (pe_callB (max_k (K := K) rfl rfl) (by rfl) T.z_max (by decide +kernel) (pa_cons pe_int (pa_cons (pe_callB (min_k (K := K) rfl rfl) (by rfl) T.z_min (by decide +kernel) (pa_cons pe_int (pa_cons (pe_callB (len_k (K := K) rfl) (by rfl) T.z_len (by decide +kernel) (pa_cons (pv 0) pa_nil)) pa_nil))) pa_nil))) pa_nil)) (pg_name (i := 1) sc_law.nd rfl (Or.inl rfl))
      (pss_cons (ps_set (i := 2) sc_law.nd rfl (Or.inl rfl) (pe_call (ok_box T) (hr.mono (by decide)) (by rfl) T.g_box T.F_box.kp T.b_box .nil pass0 (pa_cons (pv 0) (pa_cons (pv 1) pa_nil))))
      (pss_cons (ps_par3 (i := 3) (j := 4) (l := 5) rfl sc_law.nd rfl rfl rfl (by decide) (by decide) (by decide) rfl rfl rfl (pa_cons (pe_call (ok_take T) (hr.mono (by decide)) (by rfl) T.g_take T.F_take.kp T.b_take .nil pass0 (pa_cons (pv 2) (pa_cons pe_int pa_nil))) (pa_cons (pe_op (add_k (K := K) rfl) pe_int (pe_call (ok_take T) (hr.mono (by decide)) (by rfl) T.g_take T.F_take.kp T.b_take .nil pass0 (pa_cons (pv 2) (pa_cons pe_int pa_nil)))) (pa_cons (pe_call (ok_take T) (hr.mono (by decide)) (by rfl) T.g_take T.F_take.kp T.b_take .nil pass0 (pa_cons (pv 2) (pa_cons pe_int pa_nil))) pa_nil))) (by rfl))
      (pss_cons (ps_par3 (i := 6) (j := 7) (l := 8) rfl sc_law.nd rfl rfl rfl (by decide) (by decide) (by decide) rfl rfl rfl (pa_cons (pe_call (ok_take T) (hr.mono (by decide)) (by rfl) T.g_take T.F_take.kp T.b_take .nil pass0 (pa_cons (pv 2) (pa_cons pe_int pa_nil))) (pa_cons (pe_call (ok_take T) (hr.mono (by decide)) (by rfl) T.g_take T.F_take.kp T.b_take .nil pass0 (pa_cons (pv 2) (pa_cons pe_int pa_nil))) (pa_cons (pe_ix (ix_k (K := K) rfl) (pe_lst (pa_cons pe_str (pa_cons pe_str pa_nil))) (pe_call (ok_take T) (hr.mono (by decide)) (by rfl) T.g_take T.F_take.kp T.b_take .nil pass0 (pa_cons (pv 2) (pa_cons pe_int pa_nil))) (fun _ _ => rfl)) pa_nil))) (by rfl))
      (pss_cons (ps_if (PW.pt (pw_or (pt_not (pt_truth (pe_call (ok_figures_right T) (hr.mono (by decide)) (by rfl) T.g_figures_right T.F_figures_right.kp T.b_figures_right .nil pass0 (pa_cons (pv 3) (pa_cons (pv 4) (pa_cons (pv 5) pa_nil)))) (by intro _; rfl))) (pw_or1 (pt_not (pt_truth (pe_call (ok_bits_right T) (hr.mono (by decide)) (by rfl) T.g_bits_right T.F_bits_right.kp T.b_bits_right .nil pass0 (pa_cons (pv 6) (pa_cons (pv 7) pa_nil))) (by intro _; rfl))))))
      (pss_one (ps_ret pe_bl)) pss_nil)
      (pss_cons (ps_if (PW.pt (pw_or (pt_not (pt_truth (pe_call (ok_choosing_right T) (hr.mono (by decide)) (by rfl) T.g_choosing_right T.F_choosing_right.kp T.b_choosing_right .nil pass0 (pa_cons (pv 6) (pa_cons (pv 7) pa_nil))) (by intro _; rfl))) (pw_or1 (pt_not (pt_truth (pe_call (ok_looking_right T) hr (by rfl) T.g_looking_right T.F_looking_right.kp T.b_looking_right .nil pass0 (pa_cons (pv 6) (pa_cons (pv 7) (pa_cons (pv 8) pa_nil)))) (by intro _; rfl))))))
      (pss_one (ps_ret pe_bl)) pss_nil)
      (pss_cons (ps_par (i := 9) (j := 10) rfl sc_law.nd rfl rfl (by decide) rfl rfl (pa_cons (pe_make T.mk_Saying (ok_Saying_init T) (hr.mono (by decide)) (by rfl) T.g_Saying T.b_Saying_init .nil pass0 (pa_cons pe_str (pa_cons (pe_tup (pa_cons pe_str (pa_cons (pv 6) pa_nil))) (pa_cons (pe_tup (pa_cons pe_str (pa_cons pe_str pa_nil))) pa_nil)))) (pa_cons (pe_make T.mk_Saying (ok_Saying_init T) (hr.mono (by decide)) (by rfl) T.g_Saying T.b_Saying_init .nil pass0 (pa_cons pe_str (pa_cons (pe_tup (pa_cons pe_str (pa_cons pe_str pa_nil))) (pa_cons (pe_tup (pa_cons pe_str (pa_cons (pv 7) pa_nil))) pa_nil)))) pa_nil)) (by rfl))
      (pss_cons (ps_if (pt_cmpR (op_neI T.eq_Saying (ok_Saying_eq T) (hr.mono (by decide)) T.b_Saying_eq pass0) (pe_callK0 (ok_p_either T) (hr.mono (by decide)) (by rfl) T.g_p_either T.F_p_either.kp T.kb_p_either_0 pass0 (pk_cons (pv 10) (pk_cons (pv 9) pk_nil))) (pe_call (ok_p_either T) (hr.mono (by decide)) (by rfl) T.g_p_either T.F_p_either.kp T.b_p_either .nil pass0 (pa_cons (pv 9) (pa_cons (pv 10) pa_nil))) (nomark _))
      (pss_one (ps_ret pe_bl)) pss_nil)
      (pss_one (ps_if (pt_cmpR (op_neI T.eq_Saying (ok_Saying_eq T) (hr.mono (by decide)) T.b_Saying_eq pass0) (pe_callK0 (ok_p_made_one T) (hr.mono (by decide)) (by rfl) T.g_p_made_one T.F_p_made_one.kp T.kb_p_made_one_0 pass0 (pk_cons (pe_lst (pa_cons (pv 9) (pa_cons (pv 10) pa_nil))) pk_nil)) (pe_call (ok_p_made_one T) (hr.mono (by decide)) (by rfl) T.g_p_made_one T.F_p_made_one.kp T.b_p_made_one .nil pass0 (pa_cons (pe_lst (pa_cons (pv 9) (pa_cons (pv 10) pa_nil))) pa_nil)) (nomark _))
      (pss_one (ps_ret pe_bl)) pss_nil))))))))))
      (pss_one (ps_ret pe_bl))), ?_⟩
    have hlen : (ns.map V.int).length = ns.length := List.length_map _
    tm_at "rv"
    rename_i m1 _ _ _ m2 _ _ _
    refine for_range (lo := 0) (n := m2.toNat) (fun i σ H' => (∃ x1 x2 x3 x4 x5 x6 x7 x8 x9 x10, σ = [some (.ref a), x1, x2, x3, x4, x5, x6, x7, x8, x9, x10]) ∧ Sw T.nm H H') ⟨⟨_, _, _, _, _, _, _, _, _, _, rfl⟩, .refl⟩ ?_ ?_
    · rintro i σ Hi hi ⟨⟨x1, x2, x3, x4, x5, x6, x7, x8, x9, x10, rfl⟩, wi⟩
      tm_at "rv"
      refine use_box (wi.seq hS) (by omega) fun b H2 s2 n2 b2 => ?_
      tm_at "rv"
      refine use_take b2 (by decide) (cdiv_s (by decide) (by decide)) fun d3 H3 c3 b3 l3 u3 => ?_
      tm_at "rv"
      refine use_take b3 (by decide) (cdiv_s (by decide) (by decide)) fun d4 H4 c4 b4 l4 u4 => ?_
      tm_at "rv"
      refine use_take b4 (by decide) (cdiv_s (by decide) (by decide)) fun d5 H5 c5 b5 l5 u5 => ?_
      tm_at "rv"
      refine use_take b5 (by decide) (cdiv_s (by decide) (by decide)) fun d6 H6 c6 b6 l6 u6 => ?_
      tm_at "rv"
      refine use_take b6 (by decide) (cdiv_s (by decide) (by decide)) fun d7 H7 c7 b7 l7 u7 => ?_
      tm_at "rv"
      rename_i p8 n8
      have s8 := sm_upd (o := .lst [V.str (Str.ofString "same"), V.str (Str.ofString "under")]) n8
      have e8 := upd_same (H := H7) (a := p8) (o := .lst [V.str (Str.ofString "same"), V.str (Str.ofString "under")])
      have b8 := b7.sm s8
      have hpb : p8 ≠ b := ne_fr' b7 n8
      generalize upd H7 p8 (.lst [V.str (Str.ofString "same"), V.str (Str.ofString "under")]) = H8 at s8 e8 b8 ⊢
      refine use_take b8 (by decide) (cdiv_s (by decide) (by decide)) fun d9 H9 c9 b9 l9 u9 => ?_
      refine r_ixLz (ns := [Str.ofString "same", Str.ofString "under"]) (SqL.of (c9.to _ _ hpb e8)) (by rfl) l9 u9 fun z hz => ?_
      have hz : z = Str.ofString "same" ∨ z = Str.ofString "under" := by simpa using hz
      have w9 : Sw T.nm H H9 := wi.trans (Chg.sm s2 n2 (((((c3.trans c4).trans c5).trans c6).trans c7).trans (s8.chg.trans c9))).sw
      tm_at "rv"
      refine use_figures_right l3 (by omega) (by omega) (by omega) l5 (by omega) fun H10 s10 => ?_
      tm_at "rv"
      refine use_bits_right l6 (by omega) l7 (by omega) fun H11 s11 => ?_
      tm_at "rv"
      refine use_choosing_right l6 (by omega) l7 (by omega) fun H12 s12 => ?_
      tm_at "rv"
      have w12 := w9.trans ((s10.trans s11).trans s12).sw
      refine use_looking_right (w12.tq _ hT) (w12.tq _ hT2) hz l6 (by omega) l7 (by omega) fun H13 w13 => ?_
      have w03 := w12.trans w13
      tm_at "rv"
      rename_i q1 k1 q2 k2
      have sA := sm_upd (o := .tup [V.str (Str.ofString "num"), V.int d6]) k1
      have eA := upd_same (H := H13) (a := q1) (o := .tup [V.str (Str.ofString "num"), V.int d6])
      generalize upd H13 q1 (.tup [V.str (Str.ofString "num"), V.int d6]) = HA at sA eA k2 ⊢
      have sB := sm_upd (o := .tup [V.str (Str.ofString "name"), V.str (Str.ofString "a")]) k2
      have eB := upd_same (H := HA) (a := q2) (o := .tup [V.str (Str.ofString "name"), V.str (Str.ofString "a")])
      generalize upd HA q2 (.tup [V.str (Str.ofString "name"), V.str (Str.ofString "a")]) = HB at sB eB ⊢
      intro m dm nm ndm _
      refine say_use nm ndm (.inl rfl) (l := .num d6) (r := .name (Str.ofString "a")) ⟨q1, rfl, sB.to _ _ eA⟩ ⟨q2, rfl, eB⟩ fun HC sC hM => ?_
      tm_at "rv"
      rename_i q3 k3 q4 k4
      have sD := sm_upd (o := .tup [V.str (Str.ofString "name"), V.str (Str.ofString "b")]) k3
      have eD := upd_same (H := HC) (a := q3) (o := .tup [V.str (Str.ofString "name"), V.str (Str.ofString "b")])
      generalize upd HC q3 (.tup [V.str (Str.ofString "name"), V.str (Str.ofString "b")]) = HD at sD eD k4 ⊢
      have sF := sm_upd (o := .tup [V.str (Str.ofString "num"), V.int d7]) k4
      have eF := upd_same (H := HD) (a := q4) (o := .tup [V.str (Str.ofString "num"), V.int d7])
      generalize upd HD q4 (.tup [V.str (Str.ofString "num"), V.int d7]) = HF at sF eF ⊢
      intro m' dm' nm' ndm' _
      refine say_use nm' ndm' (.inl rfl) (l := .name (Str.ofString "b")) (r := .num d7) ⟨q3, rfl, sF.to _ _ eD⟩ ⟨q4, rfl, eF⟩ fun HG sG hW => ?_
      have hM := hM.sm ((sD.trans sF).trans sG)
      have w0G := w03.trans ((((((sA.trans sB).trans sC).trans sD).trans sF).trans sG).sw)
      clear eA eB eD eF
      tm_at "rv"
      refine use_either (p := (.num d6, .name (Str.ofString "a"))) (q := (.name (Str.ofString "b"), .num d7)) hM hW fun f1 HH sH hF1 => ?_
      tm_at "rv"
      refine use_either (p := (.num d6, .name (Str.ofString "a"))) (q := (.name (Str.ofString "b"), .num d7)) (hM.sm sH) (hW.sm sH) fun f2 HI sI hF2 => ?_
      refine r_neSay (hF1.sm sI) hF2 ⟨Nat.le_of_ble_eq_true rfl, Nat.le_of_ble_eq_true rfl⟩ fun HJ sJ => ?_
      rw [decide_eq_true ⟨rfl, rfl, rfl⟩]
      have s1J := (sH.trans sI).trans sJ
      tm_at "rv"
      rename_i g1 kg1
      have sK := sm_upd (o := .lst [V.ref m, V.ref m']) kg1
      have eK := upd_same (H := HJ) (a := g1) (o := .lst [V.ref m, V.ref m'])
      generalize upd HJ g1 (.lst [V.ref m, V.ref m']) = HK at sK eK ⊢
      have s1K := s1J.trans sK
      refine use_made_one (.inl (SqL.of eK)) (ps := [(.num d6, .name (Str.ofString "a")), (.name (Str.ofString "b"), .num d7)]) ⟨⟨m, rfl, hM.sm s1K⟩, ⟨m', rfl, hW.sm s1K⟩, trivial⟩ (by show 2 ≤ 999; decide) fun f3 HL sL hF3 => ?_
      tm_at "rv"
      rename_i g2 kg2
      have sN := sm_upd (o := .lst [V.ref m, V.ref m']) kg2
      have eN := upd_same (H := HL) (a := g2) (o := .lst [V.ref m, V.ref m'])
      generalize upd HL g2 (.lst [V.ref m, V.ref m']) = HN at sN eN ⊢
      have s1N := (s1K.trans sL).trans sN
      refine use_made_one (.inl (SqL.of eN)) (ps := [(.num d6, .name (Str.ofString "a")), (.name (Str.ofString "b"), .num d7)]) ⟨⟨m, rfl, hM.sm s1N⟩, ⟨m', rfl, hW.sm s1N⟩, trivial⟩ (by show 2 ≤ 999; decide) fun f4 HO4 sO hF4 => ?_
      refine r_neSay (hF3.sm (sN.trans sO)) hF4 ⟨Nat.le_of_ble_eq_true rfl, Nat.le_of_ble_eq_true rfl⟩ fun HP sP => ?_
      rw [decide_eq_true ⟨rfl, rfl, rfl⟩]
      tm_at "rv"
      exact ⟨⟨_, _, _, _, _, _, _, _, _, _, rfl⟩, w0G.trans ((s1N.trans sO).trans sP).sw⟩
    · rintro σ Hi ⟨⟨x1, x2, x3, x4, x5, x6, x7, x8, x9, x10, rfl⟩, wi⟩
      tm_at "rv"
      exact k _
end
theorem all_mk {l : PySem.W.OpenLaw} {w : World} {K : PySem.W.Frag} {h : Heap} {mg : Str → Option Value} {fa : Addr} (X : K.In h) (G : h.Ns mainGlobals mg) (hfa : mg "law" = some (.ref fa))
    {C_Saying : Addr}
    {f0 : Addr}
    {od0 an0 : Option Addr}
    {sl0 : Array (Option Value)}
    {oc0 kV0 dc0 pm0 cd0 ct0 : Value}
    {f1 : Addr}
    {od1 an1 : Option Addr}
    {sl1 : Array (Option Value)}
    {oc1 kV1 dc1 pm1 cd1 ct1 : Value}
    {f2 : Addr}
    {od2 an2 : Option Addr}
    {sl2 : Array (Option Value)}
    {oc2 kV2 dc2 pm2 cd2 ct2 : Value}
    {f3 : Addr}
    {od3 an3 : Option Addr}
    {sl3 : Array (Option Value)}
    {oc3 kV3 dc3 pm3 cd3 ct3 : Value}
    {f4 : Addr}
    {od4 an4 : Option Addr}
    {sl4 : Array (Option Value)}
    {oc4 kV4 dc4 pm4 cd4 ct4 : Value}
    {f5 : Addr}
    {od5 an5 : Option Addr}
    {sl5 : Array (Option Value)}
    {oc5 kV5 dc5 pm5 cd5 ct5 : Value}
    {f6 : Addr}
    {od6 an6 : Option Addr}
    {sl6 : Array (Option Value)}
    {oc6 kV6 dc6 pm6 cd6 ct6 : Value}
    {f7 : Addr}
    {od7 an7 : Option Addr}
    {sl7 : Array (Option Value)}
    {oc7 kV7 dc7 pm7 cd7 ct7 : Value}
    {f8 : Addr}
    {od8 an8 : Option Addr}
    {sl8 : Array (Option Value)}
    {oc8 kV8 dc8 pm8 cd8 ct8 : Value}
    {f9 : Addr}
    {od9 an9 : Option Addr}
    {sl9 : Array (Option Value)}
    {oc9 kV9 dc9 pm9 cd9 ct9 : Value}
    {f10 : Addr}
    {od10 an10 : Option Addr}
    {sl10 : Array (Option Value)}
    {oc10 kV10 dc10 pm10 cd10 ct10 : Value}
    {f11 : Addr}
    {od11 an11 : Option Addr}
    {sl11 : Array (Option Value)}
    {oc11 kV11 dc11 pm11 cd11 ct11 : Value}
    {f12 : Addr}
    {od12 an12 : Option Addr}
    {sl12 : Array (Option Value)}
    {oc12 kV12 dc12 pm12 cd12 ct12 : Value}
    {f13 : Addr}
    {od13 an13 : Option Addr}
    {sl13 : Array (Option Value)}
    {oc13 kV13 dc13 pm13 cd13 ct13 : Value}
    {f14 : Addr}
    {od14 an14 : Option Addr}
    {sl14 : Array (Option Value)}
    {oc14 kV14 dc14 pm14 cd14 ct14 : Value}
    {f15 : Addr}
    {od15 an15 : Option Addr}
    {sl15 : Array (Option Value)}
    {oc15 kV15 dc15 pm15 cd15 ct15 : Value}
    {f16 : Addr}
    {od16 an16 : Option Addr}
    {sl16 : Array (Option Value)}
    {oc16 kV16 dc16 pm16 cd16 ct16 : Value}
    {f17 : Addr}
    {od17 an17 : Option Addr}
    {sl17 : Array (Option Value)}
    {oc17 kV17 dc17 pm17 cd17 ct17 : Value}
    {f18 : Addr}
    {od18 an18 : Option Addr}
    {sl18 : Array (Option Value)}
    {oc18 kV18 dc18 pm18 cd18 ct18 : Value}
    {f19 : Addr}
    {od19 an19 : Option Addr}
    {sl19 : Array (Option Value)}
    {oc19 kV19 dc19 pm19 cd19 ct19 : Value}
    {f20 : Addr}
    {od20 an20 : Option Addr}
    {sl20 : Array (Option Value)}
    {oc20 kV20 dc20 pm20 cd20 ct20 : Value}
    {f21 : Addr}
    {od21 an21 : Option Addr}
    {sl21 : Array (Option Value)}
    {oc21 kV21 dc21 pm21 cd21 ct21 : Value}
    {f22 : Addr}
    {od22 an22 : Option Addr}
    {sl22 : Array (Option Value)}
    {oc22 kV22 dc22 pm22 cd22 ct22 : Value}
    {f23 : Addr}
    {od23 an23 : Option Addr}
    {sl23 : Array (Option Value)}
    {oc23 kV23 dc23 pm23 cd23 ct23 : Value}
    {f24 : Addr}
    {od24 an24 : Option Addr}
    {sl24 : Array (Option Value)}
    {oc24 kV24 dc24 pm24 cd24 ct24 : Value}
    {f25 : Addr}
    {od25 an25 : Option Addr}
    {sl25 : Array (Option Value)}
    {oc25 kV25 dc25 pm25 cd25 ct25 : Value}
    {f26 : Addr}
    {od26 an26 : Option Addr}
    {sl26 : Array (Option Value)}
    {oc26 kV26 dc26 pm26 cd26 ct26 : Value}
    {f27 : Addr}
    {od27 an27 : Option Addr}
    {sl27 : Array (Option Value)}
    {oc27 kV27 dc27 pm27 cd27 ct27 : Value}
    {f28 : Addr}
    {od28 an28 : Option Addr}
    {sl28 : Array (Option Value)}
    {oc28 kV28 dc28 pm28 cd28 ct28 : Value}
    {f29 : Addr}
    {od29 an29 : Option Addr}
    {sl29 : Array (Option Value)}
    {oc29 kV29 dc29 pm29 cd29 ct29 : Value}
    {f30 : Addr}
    {od30 an30 : Option Addr}
    {sl30 : Array (Option Value)}
    {oc30 kV30 dc30 pm30 cd30 ct30 : Value}
    {f31 : Addr}
    {od31 an31 : Option Addr}
    {sl31 : Array (Option Value)}
    {oc31 kV31 dc31 pm31 cd31 ct31 : Value}
    {f32 : Addr}
    {od32 an32 : Option Addr}
    {sl32 : Array (Option Value)}
    {oc32 kV32 dc32 pm32 cd32 ct32 : Value}
    {f33 : Addr}
    {od33 an33 : Option Addr}
    {sl33 : Array (Option Value)}
    {oc33 kV33 dc33 pm33 cd33 ct33 : Value}
    {f34 : Addr}
    {od34 an34 : Option Addr}
    {sl34 : Array (Option Value)}
    {oc34 kV34 dc34 pm34 cd34 ct34 : Value}
    {f35 : Addr}
    {od35 an35 : Option Addr}
    {sl35 : Array (Option Value)}
    {oc35 kV35 dc35 pm35 ct35 : Value}
    {cc35 tt35 : Addr}
    {te35 : Value}
    {to35 : Option Addr}
    {tv35 : Array Value}
    {tz35 : Array (Option Value)}
    {f36 : Addr}
    {od36 an36 : Option Addr}
    {sl36 : Array (Option Value)}
    {oc36 kV36 dc36 pm36 cd36 ct36 : Value}
    {f37 : Addr}
    {od37 an37 : Option Addr}
    {sl37 : Array (Option Value)}
    {oc37 kV37 dc37 pm37 cd37 ct37 : Value}
    {f38 : Addr}
    {od38 an38 : Option Addr}
    {sl38 : Array (Option Value)}
    {oc38 kV38 dc38 pm38 cd38 ct38 : Value}
    {f39 : Addr}
    {od39 an39 : Option Addr}
    {sl39 : Array (Option Value)}
    {oc39 kV39 dc39 pm39 cd39 ct39 : Value}
    {f40 : Addr}
    {od40 an40 : Option Addr}
    {sl40 : Array (Option Value)}
    {oc40 kV40 dc40 pm40 cd40 ct40 : Value}
    {f41 : Addr}
    {od41 an41 : Option Addr}
    {sl41 : Array (Option Value)}
    {oc41 kV41 dc41 pm41 cd41 ct41 : Value}
    {f42 : Addr}
    {od42 an42 : Option Addr}
    {sl42 : Array (Option Value)}
    {oc42 kV42 dc42 pm42 cd42 ct42 : Value}
    {f43 : Addr}
    {od43 an43 : Option Addr}
    {sl43 : Array (Option Value)}
    {oc43 kV43 dc43 pm43 cd43 ct43 : Value}
    {f44 : Addr}
    {od44 an44 : Option Addr}
    {sl44 : Array (Option Value)}
    {oc44 kV44 dc44 pm44 cd44 ct44 : Value}
    {f45 : Addr}
    {od45 an45 : Option Addr}
    {sl45 : Array (Option Value)}
    {oc45 kV45 dc45 pm45 cd45 ct45 : Value}
    {f46 : Addr}
    {od46 an46 : Option Addr}
    {sl46 : Array (Option Value)}
    {oc46 kV46 dc46 pm46 cd46 ct46 : Value}
    {f47 : Addr}
    {od47 an47 : Option Addr}
    {sl47 : Array (Option Value)}
    {oc47 kV47 dc47 pm47 ct47 : Value}
    {cc47 tt47 : Addr}
    {te47 : Value}
    {to47 : Option Addr}
    {tv47 : Array Value}
    {tz47 : Array (Option Value)}
    {f48 : Addr}
    {od48 an48 : Option Addr}
    {sl48 : Array (Option Value)}
    {oc48 kV48 dc48 pm48 cd48 ct48 : Value}
    {f49 : Addr}
    {od49 an49 : Option Addr}
    {sl49 : Array (Option Value)}
    {oc49 kV49 dc49 pm49 cd49 ct49 : Value}
    {f50 : Addr}
    {od50 an50 : Option Addr}
    {sl50 : Array (Option Value)}
    {oc50 kV50 dc50 pm50 cd50 ct50 : Value}
    {f51 : Addr}
    {od51 an51 : Option Addr}
    {sl51 : Array (Option Value)}
    {oc51 kV51 dc51 pm51 cd51 ct51 : Value}
    {f52 : Addr}
    {od52 an52 : Option Addr}
    {sl52 : Array (Option Value)}
    {oc52 kV52 dc52 pm52 cd52 ct52 : Value}
    {f53 : Addr}
    {od53 an53 : Option Addr}
    {sl53 : Array (Option Value)}
    {oc53 kV53 dc53 pm53 cd53 ct53 : Value}
    {f54 : Addr}
    {od54 an54 : Option Addr}
    {sl54 : Array (Option Value)}
    {oc54 kV54 dc54 pm54 cd54 ct54 : Value}
    {w_MARKS : Addr}
    {we_MARKS : Array DictEntry}
    {wn_MARKS : Nat}
    {wv_MARKS_0 : Value}
    {wv_MARKS_1 : Value}
    {tk0 : Tok}
    {tk1 : Tok}
    {tk2 : Tok}
    (aC_Saying : PySem.W.nsIn K mainGlobals "Saying" = some (some (.ref C_Saying)))
    (a0 : PySem.W.nsIn K mainGlobals "terms_in" = some (some (.ref f0)))
    (l0 : K.lookup f0 = some ⟨oc0, od0, .func (PySem.W.fnOf "terms_in" "terms_in" (defArgs s_p_terms_in) (defBody s_p_terms_in) (defScope s_p_terms_in) .none kV0 dc0 pm0 an0 cd0 ct0), sl0⟩)
    (c0 : PySem.W.codeIn K cd0 "terms_in" = true)
    (k0 : PySem.W.keepIn K (.ref f0) = true)
    (a1 : PySem.W.nsIn K mainGlobals "_is_same_term" = some (some (.ref f1)))
    (l1 : K.lookup f1 = some ⟨oc1, od1, .func (PySem.W.fnOf "_is_same_term" "_is_same_term" (defArgs s_p_is_same_term) (defBody s_p_is_same_term) (defScope s_p_is_same_term) .none kV1 dc1 pm1 an1 cd1 ct1), sl1⟩)
    (c1 : PySem.W.codeIn K cd1 "_is_same_term" = true)
    (k1 : PySem.W.keepIn K (.ref f1) = true)
    (a2 : PySem.W.findIn K (.ref C_Saying) "__eq__" = some (some (.ref f2)))
    (i2 : PySem.W.isFn K (.ref f2) = true)
    (l2 : K.lookup f2 = some ⟨oc2, od2, .func (PySem.W.fnOf "__eq__" "Saying.__eq__" (defArgs s_Saying_eq) (defBody s_Saying_eq) (defScope s_Saying_eq) .none kV2 dc2 pm2 an2 cd2 ct2), sl2⟩)
    (c2 : PySem.W.codeIn K cd2 "Saying.__eq__" = true)
    (k2 : PySem.W.keepIn K (.ref f2) = true)
    (a3 : PySem.W.nsIn K mainGlobals "_law_box" = some (some (.ref f3)))
    (l3 : K.lookup f3 = some ⟨oc3, od3, .func (PySem.W.fnOf "_law_box" "_law_box" (defArgs s_box) (defBody s_box) (defScope s_box) .none kV3 dc3 pm3 an3 cd3 ct3), sl3⟩)
    (c3 : PySem.W.codeIn K cd3 "_law_box" = true)
    (k3 : PySem.W.keepIn K (.ref f3) = true)
    (a4 : PySem.W.findIn K (.ref C_Saying) "__init__" = some (some (.ref f4)))
    (i4 : PySem.W.isFn K (.ref f4) = true)
    (l4 : K.lookup f4 = some ⟨oc4, od4, .func (PySem.W.fnOf "__init__" "Saying.__init__" (defArgs s_Saying_init) (defBody s_Saying_init) (defScope s_Saying_init) .none kV4 dc4 pm4 an4 cd4 ct4), sl4⟩)
    (c4 : PySem.W.codeIn K cd4 "Saying.__init__" = true)
    (k4 : PySem.W.keepIn K (.ref f4) = true)
    (a5 : PySem.W.nsIn K mainGlobals "_law_take" = some (some (.ref f5)))
    (l5 : K.lookup f5 = some ⟨oc5, od5, .func (PySem.W.fnOf "_law_take" "_law_take" (defArgs s_take) (defBody s_take) (defScope s_take) .none kV5 dc5 pm5 an5 cd5 ct5), sl5⟩)
    (c5 : PySem.W.codeIn K cd5 "_law_take" = true)
    (k5 : PySem.W.keepIn K (.ref f5) = true)
    (a6 : PySem.W.nsIn K mainGlobals "_check_words" = some (some (.ref f6)))
    (l6 : K.lookup f6 = some ⟨oc6, od6, .func (PySem.W.fnOf "_check_words" "_check_words" (defArgs s_p_check_words) (defBody s_p_check_words) (defScope s_p_check_words) .none kV6 dc6 pm6 an6 cd6 ct6), sl6⟩)
    (c6 : PySem.W.codeIn K cd6 "_check_words" = true)
    (k6 : PySem.W.keepIn K (.ref f6) = true)
    (a7 : PySem.W.nsIn K mainGlobals "same" = some (some (.ref f7)))
    (l7 : K.lookup f7 = some ⟨oc7, od7, .func (PySem.W.fnOf "same" "same" (defArgs s_p_same) (defBody s_p_same) (defScope s_p_same) .none kV7 dc7 pm7 an7 cd7 ct7), sl7⟩)
    (c7 : PySem.W.codeIn K cd7 "same" = true)
    (k7 : PySem.W.keepIn K (.ref f7) = true)
    (a8 : PySem.W.nsIn K mainGlobals "plus" = some (some (.ref f8)))
    (l8 : K.lookup f8 = some ⟨oc8, od8, .func (PySem.W.fnOf "plus" "plus" (defArgs s_p_plus) (defBody s_p_plus) (defScope s_p_plus) .none kV8 dc8 pm8 an8 cd8 ct8), sl8⟩)
    (c8 : PySem.W.codeIn K cd8 "plus" = true)
    (k8 : PySem.W.keepIn K (.ref f8) = true)
    (a9 : PySem.W.nsIn K mainGlobals "times" = some (some (.ref f9)))
    (l9 : K.lookup f9 = some ⟨oc9, od9, .func (PySem.W.fnOf "times" "times" (defArgs s_p_times) (defBody s_p_times) (defScope s_p_times) .none kV9 dc9 pm9 an9 cd9 ct9), sl9⟩)
    (c9 : PySem.W.codeIn K cd9 "times" = true)
    (k9 : PySem.W.keepIn K (.ref f9) = true)
    (a10 : PySem.W.nsIn K mainGlobals "either" = some (some (.ref f10)))
    (l10 : K.lookup f10 = some ⟨oc10, od10, .func (PySem.W.fnOf "either" "either" (defArgs s_p_either) (defBody s_p_either) (defScope s_p_either) .none kV10 dc10 pm10 an10 cd10 ct10), sl10⟩)
    (c10 : PySem.W.codeIn K cd10 "either" = true)
    (k10 : PySem.W.keepIn K (.ref f10) = true)
    (a11 : PySem.W.nsIn K mainGlobals "sum_of" = some (some (.ref f11)))
    (l11 : K.lookup f11 = some ⟨oc11, od11, .func (PySem.W.fnOf "sum_of" "sum_of" (defArgs s_p_sum_of) (defBody s_p_sum_of) (defScope s_p_sum_of) .none kV11 dc11 pm11 an11 cd11 ct11), sl11⟩)
    (c11 : PySem.W.codeIn K cd11 "sum_of" = true)
    (k11 : PySem.W.keepIn K (.ref f11) = true)
    (a12 : PySem.W.nsIn K mainGlobals "num" = some (some (.ref f12)))
    (l12 : K.lookup f12 = some ⟨oc12, od12, .func (PySem.W.fnOf "num" "num" (defArgs s_p_num) (defBody s_p_num) (defScope s_p_num) .none kV12 dc12 pm12 an12 cd12 ct12), sl12⟩)
    (c12 : PySem.W.codeIn K cd12 "num" = true)
    (k12 : PySem.W.keepIn K (.ref f12) = true)
    (a13 : PySem.W.nsIn K mainGlobals "made_one" = some (some (.ref f13)))
    (l13 : K.lookup f13 = some ⟨oc13, od13, .func (PySem.W.fnOf "made_one" "made_one" (defArgs s_p_made_one) (defBody s_p_made_one) (defScope s_p_made_one) .none kV13 dc13 pm13 an13 cd13 ct13), sl13⟩)
    (c13 : PySem.W.codeIn K cd13 "made_one" = true)
    (k13 : PySem.W.keepIn K (.ref f13) = true)
    (a14 : PySem.W.nsIn K mainGlobals "figure" = some (some (.ref f14)))
    (l14 : K.lookup f14 = some ⟨oc14, od14, .func (PySem.W.fnOf "figure" "figure" (defArgs s_p_figure) (defBody s_p_figure) (defScope s_p_figure) .none kV14 dc14 pm14 an14 cd14 ct14), sl14⟩)
    (c14 : PySem.W.codeIn K cd14 "figure" = true)
    (k14 : PySem.W.keepIn K (.ref f14) = true)
    (a15 : PySem.W.nsIn K mainGlobals "of_figures" = some (some (.ref f15)))
    (l15 : K.lookup f15 = some ⟨oc15, od15, .func (PySem.W.fnOf "of_figures" "of_figures" (defArgs s_p_of_figures) (defBody s_p_of_figures) (defScope s_p_of_figures) .none kV15 dc15 pm15 an15 cd15 ct15), sl15⟩)
    (c15 : PySem.W.codeIn K cd15 "of_figures" = true)
    (k15 : PySem.W.keepIn K (.ref f15) = true)
    (a16 : PySem.W.nsIn K mainGlobals "ones" = some (some (.ref f16)))
    (l16 : K.lookup f16 = some ⟨oc16, od16, .func (PySem.W.fnOf "ones" "ones" (defArgs s_p_ones) (defBody s_p_ones) (defScope s_p_ones) .none kV16 dc16 pm16 an16 cd16 ct16), sl16⟩)
    (c16 : PySem.W.codeIn K cd16 "ones" = true)
    (k16 : PySem.W.keepIn K (.ref f16) = true)
    (a17 : PySem.W.nsIn K mainGlobals "figures" = some (some (.ref f17)))
    (l17 : K.lookup f17 = some ⟨oc17, od17, .func (PySem.W.fnOf "figures" "figures" (defArgs s_p_figures) (defBody s_p_figures) (defScope s_p_figures) .none kV17 dc17 pm17 an17 cd17 ct17), sl17⟩)
    (c17 : PySem.W.codeIn K cd17 "figures" = true)
    (k17 : PySem.W.keepIn K (.ref f17) = true)
    (a18 : PySem.W.nsIn K mainGlobals "_law_figures_right" = some (some (.ref f18)))
    (l18 : K.lookup f18 = some ⟨oc18, od18, .func (PySem.W.fnOf "_law_figures_right" "_law_figures_right" (defArgs s_figures_right) (defBody s_figures_right) (defScope s_figures_right) .none kV18 dc18 pm18 an18 cd18 ct18), sl18⟩)
    (c18 : PySem.W.codeIn K cd18 "_law_figures_right" = true)
    (k18 : PySem.W.keepIn K (.ref f18) = true)
    (a19 : PySem.W.nsIn K mainGlobals "bits_of" = some (some (.ref f19)))
    (l19 : K.lookup f19 = some ⟨oc19, od19, .func (PySem.W.fnOf "bits_of" "bits_of" (defArgs s_p_bits_of) (defBody s_p_bits_of) (defScope s_p_bits_of) .none kV19 dc19 pm19 an19 cd19 ct19), sl19⟩)
    (c19 : PySem.W.codeIn K cd19 "bits_of" = true)
    (k19 : PySem.W.keepIn K (.ref f19) = true)
    (a20 : PySem.W.nsIn K mainGlobals "stands_out" = some (some (.ref f20)))
    (l20 : K.lookup f20 = some ⟨oc20, od20, .func (PySem.W.fnOf "stands_out" "stands_out" (defArgs s_p_stands_out) (defBody s_p_stands_out) (defScope s_p_stands_out) .none kV20 dc20 pm20 an20 cd20 ct20), sl20⟩)
    (c20 : PySem.W.codeIn K cd20 "stands_out" = true)
    (k20 : PySem.W.keepIn K (.ref f20) = true)
    (a21 : PySem.W.nsIn K mainGlobals "fits" = some (some (.ref f21)))
    (l21 : K.lookup f21 = some ⟨oc21, od21, .func (PySem.W.fnOf "fits" "fits" (defArgs s_p_fits) (defBody s_p_fits) (defScope s_p_fits) .none kV21 dc21 pm21 an21 cd21 ct21), sl21⟩)
    (c21 : PySem.W.codeIn K cd21 "fits" = true)
    (k21 : PySem.W.keepIn K (.ref f21) = true)
    (a22 : PySem.W.nsIn K mainGlobals "of_bits" = some (some (.ref f22)))
    (l22 : K.lookup f22 = some ⟨oc22, od22, .func (PySem.W.fnOf "of_bits" "of_bits" (defArgs s_p_of_bits) (defBody s_p_of_bits) (defScope s_p_of_bits) .none kV22 dc22 pm22 an22 cd22 ct22), sl22⟩)
    (c22 : PySem.W.codeIn K cd22 "of_bits" = true)
    (k22 : PySem.W.keepIn K (.ref f22) = true)
    (a23 : PySem.W.nsIn K mainGlobals "how_many" = some (some (.ref f23)))
    (l23 : K.lookup f23 = some ⟨oc23, od23, .func (PySem.W.fnOf "how_many" "how_many" (defArgs s_p_how_many) (defBody s_p_how_many) (defScope s_p_how_many) .none kV23 dc23 pm23 an23 cd23 ct23), sl23⟩)
    (c23 : PySem.W.codeIn K cd23 "how_many" = true)
    (k23 : PySem.W.keepIn K (.ref f23) = true)
    (a24 : PySem.W.nsIn K mainGlobals "_law_bits_right" = some (some (.ref f24)))
    (l24 : K.lookup f24 = some ⟨oc24, od24, .func (PySem.W.fnOf "_law_bits_right" "_law_bits_right" (defArgs s_bits_right) (defBody s_bits_right) (defScope s_bits_right) .none kV24 dc24 pm24 an24 cd24 ct24), sl24⟩)
    (c24 : PySem.W.codeIn K cd24 "_law_bits_right" = true)
    (k24 : PySem.W.keepIn K (.ref f24) = true)
    (a25 : PySem.W.nsIn K mainGlobals "choose" = some (some (.ref f25)))
    (l25 : K.lookup f25 = some ⟨oc25, od25, .func (PySem.W.fnOf "choose" "choose" (defArgs s_p_choose) (defBody s_p_choose) (defScope s_p_choose) .none kV25 dc25 pm25 an25 cd25 ct25), sl25⟩)
    (c25 : PySem.W.codeIn K cd25 "choose" = true)
    (k25 : PySem.W.keepIn K (.ref f25) = true)
    (a26 : PySem.W.nsIn K mainGlobals "halvings" = some (some (.ref f26)))
    (l26 : K.lookup f26 = some ⟨oc26, od26, .func (PySem.W.fnOf "halvings" "halvings" (defArgs s_p_halvings) (defBody s_p_halvings) (defScope s_p_halvings) .none kV26 dc26 pm26 an26 cd26 ct26), sl26⟩)
    (c26 : PySem.W.codeIn K cd26 "halvings" = true)
    (k26 : PySem.W.keepIn K (.ref f26) = true)
    (a27 : PySem.W.nsIn K mainGlobals "carries" = some (some (.ref f27)))
    (l27 : K.lookup f27 = some ⟨oc27, od27, .func (PySem.W.fnOf "carries" "carries" (defArgs s_p_carries) (defBody s_p_carries) (defScope s_p_carries) .none kV27 dc27 pm27 an27 cd27 ct27), sl27⟩)
    (c27 : PySem.W.codeIn K cd27 "carries" = true)
    (k27 : PySem.W.keepIn K (.ref f27) = true)
    (a28 : PySem.W.nsIn K mainGlobals "is_odd" = some (some (.ref f28)))
    (l28 : K.lookup f28 = some ⟨oc28, od28, .func (PySem.W.fnOf "is_odd" "is_odd" (defArgs s_p_is_odd) (defBody s_p_is_odd) (defScope s_p_is_odd) .none kV28 dc28 pm28 an28 cd28 ct28), sl28⟩)
    (c28 : PySem.W.codeIn K cd28 "is_odd" = true)
    (k28 : PySem.W.keepIn K (.ref f28) = true)
    (a29 : PySem.W.nsIn K mainGlobals "figure_of_power" = some (some (.ref f29)))
    (l29 : K.lookup f29 = some ⟨oc29, od29, .func (PySem.W.fnOf "figure_of_power" "figure_of_power" (defArgs s_p_figure_of_power) (defBody s_p_figure_of_power) (defScope s_p_figure_of_power) .none kV29 dc29 pm29 an29 cd29 ct29), sl29⟩)
    (c29 : PySem.W.codeIn K cd29 "figure_of_power" = true)
    (k29 : PySem.W.keepIn K (.ref f29) = true)
    (a30 : PySem.W.nsIn K mainGlobals "_law_choosing_right" = some (some (.ref f30)))
    (l30 : K.lookup f30 = some ⟨oc30, od30, .func (PySem.W.fnOf "_law_choosing_right" "_law_choosing_right" (defArgs s_choosing_right) (defBody s_choosing_right) (defScope s_choosing_right) .none kV30 dc30 pm30 an30 cd30 ct30), sl30⟩)
    (c30 : PySem.W.codeIn K cd30 "_law_choosing_right" = true)
    (k30 : PySem.W.keepIn K (.ref f30) = true)
    (a31 : PySem.W.nsIn K mainGlobals "folded" = some (some (.ref f31)))
    (l31 : K.lookup f31 = some ⟨oc31, od31, .func (PySem.W.fnOf "folded" "folded" (defArgs s_p_folded) (defBody s_p_folded) (defScope s_p_folded) .none kV31 dc31 pm31 an31 cd31 ct31), sl31⟩)
    (c31 : PySem.W.codeIn K cd31 "folded" = true)
    (k31 : PySem.W.keepIn K (.ref f31) = true)
    (a32 : PySem.W.nsIn K mainGlobals "_term_of" = some (some (.ref f32)))
    (l32 : K.lookup f32 = some ⟨oc32, od32, .func (PySem.W.fnOf "_term_of" "_term_of" (defArgs s_p_term_of) (defBody s_p_term_of) (defScope s_p_term_of) .none kV32 dc32 pm32 an32 cd32 ct32), sl32⟩)
    (c32 : PySem.W.codeIn K cd32 "_term_of" = true)
    (k32 : PySem.W.keepIn K (.ref f32) = true)
    (a33 : PySem.W.nsIn K mainGlobals "named" = some (some (.ref f33)))
    (l33 : K.lookup f33 = some ⟨oc33, od33, .func (PySem.W.fnOf "named" "named" (defArgs s_p_named) (defBody s_p_named) (defScope s_p_named) .none kV33 dc33 pm33 an33 cd33 ct33), sl33⟩)
    (c33 : PySem.W.codeIn K cd33 "named" = true)
    (k33 : PySem.W.keepIn K (.ref f33) = true)
    (a34 : PySem.W.nsIn K mainGlobals "_renamed_lone" = some (some (.ref f34)))
    (l34 : K.lookup f34 = some ⟨oc34, od34, .func (PySem.W.fnOf "_renamed_lone" "_renamed_lone" (defArgs s_p_renamed_lone) (defBody s_p_renamed_lone) (defScope s_p_renamed_lone) .none kV34 dc34 pm34 an34 cd34 ct34), sl34⟩)
    (c34 : PySem.W.codeIn K cd34 "_renamed_lone" = true)
    (k34 : PySem.W.keepIn K (.ref f34) = true)
    (a35 : PySem.W.nsIn K mainGlobals "_renamed_term" = some (some (.ref f35)))
    (l35 : K.lookup f35 = some ⟨oc35, od35, .func (PySem.W.fnOf "_renamed_term" "_renamed_term" (defArgs s_p_renamed_term) (defBody s_p_renamed_term) (defScope s_p_renamed_term) .none kV35 dc35 pm35 an35 (.ref cc35) ct35), sl35⟩)
    (c35 : PySem.W.codeIn K (.ref cc35) "_renamed_term" = true)
    (k35 : PySem.W.keepIn K (.ref f35) = true)
    (tq35 : K.lookup cc35 = some ⟨te35, to35, .fields tv35, tz35⟩)
    (tp35 : (tv35[11]? : Option Value) = some (.ref tt35))
    (tno35 : K.lookup tt35 = none)
    (a36 : PySem.W.nsIn K mainGlobals "renamed" = some (some (.ref f36)))
    (l36 : K.lookup f36 = some ⟨oc36, od36, .func (PySem.W.fnOf "renamed" "renamed" (defArgs s_p_renamed) (defBody s_p_renamed) (defScope s_p_renamed) .none kV36 dc36 pm36 an36 cd36 ct36), sl36⟩)
    (c36 : PySem.W.codeIn K cd36 "renamed" = true)
    (k36 : PySem.W.keepIn K (.ref f36) = true)
    (a37 : PySem.W.nsIn K mainGlobals "_cut" = some (some (.ref f37)))
    (l37 : K.lookup f37 = some ⟨oc37, od37, .func (PySem.W.fnOf "_cut" "_cut" (defArgs s_p_cut) (defBody s_p_cut) (defScope s_p_cut) .none kV37 dc37 pm37 an37 cd37 ct37), sl37⟩)
    (c37 : PySem.W.codeIn K cd37 "_cut" = true)
    (k37 : PySem.W.keepIn K (.ref f37) = true)
    (a38 : PySem.W.nsIn K mainGlobals "_head" = some (some (.ref f38)))
    (l38 : K.lookup f38 = some ⟨oc38, od38, .func (PySem.W.fnOf "_head" "_head" (defArgs s_p_head) (defBody s_p_head) (defScope s_p_head) .none kV38 dc38 pm38 an38 cd38 ct38), sl38⟩)
    (c38 : PySem.W.codeIn K cd38 "_head" = true)
    (k38 : PySem.W.keepIn K (.ref f38) = true)
    (a39 : PySem.W.nsIn K mainGlobals "_check_bits" = some (some (.ref f39)))
    (l39 : K.lookup f39 = some ⟨oc39, od39, .func (PySem.W.fnOf "_check_bits" "_check_bits" (defArgs s_p_check_bits) (defBody s_p_check_bits) (defScope s_p_check_bits) .none kV39 dc39 pm39 an39 cd39 ct39), sl39⟩)
    (c39 : PySem.W.codeIn K cd39 "_check_bits" = true)
    (k39 : PySem.W.keepIn K (.ref f39) = true)
    (a40 : PySem.W.nsIn K mainGlobals "_product_of_heads" = some (some (.ref f40)))
    (l40 : K.lookup f40 = some ⟨oc40, od40, .func (PySem.W.fnOf "_product_of_heads" "_product_of_heads" (defArgs s_p_product_of_heads) (defBody s_p_product_of_heads) (defScope s_p_product_of_heads) .none kV40 dc40 pm40 an40 cd40 ct40), sl40⟩)
    (c40 : PySem.W.codeIn K cd40 "_product_of_heads" = true)
    (k40 : PySem.W.keepIn K (.ref f40) = true)
    (a41 : PySem.W.nsIn K mainGlobals "_check_power" = some (some (.ref f41)))
    (l41 : K.lookup f41 = some ⟨oc41, od41, .func (PySem.W.fnOf "_check_power" "_check_power" (defArgs s_p_check_power) (defBody s_p_check_power) (defScope s_p_check_power) .none kV41 dc41 pm41 an41 cd41 ct41), sl41⟩)
    (c41 : PySem.W.codeIn K cd41 "_check_power" = true)
    (k41 : PySem.W.keepIn K (.ref f41) = true)
    (a42 : PySem.W.nsIn K mainGlobals "bounded" = some (some (.ref f42)))
    (l42 : K.lookup f42 = some ⟨oc42, od42, .func (PySem.W.fnOf "bounded" "bounded" (defArgs s_p_bounded) (defBody s_p_bounded) (defScope s_p_bounded) .none kV42 dc42 pm42 an42 cd42 ct42), sl42⟩)
    (c42 : PySem.W.codeIn K cd42 "bounded" = true)
    (k42 : PySem.W.keepIn K (.ref f42) = true)
    (a43 : PySem.W.nsIn K mainGlobals "bounded_product" = some (some (.ref f43)))
    (l43 : K.lookup f43 = some ⟨oc43, od43, .func (PySem.W.fnOf "bounded_product" "bounded_product" (defArgs s_p_bounded_product) (defBody s_p_bounded_product) (defScope s_p_bounded_product) .none kV43 dc43 pm43 an43 cd43 ct43), sl43⟩)
    (c43 : PySem.W.codeIn K cd43 "bounded_product" = true)
    (k43 : PySem.W.keepIn K (.ref f43) = true)
    (a44 : PySem.W.nsIn K mainGlobals "bounded_power" = some (some (.ref f44)))
    (l44 : K.lookup f44 = some ⟨oc44, od44, .func (PySem.W.fnOf "bounded_power" "bounded_power" (defArgs s_p_bounded_power) (defBody s_p_bounded_power) (defScope s_p_bounded_power) .none kV44 dc44 pm44 an44 cd44 ct44), sl44⟩)
    (c44 : PySem.W.codeIn K cd44 "bounded_power" = true)
    (k44 : PySem.W.keepIn K (.ref f44) = true)
    (a45 : PySem.W.nsIn K mainGlobals "_joined" = some (some (.ref f45)))
    (l45 : K.lookup f45 = some ⟨oc45, od45, .func (PySem.W.fnOf "_joined" "_joined" (defArgs s_p_joined) (defBody s_p_joined) (defScope s_p_joined) .none kV45 dc45 pm45 an45 cd45 ct45), sl45⟩)
    (c45 : PySem.W.codeIn K cd45 "_joined" = true)
    (k45 : PySem.W.keepIn K (.ref f45) = true)
    (a46 : PySem.W.nsIn K mainGlobals "_lone_worth" = some (some (.ref f46)))
    (l46 : K.lookup f46 = some ⟨oc46, od46, .func (PySem.W.fnOf "_lone_worth" "_lone_worth" (defArgs s_p_lone_worth) (defBody s_p_lone_worth) (defScope s_p_lone_worth) .none kV46 dc46 pm46 an46 cd46 ct46), sl46⟩)
    (c46 : PySem.W.codeIn K cd46 "_lone_worth" = true)
    (k46 : PySem.W.keepIn K (.ref f46) = true)
    (a47 : PySem.W.nsIn K mainGlobals "worth" = some (some (.ref f47)))
    (l47 : K.lookup f47 = some ⟨oc47, od47, .func (PySem.W.fnOf "worth" "worth" (defArgs s_p_worth) (defBody s_p_worth) (defScope s_p_worth) .none kV47 dc47 pm47 an47 (.ref cc47) ct47), sl47⟩)
    (c47 : PySem.W.codeIn K (.ref cc47) "worth" = true)
    (k47 : PySem.W.keepIn K (.ref f47) = true)
    (tq47 : K.lookup cc47 = some ⟨te47, to47, .fields tv47, tz47⟩)
    (tp47 : (tv47[11]? : Option Value) = some (.ref tt47))
    (tno47 : K.lookup tt47 = none)
    (a48 : PySem.W.nsIn K mainGlobals "_sides" = some (some (.ref f48)))
    (l48 : K.lookup f48 = some ⟨oc48, od48, .func (PySem.W.fnOf "_sides" "_sides" (defArgs s_p_sides) (defBody s_p_sides) (defScope s_p_sides) .none kV48 dc48 pm48 an48 cd48 ct48), sl48⟩)
    (c48 : PySem.W.codeIn K cd48 "_sides" = true)
    (k48 : PySem.W.keepIn K (.ref f48) = true)
    (a49 : PySem.W.nsIn K mainGlobals "holds" = some (some (.ref f49)))
    (l49 : K.lookup f49 = some ⟨oc49, od49, .func (PySem.W.fnOf "holds" "holds" (defArgs s_p_holds) (defBody s_p_holds) (defScope s_p_holds) .none kV49 dc49 pm49 an49 cd49 ct49), sl49⟩)
    (c49 : PySem.W.codeIn K cd49 "holds" = true)
    (k49 : PySem.W.keepIn K (.ref f49) = true)
    (a50 : PySem.W.nsIn K mainGlobals "off" = some (some (.ref f50)))
    (l50 : K.lookup f50 = some ⟨oc50, od50, .func (PySem.W.fnOf "off" "off" (defArgs s_p_off) (defBody s_p_off) (defScope s_p_off) .none kV50 dc50 pm50 an50 cd50 ct50), sl50⟩)
    (c50 : PySem.W.codeIn K cd50 "off" = true)
    (k50 : PySem.W.keepIn K (.ref f50) = true)
    (a51 : PySem.W.nsIn K mainGlobals "first_wrong" = some (some (.ref f51)))
    (l51 : K.lookup f51 = some ⟨oc51, od51, .func (PySem.W.fnOf "first_wrong" "first_wrong" (defArgs s_p_first_wrong) (defBody s_p_first_wrong) (defScope s_p_first_wrong) .none kV51 dc51 pm51 an51 cd51 ct51), sl51⟩)
    (c51 : PySem.W.codeIn K cd51 "first_wrong" = true)
    (k51 : PySem.W.keepIn K (.ref f51) = true)
    (a52 : PySem.W.nsIn K mainGlobals "far_off" = some (some (.ref f52)))
    (l52 : K.lookup f52 = some ⟨oc52, od52, .func (PySem.W.fnOf "far_off" "far_off" (defArgs s_p_far_off) (defBody s_p_far_off) (defScope s_p_far_off) .none kV52 dc52 pm52 an52 cd52 ct52), sl52⟩)
    (c52 : PySem.W.codeIn K cd52 "far_off" = true)
    (k52 : PySem.W.keepIn K (.ref f52) = true)
    (a53 : PySem.W.nsIn K mainGlobals "_law_looking_right" = some (some (.ref f53)))
    (l53 : K.lookup f53 = some ⟨oc53, od53, .func (PySem.W.fnOf "_law_looking_right" "_law_looking_right" (defArgs s_looking_right) (defBody s_looking_right) (defScope s_looking_right) .none kV53 dc53 pm53 an53 cd53 ct53), sl53⟩)
    (c53 : PySem.W.codeIn K cd53 "_law_looking_right" = true)
    (k53 : PySem.W.keepIn K (.ref f53) = true)
    (a54 : PySem.W.nsIn K mainGlobals "law" = some (some (.ref f54)))
    (l54 : K.lookup f54 = some ⟨oc54, od54, .func (PySem.W.fnOf "law" "law" (defArgs s_law) (defBody s_law) (defScope s_law) .none kV54 dc54 pm54 an54 cd54 ct54), sl54⟩)
    (c54 : PySem.W.codeIn K cd54 "law" = true)
    (k54 : PySem.W.keepIn K (.ref f54) = true)
    (pg_Saying : PySem.W.plainGet K C_Saying Str.empty = true)
    (hd_Saying : PySem.W.hasDictIn K C_Saying = true)
    (po_Saying : PySem.W.plainOver K C_Saying = true)
    (sa_Saying : PySem.W.findIn K (.ref C_Saying) "__setattr__" = some (some (.builtin "object.__setattr__")))
    (kc_Saying : PySem.W.keepIn K (.ref C_Saying) = true)
    (nword_Saying : PySem.W.findIn K (.ref C_Saying) "word" = some none)
    (nleft_Saying : PySem.W.findIn K (.ref C_Saying) "left" = some none)
    (nright_Saying : PySem.W.findIn K (.ref C_Saying) "right" = some none)
    (mk_Saying : PySem.W.makesIn K C_Saying = true)
    (ha_Saying : PySem.W.findIn K (.ref C_Saying) "__class__" = some (some (.builtin "object.__class__")))
    (hn_Saying : PySem.W.specialIn K (.builtin "object.__class__") "__get__" = some (some (.builtin "getset_descriptor.__get__")))
    (ht_Saying : PySem.W.takesIn K (.builtin "object.__class__") = some true)
    (hm_Saying : PySem.W.mroIn K C_Saying (.type "object") = some true)
    (ne_Saying : PySem.W.findIn K (.ref C_Saying) "__ne__" = some (some (.builtin "object.__ne__")))
    (ob_Saying : PySem.W.mroIn K C_Saying (.type "object") = some true)
    (wa_MARKS : PySem.W.nsIn K mainGlobals "MARKS" = some (some (.ref w_MARKS)))
    (wl_MARKS : K.lookup w_MARKS = some ⟨.type "dict", none, .dict we_MARKS wn_MARKS, #[]⟩)
    (wt_MARKS : PySem.W.KeysLit w.params we_MARKS.toList)
    (wo_MARKS : (w_MARKS == sysModules) = false)
    (wf_MARKS_0 : PySem.W.nsIn K w_MARKS (Str.ofString "same") = some (some wv_MARKS_0))
    (wr_MARKS_0 : RelV (V.str (Str.ofString "=")) wv_MARKS_0)
    (wf_MARKS_1 : PySem.W.nsIn K w_MARKS (Str.ofString "under") = some (some wv_MARKS_1))
    (wr_MARKS_1 : RelV (V.str (Str.ofString "under")) wv_MARKS_1)
    (q0 : PySem.W.nsIn K mainGlobals "BITS" = some (some (Value.str (Str.ofString "01") tk0)))
    (q1 : PySem.W.nsIn K mainGlobals "HEAD_BITS" = some (some (Value.int 128 tk1)))
    (q2 : PySem.W.nsIn K mainGlobals "MOST_BITS" = some (some (Value.int 1000000 tk2)))
    (z0 : PySem.W.nsIn K mainGlobals "divmod" = some none)
    (z1 : PySem.W.nsIn K mainGlobals "enumerate" = some none)
    (z2 : PySem.W.nsIn K mainGlobals "int" = some none)
    (z3 : PySem.W.nsIn K mainGlobals "isinstance" = some none)
    (z4 : PySem.W.nsIn K mainGlobals "len" = some none)
    (z5 : PySem.W.nsIn K mainGlobals "max" = some none)
    (z6 : PySem.W.nsIn K mainGlobals "min" = some none)
    (z7 : PySem.W.nsIn K mainGlobals "range" = some none)
    (z8 : PySem.W.nsIn K mainGlobals "reversed" = some none)
    (z9 : PySem.W.nsIn K mainGlobals "sum" = some none)
    (mq_comb : PySem.W.nsIn K mainGlobals "comb" = some (some (.builtin "math.comb")))
    (zm : PySem.W.nsIn K cStatics "sys.int_max_str_digits" = some none)
    (tne : tt47 ≠ tt35)
    (hem : EmptyAt K ["_renamed_term", "worth"] h) : LawAtT l w K CX0 29 63 "script" mg fa h := by
  have e := hfa.symm.trans (PySem.W.mg_of X G a54)
  cases e
  have em35 := hem "_renamed_term" (by simp) cc35 tt35 (tab_in_of a35 l35 rfl tq35 tp35)
  have em47 := hem "worth" (by simp) cc47 tt47 (tab_in_of a47 l47 rfl tq47 tp47)
  have F0 := fun_mk (st := s_p_terms_in) l0 c0 k0
  have b0 := F0.binds (ps := ["term"]) fun _ _ _ _ _ _ us hl => match us, hl with | [_], _ => rfl
  have F1 := fun_mk (st := s_p_is_same_term) l1 c1 k1
  have b1 := F1.binds (ps := ["one", "other"]) fun _ _ _ _ _ _ us hl => match us, hl with | [_, _], _ => rfl
  have F2 := fun_mk (st := s_Saying_eq) l2 c2 k2
  have b2 := F2.binds (ps := ["self", "other"]) fun _ _ _ _ _ _ us hl => match us, hl with | [_, _], _ => rfl
  have F3 := fun_mk (st := s_box) l3 c3 k3
  have b3 := F3.binds (ps := ["script", "at"]) fun _ _ _ _ _ _ us hl => match us, hl with | [_, _], _ => rfl
  have F4 := fun_mk (st := s_Saying_init) l4 c4 k4
  have b4 := F4.binds (ps := ["self", "word", "left", "right"]) fun _ _ _ _ _ _ us hl => match us, hl with | [_, _, _, _], _ => rfl
  have F5 := fun_mk (st := s_take) l5 c5 k5
  have b5 := F5.binds (ps := ["box", "wide"]) fun _ _ _ _ _ _ us hl => match us, hl with | [_, _], _ => rfl
  have F6 := fun_mk (st := s_p_check_words) l6 c6 k6
  have b6 := F6.binds (ps := ["sayings"]) fun _ _ _ _ _ _ us hl => match us, hl with | [_], _ => rfl
  have F7 := fun_mk (st := s_p_same) l7 c7 k7
  have b7 := F7.binds (ps := ["left", "right"]) fun _ _ _ _ _ _ us hl => match us, hl with | [_, _], _ => rfl
  have F8 := fun_mk (st := s_p_plus) l8 c8 k8
  have b8 := F8.binds (ps := ["left", "right"]) fun _ _ _ _ _ _ us hl => match us, hl with | [_, _], _ => rfl
  have F9 := fun_mk (st := s_p_times) l9 c9 k9
  have b9 := F9.binds (ps := ["left", "right"]) fun _ _ _ _ _ _ us hl => match us, hl with | [_, _], _ => rfl
  have F10 := fun_mk (st := s_p_either) l10 c10 k10
  have b10 := F10.binds (ps := ["one", "other"]) fun _ _ _ _ _ _ us hl => match us, hl with | [_, _], _ => rfl
  have kb10_0 : KBinds K (PySem.W.fnOf "either" "either" (defArgs s_p_either) (defBody s_p_either) (defScope s_p_either) .none kV10 dc10 pm10 an10 cd10 ct10) ["one", "other"] ["other", "one"] (kgen 0 2 [1, 0]) (kgen 0 2 [1, 0]) := kb_gen (by decide) fun us ws h1 h2 => match us, ws, h1, h2 with | [], [c0, c1], _, _ => rfl
  have F11 := fun_mk (st := s_p_sum_of) l11 c11 k11
  have b11 := F11.binds (ps := ["terms"]) fun _ _ _ _ _ _ us hl => match us, hl with | [_], _ => rfl
  have F12 := fun_mk (st := s_p_num) l12 c12 k12
  have b12 := F12.binds (ps := ["number"]) fun _ _ _ _ _ _ us hl => match us, hl with | [_], _ => rfl
  have F13 := fun_mk (st := s_p_made_one) l13 c13 k13
  have b13 := F13.binds (ps := ["sayings"]) fun _ _ _ _ _ _ us hl => match us, hl with | [_], _ => rfl
  have kb13_0 : KBinds K (PySem.W.fnOf "made_one" "made_one" (defArgs s_p_made_one) (defBody s_p_made_one) (defScope s_p_made_one) .none kV13 dc13 pm13 an13 cd13 ct13) ["sayings"] ["sayings"] (kgen 0 1 [0]) (kgen 0 1 [0]) := kb_gen (by decide) fun us ws h1 h2 => match us, ws, h1, h2 with | [], [c0], _, _ => rfl
  have F14 := fun_mk (st := s_p_figure) l14 c14 k14
  have b14 := F14.binds (ps := ["number", "base", "k"]) fun _ _ _ _ _ _ us hl => match us, hl with | [_, _, _], _ => rfl
  have kb14_0 : KBinds K (PySem.W.fnOf "figure" "figure" (defArgs s_p_figure) (defBody s_p_figure) (defScope s_p_figure) .none kV14 dc14 pm14 an14 cd14 ct14) ["number", "base", "k"] ["k", "base", "number"] (kgen 0 3 [2, 1, 0]) (kgen 0 3 [2, 1, 0]) := kb_gen (by decide) fun us ws h1 h2 => match us, ws, h1, h2 with | [], [c0, c1, c2], _, _ => rfl
  have kb14_1 : KBinds K (PySem.W.fnOf "figure" "figure" (defArgs s_p_figure) (defBody s_p_figure) (defScope s_p_figure) .none kV14 dc14 pm14 an14 cd14 ct14) ["number", "base", "k"] ["base", "k", "number"] (kgen 0 3 [2, 0, 1]) (kgen 0 3 [2, 0, 1]) := kb_gen (by decide) fun us ws h1 h2 => match us, ws, h1, h2 with | [], [c0, c1, c2], _, _ => rfl
  have F15 := fun_mk (st := s_p_of_figures) l15 c15 k15
  have b15 := F15.binds (ps := ["some", "base"]) fun _ _ _ _ _ _ us hl => match us, hl with | [_, _], _ => rfl
  have kb15_0 : KBinds K (PySem.W.fnOf "of_figures" "of_figures" (defArgs s_p_of_figures) (defBody s_p_of_figures) (defScope s_p_of_figures) .none kV15 dc15 pm15 an15 cd15 ct15) ["some", "base"] ["base", "some"] (kgen 0 2 [1, 0]) (kgen 0 2 [1, 0]) := kb_gen (by decide) fun us ws h1 h2 => match us, ws, h1, h2 with | [], [c0, c1], _, _ => rfl
  have F16 := fun_mk (st := s_p_ones) l16 c16 k16
  have b16 := F16.binds (ps := ["base", "many"]) fun _ _ _ _ _ _ us hl => match us, hl with | [_, _], _ => rfl
  have kb16_0 : KBinds K (PySem.W.fnOf "ones" "ones" (defArgs s_p_ones) (defBody s_p_ones) (defScope s_p_ones) .none kV16 dc16 pm16 an16 cd16 ct16) ["base", "many"] ["many", "base"] (kgen 0 2 [1, 0]) (kgen 0 2 [1, 0]) := kb_gen (by decide) fun us ws h1 h2 => match us, ws, h1, h2 with | [], [c0, c1], _, _ => rfl
  have F17 := fun_mk (st := s_p_figures) l17 c17 k17
  have b17 := F17.binds (ps := ["number", "base", "many"]) fun _ _ _ _ _ _ us hl => match us, hl with | [_, _, _], _ => rfl
  have kb17_0 : KBinds K (PySem.W.fnOf "figures" "figures" (defArgs s_p_figures) (defBody s_p_figures) (defScope s_p_figures) .none kV17 dc17 pm17 an17 cd17 ct17) ["number", "base", "many"] ["many", "base", "number"] (kgen 0 3 [2, 1, 0]) (kgen 0 3 [2, 1, 0]) := kb_gen (by decide) fun us ws h1 h2 => match us, ws, h1, h2 with | [], [c0, c1, c2], _, _ => rfl
  have F18 := fun_mk (st := s_figures_right) l18 c18 k18
  have b18 := F18.binds (ps := ["whole", "wide", "count"]) fun _ _ _ _ _ _ us hl => match us, hl with | [_, _, _], _ => rfl
  have F19 := fun_mk (st := s_p_bits_of) l19 c19 k19
  have b19 := F19.binds (ps := ["number"]) fun _ _ _ _ _ _ us hl => match us, hl with | [_], _ => rfl
  have kb19_0 : KBinds K (PySem.W.fnOf "bits_of" "bits_of" (defArgs s_p_bits_of) (defBody s_p_bits_of) (defScope s_p_bits_of) .none kV19 dc19 pm19 an19 cd19 ct19) ["number"] ["number"] (kgen 0 1 [0]) (kgen 0 1 [0]) := kb_gen (by decide) fun us ws h1 h2 => match us, ws, h1, h2 with | [], [c0], _, _ => rfl
  have F20 := fun_mk (st := s_p_stands_out) l20 c20 k20
  have b20 := F20.binds (ps := ["one", "other"]) fun _ _ _ _ _ _ us hl => match us, hl with | [_, _], _ => rfl
  have kb20_0 : KBinds K (PySem.W.fnOf "stands_out" "stands_out" (defArgs s_p_stands_out) (defBody s_p_stands_out) (defScope s_p_stands_out) .none kV20 dc20 pm20 an20 cd20 ct20) ["one", "other"] ["other", "one"] (kgen 0 2 [1, 0]) (kgen 0 2 [1, 0]) := kb_gen (by decide) fun us ws h1 h2 => match us, ws, h1, h2 with | [], [c0, c1], _, _ => rfl
  have F21 := fun_mk (st := s_p_fits) l21 c21 k21
  have b21 := F21.binds (ps := ["one", "other"]) fun _ _ _ _ _ _ us hl => match us, hl with | [_, _], _ => rfl
  have kb21_0 : KBinds K (PySem.W.fnOf "fits" "fits" (defArgs s_p_fits) (defBody s_p_fits) (defScope s_p_fits) .none kV21 dc21 pm21 an21 cd21 ct21) ["one", "other"] ["other", "one"] (kgen 0 2 [1, 0]) (kgen 0 2 [1, 0]) := kb_gen (by decide) fun us ws h1 h2 => match us, ws, h1, h2 with | [], [c0, c1], _, _ => rfl
  have F22 := fun_mk (st := s_p_of_bits) l22 c22 k22
  have b22 := F22.binds (ps := ["text"]) fun _ _ _ _ _ _ us hl => match us, hl with | [_], _ => rfl
  have kb22_0 : KBinds K (PySem.W.fnOf "of_bits" "of_bits" (defArgs s_p_of_bits) (defBody s_p_of_bits) (defScope s_p_of_bits) .none kV22 dc22 pm22 an22 cd22 ct22) ["text"] ["text"] (kgen 0 1 [0]) (kgen 0 1 [0]) := kb_gen (by decide) fun us ws h1 h2 => match us, ws, h1, h2 with | [], [c0], _, _ => rfl
  have F23 := fun_mk (st := s_p_how_many) l23 c23 k23
  have b23 := F23.binds (ps := ["number"]) fun _ _ _ _ _ _ us hl => match us, hl with | [_], _ => rfl
  have kb23_0 : KBinds K (PySem.W.fnOf "how_many" "how_many" (defArgs s_p_how_many) (defBody s_p_how_many) (defScope s_p_how_many) .none kV23 dc23 pm23 an23 cd23 ct23) ["number"] ["number"] (kgen 0 1 [0]) (kgen 0 1 [0]) := kb_gen (by decide) fun us ws h1 h2 => match us, ws, h1, h2 with | [], [c0], _, _ => rfl
  have F24 := fun_mk (st := s_bits_right) l24 c24 k24
  have b24 := F24.binds (ps := ["first", "second"]) fun _ _ _ _ _ _ us hl => match us, hl with | [_, _], _ => rfl
  have F25 := fun_mk (st := s_p_choose) l25 c25 k25
  have b25 := F25.binds (ps := ["n", "k"]) fun _ _ _ _ _ _ us hl => match us, hl with | [_, _], _ => rfl
  have kb25_0 : KBinds K (PySem.W.fnOf "choose" "choose" (defArgs s_p_choose) (defBody s_p_choose) (defScope s_p_choose) .none kV25 dc25 pm25 an25 cd25 ct25) ["n", "k"] ["k", "n"] (kgen 0 2 [1, 0]) (kgen 0 2 [1, 0]) := kb_gen (by decide) fun us ws h1 h2 => match us, ws, h1, h2 with | [], [c0, c1], _, _ => rfl
  have F26 := fun_mk (st := s_p_halvings) l26 c26 k26
  have b26 := F26.binds (ps := ["number"]) fun _ _ _ _ _ _ us hl => match us, hl with | [_], _ => rfl
  have kb26_0 : KBinds K (PySem.W.fnOf "halvings" "halvings" (defArgs s_p_halvings) (defBody s_p_halvings) (defScope s_p_halvings) .none kV26 dc26 pm26 an26 cd26 ct26) ["number"] ["number"] (kgen 0 1 [0]) (kgen 0 1 [0]) := kb_gen (by decide) fun us ws h1 h2 => match us, ws, h1, h2 with | [], [c0], _, _ => rfl
  have F27 := fun_mk (st := s_p_carries) l27 c27 k27
  have b27 := F27.binds (ps := ["one", "other"]) fun _ _ _ _ _ _ us hl => match us, hl with | [_, _], _ => rfl
  have kb27_0 : KBinds K (PySem.W.fnOf "carries" "carries" (defArgs s_p_carries) (defBody s_p_carries) (defScope s_p_carries) .none kV27 dc27 pm27 an27 cd27 ct27) ["one", "other"] ["other", "one"] (kgen 0 2 [1, 0]) (kgen 0 2 [1, 0]) := kb_gen (by decide) fun us ws h1 h2 => match us, ws, h1, h2 with | [], [c0, c1], _, _ => rfl
  have F28 := fun_mk (st := s_p_is_odd) l28 c28 k28
  have b28 := F28.binds (ps := ["n", "k"]) fun _ _ _ _ _ _ us hl => match us, hl with | [_, _], _ => rfl
  have kb28_0 : KBinds K (PySem.W.fnOf "is_odd" "is_odd" (defArgs s_p_is_odd) (defBody s_p_is_odd) (defScope s_p_is_odd) .none kV28 dc28 pm28 an28 cd28 ct28) ["n", "k"] ["k", "n"] (kgen 0 2 [1, 0]) (kgen 0 2 [1, 0]) := kb_gen (by decide) fun us ws h1 h2 => match us, ws, h1, h2 with | [], [c0, c1], _, _ => rfl
  have F29 := fun_mk (st := s_p_figure_of_power) l29 c29 k29
  have b29 := F29.binds (ps := ["n", "k"]) fun _ _ _ _ _ _ us hl => match us, hl with | [_, _], _ => rfl
  have kb29_0 : KBinds K (PySem.W.fnOf "figure_of_power" "figure_of_power" (defArgs s_p_figure_of_power) (defBody s_p_figure_of_power) (defScope s_p_figure_of_power) .none kV29 dc29 pm29 an29 cd29 ct29) ["n", "k"] ["k", "n"] (kgen 0 2 [1, 0]) (kgen 0 2 [1, 0]) := kb_gen (by decide) fun us ws h1 h2 => match us, ws, h1, h2 with | [], [c0, c1], _, _ => rfl
  have F30 := fun_mk (st := s_choosing_right) l30 c30 k30
  have b30 := F30.binds (ps := ["first", "second"]) fun _ _ _ _ _ _ us hl => match us, hl with | [_, _], _ => rfl
  have F31 := fun_mk (st := s_p_folded) l31 c31 k31
  have b31 := F31.binds (ps := ["term", "lone_of", "both_of"]) fun _ _ _ _ _ _ us hl => match us, hl with | [_, _, _], _ => rfl
  have F32 := fun_mk (st := s_p_term_of) l32 c32 k32
  have b32 := F32.binds (ps := ["word", "first", "second"]) fun _ _ _ _ _ _ us hl => match us, hl with | [_, _, _], _ => rfl
  have F33 := fun_mk (st := s_p_named) l33 c33 k33
  have b33 := F33.binds (ps := ["text"]) fun _ _ _ _ _ _ us hl => match us, hl with | [_], _ => rfl
  have F34 := fun_mk (st := s_p_renamed_lone) l34 c34 k34
  have b34 := F34.binds (ps := ["term", "names"]) fun _ _ _ _ _ _ us hl => match us, hl with | [_, _], _ => rfl
  have F35 := fun_mk (st := s_p_renamed_term) l35 c35 k35
  have b35 := F35.binds (ps := ["term", "names"]) fun _ _ _ _ _ _ us hl => match us, hl with | [_, _], _ => rfl
  have F36 := fun_mk (st := s_p_renamed) l36 c36 k36
  have b36 := F36.binds (ps := ["saying", "names"]) fun _ _ _ _ _ _ us hl => match us, hl with | [_, _], _ => rfl
  have kb36_0 : KBinds K (PySem.W.fnOf "renamed" "renamed" (defArgs s_p_renamed) (defBody s_p_renamed) (defScope s_p_renamed) .none kV36 dc36 pm36 an36 cd36 ct36) ["saying", "names"] ["names", "saying"] (kgen 0 2 [1, 0]) (kgen 0 2 [1, 0]) := kb_gen (by decide) fun us ws h1 h2 => match us, ws, h1, h2 with | [], [c0, c1], _, _ => rfl
  have F37 := fun_mk (st := s_p_cut) l37 c37 k37
  have b37 := F37.binds (ps := ["bits", "places"]) fun _ _ _ _ _ _ us hl => match us, hl with | [_, _], _ => rfl
  have F38 := fun_mk (st := s_p_head) l38 c38 k38
  have b38 := F38.binds (ps := ["number"]) fun _ _ _ _ _ _ us hl => match us, hl with | [_], _ => rfl
  have F39 := fun_mk (st := s_p_check_bits) l39 c39 k39
  have b39 := F39.binds (ps := ["head"]) fun _ _ _ _ _ _ us hl => match us, hl with | [_], _ => rfl
  have F40 := fun_mk (st := s_p_product_of_heads) l40 c40 k40
  have b40 := F40.binds (ps := ["one", "other"]) fun _ _ _ _ _ _ us hl => match us, hl with | [_, _], _ => rfl
  have F41 := fun_mk (st := s_p_check_power) l41 c41 k41
  have b41 := F41.binds (ps := ["base", "exponent"]) fun _ _ _ _ _ _ us hl => match us, hl with | [_, _], _ => rfl
  have F42 := fun_mk (st := s_p_bounded) l42 c42 k42
  have b42 := F42.binds (ps := ["number"]) fun _ _ _ _ _ _ us hl => match us, hl with | [_], _ => rfl
  have F43 := fun_mk (st := s_p_bounded_product) l43 c43 k43
  have b43 := F43.binds (ps := ["first", "second"]) fun _ _ _ _ _ _ us hl => match us, hl with | [_, _], _ => rfl
  have F44 := fun_mk (st := s_p_bounded_power) l44 c44 k44
  have b44 := F44.binds (ps := ["base", "exponent"]) fun _ _ _ _ _ _ us hl => match us, hl with | [_, _], _ => rfl
  have F45 := fun_mk (st := s_p_joined) l45 c45 k45
  have b45 := F45.binds (ps := ["word", "first", "second"]) fun _ _ _ _ _ _ us hl => match us, hl with | [_, _, _], _ => rfl
  have F46 := fun_mk (st := s_p_lone_worth) l46 c46 k46
  have b46 := F46.binds (ps := ["term", "answer"]) fun _ _ _ _ _ _ us hl => match us, hl with | [_, _], _ => rfl
  have F47 := fun_mk (st := s_p_worth) l47 c47 k47
  have b47 := F47.binds (ps := ["term", "answer"]) fun _ _ _ _ _ _ us hl => match us, hl with | [_, _], _ => rfl
  have F48 := fun_mk (st := s_p_sides) l48 c48 k48
  have b48 := F48.binds (ps := ["saying", "answer"]) fun _ _ _ _ _ _ us hl => match us, hl with | [_, _], _ => rfl
  have F49 := fun_mk (st := s_p_holds) l49 c49 k49
  have b49 := F49.binds (ps := ["saying", "answer"]) fun _ _ _ _ _ _ us hl => match us, hl with | [_, _], _ => rfl
  have kb49_0 : KBinds K (PySem.W.fnOf "holds" "holds" (defArgs s_p_holds) (defBody s_p_holds) (defScope s_p_holds) .none kV49 dc49 pm49 an49 cd49 ct49) ["saying", "answer"] ["answer", "saying"] (kgen 0 2 [1, 0]) (kgen 0 2 [1, 0]) := kb_gen (by decide) fun us ws h1 h2 => match us, ws, h1, h2 with | [], [c0, c1], _, _ => rfl
  have F50 := fun_mk (st := s_p_off) l50 c50 k50
  have b50 := F50.binds (ps := ["saying", "answer"]) fun _ _ _ _ _ _ us hl => match us, hl with | [_, _], _ => rfl
  have kb50_0 : KBinds K (PySem.W.fnOf "off" "off" (defArgs s_p_off) (defBody s_p_off) (defScope s_p_off) .none kV50 dc50 pm50 an50 cd50 ct50) ["saying", "answer"] ["answer", "saying"] (kgen 0 2 [1, 0]) (kgen 0 2 [1, 0]) := kb_gen (by decide) fun us ws h1 h2 => match us, ws, h1, h2 with | [], [c0, c1], _, _ => rfl
  have F51 := fun_mk (st := s_p_first_wrong) l51 c51 k51
  have b51 := F51.binds (ps := ["sayings", "answer"]) fun _ _ _ _ _ _ us hl => match us, hl with | [_, _], _ => rfl
  have kb51_0 : KBinds K (PySem.W.fnOf "first_wrong" "first_wrong" (defArgs s_p_first_wrong) (defBody s_p_first_wrong) (defScope s_p_first_wrong) .none kV51 dc51 pm51 an51 cd51 ct51) ["sayings", "answer"] ["answer", "sayings"] (kgen 0 2 [1, 0]) (kgen 0 2 [1, 0]) := kb_gen (by decide) fun us ws h1 h2 => match us, ws, h1, h2 with | [], [c0, c1], _, _ => rfl
  have F52 := fun_mk (st := s_p_far_off) l52 c52 k52
  have b52 := F52.binds (ps := ["sayings", "answer"]) fun _ _ _ _ _ _ us hl => match us, hl with | [_, _], _ => rfl
  have kb52_0 : KBinds K (PySem.W.fnOf "far_off" "far_off" (defArgs s_p_far_off) (defBody s_p_far_off) (defScope s_p_far_off) .none kV52 dc52 pm52 an52 cd52 ct52) ["sayings", "answer"] ["answer", "sayings"] (kgen 0 2 [1, 0]) (kgen 0 2 [1, 0]) := kb_gen (by decide) fun us ws h1 h2 => match us, ws, h1, h2 with | [], [c0, c1], _, _ => rfl
  have F53 := fun_mk (st := s_looking_right) l53 c53 k53
  have b53 := F53.binds (ps := ["first", "second", "word"]) fun _ _ _ _ _ _ us hl => match us, hl with | [_, _, _], _ => rfl
  have F54 := fun_mk (st := s_law) l54 c54 k54
  have b54 := F54.binds (ps := ["script"]) fun _ _ _ _ _ _ us hl => match us, hl with | [_], _ => rfl
  refine ⟨PySem.W.fnOf "law" "law" (defArgs s_law) (defBody s_law) (defScope s_law) .none kV54 dc54 pm54 an54 cd54 ct54, [(cc35, tt35), (cc47, tt47)], sp_law K (fun a : Addr => if a = tt35 then ((("_renamed_term" : Str) ++ ".<locals>.") ++ "<lambda>") else ((("worth" : Str) ++ ".<locals>.") ++ "<lambda>")) [tt35, tt47], (by simp only [List.mem_cons, List.not_mem_nil, or_false, forall_eq_or_imp, forall_eq]; exact ⟨em35.2, em47.2⟩), (by simp only [List.mem_cons, List.not_mem_nil, or_false, forall_eq_or_imp, forall_eq]; exact ⟨tno35, tno47⟩), (by simp only [List.mem_cons, List.not_mem_nil, or_false, forall_eq_or_imp, forall_eq]; exact ⟨em35.1, em47.1⟩), fun s v => .of_eq rfl, fun H a ns hl hT hS => sp_law_of hl hS fun t ht => ?_, fun base _ _ htb => (RV.FnOk.g (ok_law (⟨(fun a : Addr => if a = tt35 then ((("_renamed_term" : Str) ++ ".<locals>.") ++ "<lambda>") else ((("worth" : Str) ++ ".<locals>.") ++ "<lambda>")), C_Saying, _, _, F0, PySem.W.mg_of X G a0, b0, _, _, F1, PySem.W.mg_of X G a1, b1, _, _, F2, ⟨a2, i2, k2⟩, b2, _, _, F3, PySem.W.mg_of X G a3, b3, _, _, F4, ⟨a4, i4, k4⟩, b4, _, _, F5, PySem.W.mg_of X G a5, b5, _, _, F6, PySem.W.mg_of X G a6, b6, _, _, F7, PySem.W.mg_of X G a7, b7, _, _, F8, PySem.W.mg_of X G a8, b8, _, _, F9, PySem.W.mg_of X G a9, b9, _, _, F10, PySem.W.mg_of X G a10, b10, kb10_0, _, _, F11, PySem.W.mg_of X G a11, b11, _, _, F12, PySem.W.mg_of X G a12, b12, _, _, F13, PySem.W.mg_of X G a13, b13, kb13_0, _, _, F14, PySem.W.mg_of X G a14, b14, kb14_0, kb14_1, _, _, F15, PySem.W.mg_of X G a15, b15, kb15_0, _, _, F16, PySem.W.mg_of X G a16, b16, kb16_0, _, _, F17, PySem.W.mg_of X G a17, b17, kb17_0, _, _, F18, PySem.W.mg_of X G a18, b18, _, _, F19, PySem.W.mg_of X G a19, b19, kb19_0, _, _, F20, PySem.W.mg_of X G a20, b20, kb20_0, _, _, F21, PySem.W.mg_of X G a21, b21, kb21_0, _, _, F22, PySem.W.mg_of X G a22, b22, kb22_0, _, _, F23, PySem.W.mg_of X G a23, b23, kb23_0, _, _, F24, PySem.W.mg_of X G a24, b24, _, _, F25, PySem.W.mg_of X G a25, b25, kb25_0, _, _, F26, PySem.W.mg_of X G a26, b26, kb26_0, _, _, F27, PySem.W.mg_of X G a27, b27, kb27_0, _, _, F28, PySem.W.mg_of X G a28, b28, kb28_0, _, _, F29, PySem.W.mg_of X G a29, b29, kb29_0, _, _, F30, PySem.W.mg_of X G a30, b30, _, _, F31, PySem.W.mg_of X G a31, b31, _, _, F32, PySem.W.mg_of X G a32, b32, _, _, F33, PySem.W.mg_of X G a33, b33, _, _, F34, PySem.W.mg_of X G a34, b34, _, cc35, tt35, _, ⟨⟨_, _, _, _, _, _, _, _, rfl, l35, c35⟩, k35⟩, htb (cc35, tt35) (by simp), if_pos rfl, PySem.W.mg_of X G a35, b35, _, _, F36, PySem.W.mg_of X G a36, b36, kb36_0, _, _, F37, PySem.W.mg_of X G a37, b37, _, _, F38, PySem.W.mg_of X G a38, b38, _, _, F39, PySem.W.mg_of X G a39, b39, _, _, F40, PySem.W.mg_of X G a40, b40, _, _, F41, PySem.W.mg_of X G a41, b41, _, _, F42, PySem.W.mg_of X G a42, b42, _, _, F43, PySem.W.mg_of X G a43, b43, _, _, F44, PySem.W.mg_of X G a44, b44, _, _, F45, PySem.W.mg_of X G a45, b45, _, _, F46, PySem.W.mg_of X G a46, b46, _, cc47, tt47, _, ⟨⟨_, _, _, _, _, _, _, _, rfl, l47, c47⟩, k47⟩, htb (cc47, tt47) (by simp), if_neg tne, PySem.W.mg_of X G a47, b47, _, _, F48, PySem.W.mg_of X G a48, b48, _, _, F49, PySem.W.mg_of X G a49, b49, kb49_0, _, _, F50, PySem.W.mg_of X G a50, b50, kb50_0, _, _, F51, PySem.W.mg_of X G a51, b51, kb51_0, _, _, F52, PySem.W.mg_of X G a52, b52, kb52_0, _, _, F53, PySem.W.mg_of X G a53, b53, _, _, F54, PySem.W.mg_of X G a54, b54, ⟨pg_Saying, hd_Saying, po_Saying, sa_Saying⟩, PySem.W.mg_of X G aC_Saying, nword_Saying, nleft_Saying, nright_Saying, ⟨mk_Saying, a4, i4, kc_Saying⟩, ⟨⟨pg_Saying, hd_Saying, po_Saying, sa_Saying⟩, ha_Saying, hn_Saying, ht_Saying, hm_Saying, (if_pos (beq_self_eq_true _))⟩, ⟨⟨a2, i2, k2⟩, ne_Saying, ob_Saying⟩, w_MARKS, we_MARKS, wn_MARKS, ⟨wl_MARKS, wt_MARKS, wo_MARKS⟩, PySem.W.mg_of X G wa_MARKS, wv_MARKS_0, wf_MARKS_0, wr_MARKS_0, wv_MARKS_1, wf_MARKS_1, wr_MARKS_1, tk0, PySem.W.mg_of X G q0, tk1, PySem.W.mg_of X G q1, tk2, PySem.W.mg_of X G q2, PySem.W.mg_none_of X G z0, PySem.W.mg_none_of X G z1, PySem.W.mg_none_of X G z2, PySem.W.mg_none_of X G z3, PySem.W.mg_none_of X G z4, PySem.W.mg_none_of X G z5, PySem.W.mg_none_of X G z6, PySem.W.mg_none_of X G z7, PySem.W.mg_none_of X G z8, PySem.W.mg_none_of X G z9, PySem.W.mg_of X G mq_comb, zm⟩ : Txt K mg w base)))⟩
  obtain ⟨p, hp, e⟩ := List.mem_map.mp (show t ∈ ([(cc35, tt35), (cc47, tt47)] : List (Addr × Addr)).map Prod.snd from ht)
  exact TabS.nil (e ▸ hT p hp)
end K88
open PySem PySem.W PyProof.Rows
set_option maxRecDepth 100000 in
set_option maxHeartbeats 0 in
theorem PySem.Challenge.cw_runsums_k88_arguments_by_names_holds : PySem.Challenge.rw_runsums_k88_arguments_by_names.Holds := by
  w_on; o_law; k_head; (case hw => w_witness2)
  k_fill
  refine RV.walkT (l := PySem.Challenge.rw_runsums_k88_arguments_by_names) (n := 63) (k := 29) (x := "script") (CX := fun _ => L2.CX0) ["_renamed_term", "worth"] rfl (by decide) rfl ⟨rfl, by decide, by decide⟩ (by decide +kernel) (fun w h Y => PySem.W.km_in_of Y) ?F (fun _ _ _ _ _ h => h)
  case F =>
    intro w mg fa h KX G hmg hem
    refine' K88.all_mk KX G hmg ?aC_Saying ?a0 ?l0 ?c0 ?k0 ?a1 ?l1 ?c1 ?k1 ?a2 ?i2 ?l2 ?c2 ?k2 ?a3 ?l3 ?c3 ?k3 ?a4 ?i4 ?l4 ?c4 ?k4 ?a5 ?l5 ?c5 ?k5 ?a6 ?l6 ?c6 ?k6 ?a7 ?l7 ?c7 ?k7 ?a8 ?l8 ?c8 ?k8 ?a9 ?l9 ?c9 ?k9 ?a10 ?l10 ?c10 ?k10 ?a11 ?l11 ?c11 ?k11 ?a12 ?l12 ?c12 ?k12 ?a13 ?l13 ?c13 ?k13 ?a14 ?l14 ?c14 ?k14 ?a15 ?l15 ?c15 ?k15 ?a16 ?l16 ?c16 ?k16 ?a17 ?l17 ?c17 ?k17 ?a18 ?l18 ?c18 ?k18 ?a19 ?l19 ?c19 ?k19 ?a20 ?l20 ?c20 ?k20 ?a21 ?l21 ?c21 ?k21 ?a22 ?l22 ?c22 ?k22 ?a23 ?l23 ?c23 ?k23 ?a24 ?l24 ?c24 ?k24 ?a25 ?l25 ?c25 ?k25 ?a26 ?l26 ?c26 ?k26 ?a27 ?l27 ?c27 ?k27 ?a28 ?l28 ?c28 ?k28 ?a29 ?l29 ?c29 ?k29 ?a30 ?l30 ?c30 ?k30 ?a31 ?l31 ?c31 ?k31 ?a32 ?l32 ?c32 ?k32 ?a33 ?l33 ?c33 ?k33 ?a34 ?l34 ?c34 ?k34 ?a35 ?l35 ?c35 ?k35 ?tq35 ?tp35 ?tno35 ?a36 ?l36 ?c36 ?k36 ?a37 ?l37 ?c37 ?k37 ?a38 ?l38 ?c38 ?k38 ?a39 ?l39 ?c39 ?k39 ?a40 ?l40 ?c40 ?k40 ?a41 ?l41 ?c41 ?k41 ?a42 ?l42 ?c42 ?k42 ?a43 ?l43 ?c43 ?k43 ?a44 ?l44 ?c44 ?k44 ?a45 ?l45 ?c45 ?k45 ?a46 ?l46 ?c46 ?k46 ?a47 ?l47 ?c47 ?k47 ?tq47 ?tp47 ?tno47 ?a48 ?l48 ?c48 ?k48 ?a49 ?l49 ?c49 ?k49 ?a50 ?l50 ?c50 ?k50 ?a51 ?l51 ?c51 ?k51 ?a52 ?l52 ?c52 ?k52 ?a53 ?l53 ?c53 ?k53 ?a54 ?l54 ?c54 ?k54 ?pg_Saying ?hd_Saying ?po_Saying ?sa_Saying ?kc_Saying ?nword_Saying ?nleft_Saying ?nright_Saying ?mk_Saying ?ha_Saying ?hn_Saying ?ht_Saying ?hm_Saying ?ne_Saying ?ob_Saying ?wa_MARKS ?wl_MARKS ?wt_MARKS ?wo_MARKS ?wf_MARKS_0 ?wr_MARKS_0 ?wf_MARKS_1 ?wr_MARKS_1 ?q0 ?q1 ?q2 ?z0 ?z1 ?z2 ?z3 ?z4 ?z5 ?z6 ?z7 ?z8 ?z9 ?mq_comb ?zm ?tne hem
    (case aC_Saying => k_is)
    (case a0 => k_is)
    (case l0 => k_is)
    (case c0 => k_is)
    (case k0 => k_is)
    (case a1 => k_is)
    (case l1 => k_is)
    (case c1 => k_is)
    (case k1 => k_is)
    (case a2 => k_is)
    (case i2 => k_is)
    (case l2 => k_is)
    (case c2 => k_is)
    (case k2 => k_is)
    (case a3 => k_is)
    (case l3 => k_is)
    (case c3 => k_is)
    (case k3 => k_is)
    (case a4 => k_is)
    (case i4 => k_is)
    (case l4 => k_is)
    (case c4 => k_is)
    (case k4 => k_is)
    (case a5 => k_is)
    (case l5 => k_is)
    (case c5 => k_is)
    (case k5 => k_is)
    (case a6 => k_is)
    (case l6 => k_is)
    (case c6 => k_is)
    (case k6 => k_is)
    (case a7 => k_is)
    (case l7 => k_is)
    (case c7 => k_is)
    (case k7 => k_is)
    (case a8 => k_is)
    (case l8 => k_is)
    (case c8 => k_is)
    (case k8 => k_is)
    (case a9 => k_is)
    (case l9 => k_is)
    (case c9 => k_is)
    (case k9 => k_is)
    (case a10 => k_is)
    (case l10 => k_is)
    (case c10 => k_is)
    (case k10 => k_is)
    (case a11 => k_is)
    (case l11 => k_is)
    (case c11 => k_is)
    (case k11 => k_is)
    (case a12 => k_is)
    (case l12 => k_is)
    (case c12 => k_is)
    (case k12 => k_is)
    (case a13 => k_is)
    (case l13 => k_is)
    (case c13 => k_is)
    (case k13 => k_is)
    (case a14 => k_is)
    (case l14 => k_is)
    (case c14 => k_is)
    (case k14 => k_is)
    (case a15 => k_is)
    (case l15 => k_is)
    (case c15 => k_is)
    (case k15 => k_is)
    (case a16 => k_is)
    (case l16 => k_is)
    (case c16 => k_is)
    (case k16 => k_is)
    (case a17 => k_is)
    (case l17 => k_is)
    (case c17 => k_is)
    (case k17 => k_is)
    (case a18 => k_is)
    (case l18 => k_is)
    (case c18 => k_is)
    (case k18 => k_is)
    (case a19 => k_is)
    (case l19 => k_is)
    (case c19 => k_is)
    (case k19 => k_is)
    (case a20 => k_is)
    (case l20 => k_is)
    (case c20 => k_is)
    (case k20 => k_is)
    (case a21 => k_is)
    (case l21 => k_is)
    (case c21 => k_is)
    (case k21 => k_is)
    (case a22 => k_is)
    (case l22 => k_is)
    (case c22 => k_is)
    (case k22 => k_is)
    (case a23 => k_is)
    (case l23 => k_is)
    (case c23 => k_is)
    (case k23 => k_is)
    (case a24 => k_is)
    (case l24 => k_is)
    (case c24 => k_is)
    (case k24 => k_is)
    (case a25 => k_is)
    (case l25 => k_is)
    (case c25 => k_is)
    (case k25 => k_is)
    (case a26 => k_is)
    (case l26 => k_is)
    (case c26 => k_is)
    (case k26 => k_is)
    (case a27 => k_is)
    (case l27 => k_is)
    (case c27 => k_is)
    (case k27 => k_is)
    (case a28 => k_is)
    (case l28 => k_is)
    (case c28 => k_is)
    (case k28 => k_is)
    (case a29 => k_is)
    (case l29 => k_is)
    (case c29 => k_is)
    (case k29 => k_is)
    (case a30 => k_is)
    (case l30 => k_is)
    (case c30 => k_is)
    (case k30 => k_is)
    (case a31 => k_is)
    (case l31 => k_is)
    (case c31 => k_is)
    (case k31 => k_is)
    (case a32 => k_is)
    (case l32 => k_is)
    (case c32 => k_is)
    (case k32 => k_is)
    (case a33 => k_is)
    (case l33 => k_is)
    (case c33 => k_is)
    (case k33 => k_is)
    (case a34 => k_is)
    (case l34 => k_is)
    (case c34 => k_is)
    (case k34 => k_is)
    (case a35 => k_is)
    (case l35 => k_is)
    (case c35 => k_is)
    (case k35 => k_is)
    (case tq35 => k_is)
    (case tp35 => exact rfl)
    (case tno35 => first | rfl | kernel_rfl)
    (case a36 => k_is)
    (case l36 => k_is)
    (case c36 => k_is)
    (case k36 => k_is)
    (case a37 => k_is)
    (case l37 => k_is)
    (case c37 => k_is)
    (case k37 => k_is)
    (case a38 => k_is)
    (case l38 => k_is)
    (case c38 => k_is)
    (case k38 => k_is)
    (case a39 => k_is)
    (case l39 => k_is)
    (case c39 => k_is)
    (case k39 => k_is)
    (case a40 => k_is)
    (case l40 => k_is)
    (case c40 => k_is)
    (case k40 => k_is)
    (case a41 => k_is)
    (case l41 => k_is)
    (case c41 => k_is)
    (case k41 => k_is)
    (case a42 => k_is)
    (case l42 => k_is)
    (case c42 => k_is)
    (case k42 => k_is)
    (case a43 => k_is)
    (case l43 => k_is)
    (case c43 => k_is)
    (case k43 => k_is)
    (case a44 => k_is)
    (case l44 => k_is)
    (case c44 => k_is)
    (case k44 => k_is)
    (case a45 => k_is)
    (case l45 => k_is)
    (case c45 => k_is)
    (case k45 => k_is)
    (case a46 => k_is)
    (case l46 => k_is)
    (case c46 => k_is)
    (case k46 => k_is)
    (case a47 => k_is)
    (case l47 => k_is)
    (case c47 => k_is)
    (case k47 => k_is)
    (case tq47 => k_is)
    (case tp47 => exact rfl)
    (case tno47 => first | rfl | kernel_rfl)
    (case a48 => k_is)
    (case l48 => k_is)
    (case c48 => k_is)
    (case k48 => k_is)
    (case a49 => k_is)
    (case l49 => k_is)
    (case c49 => k_is)
    (case k49 => k_is)
    (case a50 => k_is)
    (case l50 => k_is)
    (case c50 => k_is)
    (case k50 => k_is)
    (case a51 => k_is)
    (case l51 => k_is)
    (case c51 => k_is)
    (case k51 => k_is)
    (case a52 => k_is)
    (case l52 => k_is)
    (case c52 => k_is)
    (case k52 => k_is)
    (case a53 => k_is)
    (case l53 => k_is)
    (case c53 => k_is)
    (case k53 => k_is)
    (case a54 => k_is)
    (case l54 => k_is)
    (case c54 => k_is)
    (case k54 => k_is)
    (case pg_Saying => k_is)
    (case hd_Saying => k_is)
    (case po_Saying => k_is)
    (case sa_Saying => k_is)
    (case kc_Saying => k_is)
    (case nword_Saying => k_is)
    (case nleft_Saying => k_is)
    (case nright_Saying => k_is)
    (case mk_Saying => k_is)
    (case ha_Saying => k_is)
    (case hn_Saying => k_is)
    (case ht_Saying => k_is)
    (case hm_Saying => k_is)
    (case ne_Saying => k_is)
    (case ob_Saying => k_is)
    (case wa_MARKS => k_is)
    (case wl_MARKS => k_is)
    (case wt_MARKS => exact ⟨⟨_, _, rfl, rfl⟩, ⟨⟨_, _, rfl, rfl⟩, trivial⟩⟩)
    (case wo_MARKS => rfl)
    (case wf_MARKS_0 => k_is)
    (case wr_MARKS_0 => exact ⟨_, rfl⟩)
    (case wf_MARKS_1 => k_is)
    (case wr_MARKS_1 => exact ⟨_, rfl⟩)
    (case q0 => k_is)
    (case q1 => k_is)
    (case q2 => k_is)
    (case z0 => k_is)
    (case z1 => k_is)
    (case z2 => k_is)
    (case z3 => k_is)
    (case z4 => k_is)
    (case z5 => k_is)
    (case z6 => k_is)
    (case z7 => k_is)
    (case z8 => k_is)
    (case z9 => k_is)
    (case mq_comb => k_is)
    (case zm => k_is)
    (case tne => decide)

