import PyProof.Rows.All
import VapktbSpec
import Wide.All
import OpenK.AllK
import Wide.FinOn
import Open.SpecLaws
import KE.OsGo
import HandS.ForSpec
import HandS.Comp
import HandS.More
import PySem.Challenge.RW_ruletablesdesk_s01_answers
import KE.OsArith
import HandS.Iter
import HandS.Conv
import HandS.SetFor
import HandS.TupSets
import HandS.DictTup
import HandS.TupLen
import HandS.WideBits
import HandS.Text
import HandS.Walk
import PyProof.DictMoreH
import KE.KDictZip
import PyVapktb
set_option linter.all false
/-! The mathematics of sets: the specification's numbers against lists of truth values. -/
namespace RT
open VapktBase

/-- the number whose binary digits are these, the lowest first -/
def bitsN : List Bool → Nat
  | [] => 0
  | b :: r => b.toNat + 2 * bitsN r

theorem bitsN_test : ∀ (l : List Bool) (i : Nat), (bitsN l).testBit i = l.getD i false
  | [], i => by simp [bitsN]
  | b :: r, 0 => by
    rw [bitsN, Nat.testBit_zero]
    cases b <;> simp <;> omega
  | b :: r, i + 1 => by
    have e : (b.toNat + 2 * bitsN r) / 2 = bitsN r := by cases b <;> simp <;> omega
    rw [bitsN, Nat.testBit_succ, e, bitsN_test r i]
    rfl

theorem bitsN_lt (l : List Bool) : bitsN l < 2 ^ l.length := by
  induction l with
  | nil => exact Nat.one_pos
  | cons b r ih =>
    rw [bitsN, List.length_cons, Nat.pow_succ]
    cases b <;> simp <;> omega

theorem bitsN_inj : ∀ {l m : List Bool}, l.length = m.length → bitsN l = bitsN m → l = m
  | [], [], _, _ => rfl
  | [], _ :: _, h, _ => by simp at h
  | _ :: _, [], h, _ => by simp at h
  | a :: l, b :: m, h, e => by
    rw [bitsN, bitsN] at e
    have e1 : a = b := by cases a <;> cases b <;> simp at e <;> first | rfl | omega
    subst e1
    rw [bitsN_inj (l := l) (m := m) (by simpa using h) (by omega)]

theorem fold_or (f : Nat → Bool) : ∀ (l : List Nat) (s i : Nat), (l.foldl (fun s h => if f h then Nat.lor s (2 ^ h) else s) s).testBit i = (s.testBit i || (l.contains i && f i))
  | [], s, i => by simp
  | h :: l, s, i => by
    rw [List.foldl_cons, fold_or f l]
    have e : (if f h then Nat.lor s (2 ^ h) else s).testBit i = (s.testBit i || (f h && (h == i))) := by
      cases c : f h
      · simp
      · have : Nat.lor s (2 ^ h) = s ||| 2 ^ h := rfl
        rw [if_pos rfl, this, Nat.testBit_or, Nat.testBit_two_pow]
        by_cases q : h = i <;> simp [q]
    rw [e, List.contains_cons]
    by_cases q : h = i
    · subst q
      cases s.testBit h <;> cases f h <;> simp
    · have q1 : (h == i) = false := by simpa using q
      have q2 : (i == h) = false := by simpa using fun z => q z.symm
      rw [q1, q2]
      cases s.testBit i <;> simp

theorem contains_range (n i : Nat) : (List.range n).contains i = decide (i < n) := by
  by_cases h : i < n
  · rw [decide_eq_true h]
    simpa using h
  · rw [decide_eq_false h]
    simpa using h

theorem setOf_test (w : Nat) (f : Nat → Bool) (i : Nat) : (setOf w f).testBit i = (decide (i < 2 ^ w) && f i) := by
  unfold setOf headers
  rw [fold_or, contains_range]
  simp

/-- a set as a list of truth values -/
def flags (w : Nat) (f : Nat → Bool) : List Bool := (List.range (2 ^ w)).map f
theorem flags_len (w : Nat) (f : Nat → Bool) : (flags w f).length = 2 ^ w := by simp [flags]
theorem flags_get (w : Nat) (f : Nat → Bool) (i : Nat) (h : i < 2 ^ w) : (flags w f)[i]? = some (f i) := by
  simp [flags, h]
theorem flags_getD (w : Nat) (f : Nat → Bool) (i : Nat) : (flags w f).getD i false = (decide (i < 2 ^ w) && f i) := by
  by_cases h : i < 2 ^ w
  · simp [flags, h]
  · simp [flags, h]

theorem setOf_bits (w : Nat) (f : Nat → Bool) : setOf w f = bitsN (flags w f) := by
  apply Nat.eq_of_testBit_eq
  intro i
  rw [setOf_test, bitsN_test, flags_getD]

/-- a set of which each member is told, by its list -/
theorem set_bits {w s : Nat} {l : List Bool} (hl : l.length = 2 ^ w) (h : ∀ i, s.testBit i = l.getD i false) : s = bitsN l := by
  apply Nat.eq_of_testBit_eq
  intro i
  rw [h, bitsN_test]

theorem bitsN_mod (l : List Bool) (n : Nat) : bitsN l % 2 ^ n = bitsN (l.take n) := by
  apply Nat.eq_of_testBit_eq
  intro i
  rw [Nat.testBit_mod_two_pow, bitsN_test, bitsN_test]
  by_cases h : i < n
  · simp [h, List.getD_eq_getElem?_getD, List.getElem?_take_of_lt]
  · have h2 : n ≤ i := by omega
    simp [h, List.getD_eq_getElem?_getD, List.getElem?_take_eq_none h2]

theorem bitsN_div (l : List Bool) (n : Nat) : bitsN l / 2 ^ n = bitsN (l.drop n) := by
  apply Nat.eq_of_testBit_eq
  intro i
  rw [Nat.testBit_div_two_pow, bitsN_test, bitsN_test]
  simp [List.getD_eq_getElem?_getD, List.getElem?_drop, Nat.add_comm]

theorem bitsN_zero : ∀ (l : List Bool), bitsN l = 0 ↔ l.any id = false
  | [] => by simp [bitsN]
  | b :: r => by
    have ih := bitsN_zero r
    rw [bitsN, List.any_cons]
    cases b
    · simp at ih ⊢
      constructor
      · intro h; exact ih.mp (by omega)
      · intro h; have := ih.mpr h; omega
    · simp

/-- the patterns of a set, as the program finds them -/
def pats : Nat → List Bool → List (Nat × Nat)
  | 0, l => if l.any id = false then [] else [(0, 0)]
  | w + 1, l => if l.any id = false then [] else
    if l.take (2 ^ w) = l.drop (2 ^ w) then pats w (l.take (2 ^ w))
    else (pats w (l.take (2 ^ w))).map (fun p => (p.1 + 2 ^ w, p.2)) ++ (pats w (l.drop (2 ^ w))).map (fun p => (p.1 + 2 ^ w, p.2 + 2 ^ w))

def mkPat (p : Nat × Nat) : Pattern := ⟨p.1, p.2⟩

theorem formOf_zero : ∀ w, formOf w 0 = []
  | 0 => rfl
  | w + 1 => by
    rw [formOf]
    simp [formOf_zero w]

theorem formOf_pats : ∀ (w : Nat) (l : List Bool), l.length = 2 ^ w → formOf w (bitsN l) = (pats w l).map mkPat
  | 0, l, h => by
    rw [formOf, pats]
    by_cases c : l.any id = false
    · rw [if_pos c, if_pos ((bitsN_zero l).mpr c)]
      rfl
    · rw [if_neg c, if_neg (fun z => c ((bitsN_zero l).mp z))]
      rfl
  | w + 1, l, h => by
    by_cases c : l.any id = false
    · rw [pats, if_pos c, (bitsN_zero l).mpr c, formOf_zero]
      rfl
    · have l1 : (l.take (2 ^ w)).length = 2 ^ w := by rw [List.length_take, h, Nat.pow_succ]; omega
      have l2 : (l.drop (2 ^ w)).length = 2 ^ w := by rw [List.length_drop, h, Nat.pow_succ]; omega
      rw [pats, if_neg c, formOf]
      simp only [headers, bitsN_mod, bitsN_div]
      by_cases e : l.take (2 ^ w) = l.drop (2 ^ w)
      · rw [if_pos e, if_pos (congrArg bitsN e), formOf_pats w _ l1]
      · rw [if_neg e, if_neg (fun z => e (bitsN_inj (l1.trans l2.symm) z)), formOf_pats w _ l1, formOf_pats w _ l2]
        simp [List.map_append, List.map_map, Function.comp_def, mkPat]

/-- a told set -/
theorem form_setOf (w : Nat) (f : Nat → Bool) : formOf w (setOf w f) = (pats w (flags w f)).map mkPat := by
  rw [setOf_bits, formOf_pats w _ (flags_len w f)]

def tellPats (ps : List (Nat × Nat)) : List Int := (ps.length : Int) :: ps.flatMap fun p => [(p.1 : Int), (p.2 : Int)]
theorem setTold_bits (w : Nat) (l : List Bool) (h : l.length = 2 ^ w) : Vapktb.setTold w (bitsN l) = tellPats (pats w l) := by
  unfold Vapktb.setTold tellPats
  rw [formOf_pats w l h]
  simp [List.flatMap_map, flatPattern, mkPat, Vapktb.int, VapktBase.int]
theorem setTold_setOf (w : Nat) (f : Nat → Bool) : Vapktb.setTold w (setOf w f) = tellPats (pats w (flags w f)) := by
  rw [setOf_bits, setTold_bits w _ (flags_len w f)]

/-! ### how many -/
theorem pats_len : ∀ (w : Nat) (l : List Bool), (pats w l).length ≤ 2 ^ w
  | 0, l => by
    rw [pats]
    split <;> simp
  | w + 1, l => by
    rw [pats]
    have a := pats_len w (l.take (2 ^ w))
    have b := pats_len w (l.drop (2 ^ w))
    rw [Nat.pow_succ]
    split
    · simp
    · split
      · omega
      · rw [List.length_append, List.length_map, List.length_map]
        omega
theorem pats_lt : ∀ (w : Nat) (l : List Bool), ∀ p ∈ pats w l, p.1 < 2 ^ w ∧ p.2 < 2 ^ w
  | 0, l, p, h => by
    rw [pats] at h
    split at h
    · cases h
    · simp at h
      subst h
      exact ⟨Nat.one_pos, Nat.one_pos⟩
  | w + 1, l, p, h => by
    rw [pats] at h
    rw [Nat.pow_succ]
    split at h
    · cases h
    · split at h
      · have := pats_lt w _ p h
        omega
      · rcases List.mem_append.mp h with h | h
        · obtain ⟨q, hq, rfl⟩ := List.mem_map.mp h
          have := pats_lt w _ q hq
          show q.1 + 2 ^ w < _ ∧ q.2 < _
          omega
        · obtain ⟨q, hq, rfl⟩ := List.mem_map.mp h
          have := pats_lt w _ q hq
          show q.1 + 2 ^ w < _ ∧ q.2 + 2 ^ w < _
          omega

/-! ### members, size -/
theorem members_setOf (w : Nat) (f : Nat → Bool) : members w (setOf w f) = (List.range (2 ^ w)).filter f := by
  unfold members has headers
  apply List.filter_congr
  intro x hx
  rw [setOf_test, decide_eq_true (List.mem_range.mp hx)]
  rfl
theorem size_setOf (w : Nat) (f : Nat → Bool) : size w (setOf w f) = ((List.range (2 ^ w)).filter f).length := by
  unfold size
  rw [members_setOf]
end RT
set_option linter.all false
/-! The mathematics of rules: numbers of bits, rewrites, reading. -/
namespace RT
open VapktBase

/-! ### bits -/
theorem add_or {a b : Nat} (h : a &&& b = 0) : a + b = a ||| b := by
  have key : ∀ n, ∀ a b : Nat, a < 2 ^ n → b < 2 ^ n → a &&& b = 0 → a + b = a ||| b := by
    intro n a b ha hb h
    have e := BitVec.add_eq_or_of_and_eq_zero (w := n + 1) (BitVec.ofNat (n + 1) a) (BitVec.ofNat (n + 1) b) (by
      apply BitVec.eq_of_toNat_eq
      rw [BitVec.toNat_and, BitVec.toNat_ofNat, BitVec.toNat_ofNat, Nat.mod_eq_of_lt (by rw [Nat.pow_succ]; omega), Nat.mod_eq_of_lt (by rw [Nat.pow_succ]; omega), h]
      simp)
    have e2 := congrArg BitVec.toNat e
    rw [BitVec.toNat_or, BitVec.toNat_add, BitVec.toNat_ofNat, BitVec.toNat_ofNat, Nat.mod_eq_of_lt (by rw [Nat.pow_succ]; omega : a < _), Nat.mod_eq_of_lt (by rw [Nat.pow_succ]; omega : b < _), Nat.mod_eq_of_lt (by rw [Nat.pow_succ]; omega)] at e2
    exact e2
  have h1 : a < 2 ^ (a + b) := Nat.lt_of_lt_of_le Nat.lt_two_pow_self (Nat.pow_le_pow_right (by decide) (by omega))
  have h2 : b < 2 ^ (a + b) := Nat.lt_of_lt_of_le Nat.lt_two_pow_self (Nat.pow_le_pow_right (by decide) (by omega))
  exact key (a + b) a b h1 h2 h

theorem and_part (h m : Nat) : h = (h &&& m) + (h ^^^ (h &&& m)) := by
  have d : (h &&& m) &&& (h ^^^ (h &&& m)) = 0 := by
    apply Nat.eq_of_testBit_eq
    intro i
    simp only [Nat.testBit_and, Nat.testBit_xor, Nat.zero_testBit]
    cases h.testBit i <;> cases m.testBit i <;> rfl
  rw [add_or d]
  apply Nat.eq_of_testBit_eq
  intro i
  simp only [Nat.testBit_and, Nat.testBit_xor, Nat.testBit_or]
  cases h.testBit i <;> cases m.testBit i <;> rfl

/-- what a rewrite makes of a header, as the program reckons it -/
theorem rewritten_sum (r : Rewrite) (h : Nat) (hs : r.bits &&& r.mask = r.bits) : rewritten r h = (h - (h &&& r.mask)) + r.bits := by
  have e : h - (h &&& r.mask) = h ^^^ (h &&& r.mask) := by
    have := and_part h r.mask
    omega
  rw [e]
  have d : (h ^^^ (h &&& r.mask)) &&& r.bits = 0 := by
    apply Nat.eq_of_testBit_eq
    intro i
    have q := congrArg (fun n => n.testBit i) hs
    simp only [Nat.testBit_and, Nat.testBit_xor, Nat.zero_testBit] at q ⊢
    revert q
    cases h.testBit i <;> cases r.mask.testBit i <;> cases r.bits.testBit i <;> simp
  rw [add_or d]
  rfl
theorem rewritten_lt {w : Nat} {r : Rewrite} {h : Nat} (hb : r.bits < 2 ^ w) (hh : h < 2 ^ w) : rewritten r h < 2 ^ w := by
  unfold rewritten
  exact Nat.or_lt_two_pow (Nat.xor_lt_two_pow hh (Nat.lt_of_le_of_lt Nat.and_le_left hh)) hb

/-! ### what stands in a table of so many bits -/
structure WfPat (w : Nat) (p : Pattern) : Prop where
  t : p.told < 2 ^ w
  b : p.bits < 2 ^ w
  s : p.bits &&& p.told = p.bits
def WfAct (w : Nat) : Action → Prop
  | .drop => True
  | .send r p => r.mask < 2 ^ w ∧ r.bits < 2 ^ w ∧ r.bits &&& r.mask = r.bits ∧ p < 6
structure WfRule (w : Nat) (r : Rule) : Prop where
  p : WfPat w r.pattern
  a : WfAct w r.action
def WfTab (w : Nat) (t : Table) : Prop := t.length ≤ 8 ∧ ∀ r ∈ t, WfRule w r

/-! ### reading -/
theorem readNat_eq (lo hi : Nat) (z : Int) (r : List Int) : readNat lo hi (z :: r) = if (lo : Int) ≤ z ∧ z ≤ (hi : Int) then some (z.toNat, r) else none := rfl

/-- whether two numbers are a pattern -/
def isPat (w : Nat) (t o : Int) : Prop := 0 ≤ t ∧ t < 2 ^ w ∧ 0 ≤ o ∧ o < 2 ^ w ∧ o.toNat &&& t.toNat = o.toNat
instance (w : Nat) (t o : Int) : Decidable (isPat w t o) := by unfold isPat; infer_instance

theorem pow_cast (w : Nat) : ((2 ^ w : Nat) : Int) = (2 : Int) ^ w := by
  rw [Int.natCast_pow]; rfl

theorem readPattern_two (w : Nat) (t o : Int) (r : List Int) : readPattern w (t :: o :: r) = if isPat w t o then some (⟨t.toNat, o.toNat⟩, r) else none := by
  have hp : 0 < 2 ^ w := Nat.two_pow_pos w
  have hc := pow_cast w
  unfold readPattern readPair headers
  rw [readNat_eq]
  have e0 : ((0 : Nat) : Int) = 0 := rfl
  rw [e0]
  have ee : ((2 ^ w - 1 : Nat) : Int) = 2 ^ w - 1 := by omega
  rw [ee]
  by_cases c1 : 0 ≤ t ∧ t ≤ 2 ^ w - 1
  · rw [if_pos c1]
    simp only [Option.bind_some]
    rw [readNat_eq, e0, ee]
    by_cases c2 : 0 ≤ o ∧ o ≤ 2 ^ w - 1
    · rw [if_pos c2]
      simp only [Option.map_some, Option.bind_some]
      by_cases c3 : o.toNat &&& t.toNat = o.toNat
      · rw [if_pos (show Nat.land o.toNat t.toNat = o.toNat from c3), if_pos (show isPat w t o from ⟨c1.1, by omega, c2.1, by omega, c3⟩)]
      · rw [if_neg (show ¬ Nat.land o.toNat t.toNat = o.toNat from c3), if_neg (fun z : isPat w t o => c3 z.2.2.2.2)]
    · rw [if_neg c2, if_neg (fun z : isPat w t o => c2 ⟨z.2.2.1, by have := z.2.2.2.1; omega⟩)]
      rfl
  · rw [if_neg c1, if_neg (fun z : isPat w t o => c1 ⟨z.1, by have := z.2.1; omega⟩)]
    rfl
theorem readPattern_nil (w : Nat) : readPattern w [] = none := rfl
theorem readPattern_one (w : Nat) (t : Int) : readPattern w [t] = none := by
  unfold readPattern readPair
  rw [readNat_eq]
  split <;> rfl

/-- a port -/
def isPort (p : Int) : Prop := 0 ≤ p ∧ p < 6
instance (p : Int) : Decidable (isPort p) := by unfold isPort; infer_instance

theorem readAction_drop (w : Nat) (r : List Int) : readAction w (0 :: r) = some (.drop, r) := rfl
theorem readAction_send (w : Nat) (m b p : Int) (r : List Int) : readAction w (1 :: m :: b :: p :: r) = if isPat w m b ∧ isPort p then some (.send ⟨m.toNat, b.toNat⟩ p.toNat, r) else none := by
  show ((readPair (readRewrite w) (readNat 0 (PORTS - 1)) (m :: b :: p :: r)).map fun u => (Action.send u.1.1 u.1.2, u.2)) = _
  unfold readPair readRewrite
  rw [readPattern_two]
  by_cases c : isPat w m b
  · rw [if_pos c]
    simp only [Option.map_some, Option.bind_some]
    rw [readNat_eq]
    have e : (((PORTS - 1 : Nat)) : Int) = 5 := rfl
    have e0 : ((0 : Nat) : Int) = 0 := rfl
    rw [e, e0]
    by_cases c2 : 0 ≤ p ∧ p ≤ 5
    · rw [if_pos c2, if_pos ⟨c, ⟨c2.1, by omega⟩⟩]
      rfl
    · rw [if_neg c2, if_neg (fun z => c2 ⟨z.2.1, by have := z.2.2; omega⟩)]
      rfl
  · rw [if_neg c, if_neg (fun z => c z.1)]
    rfl
theorem readAction_short1 (w : Nat) : readAction w [1] = none := by
  show ((readPair (readRewrite w) (readNat 0 (PORTS - 1)) []).map fun u => (Action.send u.1.1 u.1.2, u.2)) = _
  rfl
theorem readAction_short2 (w : Nat) (m : Int) : readAction w [1, m] = none := by
  show ((readPair (readRewrite w) (readNat 0 (PORTS - 1)) [m]).map fun u => (Action.send u.1.1 u.1.2, u.2)) = _
  unfold readPair readRewrite
  rw [readPattern_one]
  rfl
theorem readAction_short3 (w : Nat) (m b : Int) : readAction w [1, m, b] = none := by
  show ((readPair (readRewrite w) (readNat 0 (PORTS - 1)) [m, b]).map fun u => (Action.send u.1.1 u.1.2, u.2)) = _
  unfold readPair readRewrite
  rw [readPattern_two]
  split
  · simp only [Option.map_some, Option.bind_some]
    rfl
  · rfl
theorem readAction_nil (w : Nat) : readAction w [] = none := rfl
theorem readAction_else (w : Nat) (k : Int) (r : List Int) (h0 : k ≠ 0) (h1 : k ≠ 1) : readAction w (k :: r) = none := by
  unfold readAction
  split
  · rename_i q; exact absurd (List.cons.inj q).1 h0
  · rename_i q; exact absurd (List.cons.inj q).1 h1
  · rfl

theorem readRule_two (w : Nat) (t o : Int) (r : List Int) : readRule w (t :: o :: r) = if isPat w t o then (readAction w r).map fun u => (⟨⟨t.toNat, o.toNat⟩, u.1⟩, u.2) else none := by
  unfold readRule readPair
  rw [readPattern_two]
  by_cases c : isPat w t o
  · rw [if_pos c, if_pos c]
    simp only [Option.bind_some, Option.map_map]
    rfl
  · rw [if_neg c, if_neg c]
    rfl
theorem readRule_nil (w : Nat) : readRule w [] = none := rfl
theorem readRule_one (w : Nat) (t : Int) : readRule w [t] = none := by
  unfold readRule readPair
  rw [readPattern_one]
  rfl

theorem toNat_int {z : Int} (h : 0 ≤ z) : ((z.toNat : Nat) : Int) = z := Int.toNat_of_nonneg h
theorem wf_pat {w : Nat} {t o : Int} (h : isPat w t o) : WfPat w ⟨t.toNat, o.toNat⟩ := by
  have hc := pow_cast w
  obtain ⟨a, b, c, d, e⟩ := h
  exact ⟨by show t.toNat < _; omega, by show o.toNat < _; omega, e⟩
theorem isPat_of {w : Nat} {p : Pattern} (h : WfPat w p) : isPat w p.told p.bits := by
  have hc := pow_cast w
  have a := h.t
  have b := h.b
  exact ⟨by omega, by omega, by omega, by omega, h.s⟩

/-- what is read of a rule is just what it is told by, and stands within the bits -/
theorem readAction_some {w : Nat} {l : List Int} {a : Action} {r : List Int} (h : readAction w l = some (a, r)) : l = flatAction a ++ r ∧ WfAct w a := by
  rcases l with _ | ⟨k, l⟩
  · cases h
  by_cases h0 : k = 0
  · subst h0
    rw [readAction_drop] at h
    obtain ⟨e1, e2⟩ := Prod.mk.inj (Option.some.inj h)
    subst e1 e2
    exact ⟨rfl, trivial⟩
  by_cases h1 : k = 1
  · subst h1
    rcases l with _ | ⟨m, _ | ⟨b, _ | ⟨p, l⟩⟩⟩
    · rw [readAction_short1] at h; cases h
    · rw [readAction_short2] at h; cases h
    · rw [readAction_short3] at h; cases h
    · rw [readAction_send] at h
      by_cases c : isPat w m b ∧ isPort p
      · rw [if_pos c] at h
        obtain ⟨e1, e2⟩ := Prod.mk.inj (Option.some.inj h)
        subst e1 e2
        have q := wf_pat c.1
        obtain ⟨⟨a1, a2, a3, a4, a5⟩, b1, b2⟩ := c
        refine ⟨?_, q.t, q.b, q.s, by omega⟩
        show _ = (1 : Int) :: ((m.toNat : Nat) : Int) :: ((b.toNat : Nat) : Int) :: ((p.toNat : Nat) : Int) :: _
        rw [toNat_int a1, toNat_int a3, toNat_int b1]
        rfl
      · rw [if_neg c] at h; cases h
  · rw [readAction_else w k l h0 h1] at h; cases h
theorem readRule_some {w : Nat} {l : List Int} {a : Rule} {r : List Int} (h : readRule w l = some (a, r)) : l = flatRule a ++ r ∧ WfRule w a := by
  rcases l with _ | ⟨t, _ | ⟨o, l⟩⟩
  · cases h
  · rw [readRule_one] at h; cases h
  · rw [readRule_two] at h
    by_cases c : isPat w t o
    · rw [if_pos c] at h
      cases e : readAction w l with
      | none => rw [e] at h; cases h
      | some u =>
        obtain ⟨a', r'⟩ := u
        rw [e] at h
        obtain ⟨e1, e2⟩ := Prod.mk.inj (Option.some.inj h)
        subst e1 e2
        obtain ⟨q1, q2⟩ := readAction_some e
        refine ⟨?_, wf_pat c, q2⟩
        show _ = ((t.toNat : Nat) : Int) :: ((o.toNat : Nat) : Int) :: (flatAction a' ++ r')
        rw [toNat_int c.1, toNat_int c.2.2.1, ← q1]
    · rw [if_neg c] at h; cases h
theorem readAction_flat {w : Nat} {a : Action} (h : WfAct w a) (r : List Int) : readAction w (flatAction a ++ r) = some (a, r) := by
  cases a with
  | drop => rfl
  | send q p =>
    obtain ⟨h1, h2, h3, h4⟩ := h
    show readAction w (1 :: (q.mask : Int) :: (q.bits : Int) :: (p : Int) :: r) = _
    rw [readAction_send, if_pos ⟨isPat_of (p := ⟨q.mask, q.bits⟩) ⟨h1, h2, h3⟩, ⟨by omega, by omega⟩⟩]
    rfl
theorem readRule_flat {w : Nat} {a : Rule} (h : WfRule w a) (r : List Int) : readRule w (flatRule a ++ r) = some (a, r) := by
  show readRule w ((a.pattern.told : Int) :: (a.pattern.bits : Int) :: (flatAction a.action ++ r)) = _
  rw [readRule_two, if_pos (isPat_of h.p), readAction_flat h.a]
  rfl
end RT
set_option Elab.async false
set_option linter.all false
set_option maxRecDepth 100000
set_option maxHeartbeats 4000000
/-! The base: the text by places, lists of things side by side, heaps. -/
namespace RT
open PySem PySem.Spec PyProof.Rows L2
def topS (i : Nat) : Stmt := PySem.Challenge.pw_ruletablesdesk_s01_answers.main.body.getD i (.Pass ⟨0, 0, 0, 0⟩)

/-- two lists side by side, each pair so related -/
structure Al {A B : Type} (R : A → B → Prop) (l : List A) (m : List B) : Prop where
  len : l.length = m.length
  get : ∀ (i : Nat) (a : A) (b : B), l[i]? = some a → m[i]? = some b → R a b
section
variable {A B : Type} {R S : A → B → Prop}
theorem Al.nil : Al R [] [] := ⟨rfl, fun i a b h => by simp at h⟩
theorem Al.mono {l : List A} {m : List B} (h : Al R l m) (k : ∀ a b, R a b → S a b) : Al S l m := ⟨h.len, fun i a b p q => k a b (h.get i a b p q)⟩
theorem Al.append {l l' : List A} {m m' : List B} (h : Al R l m) (h' : Al R l' m') : Al R (l ++ l') (m ++ m') := by
  refine ⟨by rw [List.length_append, List.length_append, h.len, h'.len], fun i a b p q => ?_⟩
  have e := h.len
  by_cases c : i < l.length
  · rw [List.getElem?_append_left c] at p
    rw [List.getElem?_append_left (by omega)] at q
    exact h.get i a b p q
  · rw [List.getElem?_append_right (by omega)] at p
    rw [List.getElem?_append_right (by omega)] at q
    rw [← e] at q
    exact h'.get _ a b p q
theorem Al.one {a : A} {b : B} (h : R a b) : Al R [a] [b] := ⟨rfl, fun i x y p q => by
  cases i with
  | zero =>
    cases p
    cases q
    exact h
  | succ i => simp at p⟩
theorem Al.snoc {l : List A} {m : List B} {a : A} {b : B} (h : Al R l m) (k : R a b) : Al R (l ++ [a]) (m ++ [b]) := h.append (Al.one k)
theorem Al.at {l : List A} {m : List B} (h : Al R l m) {i : Nat} {b : B} (q : m[i]? = some b) : ∃ a, l[i]? = some a ∧ R a b := by
  obtain ⟨c, _⟩ := List.getElem?_eq_some_iff.mp q
  have c' : i < l.length := by
    rw [h.len]
    exact c
  exact ⟨l[i], List.getElem?_eq_getElem c', h.get i _ b (List.getElem?_eq_getElem c') q⟩
end
theorem same_upd {H : Hp} {p : Addr} {o : HO} (h : H p = none) : Same H (upd H p o) := fun b x e => by
  rw [upd_ne (ne_of_none e h)]
  exact e
/-- all that was tracked is as it was, but for the object at D -/
def SameBut (D : Addr) (H H' : Hp) : Prop := ∀ b o, b ≠ D → H b = some o → H' b = some o
theorem SameBut.refl (D : Addr) (H : Hp) : SameBut D H H := fun _ _ _ h => h
theorem SameBut.trans {D : Addr} {H H1 H2 : Hp} (a : SameBut D H H1) (b : SameBut D H1 H2) : SameBut D H H2 := fun c o n h => b c o n (a c o n h)
theorem SameBut.same {D : Addr} {H H1 H2 : Hp} (a : SameBut D H H1) (b : Same H1 H2) : SameBut D H H2 := fun c o n h => b c o (a c o n h)
theorem Same.but {D : Addr} {H H1 : Hp} (a : Same H H1) : SameBut D H H1 := fun c o n h => a c o h
theorem SameBut.upd {D : Addr} {o : HO} {H H1 : Hp} (a : SameBut D H H1) : SameBut D H (upd H1 D o) := fun c x n h => by
  rw [upd_ne n]
  exact a c x n h
/-- new at D: what was there before is as it was -/
theorem SameBut.new {D : Addr} {H H1 : Hp} (n : H D = none) (a : SameBut D H H1) : Same H H1 := fun c o h => a c o (ne_of_none h n) h
theorem Same.of_upd {H H1 : Hp} {p : Addr} {o : HO} (n : H p = none) (a : Same (upd H p o) H1) : Same H H1 := (same_upd n).trans a
theorem Same.at {H H1 : Hp} {p : Addr} {o : HO} (a : Same (upd H p o) H1) : H1 p = some o := a _ _ upd_same
theorem map_get {A B : Type} {f : A → B} {l : List A} {i : Nat} {y : B} (h : (l.map f)[i]? = some y) : ∃ x, l[i]? = some x ∧ f x = y := by
  rw [List.getElem?_map] at h
  cases e : l[i]? with
  | none =>
    rw [e] at h
    cases h
  | some x =>
    rw [e] at h
    exact ⟨x, rfl, Option.some.inj h⟩
theorem take_more {A : Type} {l : List A} {i : Nat} {x : A} (h : l[i]? = some x) : l.take (i + 1) = l.take i ++ [x] := by
  rw [List.take_add_one, h]
  rfl
theorem sizeLine_of {n : Nat} (h : n ≤ 1000000) : n < sizeLine := Nat.lt_of_le_of_lt h (by decide)
theorem sizeLine_le {n : Nat} (h : n ≤ 1000000) : n ≤ sizeLine := Nat.le_of_lt (sizeLine_of h)
end RT
set_option Elab.async false
set_option linter.all false
set_option maxRecDepth 100000
set_option maxHeartbeats 4000000
/-! Slices, equality of lists of plain things. -/
namespace RT
open PySem PySem.Spec PyProof.Rows L2
theorem cut_take (xs : List V) (n : Nat) : cutV xs none (some (n : Int)) = xs.take n := by
  unfold cutV
  rw [HT.sIx_nat, HT.sIx_none, List.drop_zero, Nat.sub_zero, Nat.min_def]
  split
  · rfl
  · rw [List.take_length, List.take_of_length_le (by omega)]
theorem cut_drop (xs : List V) (n : Nat) : cutV xs (some (n : Int)) none = xs.drop n := by
  unfold cutV
  rw [HT.sIx_nat, HT.sIx_none, Nat.min_def]
  split
  · rw [List.take_of_length_le]
    rw [List.length_drop]
    omega
  · rw [Nat.sub_self, List.drop_length, List.drop_of_length_le (by omega)]
    rfl
theorem cut_both (xs : List V) (m n : Nat) : cutV xs (some (m : Int)) (some (n : Int)) = (xs.drop m).take (n - m) := by
  unfold cutV
  rw [HT.sIx_nat, HT.sIx_nat, Nat.min_def, Nat.min_def]
  by_cases h1 : m ≤ xs.length
  · rw [if_pos h1]
    by_cases h2 : n ≤ xs.length
    · rw [if_pos h2]
    · rw [if_neg h2, List.take_of_length_le (by rw [List.length_drop]; omega), List.take_of_length_le (by rw [List.length_drop]; omega)]
  · rw [if_neg h1, List.drop_length, List.drop_of_length_le (by omega), List.take_nil, List.take_nil]
/-- values that are told by plain data -/
theorem dp_bools {K : PySem.W.Frag} {H : Hp} : ∀ l : List Bool, DpAll K H (l.map V.bl) (l.map PyData.bool)
  | [] => .nil
  | b :: l => .cons (.bl b) (dp_bools l)
theorem dp_ints {K : PySem.W.Frag} {H : Hp} : ∀ l : List Int, DpAll K H (l.map V.int) (l.map PyData.int)
  | [] => .nil
  | b :: l => .cons (.int b) (dp_ints l)
theorem eqv_bools : ∀ l m : List Bool, PyData.eqvAll (l.map PyData.bool) (m.map PyData.bool) = decide (l = m)
  | [], [] => rfl
  | [], _ :: _ => rfl
  | _ :: _, [] => rfl
  | a :: l, b :: m => by
    show (PyData.eqv (.bool a) (.bool b) && PyData.eqvAll (l.map PyData.bool) (m.map PyData.bool)) = _
    rw [eqv_bools l m]
    show ((a == b) && decide (l = m)) = _
    by_cases h1 : a = b <;> by_cases h2 : l = m <;> simp [h1, h2]
theorem eqv_ints : ∀ l m : List Int, PyData.eqvAll (l.map PyData.int) (m.map PyData.int) = decide (l = m)
  | [], [] => rfl
  | [], _ :: _ => rfl
  | _ :: _, [] => rfl
  | a :: l, b :: m => by
    show (PyData.eqv (.int a) (.int b) && PyData.eqvAll (l.map PyData.int) (m.map PyData.int)) = _
    rw [eqv_ints l m]
    show ((a == b) && decide (l = m)) = _
    by_cases h1 : a = b <;> by_cases h2 : l = m <;> simp [h1, h2]
theorem shaped_bools (l : List Bool) : SeqAt.shaped (.list (l.map PyData.bool)) = true := by
  have h1 : ∀ l : List Bool, PyData.canLayAll0 (l.map PyData.bool) = true := by
    intro l
    induction l with
    | nil => rfl
    | cons b l ih => exact ih
  have h2 : ∀ l : List Bool, PyData.depthAll (l.map PyData.bool) ≤ 1 := by
    intro l
    induction l with
    | nil => exact Nat.zero_le _
    | cons b l ih => exact Nat.max_le.mpr ⟨Nat.zero_le _, ih⟩
  unfold SeqAt.shaped
  rw [Bool.and_eq_true]
  refine ⟨h1 l, decide_eq_true ?_⟩
  show PyData.depthAll (l.map PyData.bool) + 1 ≤ 64
  have := h2 l
  omega
theorem shaped_ints (l : List Int) : SeqAt.shaped (.list (l.map PyData.int)) = true := by
  have h1 : ∀ l : List Int, PyData.canLayAll0 (l.map PyData.int) = true := by
    intro l
    induction l with
    | nil => rfl
    | cons b l ih => exact ih
  have h2 : ∀ l : List Int, PyData.depthAll (l.map PyData.int) ≤ 1 := by
    intro l
    induction l with
    | nil => exact Nat.zero_le _
    | cons b l ih => exact Nat.max_le.mpr ⟨Nat.zero_le _, ih⟩
  unfold SeqAt.shaped
  rw [Bool.and_eq_true]
  refine ⟨h1 l, decide_eq_true ?_⟩
  show PyData.depthAll (l.map PyData.int) + 1 ≤ 64
  have := h2 l
  omega
end RT
set_option Elab.async false
set_option linter.all false
set_option maxRecDepth 100000
set_option maxHeartbeats 4000000
/-! Rules: calls by name, of a callee that is an expression; written dicts with int keys; counting. -/
namespace RT
open PySem PySem.Spec PyProof.Rows L2
/-- a def of the top, under its name -/
structure Def (K : PySem.W.Frag) (mg : Str → Option Value) (x : Str) (st : Stmt) (ps : List Str) : Prop where
  ex : ∃ (f : Addr) (fd : FuncData), Fun K x x st f fd ∧ mg x = some (.ref f) ∧ Binds K fd ps []
/-- a def that may be called by its name -/
structure Cal (P : Program) (w : World) (K : PySem.W.Frag) (mg : Str → Option Value) (base : Heap) (k : Nat) (x : Str) (sp : Sp) : Prop where
  ex : ∃ (f : Addr) (fd : FuncData) (ps : List Str), FnOk P w K mg base CX0 k f fd ps sp ∧ mg x = some (.ref f) ∧ PySem.W.keepIn K (.ref f) = true ∧ Binds K fd ps []
/-- .. by its address -/
structure CalAt (P : Program) (w : World) (K : PySem.W.Frag) (mg : Str → Option Value) (base : Heap) (k : Nat) (f : Addr) (sp : Sp) : Prop where
  ex : ∃ (fd : FuncData) (ps : List Str), FnOk P w K mg base CX0 k f fd ps sp ∧ PySem.W.keepIn K (.ref f) = true ∧ Binds K fd ps []
/-- a method -/
structure Met (P : Program) (w : World) (K : PySem.W.Frag) (mg : Str → Option Value) (base : Heap) (k : Nat) (C : Addr) (m : Str) (sp : Sp) : Prop where
  ex : ∃ (f : Addr) (fd : FuncData) (ps : List Str), Meth K C m f ∧ FnOk P w K mg base CX0 k f fd ps sp ∧ Binds K fd ps []
section
variable {P : Program} {w : World} {K : PySem.W.Frag} {mg : Str → Option Value} {base : Heap}
theorem cal_mk {x : Str} {st : Stmt} {N ps : List Str} {k : Nat} {sp : Sp} (D : Def K mg x st ps) (S : FnScope N ps (defScope st)) (len : ∀ vs H Q E, sp vs H Q E → vs.length = ps.length)
    (hbody : ∀ (f : Addr) (cdv : Value) (A : Around) (outer : List Env) (s : Shared) (H : Hp) (vs : List V) (Q : VK) (E : XK), Room k (A.deeper (envOfC x (defScope st) s.heap.objs.size f cdv)) → sp vs H Q E →
      ∃ t, PSs (cxOf CX0 P w K mg base N x (defScope st) f cdv A outer s H E).nox (defBody st) t ∧ t { nx := fun _ H' => Q .non H', rt := Q } (start N vs) H) : Cal P w K mg base (k + 1) x sp := by
  obtain ⟨f, fd, F, g, b⟩ := D.ex
  exact ⟨f, fd, ps, F.ok S len (hbody f), g, F.kp, b⟩
theorem Cal.mono {j k : Nat} {x : Str} {sp : Sp} (c : Cal P w K mg base j x sp) (h : j ≤ k) : Cal P w K mg base k x sp := by
  obtain ⟨f, fd, ps, F, r⟩ := c.ex
  exact ⟨f, fd, ps, F.mono h, r⟩
end
section
variable {X : Cx} {k j : Nat} {C : Addr} {x m : Str} {sp : Sp} {p pos apos : Pos} {e o fe : Expr} {es : List Expr} {ta te : TE} {t : TA}
theorem pe_c (c : Cal X.prog X.w X.K X.mg X.base k x sp) (hr : Room j X.A) (ha : PA X (e :: es) t) (hk : k ≤ j := by decide) (hg : Gl X x := by rfl)
    (hdb : (x == ("__debug__" : Str)) = false := by decide) (he : starEach (e :: es) X.env = (false, eval e X.env) :: starEach es X.env := by rfl) (hpl : (backTo pos (starEach es X.env)).any (·.1) = false := by rfl) :
    PE X (.Call (.Name x p) (e :: es) [] pos) (tCall sp [] E0 t) := by
  obtain ⟨f, fd, ps, F, hm, kp, b⟩ := c.ex
  exact pe_call F (hr.mono hk) hg hm kp b .nil pass0 ha hdb he hpl
theorem pe_m {pl : Sem Bool} (cl : Cls X.K C) (c : Met X.prog X.w X.K X.mg X.base k C m sp) (hr : Room j X.A) (he : PE X o ta) (ha : PA X (e :: es) t) (hk : k ≤ j := by decide)
    (hst : starEach (e :: es) X.env = (false, eval e X.env) :: starEach es X.env := by rfl) (hpl : (backTo pos (starEach es X.env)).any (·.1) = false := by rfl)
    (ht : eval (.Call (.Attribute o m apos) (e :: es) [] pos) X.env = (do
      let ov ← eval o X.env
      standAt apos.atName
      let (f, first) ← holding [ov] (getMethod ov m pl)
      callWith pos f first (backTo pos (starEach (e :: es) X.env)) (backToKw pos (keywordEach [] X.env))) := by rfl) :
    PE X (.Call (.Attribute o m apos) (e :: es) [] pos) (tMeth C m sp [] E0 ta t) := by
  obtain ⟨f, fd, ps, hm, F, b⟩ := c.ex
  exact pe_meth (pl := pl) he cl hm F (hr.mono hk) b .nil pass0 ha hst hpl ht
theorem pe_m0 {pl : Sem Bool} (cl : Cls X.K C) (c : Met X.prog X.w X.K X.mg X.base k C m sp) (hr : Room j X.A) (he : PE X o ta) (hk : k ≤ j := by decide)
    (ht : eval (.Call (.Attribute o m apos) [] [] pos) X.env = (do
      let ov ← eval o X.env
      standAt apos.atName
      let (f, first) ← holding [ov] (getMethod ov m pl)
      callWith pos f first (backTo pos (starEach [] X.env)) (backToKw pos (keywordEach [] X.env))) := by rfl) :
    PE X (.Call (.Attribute o m apos) [] [] pos) (tMeth C m sp [] E0 ta tNil) := by
  obtain ⟨f, fd, ps, hm, F, b⟩ := c.ex
  exact pe_meth0 (pl := pl) he cl hm F (hr.mono hk) b .nil pass0 ht
/-- a call whose callee is an expression -/
def tCallE (P : Program) (w : World) (K : PySem.W.Frag) (mg : Str → Option Value) (base : Heap) (k : Nat) (te : TE) (t : TA) : TE := fun σ H Q => te σ H fun x H1 => ∃ f sp, x = .ref f ∧ CalAt P w K mg base k f sp ∧ t σ H1 fun vs H2 => sp vs H2 Q E0
theorem pe_callE (hr : Room k X.A) (hf : PE X fe te) (ha : PA X (e :: es) t)
    (hc : eval (.Call fe (e :: es) [] pos) X.env = (do callWith pos (← eval fe X.env) [] (backTo pos (starEach (e :: es) X.env)) (backToKw pos (keywordEach [] X.env))) := by rfl)
    (he : starEach (e :: es) X.env = (false, eval e X.env) :: starEach es X.env := by rfl) (hpl : (backTo pos (starEach es X.env)).any (·.1) = false := by rfl) : PE X (.Call fe (e :: es) [] pos) (tCallE X.prog X.w X.K X.mg X.base k te t) := by
  refine ⟨fun pins s σ H Q I h => ?_⟩
  refine Call_ (thn (hf.run pins s σ H _ I h) fun u s1 ⟨v, H1, I1, r1, q1⟩ => ?_) hc
  obtain ⟨f, sp, rfl, c, ht⟩ := q1
  obtain ⟨fd, ps, F, hk, hb⟩ := c.ex
  cases r1
  refine PySem.W.callWith_K (h₀ := X.base) I1.ok.mod.kin hk (thn (ha.run pos pins s1 σ _ _ I1 ht) fun us s2 ⟨vs, H2, I2, r, q⟩ => ⟨I2.kIn, ?_⟩) he hpl
  exact run_fn (dvs := []) (E := E0) F hr hb .nil pass0 I2 r (by rw [List.append_nil]; exact q)
end
/-! ### a written dict whose keys are ints -/
theorem absV_rel {u : Value} {x : V} (h : absV u = some x) : RelV x u := by
  cases u <;> first | (cases h; first | rfl | exact ⟨_, rfl⟩) | exact nomatch h
def entV (e : DictEntry) : Option (Int × V) := match e.key with
  | .int i _ => if e.hash = hashInt i then (absV e.val).map fun v => (i, v) else none
  | _ => none
theorem entV_some {e : DictEntry} {p : Int × V} (h : entV e = some p) : Value.isInt p.1 e.key = true ∧ e.hash = hashInt p.1 ∧ RelV p.2 e.val := by
  obtain ⟨i, v⟩ := p
  unfold entV at h
  split at h
  · rename_i j t hk
    split at h
    · rename_i hh
      cases ev : absV e.val with
      | none =>
        rw [ev] at h
        cases h
      | some v' =>
        rw [ev] at h
        obtain ⟨e1, e2⟩ := Prod.mk.inj (Option.some.inj h)
        subst e1 e2
        exact ⟨by rw [hk]; simp [Value.isInt], hh, absV_rel ev⟩
    · cases h
  · cases h
structure KDI (K : PySem.W.Frag) (a : Addr) (kvs : List (Int × V)) : Prop where
  ex : ∃ es n, K.lookup a = some ⟨.type "dict", none, .dict es n, #[]⟩ ∧ es.toList.map entV = kvs.map some
def valI (kvs : List (Int × V)) (k : Int) : Option V := (kvs.find? fun p => p.1 == k).map (·.2)
theorem find_ents {k : Int} {v : V} : ∀ {l : List DictEntry} {kvs : List (Int × V)}, l.map entV = kvs.map some → valI kvs k = some v → ∃ u, (l.find? fun e => Value.isInt k e.key).map (·.val) = some u ∧ RelV v u
  | [], [], _, h => nomatch h
  | [], _ :: _, e, _ => nomatch e
  | _ :: _, [], e, _ => nomatch e
  | a :: l, p :: kvs, e, h => by
    rw [List.map_cons, List.map_cons] at e
    obtain ⟨e1, e2⟩ := List.cons.inj e
    obtain ⟨i1, i2, i3⟩ := entV_some e1
    unfold valI at h
    rw [List.find?_cons] at h ⊢
    by_cases c : p.1 = k
    · subst c
      rw [i1]
      rw [beq_self_eq_true] at h
      refine ⟨_, rfl, ?_⟩
      rw [← Option.some.inj h]
      exact i3
    · have c1 : (p.1 == k) = false := beq_eq_false_iff_ne.mpr c
      have c2 : Value.isInt k a.key = false := by
        cases z : Value.isInt k a.key with
        | false => rfl
        | true => exact absurd (Value.isInt_inj _ _ _ i1 z) c
      rw [c1] at h
      rw [c2]
      exact find_ents e2 h
theorem keys_ents {P : Program} {w : World} : ∀ {l : List DictEntry} {kvs : List (Int × V)}, l.map entV = kvs.map some → ∀ e ∈ l, ∃ k, (intKind P w).is k e.key = true ∧ e.hash = (intKind P w).hash k
  | [], _, _, e, he => nomatch he
  | a :: l, [], e, _, _ => nomatch e
  | a :: l, p :: kvs, e, b, hb => by
    rw [List.map_cons, List.map_cons] at e
    obtain ⟨e1, e2⟩ := List.cons.inj e
    rcases List.mem_cons.mp hb with rfl | hb
    · obtain ⟨i1, i2, _⟩ := entV_some e1
      exact ⟨p.1, i1, i2⟩
    · exact keys_ents e2 b hb
def rIxKI (K : PySem.W.Frag) : R2 := fun x y H Q => ∃ p i kvs v, x = .ref p ∧ y = .int i ∧ KDI K p kvs ∧ valI kvs i = some v ∧ Q v H
theorem ix_kdi {X : Cx} : IxR X (rIxKI X.K) := by
  intro value slice pins s σ H x y v u Q I rx ry h hs
  obtain ⟨p, i, kvs, r, rfl, rfl, D, hv, q⟩ := h
  obtain ⟨es, n, hl, he⟩ := D.ex
  obtain rfl : v = Value.ref p := rx
  obtain ⟨t, rfl⟩ := ry
  have hm : s.heap.MapOf (intKind X.prog X.w) p (fun k => findBy Value.isInt es k) :=
    ⟨_, es, n, I.kIn _ _ hl, ⟨rfl, rfl, rfl⟩, rfl, fun e hb => keys_ents he e (Array.mem_toList_iff.mpr hb), fun _ => rfl⟩
  obtain ⟨u0, hf, ru⟩ := find_ents he hv
  have hf' : findBy Value.isInt es i = some u0 := by
    obtain ⟨l⟩ := es
    unfold findBy
    rw [List.find?_toArray]
    have hf2 : Option.map (fun e : DictEntry => e.val) (l.find? fun e => Value.isInt i e.key) = some u0 := hf
    cases q1 : l.find? fun e => Value.isInt i e.key with
    | none =>
      rw [q1] at hf2
      cases hf2
    | some e =>
      rw [q1] at hf2
      exact hf2
  exact tail_any hm.typeIs slot_dict_getitem.lookup (wpAny_getItem_of (intKind_is X.prog X.w i t) hm hf' ⟨r, H, I.tok _, ru, q⟩) hs
/-! ### xs.count(y), flat -/
def rCnt (K : PySem.W.Frag) : V → List V → Hp → VK → Prop := fun x xs H Q => ∃ (p : Addr) (ys : List V) (y : V), x = .ref p ∧ xs = [y] ∧ SqL K H p ys ∧ flatV y = true ∧ ys.all flatV = true ∧ Q (.int (ys.countP (fun z => eqV z y) : Nat)) H
theorem countP_eqU {x : V} : ∀ {xs : List V} {us : List Value}, Vals xs us → xs.all flatV = true → us.countP (eqU x) = xs.countP fun y => eqV y x
  | _, _, .nil, _ => rfl
  | y :: xs, u :: us, .cons r t, f => by
    rw [List.all_cons, Bool.and_eq_true] at f
    rw [List.countP_cons, List.countP_cons, eqU_of r f.1, countP_eqU t f.2]
theorem mt_count {X : Cx} : MtR X "list.count" (rCnt X.K) := by
  intro pins s σ H x xs v us Q I rx rxs h
  obtain ⟨p, ys, y, rfl, rfl, hs, fy, fs, q⟩ := h
  cases rx
  obtain ⟨u, rfl, ru⟩ := rxs.one
  obtain ⟨its, rv, ⟨⟨cls, dd, data, sl⟩, n, ho, hc, hdn, hd⟩, hlen⟩ := I.list hs
  simp only at hc hd
  subst hc hd
  refine call_meets PySem.F.slot_list_count ⟨_, ho, rfl⟩ PySem.F.entry_list_count (PySem.F.args_list_count_2 _ _)
    (SeqAt.list_countAt p its.toArray n dd sl u (eqU y)) ⟨ho, fun z hz => mem_eqAt ru fy rv fs z (by simpa using hz), ?_⟩
  have ec : its.toArray.toList.countP (eqU y) = ys.countP (fun z => eqV z y) := countP_eqU rv fs
  refine ⟨.int (ys.countP (fun z => eqV z y) : Nat), H, I.tok _, ⟨s.toks, ?_⟩, q⟩
  show Value.int ((its.toArray.toList.countP (eqU y) : Nat) : Int) s.toks = Value.int ((ys.countP (fun z => eqV z y) : Nat) : Int) s.toks
  rw [ec]
/-! ### in short -/
def rLen (K : PySem.W.Frag) : List V → Hp → VK → Prop := fun xs H Q => ∃ p ys, xs = [.ref p] ∧ (SqL K H p ys ∨ SqT K H p ys) ∧ Q (.int ys.length) H
theorem pe_len {X : Cx} {e : Expr} {t : TE} {p pos : Pos} (hm : X.mg "len" = none) (h : PE X e t) (hg : Gl X "len" := by rfl) (hs : starEach [e] X.env = (false, eval e X.env) :: starEach [] X.env := by rfl) (hp : (backTo pos (starEach [] X.env)).any (·.1) = false := by rfl) :
    PE X (.Call (.Name "len" p) [e] [] pos) (tCB (rLen X.K) (tCons t tNil)) := pe_callB call_len_seq hg hm PySem.boot_len (pa_cons h pa_nil hs) (he := hs) (hpl := hp)
/-! ### classes -/
/-- a method as it stands behind the top -/
structure MDef (K : PySem.W.Frag) (C : Addr) (m qual : Str) (st : Stmt) (ps : List Str) : Prop where
  ex : ∃ (f : Addr) (fd : FuncData), Meth K C m f ∧ Fun K m qual st f fd ∧ Binds K fd ps []
/-- a class that may be made by its name -/
structure Mak (P : Program) (w : World) (K : PySem.W.Frag) (mg : Str → Option Value) (base : Heap) (k : Nat) (x : Str) (C : Addr) (sp : Sp) : Prop where
  ex : ∃ (f : Addr) (fd : FuncData) (ps : List Str), Mk K C f ∧ FnOk P w K mg base CX0 k f fd ps sp ∧ mg x = some (.ref C) ∧ Binds K fd ps []
/-- an __init__ as it stands behind the top -/
structure IDef (K : PySem.W.Frag) (mg : Str → Option Value) (x : Str) (C : Addr) (qual : Str) (st : Stmt) (ps : List Str) : Prop where
  ex : ∃ (f : Addr) (fd : FuncData), Mk K C f ∧ Fun K "__init__" qual st f fd ∧ mg x = some (.ref C) ∧ Binds K fd ps []
section
variable {P : Program} {w : World} {K : PySem.W.Frag} {mg : Str → Option Value} {base : Heap} {C : Addr}
theorem met_mk {m qual : Str} {st : Stmt} {N ps : List Str} {k : Nat} {sp : Sp} (D : MDef K C m qual st ps) (S : FnScope N ps (defScope st)) (len : ∀ vs H Q E, sp vs H Q E → vs.length = ps.length)
    (hbody : ∀ (f : Addr) (cdv : Value) (A : Around) (outer : List Env) (s : Shared) (H : Hp) (vs : List V) (Q : VK) (E : XK), Room k (A.deeper (envOfC qual (defScope st) s.heap.objs.size f cdv)) → sp vs H Q E →
      ∃ t, PSs (cxOf CX0 P w K mg base N qual (defScope st) f cdv A outer s H E).nox (defBody st) t ∧ t { nx := fun _ H' => Q .non H', rt := Q } (start N vs) H) : Met P w K mg base (k + 1) C m sp := by
  obtain ⟨f, fd, M, F, b⟩ := D.ex
  exact ⟨f, fd, ps, M, F.ok S len (hbody f), b⟩
theorem mak_mk {x qual : Str} {st : Stmt} {N ps : List Str} {k : Nat} {sp : Sp} (D : IDef K mg x C qual st ps) (S : FnScope N ps (defScope st)) (len : ∀ vs H Q E, sp vs H Q E → vs.length = ps.length)
    (hbody : ∀ (f : Addr) (cdv : Value) (A : Around) (outer : List Env) (s : Shared) (H : Hp) (vs : List V) (Q : VK) (E : XK), Room k (A.deeper (envOfC qual (defScope st) s.heap.objs.size f cdv)) → sp vs H Q E →
      ∃ t, PSs (cxOf CX0 P w K mg base N qual (defScope st) f cdv A outer s H E).nox (defBody st) t ∧ t { nx := fun _ H' => Q .non H', rt := Q } (start N vs) H) : Mak P w K mg base (k + 1) x C sp := by
  obtain ⟨f, fd, M, F, g, b⟩ := D.ex
  exact ⟨f, fd, ps, M, F.ok S len (hbody f), g, b⟩
end
section
variable {X : Cx} {k j : Nat} {C : Addr} {x : Str} {sp : Sp} {p pos : Pos} {e : Expr} {es : List Expr} {t : TA}
theorem pe_mk (c : Mak X.prog X.w X.K X.mg X.base k x C sp) (hr : Room j X.A) (ha : PA X (e :: es) t) (hk : k + 1 ≤ j := by decide) (hg : Gl X x := by rfl)
    (hdb : (x == ("__debug__" : Str)) = false := by decide) (he : starEach (e :: es) X.env = (false, eval e X.env) :: starEach es X.env := by rfl) (hpl : (backTo pos (starEach es X.env)).any (·.1) = false := by rfl) :
    PE X (.Call (.Name x p) (e :: es) [] pos) (tMake C sp [] E0 t) := by
  obtain ⟨f, fd, ps, M, F, hm, b⟩ := c.ex
  exact pe_make M F (hr.mono hk) hg hm b .nil pass0 ha hdb he hpl
theorem pe_mk0 (c : Mak X.prog X.w X.K X.mg X.base k x C sp) (hr : Room j X.A) (hk : k + 1 ≤ j := by decide) (hg : Gl X x := by rfl) (hdb : (x == ("__debug__" : Str)) = false := by decide) :
    PE X (.Call (.Name x p) [] [] pos) (tMake C sp [] E0 tNil) := by
  obtain ⟨f, fd, ps, M, F, hm, b⟩ := c.ex
  exact pe_make0 M F (hr.mono hk) hg hm b .nil pass0 hdb
end
end RT
set_option Elab.async false
set_option linter.all false
set_option maxRecDepth 100000
set_option maxHeartbeats 4000000
namespace RT
open PySem PySem.Spec PyProof.Rows L2
abbrev sPats : Stmt := topS 1
abbrev nPats : List Str := ["flags", "half", "with_zero", "with_one", "patterns", "told", "ones"]
theorem scPats : FnScope nPats ["flags"] (defScope sPats) := ⟨rfl, rfl, rfl, by decide +kernel, rfl, by decide +kernel, by decide +kernel⟩
/-- a pattern as a tuple of two numbers -/
def PairAt (H : Hp) (q : V) (x : Nat × Nat) : Prop := ∃ a, q = .ref a ∧ H a = some (.tup [.int x.1, .int x.2])
theorem PairAt.same {H H' : Hp} (s : Same H H') {q : V} {x : Nat × Nat} (h : PairAt H q x) : PairAt H' q x := by
  obtain ⟨a, e, h⟩ := h
  exact ⟨a, e, s _ _ h⟩
theorem PairAt.but {H H' : Hp} {D : Addr} {xs : List V} (n : H D = some (.lst xs)) (s : SameBut D H H') {q : V} {x : Nat × Nat} (h : PairAt H q x) : PairAt H' q x := by
  obtain ⟨a, e, h⟩ := h
  exact ⟨a, e, s _ _ (ne_of h n (by intro z; cases z)) h⟩
def spPats (K : PySem.W.Frag) (wd : Nat) : Sp := fun vs H Q _ => ∃ (a : Addr) (l : List Bool), vs = [.ref a] ∧ SqL K H a (l.map V.bl) ∧ l.length = 2 ^ wd ∧
  ∀ (H' : Hp) (p : Addr) (qs : List V), Same H H' → H p = none → H' p = some (.lst qs) → Al (PairAt H') qs (pats wd l) → Q (.ref p) H'
def spP (K : PySem.W.Frag) : Nat → Sp
  | 0 => fun _ _ _ _ => False
  | n + 1 => spPats K n
section
variable {P : Program} {w : World} {K : PySem.W.Frag} {mg : Str → Option Value} {base : Heap}
theorem ok_pats {f : Addr} {fd : FuncData} (F : Fun K "patterns_of" "patterns_of" sPats f fd) (b : Binds K fd ["flags"] []) (gf : mg "patterns_of" = some (.ref f)) (ma : mg "any" = none) (ml : mg "len" = none) :
    ∀ wd, wd ≤ 7 → FnOk P w K mg base CX0 (wd + 2) f fd ["flags"] (spPats K wd)
  | wd, hw => by
    refine F.ok scPats (fun vs H Q E h => ?_) (fun cdv A outer s H vs Q E hr h => ?_)
    · obtain ⟨a, ns, rfl, _⟩ := h
      rfl
    · obtain ⟨a, l, rfl, hS, hlen, q⟩ := h
      have G : FnOk P w K mg base CX0 (wd + 1) f fd ["flags"] (spP K wd) := by
        cases wd with
        | zero => exact F.ok scPats (fun vs H Q E h => h.elim) (fun cdv A outer s H vs Q E hr h => h.elim)
        | succ n => exact ok_pats F b gf ma ml n (by omega)
      refine ⟨_, pss_cons (ps_if (pt_not (pt_val (pe_callB (cr_any rfl) (by rfl) ma (by decide +kernel) (pa_cons (pv 0) pa_nil)))) (pss_one (ps_ret (pe_lst pa_nil))) pss_nil)
        (pss_cons (ps_if (pt_cmpR op_eq (pe_callB call_len_seq (by rfl) ml PySem.boot_len (pa_cons (pv 0) pa_nil)) pe_int (nomark _)) (pss_one (ps_ret (pe_lst (pa_cons (pe_tup (pa_cons pe_int (pa_cons pe_int pa_nil))) pa_nil)))) pss_nil)
        (pss_cons (ps_set (i := 1) scPats.nd rfl (.inr rfl) (pe_op op_fdiv (pe_callB call_len_seq (by rfl) ml PySem.boot_len (pa_cons (pv 0) pa_nil)) pe_int))
        (pss_cons (ps_set (i := 2) scPats.nd rfl (.inl rfl) (pe_slice sl_list (pv 0) po_none (po_some (pv 1))))
        (pss_cons (ps_set (i := 3) scPats.nd rfl (.inl rfl) (pe_slice sl_list (pv 0) (po_some (pv 1)) po_none))
        (pss_cons (ps_if (pt_cmpR (op_eqD hr.units) (pv 2) (pv 3) (nomark _)) (pss_one (ps_ret (pe_call G hr (by rfl) gf F.kp b .nil pass0 (pa_cons (pv 2) pa_nil)))) pss_nil)
        (pss_cons (ps_setLc (i := 4) (own := [("told", 5), ("ones", 6)]) (g := gTup K 2 (gCons (gName 5) (gCons (gName 6) gNil))) (tt := tYes) rfl scPats.nd rfl rfl (sw_true rfl rfl rfl (by decide +kernel)) (pi_list (pe_call G hr (by rfl) gf F.kp b .nil pass0 (pa_cons (pv 2) pa_nil))) (blkOk_by (N := nPats) (sc := defScope sPats) (by decide +kernel))
            (fun _ _ _ _ _ => pg_tup rfl (pgs_cons (pg_name (i := 5) scPats.nd rfl (.inl rfl) (.inr rfl)) (pgs_cons (pg_name (i := 6) scPats.nd rfl (.inl rfl) (.inr rfl)) pgs_nil))) (fun _ _ _ _ _ => pts_nil)
            (fun _ _ _ _ _ => pe_tup (pa_cons (pe_op op_add (pv 5) (pv 1)) (pa_cons (pv 6) pa_nil))))
        (pss_cons (ps_expr (pe_bm PySem.F.plainAttrs_list PySem.F.slot_list_extend PySem.F.type_list_extend mt_extend (pv 4) (pa_cons
          (pe_lc (own := [("told", 5), ("ones", 6)]) (g := gTup K 2 (gCons (gName 5) (gCons (gName 6) gNil))) (tt := tYes) rfl scPats.nd (pi_list (pe_call G hr (by rfl) gf F.kp b .nil pass0 (pa_cons (pv 3) pa_nil))) (blkOk_by (N := nPats) (sc := defScope sPats) (by decide +kernel))
            (fun _ _ _ _ _ => pg_tup rfl (pgs_cons (pg_name (i := 5) scPats.nd rfl (.inl rfl) (.inr rfl)) (pgs_cons (pg_name (i := 6) scPats.nd rfl (.inl rfl) (.inr rfl)) pgs_nil))) (fun _ _ _ _ _ => pts_nil)
            (fun _ _ _ _ _ => pe_tup (pa_cons (pe_op op_add (pv 5) (pv 1)) (pa_cons (pe_op op_add (pv 6) (pv 1)) pa_nil)))) pa_nil)))
        (pss_one (ps_ret (pv 4)))))))))), ?_⟩
      -- not any(flags)
      refine ⟨.ref a, rfl, a, l, rfl, hS, _, rfl, ite2 (fun c => ?_) (fun c => ?_)⟩
      · have c' : l.any id = false := by simpa using c
        refine ⟨Nat.zero_le _, fun p np => ?_⟩
        refine q _ p [] (same_upd np) np upd_same ?_
        have e : pats wd l = [] := by cases wd <;> rw [pats, if_pos c']
        rw [e]
        exact .nil
      have c' : ¬ l.any id = false := by simpa using c
      refine ⟨.ref a, rfl, a, _, rfl, .inl hS, rfl, _, rfl, ite2 (fun d => ?_) (fun d => ?_)⟩
      · have d' : l.length = 1 := by
          have := V.int.inj (of_decide_eq_true d)
          rw [List.length_map] at this
          omega
        have w0 : wd = 0 := by
          cases wd with
          | zero => rfl
          | succ n => rw [Nat.pow_succ] at hlen; have := Nat.two_pow_pos n; omega
        subst w0
        refine ⟨by show 2 ≤ sizeLine; decide, fun t nt => ?_⟩
        refine ⟨by show 1 ≤ sizeLine; decide, fun p np => ?_⟩
        have nt' : t ≠ p := ne_of_none upd_same np
        refine q _ p _ ((same_upd nt).trans (same_upd np)) ((same_upd nt).free np) upd_same ?_
        have e : pats 0 l = [(0, 0)] := by rw [pats, if_neg c']
        rw [e]
        refine .one ⟨t, rfl, ?_⟩
        rw [upd_ne nt', upd_same]
        rfl
      obtain ⟨n, rfl⟩ : ∃ n, wd = n + 1 := by
        cases wd with
        | zero => exact absurd (decide_eq_true (show V.int ((l.map V.bl).length : Int) = V.int 1 by rw [List.length_map, hlen]; rfl)) d
        | succ n => exact ⟨n, rfl⟩
      have hp : 2 ^ (n + 1) = 2 ^ n * 2 := Nat.pow_succ 2 n
      have hpn : 0 < 2 ^ n := Nat.two_pow_pos n
      have hh : ((l.map V.bl).length : Int) / 2 = ((2 ^ n : Nat) : Int) := by
        rw [List.length_map, hlen]
        omega
      -- half
      refine ⟨.ref a, rfl, a, _, rfl, .inl hS, _, _, rfl, rfl, ⟨by decide, by decide⟩, ?_⟩
      simp only [hh]
      -- with_zero, with_one
      refine ⟨.ref a, rfl, _, rfl, _, rfl, a, _, rfl, hS, fun z nz => ?_⟩
      refine ⟨.ref a, rfl, _, rfl, _, rfl, a, _, rfl, (same_upd nz).seq hS, fun o no => ?_⟩
      rw [cut_take, cut_drop, ← List.map_take, ← List.map_drop]
      rw [cut_take, ← List.map_take] at no
      have hz : SqL K (upd (upd H z (.lst ((l.take (2 ^ n)).map V.bl))) o (.lst ((l.drop (2 ^ n)).map V.bl))) z ((l.take (2 ^ n)).map V.bl) := (same_upd no).seq (.of upd_same)
      have ho : SqL K (upd (upd H z (.lst ((l.take (2 ^ n)).map V.bl))) o (.lst ((l.drop (2 ^ n)).map V.bl))) o ((l.drop (2 ^ n)).map V.bl) := .of upd_same
      have s2 : Same H (upd (upd H z (.lst ((l.take (2 ^ n)).map V.bl))) o (.lst ((l.drop (2 ^ n)).map V.bl))) := (same_upd nz).trans (same_upd no)
      generalize upd (upd H z (.lst ((l.take (2 ^ n)).map V.bl))) o (.lst ((l.drop (2 ^ n)).map V.bl)) = H2 at hz ho s2
      have lz : (l.take (2 ^ n)).length = 2 ^ n := by rw [List.length_take, hlen]; omega
      have lo : (l.drop (2 ^ n)).length = 2 ^ n := by rw [List.length_drop, hlen]; omega
      -- with_zero == with_one
      refine ⟨.ref z, rfl, .ref o, rfl, .list _, .list _, .lst hz (dp_bools _), .lst ho (dp_bools _), shaped_bools _, shaped_bools _, _, rfl, ite2 (fun e => ?_) (fun e => ?_)⟩
      · have e' : l.take (2 ^ n) = l.drop (2 ^ n) := by
          have e1 : PyData.eqvAll ((l.take (2 ^ n)).map PyData.bool) ((l.drop (2 ^ n)).map PyData.bool) = true := e
          rw [eqv_bools] at e1
          exact of_decide_eq_true e1
        have ep : pats (n + 1) l = pats n (l.take (2 ^ n)) := by rw [pats, if_neg c', if_pos e']
        rw [ep] at q
        refine ⟨.ref z, rfl, z, _, rfl, hz, lz, fun H3 p qs s3 np hp al => ?_⟩
        exact q H3 p qs (s2.trans s3) (s2.free np) hp al
      have e' : ¬ l.take (2 ^ n) = l.drop (2 ^ n) := fun z => e (by
        show PyData.eqvAll ((l.take (2 ^ n)).map PyData.bool) ((l.drop (2 ^ n)).map PyData.bool) = true
        rw [eqv_bools, decide_eq_true z])
      have ep : pats (n + 1) l = (pats n (l.take (2 ^ n))).map (fun p => (p.1 + 2 ^ n, p.2)) ++ (pats n (l.drop (2 ^ n))).map (fun p => (p.1 + 2 ^ n, p.2 + 2 ^ n)) := by rw [pats, if_neg c', if_neg e']
      rw [ep] at q
      have zl1 := pats_len n (l.take (2 ^ n))
      have zl2 := pats_len n (l.drop (2 ^ n))
      have hn7 : 2 ^ n ≤ 128 := (Nat.pow_le_pow_right (by decide) (by omega) : 2 ^ n ≤ 2 ^ 7)
      -- patterns = [..]
      refine ⟨.ref z, rfl, z, _, rfl, hz, lz, fun H3 p qs s3 np hp1 al => ?_⟩
      refine ⟨p, rfl, ⟨qs, .of hp1⟩, fun D nD => ?_⟩
      have nDp : p ≠ D := ne_of_none hp1 nD
      refine lc_list (K := K) (a := p) (xs := qs) (fun i H' => ∃ acc, H' D = some (.lst acc) ∧ SameBut D H3 H' ∧ Al (PairAt H') acc (((pats n (l.take (2 ^ n))).take i).map (fun p => (p.1 + 2 ^ n, p.2)))) ⟨[], upd_same, (SameBut.refl D H3).upd, .nil⟩
        (fun i H' _ ⟨acc, _, sb, _⟩ => .of (sb _ _ nDp hp1)) ?_ ?_
      · rintro i x H' hi ⟨acc, ha, sb, hl⟩
        obtain ⟨pr, hpr⟩ : ∃ pr, (pats n (l.take (2 ^ n)))[i]? = some pr := by
          obtain ⟨c, _⟩ := List.getElem?_eq_some_iff.mp hi
          exact ⟨_, List.getElem?_eq_getElem (by rw [← al.len]; exact c)⟩
        obtain ⟨t, rfl, ht⟩ := al.get i x pr hi hpr
        have nt : t ≠ D := ne_of_none ht nD
        refine ⟨t, _, rfl, .of (sb _ _ nt ht), rfl, _, _, rfl, _, _, rfl, rfl, rfl, ?_⟩
        refine ⟨_, rfl, _, rfl, _, _, rfl, rfl, _, rfl, by show 2 ≤ sizeLine; decide, fun T nT => ?_⟩
        have nTD : D ≠ T := ne_of_none ha nT
        have ha' : upd H' T (.tup [.int ((pr.1 : Int) + ((2 ^ n : Nat) : Int)), .int pr.2]) D = some (.lst acc) := (upd_ne nTD).trans ha
        refine ⟨acc, ha', ?_, _, upd_same, ((sb.same (same_upd nT))).upd, ?_⟩
        · rw [hl.len, List.length_map, List.length_take]
          exact sizeLine_of (by omega)
        · rw [take_more hpr, List.map_append]
          refine Al.snoc (hl.mono fun _ _ k => (k.same (same_upd nT)).but ha' (SameBut.refl D _).upd) ⟨T, rfl, ?_⟩
          rw [upd_ne nTD.symm, upd_same]
          rfl
      · rintro H' ⟨acc, ha, sb, hl⟩
        rw [al.len, List.take_length] at hl
        have s4 : Same H3 H' := sb.new nD
        have ho' : SqL K H' o ((l.drop (2 ^ n)).map V.bl) := s4.seq (s3.seq ho)
        -- patterns.extend([..])
        refine ⟨.ref D, rfl, .inl ⟨rfl, _, .of ha⟩, .ref o, rfl, o, _, rfl, ho', lo, fun H5 p2 qs2 s5 np2 hp2 al2 => ?_⟩
        refine ⟨p2, rfl, ⟨qs2, .of hp2⟩, fun D2 nD2 => ?_⟩
        have nDp2 : p2 ≠ D2 := ne_of_none hp2 nD2
        refine lc_list (K := K) (a := p2) (xs := qs2) (fun i H' => ∃ acc, H' D2 = some (.lst acc) ∧ SameBut D2 H5 H' ∧ Al (PairAt H') acc (((pats n (l.drop (2 ^ n))).take i).map (fun p => (p.1 + 2 ^ n, p.2 + 2 ^ n)))) ⟨[], upd_same, (SameBut.refl D2 H5).upd, .nil⟩
          (fun i H' _ ⟨acc, _, sb, _⟩ => .of (sb _ _ nDp2 hp2)) ?_ ?_
        · rintro i x H6 hi ⟨acc2, ha2, sb2, hl2⟩
          obtain ⟨pr, hpr⟩ : ∃ pr, (pats n (l.drop (2 ^ n)))[i]? = some pr := by
            obtain ⟨c, _⟩ := List.getElem?_eq_some_iff.mp hi
            exact ⟨_, List.getElem?_eq_getElem (by rw [← al2.len]; exact c)⟩
          obtain ⟨t, rfl, ht⟩ := al2.get i x pr hi hpr
          have nt : t ≠ D2 := ne_of_none ht nD2
          refine ⟨t, _, rfl, .of (sb2 _ _ nt ht), rfl, _, _, rfl, _, _, rfl, rfl, rfl, ?_⟩
          refine ⟨_, rfl, _, rfl, _, _, rfl, rfl, _, rfl, _, rfl, _, _, rfl, rfl, by show 2 ≤ sizeLine; decide, fun T nT => ?_⟩
          have nTD : D2 ≠ T := ne_of_none ha2 nT
          have ha' : upd H6 T (.tup [.int ((pr.1 : Int) + ((2 ^ n : Nat) : Int)), .int ((pr.2 : Int) + ((2 ^ n : Nat) : Int))]) D2 = some (.lst acc2) := (upd_ne nTD).trans ha2
          refine ⟨acc2, ha', ?_, _, upd_same, ((sb2.same (same_upd nT))).upd, ?_⟩
          · rw [hl2.len, List.length_map, List.length_take]
            exact sizeLine_of (by omega)
          · rw [take_more hpr, List.map_append]
            refine Al.snoc (hl2.mono fun _ _ k => (k.same (same_upd nT)).but ha' (SameBut.refl D2 _).upd) ⟨T, rfl, ?_⟩
            rw [upd_ne nTD.symm, upd_same]
            rfl
        · rintro H7 ⟨acc2, ha2, sb2, hl2⟩
          rw [al2.len, List.take_length] at hl2
          have s7 : Same H' H7 := s5.trans (sb2.new nD2)
          have hD7 := s7 _ _ ha
          refine ⟨D, D2, acc, acc2, rfl, rfl, hD7, ha2, ?_, .ref D, rfl, ?_⟩
          · rw [hl.len, hl2.len, List.length_map, List.length_map]
            exact sizeLine_le (by omega)
          · refine q _ D (acc ++ acc2) (fun b x e => ?_) ?_ upd_same ?_
            · have e3 := s3 _ _ (s2 _ _ e)
              rw [upd_ne (ne_of_none e3 nD)]
              exact s7 _ _ (s4 _ _ e3)
            · exact (s2.trans s3).free nD
            · refine Al.append (hl.mono fun _ _ k => ((k.same s7).but hD7 (SameBut.refl D _).upd)) (hl2.mono fun _ _ k => k.but hD7 (SameBut.refl D _).upd)
def spPatsA (K : PySem.W.Frag) : Sp := fun vs H Q E => ∃ wd, wd ≤ 7 ∧ spPats K wd vs H Q E
theorem cal_pats (D : Def K mg "patterns_of" sPats ["flags"]) (ma : mg "any" = none) (ml : mg "len" = none) : Cal P w K mg base 9 "patterns_of" (spPatsA K) := by
  obtain ⟨f, fd, F, g, b⟩ := D.ex
  refine ⟨f, fd, ["flags"], ⟨fun vs H Q E h => ?_, fun A outer s H args us vs Q E hr he hb hv h => ?_⟩, g, F.kp, b⟩
  · obtain ⟨wd, _, a, l, rfl, _⟩ := h
    rfl
  · obtain ⟨wd, hw, h⟩ := h
    exact (ok_pats F b g ma ml wd hw).run A outer s H args us vs Q E (hr.mono (by omega)) he hb hv h
end
end RT
set_option Elab.async false
set_option linter.all false
set_option maxRecDepth 100000
set_option maxHeartbeats 4000000
namespace RT
open PySem PySem.Spec PyProof.Rows L2
/-- a new list of these numbers is handed back, all else stands -/
def RetInts (H : Hp) (Q : VK) (ns : List Int) : Prop := ∀ (H' : Hp) (p : Addr), Same H H' → H p = none → H' p = some (.lst (ns.map V.int)) → Q (.ref p) H'
abbrev sSet : Stmt := topS 2
abbrev nSet : List Str := ["flags", "patterns", "numbers", "told", "ones"]
theorem scSet : FnScope nSet ["flags"] (defScope sSet) := ⟨rfl, rfl, rfl, by decide +kernel, rfl, by decide +kernel, by decide +kernel⟩
def spSet (K : PySem.W.Frag) : Sp := fun vs H Q _ => ∃ (a : Addr) (l : List Bool) (wd : Nat), vs = [.ref a] ∧ SqL K H a (l.map V.bl) ∧ l.length = 2 ^ wd ∧ wd ≤ 7 ∧ RetInts H Q (tellPats (pats wd l))
def flat2 (ps : List (Nat × Nat)) : List Int := ps.flatMap fun p => [(p.1 : Int), (p.2 : Int)]
theorem flat2_len (ps : List (Nat × Nat)) : (flat2 ps).length = 2 * ps.length := by
  induction ps with
  | nil => rfl
  | cons p r ih =>
    show ((p.1 : Int) :: (p.2 : Int) :: flat2 r).length = 2 * (r.length + 1)
    rw [List.length_cons, List.length_cons, ih]
    omega
theorem flat2_snoc (ps : List (Nat × Nat)) (p : Nat × Nat) : flat2 (ps ++ [p]) = flat2 ps ++ [(p.1 : Int), (p.2 : Int)] := by
  unfold flat2
  rw [List.flatMap_append]
  rfl
section
variable {P : Program} {w : World} {K : PySem.W.Frag} {mg : Str → Option Value} {base : Heap}
theorem cal_set (D : Def K mg "set_as_numbers" sSet ["flags"]) (cp : Cal P w K mg base 9 "patterns_of" (spPatsA K)) (ml : mg "len" = none) : Cal P w K mg base 10 "set_as_numbers" (spSet K) := by
  refine cal_mk D scSet (fun vs H Q E h => ?_) (fun f cdv A outer s H vs Q E hr h => ?_)
  · obtain ⟨a, ns, wd, rfl, _⟩ := h
    rfl
  · obtain ⟨a, l, wd, rfl, hS, hlen, hw, q⟩ := h
    refine ⟨_, pss_cons (ps_set (i := 1) scSet.nd rfl (.inl rfl) (pe_c cp hr (pa_cons (pv 0) pa_nil)))
      (pss_cons (ps_set (i := 2) scSet.nd rfl (.inl rfl) (pe_lst (pa_cons (pe_len ml (pv 1)) pa_nil)))
      (pss_cons (ps_for PassesOwn.never rfl (pi_list (pv 1)) (pg_tup rfl (pgs_cons (pg_name (i := 3) scSet.nd rfl (.inl rfl)) (pgs_cons (pg_name (i := 4) scSet.nd rfl (.inl rfl)) pgs_nil)))
        (pss_cons (ps_expr (pe_bm PySem.F.plainAttrs_list PySem.F.slot_list_append PySem.F.type_list_append mt_append (pv 2) (pa_cons (pv 3) pa_nil)))
          (pss_one (ps_expr (pe_bm PySem.F.plainAttrs_list PySem.F.slot_list_append PySem.F.type_list_append mt_append (pv 2) (pa_cons (pv 4) pa_nil))))))
      (pss_one (ps_ret (pv 2))))), ?_⟩
    refine ⟨.ref a, rfl, wd, hw, a, l, rfl, hS, hlen, fun H1 p qs s1 np hp al => ?_⟩
    have hn7 : 2 ^ wd ≤ 128 := (Nat.pow_le_pow_right (by decide) hw : 2 ^ wd ≤ 2 ^ 7)
    have hl7 := pats_len wd l
    refine ⟨.ref p, rfl, p, _, rfl, .inl (.of hp), by show 1 ≤ sizeLine; decide, fun n nn => ?_⟩
    have npn : p ≠ n := ne_of_none hp nn
    refine ⟨.ref p, rfl, p, rfl, ⟨qs, .of (by rw [upd_ne npn]; exact hp)⟩, for_list (K := K) (a := p) (xs := qs) (fun i σ H' => ∃ y3 y4, σ = [some (.ref a), some (.ref p), some (.ref n), y3, y4] ∧ SameBut n H1 H' ∧ H' n = some (.lst ((((pats wd l).length : Int) :: flat2 ((pats wd l).take i)).map V.int)))
      ⟨none, none, rfl, (SameBut.refl n H1).upd, ?_⟩ (fun i σ H' _ ⟨_, _, _, sb, _⟩ => .of (sb _ _ npn hp)) ?_ ?_⟩
    · rw [upd_same, al.len]
      rfl
    · rintro i x σ H' hi ⟨y3, y4, rfl, sb, hn⟩
      obtain ⟨pr, hpr⟩ : ∃ pr, (pats wd l)[i]? = some pr := by
        obtain ⟨c, _⟩ := List.getElem?_eq_some_iff.mp hi
        exact ⟨_, List.getElem?_eq_getElem (by rw [← al.len]; exact c)⟩
      obtain ⟨t, rfl, ht⟩ := al.get i x pr hi hpr
      have nt : t ≠ n := ne_of_none ht nn
      have sz : (((((pats wd l).length : Int) :: flat2 ((pats wd l).take i)).map V.int)).length ≤ 300 := by
        rw [List.length_map, List.length_cons, flat2_len, List.length_take]
        omega
      refine ⟨t, _, rfl, .of (sb _ _ nt ht), rfl, _, _, rfl, _, _, rfl, rfl, ?_⟩
      refine ⟨.ref n, rfl, .inl ⟨rfl, _, .of hn⟩, _, rfl, n, _, _, rfl, rfl, hn, sizeLine_of (by omega), ?_⟩
      refine ⟨.ref n, rfl, .inl ⟨rfl, _, .of upd_same⟩, _, rfl, n, _, _, rfl, rfl, upd_same, ?_, ?_⟩
      · rw [List.length_append]
        exact sizeLine_of (by show _ + 1 ≤ _; omega)
      · refine ⟨_, _, rfl, sb.upd.upd, ?_⟩
        rw [upd_same, take_more hpr, flat2_snoc]
        simp [List.append_assoc]
    · rintro σ H' ⟨y3, y4, rfl, sb, hn⟩
      rw [al.len, List.take_length] at hn
      exact ⟨_, rfl, q H' n (s1.trans (sb.new nn)) (s1.free nn) hn⟩
end
end RT
set_option linter.all false
/-! The mathematics of what a table does. -/
namespace RT
open VapktBase
/-- the bits in which a header differs from a pattern -/
theorem unlike_test {w : Nat} {p : Pattern} (hp : WfPat w p) (h b : Nat) : ((h &&& p.told) ^^^ p.bits).testBit b = (p.told.testBit b && p.bits.testBit b != h.testBit b) := by
  have q := congrArg (fun n => n.testBit b) hp.s
  simp only [Nat.testBit_and, Nat.testBit_xor] at q ⊢
  revert q
  cases h.testBit b <;> cases p.told.testBit b <;> cases p.bits.testBit b <;> simp
theorem find_rev (f : Nat → Bool) {b : Nat} : ∀ w, b < w → f b = true → (∀ c, b < c → c < w → f c = false) → ((List.range w).reverse).find? f = some b
  | 0, h, _, _ => absurd h (Nat.not_lt_zero _)
  | w + 1, h, hb, hn => by
    rw [List.range_succ, List.reverse_append, List.reverse_singleton, List.singleton_append, List.find?_cons]
    by_cases c : b = w
    · subst c
      rw [hb]
    · rw [hn w (by omega) (by omega)]
      exact find_rev f w (by omega) hb (fun c h1 h2 => hn c h1 (by omega))
theorem testBit_above {u c : Nat} (h : u.log2 < c) : u.testBit c = false := by
  refine Nat.testBit_lt_two_pow ?_
  by_cases z : u = 0
  · subst z
    exact Nat.two_pow_pos c
  · exact Nat.lt_of_lt_of_le Nat.lt_log2_self (Nat.pow_le_pow_right (by decide) h)
theorem log2_test {u : Nat} (h : u ≠ 0) : u.testBit u.log2 = true := by
  have h1 := Nat.log2_self_le h
  have h2 : u < 2 ^ (u.log2 + 1) := Nat.lt_log2_self
  rw [Nat.testBit_eq_decide_div_mod_eq]
  have e : u / 2 ^ u.log2 = 1 := by
    refine Nat.div_eq_of_lt_le (by omega) ?_
    rw [Nat.pow_succ] at h2
    omega
  rw [e]
  rfl
/-- the highest bit that a pattern tells and that's otherwise in a header that doesn't match it -/
theorem miss_log2 {w : Nat} {p : Pattern} {h : Nat} (hp : WfPat w p) (hn : matchesIt p h = false) : ((h &&& p.told) ^^^ p.bits) ≠ 0 ∧ Vapktb.missAt w p h = some ((h &&& p.told) ^^^ p.bits).log2 := by
  have ne : ((h &&& p.told) ^^^ p.bits) ≠ 0 := by
    intro z
    have e : h &&& p.told = p.bits := Nat.eq_of_testBit_eq fun i => by
      have q := congrArg (fun n => n.testBit i) z
      simp only [Nat.testBit_xor, Nat.zero_testBit] at q
      revert q
      cases (h &&& p.told).testBit i <;> cases p.bits.testBit i <;> simp
    have c : (Nat.land h p.told == p.bits) = true := by
      show ((h &&& p.told) == p.bits) = true
      rw [e]
      exact beq_self_eq_true _
    unfold matchesIt at hn
    rw [hn] at c
    cases c
  refine ⟨ne, ?_⟩
  have lt : ((h &&& p.told) ^^^ p.bits).log2 < w := by
    rw [Nat.log2_lt ne]
    exact Nat.xor_lt_two_pow (Nat.lt_of_le_of_lt Nat.and_le_right hp.t) hp.b
  unfold Vapktb.missAt
  refine find_rev _ w lt ?_ fun c h1 _ => ?_
  · rw [← unlike_test hp, log2_test ne]
  · rw [← unlike_test hp, testBit_above h1]
end RT
set_option linter.all false
/-! The mathematics of reading. -/
namespace RT
open VapktBase
/-- a pattern stands at the front -/
def patAt (w : Nat) (l : List Int) : Bool := match l with
  | t :: o :: _ => decide (isPat w t o)
  | _ => false
def ruleSz (w : Nat) (l : List Int) : Nat := match readRule w l with
  | some u => (flatRule u.1).length
  | none => 0
theorem flatRule_len (r : Rule) : (flatRule r).length = 3 ∨ (flatRule r).length = 6 := by
  obtain ⟨p, a⟩ := r
  cases a with
  | drop => exact .inl rfl
  | send r p => exact .inr rfl
theorem sz_short {w : Nat} {l : List Int} (h : patAt w l = false) : ruleSz w l = 0 := by
  unfold ruleSz
  rcases l with _ | ⟨t, _ | ⟨o, r⟩⟩
  · rfl
  · rw [readRule_one]
  · have h' : decide (isPat w t o) = false := h
    rw [readRule_two, if_neg (of_decide_eq_false h')]
theorem sz_drop {w : Nat} {t o : Int} {r : List Int} (h : isPat w t o) : ruleSz w (t :: o :: 0 :: r) = 3 := by
  unfold ruleSz
  rw [readRule_two, if_pos h, readAction_drop]
  rfl
theorem sz_send {w : Nat} {t o m b p : Int} {r : List Int} (h : isPat w t o) : ruleSz w (t :: o :: 1 :: m :: b :: p :: r) = if isPat w m b ∧ isPort p then 6 else 0 := by
  unfold ruleSz
  rw [readRule_two, if_pos h, readAction_send]
  by_cases c : isPat w m b ∧ isPort p
  · rw [if_pos c, if_pos c]
    rfl
  · rw [if_neg c, if_neg c]
    rfl
/-- behind a pattern: no action there -/
theorem sz_none {w : Nat} {t o : Int} {r : List Int} (h : readAction w r = none) : ruleSz w (t :: o :: r) = 0 := by
  unfold ruleSz
  rw [readRule_two, h]
  by_cases c : isPat w t o
  · rw [if_pos c]
    rfl
  · rw [if_neg c]
theorem act_nosend {w : Nat} {r : List Int} (h : patAt w r = false) : readAction w (1 :: r) = none := by
  rcases r with _ | ⟨m, _ | ⟨b, _ | ⟨p, r⟩⟩⟩
  · exact readAction_short1 w
  · exact readAction_short2 w m
  · exact readAction_short3 w m b
  · have h' : decide (isPat w m b) = false := h
    rw [readAction_send, if_neg (fun z => of_decide_eq_false h' z.1)]
theorem act_nosend_short {w : Nat} (m b : Int) : readAction w [1, m, b] = none := readAction_short3 w m b
theorem act_else {w : Nat} {r : List Int} (h0 : r.take 1 ≠ [0]) (h1 : r.take 1 ≠ [1]) : readAction w r = none := by
  rcases r with _ | ⟨k, r⟩
  · rfl
  · exact readAction_else w k r (fun z => h0 (by rw [z]; rfl)) (fun z => h1 (by rw [z]; rfl))
/-- a rule's size is 0 just if none stands there -/
theorem sz_zero {w : Nat} {l : List Int} : ruleSz w l = 0 ↔ readRule w l = none := by
  unfold ruleSz
  cases e : readRule w l with
  | none => simp
  | some u =>
    obtain ⟨r, x⟩ := u
    have q := flatRule_len r
    exact ⟨fun h => by have h' : (flatRule r).length = 0 := h; omega, fun h => nomatch h⟩
theorem sz_le {w : Nat} {l : List Int} : ruleSz w l ≤ l.length := by
  unfold ruleSz
  cases e : readRule w l with
  | none => exact Nat.zero_le _
  | some u =>
    obtain ⟨r, x⟩ := u
    obtain ⟨h, _⟩ := readRule_some e
    rw [h, List.length_append]
    exact Nat.le_add_right _ _
/-- where a rule's size isn't 0, it's told by just so many numbers -/
theorem sz_rule {w : Nat} {l : List Int} (h : ruleSz w l ≠ 0) : ∃ r, readRule w l = some (r, l.drop (ruleSz w l)) ∧ l.take (ruleSz w l) = flatRule r ∧ WfRule w r := by
  cases e : readRule w l with
  | none => exact absurd (sz_zero.mpr e) h
  | some u =>
    obtain ⟨r, x⟩ := u
    obtain ⟨h1, h2⟩ := readRule_some e
    have hs : ruleSz w l = (flatRule r).length := by
      unfold ruleSz
      rw [e]
    refine ⟨r, ?_, ?_, h2⟩
    · rw [hs, h1, List.drop_left]
    · rw [hs, h1, List.take_left]
/-! ### tables -/
theorem times_step {A : Type} (f : Reader A) (n : Nat) (l : List Int) : readTimes f (n + 1) l = (f l).bind fun u => (readTimes f n u.2).map fun v => (u.1 :: v.1, v.2) := rfl
theorem tableOf_cons (w : Nat) (n : Int) (l : List Int) : Vapktb.tableOf w (n :: l) = if 0 ≤ n ∧ n ≤ 8 then (match readTimes (readRule w) n.toNat l with
    | some (t, []) => some t
    | _ => none) else none := by
  unfold Vapktb.tableOf readTable readListed
  rw [readNat_eq]
  have e : ((0 : Nat) : Int) = 0 := rfl
  have e8 : ((RULES : Nat) : Int) = 8 := rfl
  rw [e, e8]
  by_cases c : 0 ≤ n ∧ n ≤ 8
  · rw [if_pos c, if_pos c]
    rfl
  · rw [if_neg c, if_neg c]
    rfl
theorem times_wf {w : Nat} : ∀ (n : Nat) {l : List Int} {t : Table} {r : List Int}, readTimes (readRule w) n l = some (t, r) → l = t.flatMap flatRule ++ r ∧ t.length = n ∧ ∀ x ∈ t, WfRule w x
  | 0, l, t, r, h => by
    obtain ⟨e1, e2⟩ := Prod.mk.inj (Option.some.inj h)
    subst e1 e2
    exact ⟨rfl, rfl, fun x hx => nomatch hx⟩
  | n + 1, l, t, r, h => by
    rw [times_step] at h
    cases e : readRule w l with
    | none =>
      rw [e] at h
      cases h
    | some u =>
      obtain ⟨a, x⟩ := u
      rw [e] at h
      cases e2 : readTimes (readRule w) n x with
      | none =>
        rw [Option.bind_some, e2] at h
        cases h
      | some v =>
        obtain ⟨t', r'⟩ := v
        rw [Option.bind_some, e2] at h
        obtain ⟨e3, e4⟩ := Prod.mk.inj (Option.some.inj h)
        subst e3 e4
        obtain ⟨h1, h2⟩ := readRule_some e
        obtain ⟨h3, h4, h5⟩ := times_wf n e2
        refine ⟨?_, by simp [h4], fun y hy => ?_⟩
        · rw [h1, h3, List.flatMap_cons, List.append_assoc]
        · rcases List.mem_cons.mp hy with rfl | hy
          · exact h2
          · exact h5 y hy
theorem tableOf_wf {w : Nat} {l : List Int} {t : Table} (h : Vapktb.tableOf w l = some t) : WfTab w t := by
  rcases l with _ | ⟨n, l⟩
  · cases h
  · rw [tableOf_cons] at h
    by_cases c : 0 ≤ n ∧ n ≤ 8
    · rw [if_pos c] at h
      cases e : readTimes (readRule w) n.toNat l with
      | none =>
        rw [e] at h
        cases h
      | some u =>
        obtain ⟨t', r⟩ := u
        rw [e] at h
        cases r with
        | nil =>
          have e2 := Option.some.inj h
          subst e2
          obtain ⟨_, h2, h3⟩ := times_wf _ e
          exact ⟨by omega, h3⟩
        | cons a r => cases h
    · rw [if_neg c] at h
      cases h
theorem ruleOf_wf {w : Nat} {l : List Int} {r : Rule} (h : Vapktb.ruleOf w l = some r) : WfRule w r := by
  unfold Vapktb.ruleOf at h
  cases e : readRule w l with
  | none =>
    rw [e] at h
    cases h
  | some u =>
    obtain ⟨r', x⟩ := u
    rw [e] at h
    cases x with
    | nil =>
      have e2 := Option.some.inj h
      subst e2
      exact (readRule_some e).2
    | cons a x => cases h
theorem tableOf_one (w : Nat) (l : List Int) : Vapktb.tableOf w (1 :: l) = (Vapktb.ruleOf w l).map fun r => [r] := by
  rw [tableOf_cons, if_pos (by decide)]
  unfold Vapktb.ruleOf
  show (match readTimes (readRule w) 1 l with
    | some (t, []) => some t
    | _ => none) = _
  rw [times_step]
  cases e : readRule w l with
  | none => rfl
  | some u =>
    obtain ⟨r, x⟩ := u
    cases x <;> rfl
/-! ### lists of patterns -/
/-- the patterns that a list tells whole -/
def patsOf (w : Nat) (l : List Int) : Option (List Pattern) := match readListed RULES (readPattern w) l with
  | some (ps, []) => some ps
  | _ => none
/-- so many patterns from the front -/
def patTimes (w : Nat) : Nat → List Int → Option (List Pattern)
  | 0, _ => some []
  | n + 1, t :: o :: r => if isPat w t o then (patTimes w n r).map fun ps => ⟨t.toNat, o.toNat⟩ :: ps else none
  | _ + 1, _ => none
theorem times_pats {w : Nat} : ∀ (n : Nat) (l : List Int), l.length = 2 * n → readTimes (readPattern w) n l = (patTimes w n l).map fun ps => (ps, [])
  | 0, l, h => by
    have e : l = [] := List.length_eq_zero_iff.mp (by omega)
    subst e
    rfl
  | n + 1, [], h => by simp at h
  | n + 1, [t], h => by simp at h; omega
  | n + 1, t :: o :: r, h => by
    rw [times_step, readPattern_two, patTimes]
    by_cases c : isPat w t o
    · rw [if_pos c, if_pos c, Option.bind_some, times_pats n r (by simp at h; omega)]
      cases patTimes w n r <;> rfl
    · rw [if_neg c, if_neg c]
      rfl
theorem times_len {w : Nat} : ∀ (n : Nat) {l : List Int} {ps : List Pattern} {r : List Int}, readTimes (readPattern w) n l = some (ps, r) → l.length = 2 * n + r.length
  | 0, l, ps, r, h => by
    obtain ⟨_, e2⟩ := Prod.mk.inj (Option.some.inj h)
    subst e2
    omega
  | n + 1, [], ps, r, h => by
    rw [times_step, readPattern_nil] at h
    cases h
  | n + 1, [t], ps, r, h => by
    rw [times_step, readPattern_one] at h
    cases h
  | n + 1, t :: o :: l, ps, r, h => by
    rw [times_step, readPattern_two] at h
    by_cases c : isPat w t o
    · rw [if_pos c, Option.bind_some] at h
      cases e : readTimes (readPattern w) n l with
      | none =>
        rw [e] at h
        cases h
      | some v =>
        obtain ⟨ps', r'⟩ := v
        rw [e] at h
        obtain ⟨_, e4⟩ := Prod.mk.inj (Option.some.inj h)
        have h2 : r' = r := e4
        subst h2
        have := times_len n e
        simp
        omega
    · rw [if_neg c] at h
      cases h
theorem patsOf_nil (w : Nat) : patsOf w [] = none := rfl
theorem patsOf_cons (w : Nat) (n : Int) (l : List Int) : patsOf w (n :: l) = if 0 ≤ n ∧ n ≤ 8 ∧ ((l.length + 1 : Nat) : Int) = 1 + 2 * n then patTimes w n.toNat l else none := by
  unfold patsOf readListed
  rw [readNat_eq]
  have e : ((0 : Nat) : Int) = 0 := rfl
  have e8 : ((RULES : Nat) : Int) = 8 := rfl
  rw [e, e8]
  by_cases c : 0 ≤ n ∧ n ≤ 8
  · rw [if_pos c, Option.bind_some]
    by_cases d : ((l.length + 1 : Nat) : Int) = 1 + 2 * n
    · rw [if_pos ⟨c.1, c.2, d⟩]
      rw [times_pats n.toNat l (by omega)]
      cases patTimes w n.toNat l <;> rfl
    · rw [if_neg (fun z => d z.2.2)]
      cases q : readTimes (readPattern w) n.toNat l with
      | none => rfl
      | some v =>
        obtain ⟨ps, r⟩ := v
        have := times_len _ q
        cases r with
        | nil => simp at this; omega
        | cons a r => rfl
  · rw [if_neg c, if_neg (fun z => c ⟨z.1, z.2.1⟩)]
    rfl
/-- one pattern more -/
theorem patTimes_snoc {w : Nat} : ∀ (n : Nat) (l : List Int) {ps : List Pattern}, patTimes w n l = some ps → patTimes w (n + 1) l = (match l.drop (2 * n) with
    | t :: o :: _ => if isPat w t o then some (ps ++ [⟨t.toNat, o.toNat⟩]) else none
    | _ => none)
  | 0, l, ps, h => by
    have e := Option.some.inj h
    subst e
    rcases l with _ | ⟨t, _ | ⟨o, r⟩⟩
    · rfl
    · rfl
    · rfl
  | n + 1, [], ps, h => by cases h
  | n + 1, [t], ps, h => by cases h
  | n + 1, t :: o :: r, ps, h => by
    rw [patTimes] at h
    by_cases c : isPat w t o
    · rw [if_pos c] at h
      cases e : patTimes w n r with
      | none =>
        rw [e] at h
        cases h
      | some ps' =>
        rw [e] at h
        have e2 := Option.some.inj h
        have ih := patTimes_snoc n r e
        have ed : (t :: o :: r).drop (2 * (n + 1)) = r.drop (2 * n) := by
          rw [show 2 * (n + 1) = 2 * n + 1 + 1 by omega]
          rfl
        rw [patTimes, if_pos c, ih, ed, ← e2]
        split
        · split <;> rfl
        · rfl
    · rw [if_neg c] at h
      cases h
theorem patTimes_none {w : Nat} : ∀ (n k : Nat) (l : List Int), patTimes w n l = none → patTimes w (n + k) l = none
  | 0, k, l, h => by cases h
  | n + 1, k, [], h => by
    rw [show n + 1 + k = (n + k) + 1 by omega]
    rfl
  | n + 1, k, [t], h => by
    rw [show n + 1 + k = (n + k) + 1 by omega]
    rfl
  | n + 1, k, t :: o :: r, h => by
    rw [show n + 1 + k = (n + k) + 1 by omega, patTimes]
    rw [patTimes] at h
    by_cases c : isPat w t o
    · rw [if_pos c] at h ⊢
      cases e : patTimes w n r with
      | none =>
        rw [patTimes_none n k r e]
        rfl
      | some ps' =>
        rw [e] at h
        cases h
    · rw [if_neg c]
theorem patTimes_len {w : Nat} : ∀ (n : Nat) (l : List Int) {ps : List Pattern}, patTimes w n l = some ps → ps.length = n ∧ ∀ p ∈ ps, WfPat w p
  | 0, l, ps, h => by
    have e := Option.some.inj h
    subst e
    exact ⟨rfl, fun _ hp => nomatch hp⟩
  | n + 1, [], ps, h => by cases h
  | n + 1, [t], ps, h => by cases h
  | n + 1, t :: o :: r, ps, h => by
    rw [patTimes] at h
    by_cases c : isPat w t o
    · rw [if_pos c] at h
      cases e : patTimes w n r with
      | none =>
        rw [e] at h
        cases h
      | some ps' =>
        rw [e] at h
        have e2 := Option.some.inj h
        obtain ⟨h1, h2⟩ := patTimes_len n r e
        subst e2
        refine ⟨by simp [h1], fun p hp => ?_⟩
        rcases List.mem_cons.mp hp with rfl | hp
        · exact wf_pat c
        · exact h2 p hp
    · rw [if_neg c] at h
      cases h
end RT
set_option linter.all false
/-! The mathematics of outcomes. -/
namespace RT
open VapktBase
/-- an outcome's numbers -/
def outL : Vapktb.Outcome → List Int
  | .hole => [0]
  | .dropped => [1]
  | .sent p k => [2 + (p : Int), (k : Int)]
theorem outL_inj {o o' : Vapktb.Outcome} (h : outL o = outL o') : o = o' := by
  cases o <;> cases o' <;> first | rfl | (simp [outL] at h; done) | skip
  rename_i p k p' k'
  simp [outL] at h
  have e1 : p = p' := by omega
  have e2 : k = k' := by omega
  rw [e1, e2]
theorem outL_len (o : Vapktb.Outcome) : (outL o).length ≤ 2 := by cases o <;> simp [outL]
def outs (w : Nat) (t : Table) : List (List Int) := (List.range (2 ^ w)).map fun h => outL (Vapktb.outcome t h)
theorem outs_len (w : Nat) (t : Table) : (outs w t).length = 2 ^ w := by simp [outs]
theorem outs_get (w : Nat) (t : Table) {i : Nat} (h : i < 2 ^ w) : (outs w t)[i]? = some (outL (Vapktb.outcome t i)) := by simp [outs, h]
theorem outs_same (w : Nat) (t u : Table) : decide (outs w t = outs w u) = Vapktb.sameTables w t u := by
  rw [Bool.eq_iff_iff, decide_eq_true_iff]
  unfold Vapktb.sameTables headers
  rw [List.all_eq_true]
  constructor
  · intro e h hh
    have h2 := List.mem_range.mp hh
    have e1 := outs_get w t h2
    rw [e, outs_get w u h2] at e1
    rw [outL_inj (Option.some.inj e1)]
    exact beq_self_eq_true _
  · intro q
    unfold outs
    refine List.map_congr_left fun h hh => ?_
    rw [eq_of_beq (q h hh)]
/-- which rule counts -/
theorem ruleFor_some {t : Table} {h i : Nat} {r : Rule} (hr : t[i]? = some r) (hm : matchesIt r.pattern h = true) (hn : ∀ (j : Nat) (x : Rule), j < i → t[j]? = some x → matchesIt x.pattern h = false) : ruleFor t h = some i := by
  unfold ruleFor
  obtain ⟨hi, e⟩ := List.getElem?_eq_some_iff.mp hr
  rw [List.findIdx?_eq_some_iff_getElem]
  refine ⟨hi, by rw [e]; exact hm, fun j hj => ?_⟩
  have := hn j (t[j]'(Nat.lt_trans hj hi)) hj (List.getElem?_eq_getElem _)
  rw [this]
  exact Bool.false_ne_true
theorem ruleFor_none {t : Table} {h : Nat} (hn : ∀ (j : Nat) (x : Rule), t[j]? = some x → matchesIt x.pattern h = false) : ruleFor t h = none := by
  unfold ruleFor
  rw [List.findIdx?_eq_none_iff]
  intro x hx
  obtain ⟨j, hj, e⟩ := List.getElem_of_mem hx
  exact hn j x (by rw [List.getElem?_eq_getElem hj, e])
theorem ruleFor_lt {t : Table} {h i : Nat} (e : ruleFor t h = some i) : i < t.length := by
  unfold ruleFor at e
  obtain ⟨hi, _⟩ := List.findIdx?_eq_some_iff_getElem.mp e
  exact hi
theorem actionAt_get {t : Table} {i : Nat} {r : Rule} (h : t[i]? = some r) : actionAt t i = r.action := by
  unfold actionAt
  rw [h]
  rfl
theorem outcome_none {t : Table} {h : Nat} (e : ruleFor t h = none) : Vapktb.outcome t h = .hole := by
  unfold Vapktb.outcome
  rw [e]
theorem outcome_some {t : Table} {h i : Nat} {r : Rule} (e : ruleFor t h = some i) (hr : t[i]? = some r) : Vapktb.outcome t h = Vapktb.outcomeBy r.action h := by
  unfold Vapktb.outcome
  rw [e, ← actionAt_get hr]
/-- rules that may stand in a table of so many bits -/
def WfAll (w : Nat) (t : Table) : Prop := ∀ r ∈ t, WfRule w r
theorem WfAll.get {w : Nat} {t : Table} (h : WfAll w t) {i : Nat} {r : Rule} (e : t[i]? = some r) : WfRule w r := h r (List.mem_of_getElem? e)
end RT
set_option Elab.async false
set_option linter.all false
set_option maxRecDepth 100000
set_option maxHeartbeats 4000000
namespace RT
open PySem PySem.Spec PyProof.Rows L2
abbrev R' := VapktBase.Rule
/-! ### a rule's object -/
def ruleF (r : R') (ac : Addr) : List (Str × V) := [("told", .int (r.pattern.told : Int)), ("ones", .int (r.pattern.bits : Int)), ("action", .ref ac)]
def actL (a : VapktBase.Action) : List V := (VapktBase.flatAction a).map V.int
/-- at b: the rule r, its own dict at dx, its action's numbers at ac -/
structure RuleAt (C : Addr) (H : Hp) (b : Addr) (r : R') : Prop where
  ex : ∃ dx ac, H b = some (.ins C dx (ruleF r ac)) ∧ H ac = some (.lst (actL r.action))
theorem RuleAt.same {C : Addr} {H H' : Hp} (s : Same H H') {b : Addr} {r : R'} (h : RuleAt C H b r) : RuleAt C H' b r := by
  obtain ⟨dx, ac, h1, h2⟩ := h.ex
  exact ⟨dx, ac, s _ _ h1, s _ _ h2⟩
theorem lk_here {k : Str} {v : V} {r : List (Str × V)} : List.lookup k ((k, v) :: r) = some v := by
  have e : (k == k) = true := beq_self_eq_true k
  simp only [List.lookup, e]
theorem lk_past {k g : Str} {v : V} {r : List (Str × V)} (h : (k == g) = false) : List.lookup k ((g, v) :: r) = List.lookup k r := by
  simp only [List.lookup, h]
theorem put_here {f : Str} {v x : V} {r : List (Str × V)} : putF f v ((f, x) :: r) = (f, v) :: r := if_pos rfl
theorem put_past {f g : Str} {v x : V} {r : List (Str × V)} (h : ¬ g = f) : putF f v ((g, x) :: r) = (g, x) :: putF f v r := if_neg h
theorem rF_told (r : R') (ac : Addr) : (ruleF r ac).lookup ("told" : Str) = some (.int (r.pattern.told : Int)) := lk_here
theorem rF_ones (r : R') (ac : Addr) : (ruleF r ac).lookup ("ones" : Str) = some (.int (r.pattern.bits : Int)) := (lk_past (by decide +kernel)).trans lk_here
theorem rF_action (r : R') (ac : Addr) : (ruleF r ac).lookup ("action" : Str) = some (.ref ac) := (lk_past (by decide +kernel)).trans ((lk_past (by decide +kernel)).trans lk_here)
theorem rF_none (r : R') (ac : Addr) (m : Str) (h1 : (m == ("told" : Str)) = false) (h2 : (m == ("ones" : Str)) = false) (h3 : (m == ("action" : Str)) = false) : (ruleF r ac).lookup m = none := (lk_past h1).trans ((lk_past h2).trans ((lk_past h3).trans rfl))
theorem rF_new (t o : Int) (x : V) : putF "action" x (putF "ones" (.int o) (putF "told" (.int t) [])) = [((("told" : String) : Str), V.int t), ((("ones" : String) : Str), V.int o), ((("action" : String) : Str), x)] := by
  have e1 : putF "told" (.int t) [] = [((("told" : String) : Str), V.int t)] := rfl
  have e2 : putF "ones" (.int o) [] = [((("ones" : String) : Str), V.int o)] := rfl
  have e3 : putF "action" x [] = [((("action" : String) : Str), x)] := rfl
  rw [e1, put_past (by decide +kernel), e2, put_past (by decide +kernel), put_past (by decide +kernel), e3]
/-- what the top has written of the class Rule -/
structure RuleTxt (K : PySem.W.Frag) (mg : Str → Option Value) (C : Addr) : Prop where
  cl : Cls K C
  nT : NoAttr K C "told"
  nO : NoAttr K C "ones"
  nA : NoAttr K C "action"
  gC : mg "Rule" = some (.ref C)
theorem and_nat (a b : Nat) : Builtin.bitAnd (a : Int) (b : Int) = ((a &&& b : Nat) : Int) := PySem.W.os_band a b
theorem dec_nat (a b : Nat) : decide (V.int (a : Int) = V.int (b : Int)) = decide (a = b) := by
  rw [dec_int, Bool.eq_iff_iff]
  simp
  omega
theorem xor_nat (a b : Nat) : Builtin.bitXor (a : Int) (b : Int) = ((a ^^^ b : Nat) : Int) := by
  rw [Bits.bitXor_pp (Int.natCast_nonneg a) (Int.natCast_nonneg b), Int.toNat_natCast, Int.toNat_natCast]
theorem bits_nat {u : Nat} (h : u ≠ 0) : ((Builtin.Int.intBits (u : Int) : Nat) : Int) - 1 = ((u.log2 : Nat) : Int) := by
  have e : Builtin.Int.intBits (u : Int) = u.log2 + 1 := by
    unfold Builtin.Int.intBits
    rw [if_neg (by simpa using h), Int.natAbs_natCast]
  rw [e]
  omega
/-! ### its methods -/
abbrev sRule : Stmt := topS 11
abbrev sInit : Stmt := inClass sRule 0
abbrev sMat : Stmt := inClass sRule 1
abbrev sHi : Stmt := inClass sRule 2
abbrev sOutc : Stmt := inClass sRule 3
abbrev sAsn : Stmt := inClass sRule 4
abbrev sMp : Stmt := topS 10
theorem scInit : FnScope ["self", "numbers"] ["self", "numbers"] (defScope sInit) := ⟨rfl, rfl, rfl, by decide +kernel, rfl, by decide +kernel, by decide +kernel⟩
theorem scMat : FnScope ["self", "header"] ["self", "header"] (defScope sMat) := ⟨rfl, rfl, rfl, by decide +kernel, rfl, by decide +kernel, by decide +kernel⟩
abbrev nOutc : List Str := ["self", "header", "told", "ones"]
theorem scMp : FnScope ["header", "told", "ones"] ["header", "told", "ones"] (defScope sMp) := ⟨rfl, rfl, rfl, by decide +kernel, rfl, by decide +kernel, by decide +kernel⟩
abbrev nHi : List Str := ["self", "header", "unlike"]
theorem scHi : FnScope nHi ["self", "header"] (defScope sHi) := ⟨rfl, rfl, rfl, by decide +kernel, rfl, by decide +kernel, by decide +kernel⟩
theorem scOutc : FnScope nOutc ["self", "header"] (defScope sOutc) := ⟨rfl, rfl, rfl, by decide +kernel, rfl, by decide +kernel, by decide +kernel⟩
theorem scAsn : FnScope ["self"] ["self"] (defScope sAsn) := ⟨rfl, rfl, rfl, by decide +kernel, rfl, by decide +kernel, by decide +kernel⟩
/-- a new rule of its numbers -/
def spRInit (K : PySem.W.Frag) (C : Addr) : Sp := fun vs H Q _ => ∃ (p dx a : Addr) (r : R'), vs = [.ref p, .ref a] ∧ H p = some (.ins C dx []) ∧ H a = some (.lst ((VapktBase.flatRule r).map V.int)) ∧
  ∀ H' : Hp, RuleAt C H' p r → (∀ b o, H b = some o → b ≠ p → H' b = some o) → Q .non H'
/-- whether a header matches told bits -/
def spMp : Sp := fun vs H Q _ => ∃ h t o : Nat, vs = [.int h, .int t, .int o] ∧ Q (.bl (VapktBase.matchesIt ⟨t, o⟩ h)) H
def spHi (C : Addr) : Sp := fun vs H Q _ => ∃ (a : Addr) (r : R') (h wd : Nat), vs = [.ref a, .int h] ∧ RuleAt C H a r ∧ WfPat wd r.pattern ∧ VapktBase.matchesIt r.pattern h = false ∧ Q (.int (((Vapktb.missAt wd r.pattern h).getD wd : Nat) : Int)) H
def spMat (C : Addr) : Sp := fun vs H Q _ => ∃ (a : Addr) (r : R') (h : Nat), vs = [.ref a, .int h] ∧ RuleAt C H a r ∧ Q (.bl (VapktBase.matchesIt r.pattern h)) H
def spOutc (C : Addr) : Sp := fun vs H Q _ => ∃ (a : Addr) (r : R') (h : Nat) (wd : Nat), vs = [.ref a, .int h] ∧ RuleAt C H a r ∧ WfAct wd r.action ∧ RetInts H Q (outL (Vapktb.outcomeBy r.action h))
def spAsn (C : Addr) : Sp := fun vs H Q _ => ∃ (a : Addr) (r : R'), vs = [.ref a] ∧ RuleAt C H a r ∧ RetInts H Q (VapktBase.flatRule r)
section
variable {P : Program} {w : World} {K : PySem.W.Frag} {mg : Str → Option Value} {base : Heap} {C : Addr}
theorem mak_rule (D : IDef K mg "Rule" C "Rule.__init__" sInit ["self", "numbers"]) (T : RuleTxt K mg C) : Mak P w K mg base 1 "Rule" C (spRInit K C) := by
  refine mak_mk D scInit (fun vs H Q E h => ?_) (fun f cdv A outer s H vs Q E hr h => ?_)
  · obtain ⟨p, dx, a, r, rfl, _⟩ := h
    rfl
  · obtain ⟨p, dx, a, r, rfl, hp, ha, q⟩ := h
    have nap : a ≠ p := ne_of ha hp (by intro z; cases z)
    refine ⟨_, pss_cons (ps_fld (pv 0) (pe_ix ix_list (pv 1) pe_int (fun _ _ => rfl)) rfl)
      (pss_cons (ps_fld (pv 0) (pe_ix ix_list (pv 1) pe_int (fun _ _ => rfl)) rfl)
      (pss_one (ps_fld (pv 0) (pe_slice sl_list (pv 1) (po_some pe_int) po_none) rfl))), ?_⟩
    have e0 : ((VapktBase.flatRule r).map V.int)[0]? = some (.int (r.pattern.told : Int)) := rfl
    have e1 : ((VapktBase.flatRule r).map V.int)[1]? = some (.int (r.pattern.bits : Int)) := rfl
    refine ⟨.ref a, rfl, a, _, 0, _, rfl, rfl, .of ha, atI_nat (j := 0) e0, _, rfl, p, C, dx, _, rfl, hp, T.cl, T.nT, (by show 0 < 1000; decide), ?_⟩
    have ha1 := (upd_ne (H := H) (o := .ins C dx (putF "told" (.int (r.pattern.told : Int)) [])) nap).trans ha
    refine ⟨.ref a, rfl, a, _, 1, _, rfl, rfl, .of ha1, atI_nat (j := 1) e1, _, rfl, p, C, dx, _, rfl, upd_same, T.cl, T.nO, (by show 1 < 1000; decide), ?_⟩
    rw [upd_upd]
    have ha2 := (upd_ne (H := H) (o := .ins C dx (putF "ones" (.int (r.pattern.bits : Int)) (putF "told" (.int (r.pattern.told : Int)) []))) nap).trans ha
    refine ⟨.ref a, rfl, 2, rfl, a, _, rfl, .of ha2, fun c nc => ?_⟩
    have npc : p ≠ c := ne_of_none upd_same nc
    refine ⟨_, rfl, p, C, dx, _, rfl, (upd_ne npc).trans upd_same, T.cl, T.nA, (by show 2 < 1000; decide), ?_⟩
    rw [rF_new]
    refine q _ ⟨dx, c, upd_same, ?_⟩ (fun b o hb nb => ?_)
    · rw [upd_ne npc.symm, upd_same]
      show some (HO.lst (cutV ((VapktBase.flatRule r).map V.int) (some ((2 : Nat) : Int)) none)) = _
      rw [cut_drop]
      rfl
    · have nbc : b ≠ c := fun z => by
        subst z
        rw [upd_ne nb, hb] at nc
        cases nc
      rw [upd_ne nb, upd_ne nbc, upd_ne nb]
      exact hb
theorem cal_mp (D : Def K mg "matches_pattern" sMp ["header", "told", "ones"]) : Cal P w K mg base 1 "matches_pattern" spMp := by
  refine cal_mk D scMp (fun vs H Q E h => ?_) (fun f cdv A outer s H vs Q E hr h => ?_)
  · obtain ⟨h, t, o, rfl, _⟩ := h
    rfl
  · obtain ⟨h, t, o, rfl, q⟩ := h
    refine ⟨_, pss_one (ps_ret (pe_cmpR op_eq (pe_op op_and (pv 0) (pv 1)) (pv 2) (nomark _))), ?_⟩
    refine ⟨_, rfl, _, rfl, _, _, rfl, rfl, _, rfl, rfl, ?_⟩
    simp only [and_nat, dec_nat]
    exact q
theorem met_mat (D : MDef K C "matches" "Rule.matches" sMat ["self", "header"]) (T : RuleTxt K mg C) (cm : Cal P w K mg base 1 "matches_pattern" spMp) : Met P w K mg base 2 C "matches" (spMat C) := by
  refine met_mk D scMat (fun vs H Q E h => ?_) (fun f cdv A outer s H vs Q E hr h => ?_)
  · obtain ⟨a, r, n, rfl, _⟩ := h
    rfl
  · obtain ⟨a, r, n, rfl, hr', q⟩ := h
    obtain ⟨dx, ac, h1, h2⟩ := hr'.ex
    refine ⟨_, pss_one (ps_ret (pe_c cm hr (pa_cons (pv 1) (pa_cons (pe_fld (pv 0) rfl) (pa_cons (pe_fld (pv 0) rfl) pa_nil))))), ?_⟩
    exact ⟨_, rfl, _, rfl, a, C, dx, _, _, rfl, h1, T.cl, T.nT, rF_told r ac, _, rfl, a, C, dx, _, _, rfl, h1, T.cl, T.nO, rF_ones r ac, n, _, _, rfl, q⟩
theorem met_hi (D : MDef K C "highest_unlike" "Rule.highest_unlike" sHi ["self", "header"]) (T : RuleTxt K mg C) : Met P w K mg base 1 C "highest_unlike" (spHi C) := by
  refine met_mk D scHi (fun vs H Q E h => ?_) (fun f cdv A outer s H vs Q E hr h => ?_)
  · obtain ⟨a, r, n, wd, rfl, _⟩ := h
    rfl
  · obtain ⟨a, r, n, wd, rfl, hr', hw, hn, q⟩ := h
    obtain ⟨dx, ac, h1, h2⟩ := hr'.ex
    refine ⟨_, pss_cons (ps_set (i := 2) scHi.nd rfl (.inl rfl) (pe_op op_xor (pe_op op_and (pv 1) (pe_fld (pv 0) rfl)) (pe_fld (pv 0) rfl)))
      (pss_one (ps_ret (pe_op op_sub (pe_bits (pv 2)) pe_int))), ?_⟩
    refine ⟨_, rfl, _, rfl, a, C, dx, _, _, rfl, h1, T.cl, T.nT, rF_told r ac, _, _, rfl, rfl, _, rfl, a, C, dx, _, _, rfl, h1, T.cl, T.nO, rF_ones r ac, _, _, rfl, rfl, _, rfl, _, rfl, _, _, rfl, rfl, ?_⟩
    obtain ⟨m1, m2⟩ := miss_log2 hw hn
    rw [m2] at q
    simp only [and_nat, xor_nat]
    rw [bits_nat m1]
    exact q
theorem met_outc (D : MDef K C "outcome" "Rule.outcome" sOutc ["self", "header"]) (T : RuleTxt K mg C) {t1 t2 : Tok} (gD : mg "DROPPED" = some (.int 1 t1)) (gS : mg "SENT" = some (.int 2 t2)) : Met P w K mg base 1 C "outcome" (spOutc C) := by
  refine met_mk D scOutc (fun vs H Q E h => ?_) (fun f cdv A outer s H vs Q E hr h => ?_)
  · obtain ⟨a, r, n, wd, rfl, _⟩ := h
    rfl
  · obtain ⟨a, r, n, wd, rfl, hr', hw, q⟩ := h
    obtain ⟨dx, ac, h1, h2⟩ := hr'.ex
    refine ⟨_, pss_cons (ps_if (pt_cmpR (op_eqD hr.units) (pe_fld (pv 0) rfl) (pe_lst (pa_cons pe_int pa_nil)) (nomark _)) (pss_one (ps_ret (pe_lst (pa_cons (pe_glob (v := .int 1) (by rfl) gD ⟨_, rfl⟩) pa_nil)))) pss_nil)
      (pss_cons (ps_set (i := 2) scOutc.nd rfl (.inl rfl) (pe_ix ix_list (pe_fld (pv 0) rfl) pe_int (fun _ _ => rfl)))
      (pss_cons (ps_set (i := 3) scOutc.nd rfl (.inl rfl) (pe_ix ix_list (pe_fld (pv 0) rfl) pe_int (fun _ _ => rfl)))
      (pss_one (ps_ret (pe_lst (pa_cons (pe_op op_add (pe_glob (v := .int 2) (by rfl) gS ⟨_, rfl⟩) (pe_ix ix_list (pe_fld (pv 0) rfl) pe_int (fun _ _ => rfl)))
        (pa_cons (pe_op op_add (pe_op op_sub (pv 1) (pe_op op_and (pv 1) (pv 2))) (pv 3)) pa_nil))))))), ?_⟩
    refine ⟨_, rfl, a, C, dx, _, _, rfl, h1, T.cl, T.nA, rF_action r ac, by show 1 ≤ sizeLine; decide, fun z nz => ?_⟩
    have naz : a ≠ z := ne_of_none h1 nz
    have ncz : ac ≠ z := ne_of_none h2 nz
    have s1 : Same H (upd H z (.lst [V.int 0])) := same_upd nz
    have k1 := s1 _ _ h1
    have k2 := s1 _ _ h2
    have k3 : upd H z (.lst [V.int 0]) z = some (.lst [V.int 0]) := upd_same
    refine ⟨.list _, .list _, .lst (.of k2) (dp_ints _), .lst (.of k3) (dp_ints [0]), shaped_ints _, shaped_ints [0], _, rfl, ?_⟩
    have ee : PyData.eqv (.list ((VapktBase.flatAction r.action).map PyData.int)) (.list (([0] : List Int).map PyData.int)) = decide (VapktBase.flatAction r.action = [0]) := eqv_ints _ _
    cases ea : r.action with
    | drop =>
      rw [ea] at ee k2 q
      refine ite2 (fun _ => ?_) (fun c => absurd (ee.trans (decide_eq_true rfl)) c)
      refine ⟨by show 1 ≤ sizeLine; decide, fun p np => ?_⟩
      exact q _ p (s1.trans (same_upd np)) (s1.free np) upd_same
    | send u pt =>
      rw [ea] at ee k2 q hw
      obtain ⟨w1, w2, w3, w4⟩ := hw
      refine ite2 (fun c => ?_) (fun _ => ?_)
      · rw [ee] at c
        exact absurd (of_decide_eq_true c) (by intro z; cases z)
      · have g1 : (actL (.send u pt))[1]? = some (.int (u.mask : Int)) := rfl
        have g2 : (actL (.send u pt))[2]? = some (.int (u.bits : Int)) := rfl
        have g3 : (actL (.send u pt))[3]? = some (.int (pt : Int)) := rfl
        refine ⟨_, rfl, a, C, dx, _, _, rfl, k1, T.cl, T.nA, rF_action r ac, ac, _, 1, _, rfl, rfl, .of k2, atI_nat (j := 1) g1, ?_⟩
        refine ⟨_, rfl, a, C, dx, _, _, rfl, k1, T.cl, T.nA, rF_action r ac, ac, _, 2, _, rfl, rfl, .of k2, atI_nat (j := 2) g2, ?_⟩
        refine ⟨_, rfl, a, C, dx, _, _, rfl, k1, T.cl, T.nA, rF_action r ac, ac, _, 3, _, rfl, rfl, .of k2, atI_nat (j := 3) g3, _, _, rfl, rfl, ?_⟩
        refine ⟨_, rfl, _, rfl, _, rfl, _, _, rfl, rfl, _, _, rfl, rfl, _, rfl, _, _, rfl, rfl, by show 2 ≤ sizeLine; decide, fun p np => ?_⟩
        refine q _ p (s1.trans (same_upd np)) (s1.free np) ?_
        rw [upd_same]
        show some (HO.lst [V.int (2 + (pt : Int)), V.int ((n : Int) - Builtin.bitAnd (n : Int) (u.mask : Int) + (u.bits : Int))]) = some (HO.lst [V.int (2 + (pt : Int)), V.int ((VapktBase.rewritten u n : Nat) : Int)])
        rw [and_nat, rewritten_sum u n w3]
        have hle : n &&& u.mask ≤ n := Nat.and_le_left
        have e : (n : Int) - ((n &&& u.mask : Nat) : Int) + (u.bits : Int) = ((n - (n &&& u.mask) + u.bits : Nat) : Int) := by omega
        rw [e]
theorem met_asn (D : MDef K C "as_numbers" "Rule.as_numbers" sAsn ["self"]) (T : RuleTxt K mg C) : Met P w K mg base 1 C "as_numbers" (spAsn C) := by
  refine met_mk D scAsn (fun vs H Q E h => ?_) (fun f cdv A outer s H vs Q E hr h => ?_)
  · obtain ⟨a, r, rfl, _⟩ := h
    rfl
  · obtain ⟨a, r, rfl, hr', q⟩ := h
    obtain ⟨dx, ac, h1, h2⟩ := hr'.ex
    refine ⟨_, pss_one (ps_ret (pe_op op_cat (pe_lst (pa_cons (pe_fld (pv 0) rfl) (pa_cons (pe_fld (pv 0) rfl) pa_nil))) (pe_fld (pv 0) rfl))), ?_⟩
    refine ⟨_, rfl, a, C, dx, _, _, rfl, h1, T.cl, T.nT, rF_told r ac, _, rfl, a, C, dx, _, _, rfl, h1, T.cl, T.nO, rF_ones r ac, by show 2 ≤ sizeLine; decide, fun p np => ?_⟩
    have nap : a ≠ p := ne_of_none h1 np
    have ncp : ac ≠ p := ne_of_none h2 np
    refine ⟨_, rfl, a, C, dx, _, _, rfl, (upd_ne nap).trans h1, T.cl, T.nA, rF_action r ac, ?_⟩
    have k2 : upd H p (.lst [V.int (r.pattern.told : Int), V.int (r.pattern.bits : Int)]) ac = some (.lst (actL r.action)) := (upd_ne ncp).trans h2
    have ln : (actL r.action).length ≤ 4 := by
      cases r.action with
      | drop => exact (by decide : 1 ≤ 4)
      | send u pt => exact Nat.le_refl 4
    refine ⟨p, ac, _, _, rfl, rfl, upd_same, k2, sizeLine_le (by show 2 + _ ≤ _; omega), fun z nz => ?_⟩
    have s1 : Same H (upd H p (.lst [V.int (r.pattern.told : Int), V.int (r.pattern.bits : Int)])) := same_upd np
    refine q _ z (s1.trans (same_upd nz)) (s1.free nz) ?_
    rw [upd_same]
    rfl
end
end RT
set_option Elab.async false
set_option linter.all false
set_option maxRecDepth 100000
set_option maxHeartbeats 4000000
namespace RT
open PySem PySem.Spec PyProof.Rows L2
theorem bl_eq {Q : VK} {H : Hp} {a b : Bool} (e : a = b) (h : Q (.bl b) H) : Q (.bl a) H := by
  rw [e]
  exact h
abbrev sPort : Stmt := topS 12
abbrev sWithin : Stmt := topS 13
abbrev sHas : Stmt := topS 14
abbrev sPst : Stmt := topS 15
abbrev sRps : Stmt := topS 16
abbrev sRsz : Stmt := topS 17
abbrev sRds : Stmt := topS 18
abbrev sRd1 : Stmt := topS 19
abbrev sRan : Stmt := topS 20
theorem scPort : FnScope ["number"] ["number"] (defScope sPort) := ⟨rfl, rfl, rfl, by decide +kernel, rfl, by decide +kernel, by decide +kernel⟩
theorem scWithin : FnScope ["number", "width"] ["number", "width"] (defScope sWithin) := ⟨rfl, rfl, rfl, by decide +kernel, rfl, by decide +kernel, by decide +kernel⟩
theorem scHas : FnScope ["rules", "number"] ["rules", "number"] (defScope sHas) := ⟨rfl, rfl, rfl, by decide +kernel, rfl, by decide +kernel, by decide +kernel⟩
abbrev nPst : List Str := ["numbers", "start", "width", "told", "ones"]
theorem scPst : FnScope nPst ["numbers", "start", "width"] (defScope sPst) := ⟨rfl, rfl, rfl, by decide +kernel, rfl, by decide +kernel, by decide +kernel⟩
abbrev nRps : List Str := ["numbers", "width", "patterns", "start"]
theorem scRps : FnScope nRps ["numbers", "width"] (defScope sRps) := ⟨rfl, rfl, rfl, by decide +kernel, rfl, by decide +kernel, by decide +kernel⟩
abbrev nRsz : List Str := ["numbers", "start", "width", "action"]
theorem scRsz : FnScope nRsz ["numbers", "start", "width"] (defScope sRsz) := ⟨rfl, rfl, rfl, by decide +kernel, rfl, by decide +kernel, by decide +kernel⟩
abbrev nRds : List Str := ["numbers", "width", "rules", "start", "size"]
theorem scRds : FnScope nRds ["numbers", "width"] (defScope sRds) := ⟨rfl, rfl, rfl, by decide +kernel, rfl, by decide +kernel, by decide +kernel⟩
abbrev nRd1 : List Str := ["numbers", "width", "rules"]
theorem scRd1 : FnScope nRd1 ["numbers", "width"] (defScope sRd1) := ⟨rfl, rfl, rfl, by decide +kernel, rfl, by decide +kernel, by decide +kernel⟩
abbrev nRan : List Str := ["rules", "numbers", "rule"]
theorem scRan : FnScope nRan ["rules"] (defScope sRan) := ⟨rfl, rfl, rfl, by decide +kernel, rfl, by decide +kernel, by decide +kernel⟩
def spPort : Sp := fun vs H Q _ => ∃ n : Int, vs = [.int n] ∧ Q (.bl (decide (isPort n))) H
def spWithin : Sp := fun vs H Q _ => ∃ (n : Int) (w : Nat), vs = [.int n, .int w] ∧ w ≤ 7 ∧ Q (.bl (decide (0 ≤ n ∧ n < 2 ^ w))) H
def spHas (K : PySem.W.Frag) : Sp := fun vs H Q _ => ∃ (a : Addr) (xs : List V) (n : Int), vs = [.ref a, .int n] ∧ SqL K H a xs ∧ Q (.bl (decide (0 ≤ n ∧ n < xs.length))) H
def spPst (K : PySem.W.Frag) : Sp := fun vs H Q _ => ∃ (a : Addr) (ns : List Int) (st w : Nat), vs = [.ref a, .int st, .int w] ∧ SqL K H a (ns.map V.int) ∧ w ≤ 7 ∧ Q (.bl (patAt w (ns.drop st))) H
def spRsz (K : PySem.W.Frag) : Sp := fun vs H Q _ => ∃ (a : Addr) (ns : List Int) (st w : Nat), vs = [.ref a, .int st, .int w] ∧ SqL K H a (ns.map V.int) ∧ w ≤ 7 ∧ ∀ H', Same H H' → Q (.int (ruleSz w (ns.drop st) : Nat)) H'
/-- a list of rules -/
structure TableAt (C : Addr) (H : Hp) (p : Addr) (t : List R') : Prop where
  ex : ∃ qs, H p = some (.lst qs) ∧ Al (fun q r => ∃ b, q = .ref b ∧ RuleAt C H b r) qs t
theorem TableAt.same {C : Addr} {H H' : Hp} (s : Same H H') {p : Addr} {t : List R'} (h : TableAt C H p t) : TableAt C H' p t := by
  obtain ⟨qs, h1, h2⟩ := h.ex
  exact ⟨qs, s _ _ h1, h2.mono fun q r ⟨b, e, k⟩ => ⟨b, e, k.same s⟩⟩
section
variable {P : Program} {w : World} {K : PySem.W.Frag} {mg : Str → Option Value} {base : Heap} {C : Addr}
theorem cal_port (D : Def K mg "is_port" sPort ["number"]) {t : Tok} (g : mg "PORTS" = some (.int 6 t)) : Cal P w K mg base 1 "is_port" spPort := by
  refine cal_mk D scPort (fun vs H Q E h => ?_) (fun f cdv A outer s H vs Q E hr h => ?_)
  · obtain ⟨n, rfl, _⟩ := h
    rfl
  · obtain ⟨n, rfl, q⟩ := h
    refine ⟨_, pss_one (ps_ret (pe_chain op_le op_lt pe_int (pv 0) (pe_glob (v := .int 6) (by rfl) g ⟨_, rfl⟩))), ?_⟩
    refine ⟨_, rfl, _, _, rfl, rfl, _, rfl, ite2 (fun c => ?_) (fun c => ?_)⟩
    · have c' := of_decide_eq_true c
      refine ⟨_, _, rfl, rfl, bl_eq ?_ q⟩
      rw [Bool.eq_iff_iff, decide_eq_true_iff, decide_eq_true_iff]
      exact ⟨fun h => ⟨c', h⟩, fun h => h.2⟩
    · exact bl_eq (decide_eq_false fun h => c (decide_eq_true h.1)).symm q
theorem cal_within (D : Def K mg "within_bits" sWithin ["number", "width"]) : Cal P w K mg base 1 "within_bits" spWithin := by
  refine cal_mk D scWithin (fun vs H Q E h => ?_) (fun f cdv A outer s H vs Q E hr h => ?_)
  · obtain ⟨n, w, rfl, _⟩ := h
    rfl
  · obtain ⟨n, wd, rfl, hw, q⟩ := h
    refine ⟨_, pss_one (ps_ret (pe_chain op_le op_lt pe_int (pv 0) (pe_op op_shl pe_int (pv 1)))), ?_⟩
    refine ⟨_, rfl, _, _, rfl, rfl, _, rfl, ite2 (fun c => ?_) (fun c => ?_)⟩
    · have c' := of_decide_eq_true c
      refine ⟨_, rfl, _, _, rfl, rfl, ⟨by omega, by omega, by decide⟩, _, _, rfl, rfl, bl_eq ?_ q⟩
      rw [Bool.eq_iff_iff, decide_eq_true_iff, decide_eq_true_iff, Int.toNat_natCast, Int.one_mul]
      exact ⟨fun h => ⟨c', h⟩, fun h => h.2⟩
    · exact bl_eq (decide_eq_false fun h => c (decide_eq_true h.1)).symm q
theorem cal_has (D : Def K mg "has_rule" sHas ["rules", "number"]) (ml : mg "len" = none) : Cal P w K mg base 1 "has_rule" (spHas K) := by
  refine cal_mk D scHas (fun vs H Q E h => ?_) (fun f cdv A outer s H vs Q E hr h => ?_)
  · obtain ⟨a, xs, n, rfl, _⟩ := h
    rfl
  · obtain ⟨a, xs, n, rfl, hs, q⟩ := h
    refine ⟨_, pss_one (ps_ret (pe_chain op_le op_lt pe_int (pv 1) (pe_len ml (pv 0)))), ?_⟩
    refine ⟨_, rfl, _, _, rfl, rfl, _, rfl, ite2 (fun c => ?_) (fun c => ?_)⟩
    · have c' := of_decide_eq_true c
      refine ⟨_, rfl, a, _, rfl, .inl hs, _, _, rfl, rfl, bl_eq ?_ q⟩
      rw [Bool.eq_iff_iff, decide_eq_true_iff, decide_eq_true_iff]
      exact ⟨fun h => ⟨c', h⟩, fun h => h.2⟩
    · exact bl_eq (decide_eq_false fun h => c (decide_eq_true h.1)).symm q
theorem and_test {t : Nat} {o : Int} : (Builtin.bitAnd (t : Int) o = o) ↔ (0 ≤ o ∧ o.toNat &&& t = o.toNat) := by
  by_cases h : 0 ≤ o
  · obtain ⟨n, rfl⟩ := Int.eq_ofNat_of_zero_le h
    rw [and_nat, Int.toNat_natCast, Nat.and_comm]
    constructor
    · intro e
      exact ⟨h, by omega⟩
    · intro ⟨_, e⟩
      omega
  · constructor
    · intro e
      have r := PyProof.Rows.bitAnd_range o (Int.natCast_nonneg t)
      rw [PyProof.Rows.bitAnd_comm] at r
      omega
    · intro ⟨e, _⟩
      exact absurd e h
theorem get_int {ns : List Int} {i : Nat} {z : Int} (h : ns[i]? = some z) : (ns.map V.int)[i]? = some (.int z) := by
  rw [List.getElem?_map, h]
  rfl
theorem drop_at {ns : List Int} {i : Nat} {z : Int} {r : List Int} (h : ns.drop i = z :: r) : ns[i]? = some z ∧ ns.drop (i + 1) = r := by
  have h1 : (ns.drop i)[0]? = some z := by rw [h]; rfl
  rw [List.getElem?_drop] at h1
  refine ⟨h1, ?_⟩
  rw [← List.drop_drop, h]
  rfl
theorem drop_len {ns l : List Int} {i : Nat} (h : ns.drop i = l) (hl : l ≠ []) : ns.length = i + l.length := by
  have e := congrArg List.length h
  rw [List.length_drop] at e
  have : 0 < l.length := List.length_pos_iff.mpr hl
  omega
theorem drop_len' {ns l : List Int} {i : Nat} (h : ns.drop i = l) (hi : i ≤ ns.length) : ns.length = i + l.length := by
  have e := congrArg List.length h
  rw [List.length_drop] at e
  omega
theorem cal_pst (D : Def K mg "pattern_stands" sPst ["numbers", "start", "width"]) (ml : mg "len" = none) (cw : Cal P w K mg base 1 "within_bits" spWithin) : Cal P w K mg base 2 "pattern_stands" (spPst K) := by
  refine cal_mk D scPst (fun vs H Q E h => ?_) (fun f cdv A outer s H vs Q E hr h => ?_)
  · obtain ⟨a, ns, st, w, rfl, _⟩ := h
    rfl
  · obtain ⟨a, ns, st, wd, rfl, hs, hw, q⟩ := h
    refine ⟨_, pss_cons (ps_if (pt_cmpR op_gt (pe_op op_add (pv 1) pe_int) (pe_len ml (pv 0)) (nomark _)) (pss_one (ps_ret pe_bl)) pss_nil)
      (pss_cons (ps_set (i := 3) scPst.nd rfl (.inl rfl) (pe_ix ix_list (pv 0) (pv 1) (fun _ _ => rfl)))
      (pss_cons (ps_set (i := 4) scPst.nd rfl (.inl rfl) (pe_ix ix_list (pv 0) (pe_op op_add (pv 1) pe_int) (fun _ _ => rfl)))
      (pss_one (ps_ret (pe_and (pe_c cw hr (pa_cons (pv 3) (pa_cons (pv 2) pa_nil))) (pe_one (pe_cmpR op_eq (pe_op op_and (pv 3) (pv 4)) (pv 4) (nomark _)))))))), ?_⟩
    refine ⟨_, rfl, _, _, rfl, rfl, _, rfl, a, _, rfl, .inl hs, _, _, rfl, rfl, _, rfl, ite2 (fun c => ?_) (fun c => ?_)⟩
    · have c' := of_decide_eq_true c
      rw [List.length_map] at c'
      refine bl_eq ?_ q
      rcases e : ns.drop st with _ | ⟨t, _ | ⟨o, r⟩⟩
      · rfl
      · rfl
      · have := drop_len e (List.cons_ne_nil _ _)
        simp at this
        omega
    · have c' : ¬ (((ns.map V.int).length : Int) < (st : Int) + 2) := fun z => c (decide_eq_true z)
      rw [List.length_map] at c'
      have hl : (ns.drop st).length = ns.length - st := List.length_drop
      rcases e : ns.drop st with _ | ⟨t, _ | ⟨o, r⟩⟩
      · rw [e] at hl
        simp at hl
        omega
      · rw [e] at hl
        simp at hl
        omega
      · obtain ⟨g1, e1⟩ := drop_at e
        obtain ⟨g2, _⟩ := drop_at e1
        rw [e] at q
        refine ⟨_, rfl, _, rfl, a, _, _, _, rfl, rfl, hs, atI_nat (get_int g1), ?_⟩
        refine ⟨_, rfl, _, rfl, _, _, rfl, rfl, a, _, _, _, rfl, rfl, hs, at_of (j := st + 1) (by omega) (get_int g2), ?_⟩
        refine ⟨_, rfl, _, rfl, t, wd, rfl, hw, _, rfl, ite2 (fun d => ?_) (fun d => ?_)⟩
        · have d' := of_decide_eq_true d
          obtain ⟨tn, rfl⟩ := Int.eq_ofNat_of_zero_le d'.1
          refine ⟨_, rfl, _, rfl, _, _, rfl, rfl, _, rfl, rfl, bl_eq ?_ q⟩
          rw [dec_int]
          show decide _ = decide _
          rw [Bool.eq_iff_iff, decide_eq_true_iff, decide_eq_true_iff, and_test]
          constructor
          · intro ⟨h1, h2⟩
            refine ⟨d'.1, d'.2, h1, ?_, by rw [Int.toNat_natCast]; exact h2⟩
            have h3 : o.toNat ≤ tn := by
              rw [← h2]
              exact Nat.and_le_right
            have := d'.2
            omega
          · intro h
            have h5 := h.2.2.2.2
            rw [Int.toNat_natCast] at h5
            exact ⟨h.2.2.1, h5⟩
        · exact bl_eq (decide_eq_false fun h => d (decide_eq_true ⟨h.1, h.2.1⟩)).symm q
end
end RT
set_option Elab.async false
set_option linter.all false
set_option maxRecDepth 100000
set_option maxHeartbeats 4000000
namespace RT
open PySem PySem.Spec PyProof.Rows L2
section
variable {P : Program} {w : World} {K : PySem.W.Frag} {mg : Str → Option Value} {base : Heap} {C : Addr}
theorem take_ints (ns : List Int) (st : Nat) : cutV (ns.map V.int) (some ((st : Int) + 2)) (some ((st : Int) + 3)) = ((ns.drop (st + 2)).take 1).map V.int := by
  have e1 : (st : Int) + 2 = ((st + 2 : Nat) : Int) := rfl
  have e2 : (st : Int) + 3 = ((st + 3 : Nat) : Int) := rfl
  rw [e1, e2, cut_both, ← List.map_drop, ← List.map_take, show st + 3 - (st + 2) = 1 by omega]
theorem cal_rsz (D : Def K mg "rule_size" sRsz ["numbers", "start", "width"]) (ml : mg "len" = none) (cs : Cal P w K mg base 2 "pattern_stands" (spPst K)) (cp : Cal P w K mg base 1 "is_port" spPort) : Cal P w K mg base 3 "rule_size" (spRsz K) := by
  refine cal_mk D scRsz (fun vs H Q E h => ?_) (fun f cdv A outer s H vs Q E hr h => ?_)
  · obtain ⟨a, ns, st, w, rfl, _⟩ := h
    rfl
  · obtain ⟨a, ns, st, wd, rfl, hs, hw, q⟩ := h
    refine ⟨_, pss_cons (ps_if (pt_not (pt_val (pe_c cs hr (pa_cons (pv 0) (pa_cons (pv 1) (pa_cons (pv 2) pa_nil)))))) (pss_one (ps_ret pe_int)) pss_nil)
      (pss_cons (ps_set (i := 3) scRsz.nd rfl (.inl rfl) (pe_slice sl_list (pv 0) (po_some (pe_op op_add (pv 1) pe_int)) (po_some (pe_op op_add (pv 1) pe_int))))
      (pss_cons (ps_if (pt_cmpR (op_eqD hr.units) (pv 3) (pe_lst (pa_cons pe_int pa_nil)) (nomark _)) (pss_one (ps_ret pe_int)) pss_nil)
      (pss_cons (ps_if (PW.pt (pw_or (pt_cmpR (op_neD hr.units) (pv 3) (pe_lst (pa_cons pe_int pa_nil)) (nomark _)) (pw_or1 (pt_not (pt_val (pe_c cs hr (pa_cons (pv 0) (pa_cons (pe_op op_add (pv 1) pe_int) (pa_cons (pv 2) pa_nil))))))))) (pss_one (ps_ret pe_int)) pss_nil)
      (pss_cons (ps_if (PW.pt (pw_or (pt_cmpR op_gt (pe_op op_add (pv 1) pe_int) (pe_len ml (pv 0)) (nomark _)) (pw_or1 (pt_not (pt_val (pe_c cp hr (pa_cons (pe_ix ix_list (pv 0) (pe_op op_add (pv 1) pe_int) (fun _ _ => rfl)) pa_nil))))))) (pss_one (ps_ret pe_int)) pss_nil)
      (pss_one (ps_ret pe_int)))))), ?_⟩
    refine ⟨_, rfl, _, rfl, _, rfl, a, ns, st, wd, rfl, hs, hw, _, rfl, ?_⟩
    cases hp : patAt wd (ns.drop st) with
    | false =>
      refine iteT ?_
      have q' := q H (Same.refl H)
      rw [sz_short hp] at q'
      exact q'
    | true =>
      refine iteF ?_
      obtain ⟨t, o, r, e⟩ : ∃ t o r, ns.drop st = t :: o :: r := by
        rcases e : ns.drop st with _ | ⟨t, _ | ⟨o, r⟩⟩
        · rw [e] at hp; cases hp
        · rw [e] at hp; cases hp
        · exact ⟨t, o, r, rfl⟩
      have hpat : isPat wd t o := by
        rw [e] at hp
        exact of_decide_eq_true hp
      have er : ns.drop (st + 2) = r := by
        rw [← List.drop_drop, e]
        rfl
      -- action = numbers[start + 2:start + 3]
      refine ⟨_, rfl, _, rfl, _, _, rfl, rfl, _, rfl, _, rfl, _, _, rfl, rfl, _, rfl, a, _, rfl, hs, fun z nz => ?_⟩
      rw [take_ints, er]
      have s1 : Same H (upd H z (.lst ((r.take 1).map V.int))) := same_upd nz
      have h1 : (upd H z (.lst ((r.take 1).map V.int))) z = some (.lst ((r.take 1).map V.int)) := upd_same
      generalize upd H z (.lst ((r.take 1).map V.int)) = H1 at s1 h1
      -- action == [0]
      refine ⟨_, rfl, by show 1 ≤ sizeLine; decide, fun y ny => ?_⟩
      have s2 : Same H1 (upd H1 y (.lst [V.int 0])) := same_upd ny
      have h2 : (upd H1 y (.lst [V.int 0])) y = some (.lst ([0].map V.int)) := upd_same
      generalize upd H1 y (.lst [V.int 0]) = H2 at s2 h2
      refine ⟨.list _, .list _, .lst (.of (s2 _ _ h1)) (dp_ints _), .lst (.of h2) (dp_ints [0]), shaped_ints _, shaped_ints [0], _, rfl, ite2 (fun c => ?_) (fun c => ?_)⟩
      · have c' : r.take 1 = [0] := by
          have e1 : PyData.eqvAll ((r.take 1).map PyData.int) (([0] : List Int).map PyData.int) = true := c
          rw [eqv_ints] at e1
          exact of_decide_eq_true e1
        obtain ⟨r', rfl⟩ : ∃ r', r = 0 :: r' := by
          rcases r with _ | ⟨k, r'⟩
          · cases c'
          · exact ⟨r', by rw [(List.cons.inj c').1]⟩
        have q' := q H2 (s1.trans s2)
        rw [e, sz_drop hpat] at q'
        exact q'
      have c' : r.take 1 ≠ [0] := fun z => c (by
        show PyData.eqvAll ((r.take 1).map PyData.int) (([0] : List Int).map PyData.int) = true
        rw [eqv_ints, decide_eq_true z])
      -- action != [1] or ..
      refine ⟨_, rfl, by show 1 ≤ sizeLine; decide, fun x nx => ?_⟩
      have s3 : Same H2 (upd H2 x (.lst [V.int 1])) := same_upd nx
      have h3 : (upd H2 x (.lst [V.int 1])) x = some (.lst ([1].map V.int)) := upd_same
      generalize upd H2 x (.lst [V.int 1]) = H3 at s3 h3
      have s03 : Same H H3 := (s1.trans s2).trans s3
      have q3 := q H3 s03
      rw [e] at q3
      refine ⟨.list _, .list _, .lst (.of (s3 _ _ (s2 _ _ h1))) (dp_ints _), .lst (.of h3) (dp_ints [1]), shaped_ints _, shaped_ints [1], _, rfl, ?_⟩
      have ed : PyData.eqv (.list ((r.take 1).map PyData.int)) (.list (([1] : List Int).map PyData.int)) = decide (r.take 1 = [1]) := eqv_ints _ _
      rw [ed]
      by_cases d : r.take 1 = [1]
      · rw [decide_eq_true d]
        refine iteF ?_
        obtain ⟨r', rfl⟩ : ∃ r', r = 1 :: r' := by
          rcases r with _ | ⟨k, r'⟩
          · cases d
          · exact ⟨r', by rw [(List.cons.inj d).1]⟩
        have er3 : ns.drop (st + 3) = r' := by
          rw [show st + 3 = (st + 2) + 1 by omega, ← List.drop_drop, er]
          rfl
        refine ⟨_, rfl, _, rfl, _, _, rfl, rfl, _, rfl, a, ns, st + 3, wd, rfl, s03.seq hs, hw, _, rfl, ?_⟩
        rw [er3]
        cases hp2 : patAt wd r' with
        | false =>
          refine iteT ?_
          rw [sz_none (act_nosend hp2)] at q3
          exact q3
        | true =>
          refine iteF ?_
          obtain ⟨m, b, r2, rfl⟩ : ∃ m b r2, r' = m :: b :: r2 := by
            rcases r' with _ | ⟨t, _ | ⟨o, r⟩⟩
            · cases hp2
            · cases hp2
            · exact ⟨_, _, _, rfl⟩
          have hp2' : isPat wd m b := of_decide_eq_true hp2
          have hlen := drop_len e (List.cons_ne_nil _ _)
          refine ⟨_, rfl, _, _, rfl, rfl, _, rfl, a, _, rfl, .inl (s03.seq hs), _, _, rfl, rfl, _, rfl, ?_⟩
          rw [List.length_map]
          rcases r2 with _ | ⟨p, r3⟩
          · rw [decide_eq_true (by simp at hlen; omega)]
            refine iteT ?_
            rw [sz_none (act_nosend_short m b)] at q3
            exact q3
          · rw [decide_eq_false (by simp at hlen; omega)]
            refine iteF ?_
            have g : ns[st + 5]? = some p := by
              have h5 : (ns.drop st)[5]? = some p := by rw [e]; rfl
              rw [List.getElem?_drop] at h5
              exact h5
            refine ⟨_, rfl, _, rfl, _, _, rfl, rfl, a, _, _, _, rfl, rfl, s03.seq hs, at_of (j := st + 5) (by omega) (get_int g), p, rfl, _, rfl, ?_⟩
            rw [sz_send hpat] at q3
            by_cases hq : isPort p
            · rw [decide_eq_true hq]
              refine iteF ?_
              rw [if_pos ⟨hp2', hq⟩] at q3
              exact q3
            · rw [decide_eq_false hq]
              refine iteT ?_
              rw [if_neg (fun z => hq z.2)] at q3
              exact q3
      · rw [decide_eq_false d]
        refine iteT ?_
        rw [sz_none (act_else c' d)] at q3
        exact q3
/-- a new table is handed back, or None -/
def RetTab (C : Addr) (H : Hp) (Q : VK) (o : Option (List R')) : Prop := (o = none → ∀ H', Same H H' → Q .non H') ∧ ∀ t, o = some t → ∀ (H' : Hp) (p : Addr), Same H H' → H p = none → TableAt C H' p t → Q (.ref p) H'
def spRds (K : PySem.W.Frag) (C : Addr) : Sp := fun vs H Q _ => ∃ (a : Addr) (ns : List Int) (w : Nat), vs = [.ref a, .int w] ∧ SqL K H a (ns.map V.int) ∧ w ≤ 7 ∧ RetTab C H Q (Vapktb.tableOf w ns)
theorem slice_ints (ns : List Int) (st sz : Nat) : cutV (ns.map V.int) (some (st : Int)) (some ((st : Int) + (sz : Int))) = ((ns.drop st).take sz).map V.int := by
  have e2 : (st : Int) + (sz : Int) = ((st + sz : Nat) : Int) := rfl
  rw [e2, cut_both, ← List.map_drop, ← List.map_take, show st + sz - st = sz by omega]
/-- a list of references isn't a rule's action -/
theorem RuleAt.but {H H' : Hp} {p b : Addr} {r : R'} {qs : List V} (hp : H p = some (.lst qs)) (hq : ∀ q ∈ qs, ∃ c, q = V.ref c) (k : SameBut p H H') (h : RuleAt C H b r) : RuleAt C H' b r := by
  obtain ⟨dx, ac, h1, h2⟩ := h.ex
  refine ⟨dx, ac, k _ _ (ne_of h1 hp (by intro z; cases z)) h1, k _ _ (fun z => ?_) h2⟩
  subst z
  rw [hp] at h2
  have e : qs = actL r.action := by
    have := Option.some.inj h2
    injection this
  obtain ⟨x, y, e2⟩ : ∃ x y, actL r.action = V.int x :: y := by
    cases r.action with
    | drop => exact ⟨_, _, rfl⟩
    | send u p => exact ⟨_, _, rfl⟩
  rw [e2] at e
  obtain ⟨c, hc⟩ := hq (V.int x) (by rw [e]; exact List.mem_cons_self)
  cases hc
theorem tab_refs {H : Hp} {qs : List V} {t : List R'} (h : Al (fun q r => ∃ b, q = V.ref b ∧ RuleAt C H b r) qs t) : ∀ q ∈ qs, ∃ c, q = V.ref c := fun q hq => by
  obtain ⟨i, hi, e⟩ := List.getElem_of_mem hq
  obtain ⟨b, e2, _⟩ := h.get i q (t[i]'(by rw [← h.len]; exact hi)) (by rw [List.getElem?_eq_getElem hi, e]) (List.getElem?_eq_getElem _)
  exact ⟨b, e2⟩
theorem cal_rds (D : Def K mg "read_rules" sRds ["numbers", "width"]) (ml : mg "len" = none) (cz : Cal P w K mg base 3 "rule_size" (spRsz K)) (ck : Mak P w K mg base 1 "Rule" C (spRInit K C)) {t8 : Tok} (g8 : mg "MOST_RULES" = some (.int 8 t8)) :
    Cal P w K mg base 4 "read_rules" (spRds K C) := by
  refine cal_mk D scRds (fun vs H Q E h => ?_) (fun f cdv A outer s H vs Q E hr h => ?_)
  · obtain ⟨a, ns, w, rfl, _⟩ := h
    rfl
  · obtain ⟨a, ns, wd, rfl, hs, hw, q0, q1⟩ := h
    refine ⟨_, pss_cons (ps_if (PW.pt (pw_or (pt_not (pt_truth (pv 0) (by intro _; rfl))) (pw_or1 (pt_not (pt_chain op_le op_le pe_int (pe_ix ix_list (pv 0) pe_int (fun _ _ => rfl)) (pe_glob (v := .int 8) (by rfl) g8 ⟨_, rfl⟩)))))) (pss_one (ps_ret pe_non)) pss_nil)
      (pss_cons (ps_set (i := 2) scRds.nd rfl (.inl rfl) (pe_lst pa_nil))
      (pss_cons (ps_set (i := 3) scRds.nd rfl (.inl rfl) pe_int)
      (pss_cons (ps_while PassesOwn.never (pt_cmpR op_lt (pe_len ml (pv 2)) (pe_ix ix_list (pv 0) pe_int (fun _ _ => rfl)) (nomark _))
        (pss_cons (ps_set (i := 4) scRds.nd rfl (.inl rfl) (pe_c cz hr (pa_cons (pv 0) (pa_cons (pv 3) (pa_cons (pv 1) pa_nil)))))
        (pss_cons (ps_if (pt_cmpR op_eq (pv 4) pe_int (nomark _)) (pss_one (ps_ret pe_non)) pss_nil)
        (pss_cons (ps_expr (pe_bm PySem.F.plainAttrs_list PySem.F.slot_list_append PySem.F.type_list_append mt_append (pv 2) (pa_cons (pe_mk ck hr (pa_cons (pe_slice sl_list (pv 0) (po_some (pv 3)) (po_some (pe_op op_add (pv 3) (pv 4)))) pa_nil)) pa_nil)))
        (pss_one (ps_aug (i := 3) scRds.nd rfl (.inl rfl) (pv 4) ip_add))))))
      (pss_cons (ps_if (pt_cmpR op_ne (pv 3) (pe_len ml (pv 0)) (nomark _)) (pss_one (ps_ret pe_non)) pss_nil)
      (pss_one (ps_ret (pv 2))))))), ?_⟩
    refine ⟨_, rfl, !(ns.map V.int).isEmpty, .inl ⟨_, hs, rfl⟩, ?_⟩
    rcases ns with _ | ⟨n, l⟩
    · refine iteT (iteT ?_)
      exact q0 rfl H (Same.refl H)
    refine iteF ?_
    refine ⟨_, rfl, a, _, 0, _, rfl, rfl, hs, atI_nat (j := 0) rfl, _, _, rfl, rfl, _, rfl, ?_⟩
    rw [tableOf_cons] at q0 q1
    by_cases c : 0 ≤ n ∧ n ≤ 8
    case neg =>
      rw [if_neg c] at q0
      refine ite2 (fun d => ?_) (fun d => ?_)
      · have d' := of_decide_eq_true d
        refine ⟨_, _, rfl, rfl, _, rfl, ?_⟩
        rw [decide_eq_false (fun z : n ≤ 8 => c ⟨d', z⟩)]
        exact iteT (q0 rfl H (Same.refl H))
      · exact ⟨_, rfl, iteT (q0 rfl H (Same.refl H))⟩
    rw [if_pos c] at q0 q1
    rw [decide_eq_true c.1]
    refine iteT ⟨_, _, rfl, rfl, _, rfl, ?_⟩
    rw [decide_eq_true c.2]
    refine iteF ?_
    refine ⟨Nat.zero_le _, fun R nR => ?_⟩
    have naR : ∀ H', Same (upd H R (.lst [])) H' → SqL K H' a ((n :: l).map V.int) := fun H' s => s.seq ((same_upd nR).seq hs)
    have step : ∀ st : Nat, (n :: l).drop (st + 1) = l.drop st := fun st => rfl
    refine ⟨fun m σ H' => ∃ (rs : List R') (st : Nat) (y4 : Option V), σ = [some (.ref a), some (.int wd), some (.ref R), some (.int ((st + 1 : Nat) : Int)), y4] ∧ m = n.toNat - rs.length ∧ SameBut R H H' ∧ TableAt C H' R rs ∧ st ≤ l.length ∧ rs.length ≤ n.toNat ∧
        VapktBase.readTimes (VapktBase.readRule wd) n.toNat l = (VapktBase.readTimes (VapktBase.readRule wd) (n.toNat - rs.length) (l.drop st)).map (fun v => (rs ++ v.1, v.2)),
      ⟨_, [], 0, none, rfl, rfl, (SameBut.refl R H).upd, ⟨[], upd_same, .nil⟩, Nat.zero_le _, Nat.zero_le _, ?_⟩, ?_⟩
    · show _ = Option.map (fun v => v) _
      rw [Option.map_id']
      rfl
    rintro m σ H1 ⟨rs, st, y4, rfl, rfl, sb, ⟨qs, hR, al⟩, hst, hrs, heq⟩
    have s1 : Same H H1 := sb.new nR
    refine ⟨_, rfl, R, _, rfl, .inl (.of hR), _, rfl, a, _, 0, _, rfl, rfl, s1.seq hs, atI_nat (j := 0) rfl, _, _, rfl, rfl, _, rfl, ?_⟩
    have hz : ((qs.length : Int) < n) ↔ rs.length < n.toNat := by
      rw [al.len]
      omega
    refine ite2 (fun d => ?_) (fun d => ?_)
    · -- a rule more
      have d' := hz.mp (of_decide_eq_true d)
      refine ⟨fun σ' H' => ∃ (rs' : List R') (st' : Nat) (y4 : Option V), σ' = [some (.ref a), some (.int wd), some (.ref R), some (.int ((st' + 1 : Nat) : Int)), y4] ∧ rs'.length = rs.length + 1 ∧ SameBut R H H' ∧ TableAt C H' R rs' ∧ st' ≤ l.length ∧
          VapktBase.readTimes (VapktBase.readRule wd) n.toNat l = (VapktBase.readTimes (VapktBase.readRule wd) (n.toNat - rs'.length) (l.drop st')).map (fun v => (rs' ++ v.1, v.2)),
        fun σ' H' ⟨rs', st', y4', e1, e2, e3, e4, e5, e6⟩ => ⟨n.toNat - rs'.length, by omega, rs', st', y4', e1, rfl, e3, e4, e5, by omega, e6⟩, ?_⟩
      obtain ⟨k, hk⟩ : ∃ k, n.toNat - rs.length = k + 1 := ⟨n.toNat - rs.length - 1, by omega⟩
      rw [hk, times_step] at heq
      refine ⟨_, rfl, _, rfl, _, rfl, a, _, st + 1, wd, rfl, s1.seq hs, hw, fun H2 s2 => ?_⟩
      rw [step]
      refine ⟨_, rfl, rfl, _, rfl, ?_⟩
      rw [dec_int]
      by_cases z : ruleSz wd (l.drop st) = 0
      · -- no rule stands there
        rw [z]
        refine iteT (q0 ?_ H2 (s1.trans s2))
        rw [sz_zero.mp z] at heq
        rw [heq]
        rfl
      · obtain ⟨r, e1, e2, e3⟩ := sz_rule z
        rw [show (((ruleSz wd (l.drop st) : Nat) : Int) == 0) = false from beq_eq_false_iff_ne.mpr (by omega)]
        refine iteF ?_
        have hR2 := s2 _ _ hR
        refine ⟨_, rfl, .inl ⟨rfl, _, .of hR2⟩, ?_⟩
        refine ⟨_, rfl, _, rfl, _, rfl, _, rfl, _, rfl, _, _, rfl, rfl, _, rfl, a, _, rfl, (s1.trans s2).seq hs, fun p np => ?_⟩
        rw [slice_ints, step, e2]
        have npR : R ≠ p := ne_of_none hR2 np
        intro x dx nx ndx nex
        refine ⟨x, dx, p, r, rfl, upd_same, ?_, fun H5 hr5 kp => ⟨rfl, ?_⟩⟩
        · have e : p ≠ x := fun z => by rw [← z, upd_same] at nx; cases nx
          have e' : p ≠ dx := fun z => by rw [← z, upd_same] at ndx; cases ndx
          rw [upd_ne e, upd_ne e', upd_same]
        have s5 : Same H2 H5 := (same_upd np).trans (Same.made nx ndx kp)
        have hR5 := s5 _ _ hR2
        refine ⟨R, _, _, rfl, rfl, hR5, ?_, ?_⟩
        · rw [al.len]
          exact sizeLine_of (by omega)
        refine ⟨_, rfl, _, rfl, _, _, rfl, rfl, rs ++ [r], st + ruleSz wd (l.drop st), some (.int ((ruleSz wd (l.drop st) : Nat) : Int)), ?_, by simp, ?_, ?_, ?_, ?_⟩
        · show [_, _, _, some (V.int (((st + 1 : Nat) : Int) + _)), _] = _
          rw [show ((st + 1 : Nat) : Int) + ((ruleSz wd (l.drop st) : Nat) : Int) = ((st + ruleSz wd (l.drop st) + 1 : Nat) : Int) by omega]
        · exact ((sb.same s2).same s5).upd
        · refine ⟨_, upd_same, Al.snoc (al.mono fun q' r' ⟨b, e, k⟩ => ⟨b, e, ?_⟩) ⟨x, rfl, ?_⟩⟩
          · exact ((k.same s2).same s5).but hR5 (tab_refs al) (SameBut.refl R _).upd
          · exact hr5.but hR5 (tab_refs al) (SameBut.refl R _).upd
        · have h1 := sz_le (w := wd) (l := l.drop st)
          rw [List.length_drop] at h1
          omega
        · rw [e1, Option.bind_some, List.drop_drop] at heq
          rw [heq, List.length_append, List.length_singleton, show n.toNat - (rs.length + 1) = k by omega, Option.map_map]
          congr 1
          funext v
          show (rs ++ r :: v.1, v.2) = (rs ++ [r] ++ v.1, v.2)
          rw [List.append_assoc]
          rfl
    · -- all are read
      have d' : rs.length = n.toNat := by
        have d2 : ¬ rs.length < n.toNat := fun z => d (decide_eq_true (hz.mpr z))
        omega
      rw [d', Nat.sub_self] at heq
      have heq' : VapktBase.readTimes (VapktBase.readRule wd) n.toNat l = some (rs, l.drop st) := by
        rw [heq]
        show some (rs ++ [], l.drop st) = _
        rw [List.append_nil]
      refine ⟨_, rfl, _, rfl, a, _, rfl, .inl (s1.seq hs), rfl, _, rfl, ?_⟩
      rw [heq'] at q0 q1
      rw [dec_int]
      by_cases z : st = l.length
      · have e0 : l.drop st = [] := List.drop_eq_nil_of_le (by omega)
        rw [e0] at q1
        rw [show ((((st + 1 : Nat) : Int) == (((n :: l).map V.int).length : Int))) = true by simp [z]]
        refine iteF ⟨_, rfl, q1 rs rfl H1 R s1 nR ⟨qs, hR, al⟩⟩
      · obtain ⟨y, ys, e0⟩ : ∃ y ys, l.drop st = y :: ys := by
          cases e : l.drop st with
          | nil =>
            have := congrArg List.length e
            rw [List.length_drop] at this
            simp at this
            omega
          | cons y ys => exact ⟨y, ys, rfl⟩
        rw [e0] at q0
        rw [show ((((st + 1 : Nat) : Int) == (((n :: l).map V.int).length : Int))) = false from beq_eq_false_iff_ne.mpr (by simp; omega)]
        exact iteT (q0 rfl H1 s1)
end
end RT
set_option Elab.async false
set_option linter.all false
set_option maxRecDepth 100000
set_option maxHeartbeats 4000000
namespace RT
open PySem PySem.Spec PyProof.Rows L2
def spRd1 (C : Addr) : Sp := fun vs H Q _ => ∃ (a : Addr) (ns : List Int) (w : Nat), vs = [.ref a, .int w] ∧ H a = some (.lst (ns.map V.int)) ∧ ns.length ≤ 1000 ∧ w ≤ 7 ∧ (Vapktb.ruleOf w ns = none → ∀ H', Same H H' → Q .non H') ∧
  ∀ r, Vapktb.ruleOf w ns = some r → ∀ (H' : Hp) (b : Addr), Same H H' → RuleAt C H' b r → Q (.ref b) H'
def spRan (C : Addr) : Sp := fun vs H Q _ => ∃ (a : Addr) (t : List R'), vs = [.ref a] ∧ TableAt C H a t ∧ t.length ≤ 100000 ∧ RetInts H Q (VapktBase.flatTable t)
def spRps (K : PySem.W.Frag) : Sp := fun vs H Q _ => ∃ (a : Addr) (ns : List Int) (w : Nat), vs = [.ref a, .int w] ∧ SqL K H a (ns.map V.int) ∧ w ≤ 7 ∧ (patsOf w ns = none → ∀ H', Same H H' → Q .non H') ∧
  ∀ ps, patsOf w ns = some ps → ∀ (H' : Hp) (p : Addr) (qs : List V), Same H H' → H p = none → H' p = some (.lst qs) → Al (PairAt H') qs (ps.map fun x => (x.told, x.bits)) → Q (.ref p) H'
section
variable {P : Program} {w : World} {K : PySem.W.Frag} {mg : Str → Option Value} {base : Heap} {C : Addr}
theorem cal_rd1 (D : Def K mg "read_rule" sRd1 ["numbers", "width"]) (cr : Cal P w K mg base 4 "read_rules" (spRds K C)) : Cal P w K mg base 5 "read_rule" (spRd1 C) := by
  refine cal_mk D scRd1 (fun vs H Q E h => ?_) (fun f cdv A outer s H vs Q E hr h => ?_)
  · obtain ⟨a, ns, w, rfl, _⟩ := h
    rfl
  · obtain ⟨a, ns, wd, rfl, hs, hl, hw, q0, q1⟩ := h
    refine ⟨_, pss_cons (ps_set (i := 2) scRd1.nd rfl (.inl rfl) (pe_c cr hr (pa_cons (pe_op op_cat (pe_lst (pa_cons pe_int pa_nil)) (pv 0)) (pa_cons (pv 1) pa_nil))))
      (pss_cons (ps_if (pt_cmp (pc_isN (pv 2))) (pss_one (ps_ret pe_non)) pss_nil)
      (pss_one (ps_ret (pe_ix ix_list (pv 2) pe_int (fun _ _ => rfl))))), ?_⟩
    refine ⟨by show 1 ≤ sizeLine; decide, fun z nz => ?_⟩
    have s1 : Same H (upd H z (.lst [V.int 1])) := same_upd nz
    refine ⟨_, rfl, z, a, _, _, rfl, rfl, upd_same, s1 _ _ hs, ?_, fun y ny => ?_⟩
    · rw [List.length_map]
      exact sizeLine_le (by show 1 + _ ≤ _; omega)
    have s2 := s1.trans (same_upd (o := .lst ([V.int 1] ++ ns.map V.int)) ny)
    refine ⟨_, rfl, y, 1 :: ns, wd, rfl, .of upd_same, hw, ?_, ?_⟩
    · intro e H3 s3
      refine ⟨_, rfl, _, rfl, iteT (q0 ?_ H3 (s2.trans s3))⟩
      rw [tableOf_one] at e
      cases h : Vapktb.ruleOf wd ns with
      | none => rfl
      | some r =>
        rw [h] at e
        cases e
    · intro t e H3 p s3 np ht
      rw [tableOf_one] at e
      cases h : Vapktb.ruleOf wd ns with
      | none =>
        rw [h] at e
        cases e
      | some r =>
        rw [h] at e
        have e2 : [r] = t := Option.some.inj e
        subst e2
        obtain ⟨qs, h1, h2⟩ := ht.ex
        obtain ⟨q, e3, b, rfl, hb⟩ := h2.at (i := 0) (b := r) rfl
        exact ⟨_, rfl, _, rfl, iteF ⟨_, rfl, p, _, 0, _, rfl, rfl, .of h1, atI_nat (j := 0) e3, q1 r h H3 b (s2.trans s3) hb⟩⟩
def flats (t : List R') : List Int := t.flatMap VapktBase.flatRule
theorem flats_len (t : List R') : (flats t).length ≤ 6 * t.length := by
  induction t with
  | nil => exact Nat.le_refl _
  | cons r t ih =>
    have e : flats (r :: t) = VapktBase.flatRule r ++ flats t := List.flatMap_cons
    have h := flatRule_len r
    rw [e, List.length_append, List.length_cons]
    omega
theorem flats_snoc (t : List R') (r : R') : flats (t ++ [r]) = flats t ++ VapktBase.flatRule r := by
  unfold flats
  rw [List.flatMap_append, List.flatMap_singleton]
theorem cal_ran (D : Def K mg "rules_as_numbers" sRan ["rules"]) (ml : mg "len" = none) (T : RuleTxt K mg C) (ca : Met P w K mg base 1 C "as_numbers" (spAsn C)) : Cal P w K mg base 2 "rules_as_numbers" (spRan C) := by
  refine cal_mk D scRan (fun vs H Q E h => ?_) (fun f cdv A outer s H vs Q E hr h => ?_)
  · obtain ⟨a, t, rfl, _⟩ := h
    rfl
  · obtain ⟨a, t, rfl, ⟨qs, ha, al⟩, hl, q⟩ := h
    refine ⟨_, pss_cons (ps_set (i := 1) scRan.nd rfl (.inl rfl) (pe_lst (pa_cons (pe_len ml (pv 0)) pa_nil)))
      (pss_cons (ps_for PassesOwn.never rfl (pi_list (pv 0)) (pg_name (i := 2) scRan.nd rfl (.inl rfl))
        (pss_one (ps_expr (pe_bm PySem.F.plainAttrs_list PySem.F.slot_list_extend PySem.F.type_list_extend mt_extend (pv 1) (pa_cons (pe_m0 T.cl ca hr (pv 2)) pa_nil)))))
      (pss_one (ps_ret (pv 1)))), ?_⟩
    refine ⟨_, rfl, a, _, rfl, .inl (.of ha), by show 1 ≤ sizeLine; decide, fun z nz => ?_⟩
    have nza : a ≠ z := ne_of_none ha nz
    refine ⟨_, rfl, a, rfl, ⟨_, .of ((upd_ne nza).trans ha)⟩, for_list (K := K) (a := a) (xs := qs) (fun i σ H' => ∃ y, σ = [some (.ref a), some (.ref z), y] ∧ SameBut z H H' ∧ H' z = some (.lst (((t.length : Int) :: flats (t.take i)).map V.int)))
      ⟨none, rfl, (SameBut.refl z H).upd, ?_⟩ (fun i σ H' _ ⟨_, _, sb, _⟩ => .of (sb _ _ nza ha)) ?_ ?_⟩
    · rw [upd_same, al.len]
      rfl
    · rintro i x σ H' hi ⟨y, rfl, sb, hz⟩
      obtain ⟨r, hr2⟩ : ∃ r, t[i]? = some r := by
        obtain ⟨c, _⟩ := List.getElem?_eq_some_iff.mp hi
        exact ⟨_, List.getElem?_eq_getElem (by rw [← al.len]; exact c)⟩
      obtain ⟨b, rfl, hb⟩ := al.get i x r hi hr2
      have hb' : RuleAt C H' b r := hb.same (sb.new nz)
      obtain ⟨dx, ac, k1, k2⟩ := hb'.ex
      refine ⟨_, rfl, .inl ⟨rfl, _, .of hz⟩, _, rfl, b, dx, _, rfl, k1, rF_none r ac _ (by decide +kernel) (by decide +kernel) (by decide +kernel), b, r, rfl, hb', fun H5 p s5 np hp => ?_⟩
      have hz5 := s5 _ _ hz
      refine ⟨z, p, _, _, rfl, rfl, hz5, hp, ?_, _, rfl, (sb.same s5).upd, ?_⟩
      · have h1 := flats_len (t.take i)
        rw [List.length_take] at h1
        have h2 := flatRule_len r
        rw [List.length_map, List.length_map, List.length_cons]
        exact sizeLine_le (by omega)
      · rw [upd_same, take_more hr2, flats_snoc, ← List.map_append]
        rfl
    · rintro σ H' ⟨y, rfl, sb, hz⟩
      rw [al.len, List.take_length] at hz
      exact ⟨_, rfl, q H' z (sb.new nz) nz hz⟩
theorem rg_pats : ∀ n : Fin 9, (Builtin.Range.small 1 (1 + 2 * ((n.val : Nat) : Int)) 2 = true ∧ Builtin.Range.rangeSize 1 (1 + 2 * ((n.val : Nat) : Int)) 2 = n.val) := by decide +kernel
theorem cal_rps (D : Def K mg "read_patterns" sRps ["numbers", "width"]) (ml : mg "len" = none) (mr : mg "range" = none) (cs : Cal P w K mg base 2 "pattern_stands" (spPst K)) {t8 : Tok} (g8 : mg "MOST_PATTERNS" = some (.int 8 t8)) :
    Cal P w K mg base 3 "read_patterns" (spRps K) := by
  refine cal_mk D scRps (fun vs H Q E h => ?_) (fun f cdv A outer s H vs Q E hr h => ?_)
  · obtain ⟨a, ns, w, rfl, _⟩ := h
    rfl
  · obtain ⟨a, ns, wd, rfl, hs, hw, q0, q1⟩ := h
    refine ⟨_, pss_cons (ps_if (PW.pt (pw_or (pt_not (pt_truth (pv 0) (by intro _; rfl))) (pw_or (pt_not (pt_chain op_le op_le pe_int (pe_ix ix_list (pv 0) pe_int (fun _ _ => rfl)) (pe_glob (v := .int 8) (by rfl) g8 ⟨_, rfl⟩)))
        (pw_or1 (pt_cmpR op_ne (pe_len ml (pv 0)) (pe_op op_add pe_int (pe_op op_mul pe_int (pe_ix ix_list (pv 0) pe_int (fun _ _ => rfl)))) (nomark _)))))) (pss_one (ps_ret pe_non)) pss_nil)
      (pss_cons (ps_set (i := 2) scRps.nd rfl (.inl rfl) (pe_lst pa_nil))
      (pss_cons (ps_for PassesOwn.never rfl (pi_range3 (by rfl) mr (pa_cons pe_int (pa_cons (pe_len ml (pv 0)) (pa_cons pe_int pa_nil)))) (pg_name (i := 3) scRps.nd rfl (.inl rfl))
        (pss_cons (ps_if (pt_not (pt_val (pe_c cs hr (pa_cons (pv 0) (pa_cons (pv 3) (pa_cons (pv 1) pa_nil)))))) (pss_one (ps_ret pe_non)) pss_nil)
        (pss_one (ps_expr (pe_bm PySem.F.plainAttrs_list PySem.F.slot_list_append PySem.F.type_list_append mt_append (pv 2) (pa_cons (pe_tup (pa_cons (pe_ix ix_list (pv 0) (pv 3) (fun _ _ => rfl)) (pa_cons (pe_ix ix_list (pv 0) (pe_op op_add (pv 3) pe_int) (fun _ _ => rfl)) pa_nil))) pa_nil))))))
      (pss_one (ps_ret (pv 2))))), ?_⟩
    refine ⟨_, rfl, !(ns.map V.int).isEmpty, .inl ⟨_, hs, rfl⟩, ?_⟩
    rcases ns with _ | ⟨n, l⟩
    · refine iteT (iteT ?_)
      exact q0 rfl H (Same.refl H)
    refine iteF ?_
    refine ⟨_, rfl, a, _, 0, _, rfl, rfl, hs, atI_nat (j := 0) rfl, _, _, rfl, rfl, _, rfl, ?_⟩
    rw [patsOf_cons] at q0 q1
    have g0 : (n :: l)[0]? = some n := rfl
    by_cases c0 : 0 ≤ n
    case neg =>
      rw [if_neg (fun z => c0 z.1)] at q0
      rw [decide_eq_false c0]
      exact iteF ⟨_, rfl, iteT (iteT (q0 rfl H (Same.refl H)))⟩
    rw [decide_eq_true c0]
    refine iteT ⟨_, _, rfl, rfl, _, rfl, ?_⟩
    by_cases c1 : n ≤ 8
    case neg =>
      rw [if_neg (fun z => c1 z.2.1)] at q0
      rw [decide_eq_false c1]
      exact iteT (iteT (q0 rfl H (Same.refl H)))
    rw [decide_eq_true c1]
    refine iteF ?_
    refine ⟨_, rfl, a, _, rfl, .inl hs, _, rfl, a, _, 0, _, rfl, rfl, hs, atI_nat (j := 0) rfl, _, _, rfl, rfl, .inl ⟨by decide, by decide⟩, _, _, rfl, rfl, rfl, _, rfl, ?_⟩
    rw [dec_int]
    have hlen : (((n :: l).map V.int).length : Int) = ((l.length + 1 : Nat) : Int) := by rw [List.length_map]; rfl
    rw [hlen]
    by_cases c2 : ((l.length + 1 : Nat) : Int) = 1 + 2 * n
    case neg =>
      rw [if_neg (fun z => c2 z.2.2)] at q0
      rw [beq_eq_false_iff_ne.mpr c2]
      exact iteT (q0 rfl H (Same.refl H))
    rw [if_pos ⟨c0, c1, c2⟩] at q0 q1
    rw [beq_iff_eq.mpr c2]
    refine iteF ?_
    obtain ⟨k, rfl⟩ := Int.eq_ofNat_of_zero_le c0
    rw [Int.toNat_natCast] at q0 q1
    have hk : k ≤ 8 := by omega
    have hlk : l.length = 2 * k := by omega
    -- patterns = []
    refine ⟨Nat.zero_le _, fun R nR => ?_⟩
    have naR : ∀ H', SameBut R H H' → SqL K H' a (((k : Int) :: l).map V.int) := fun H' sb => (sb.new nR).seq hs
    refine ⟨_, rfl, a, _, rfl, .inl ((same_upd nR).seq hs), 1, _, 2, k, rfl, ⟨by decide, by decide, ?_, ?_⟩, ?_⟩
    · rw [hlen, c2]
      exact (rg_pats ⟨k, by omega⟩).1
    · rw [hlen, c2]
      exact (rg_pats ⟨k, by omega⟩).2
    refine for_rangeC (lo := 1) (c := 2) (n := k) (fun i σ H' => ∃ y qs ps, σ = [some (.ref a), some (.int wd), some (.ref R), y] ∧ SameBut R H H' ∧ patTimes wd i l = some ps ∧ H' R = some (.lst qs) ∧ Al (PairAt H') qs (ps.map fun x => (x.told, x.bits)))
      ⟨none, [], [], rfl, (SameBut.refl R H).upd, rfl, upd_same, .nil⟩ ?_ ?_
    · rintro i σ H1 hi ⟨y, qs, ps, rfl, sb, hp, hR, al⟩
      have e1 : (1 : Int) + ((i : Nat) : Int) * 2 = ((1 + 2 * i : Nat) : Int) := by omega
      have ed : ((k : Int) :: l).drop (1 + 2 * i) = l.drop (2 * i) := by
        rw [Nat.add_comm]
        rfl
      have step := patTimes_snoc i l hp
      rw [e1]
      refine ⟨_, rfl, _, rfl, _, rfl, a, _, 1 + 2 * i, wd, rfl, naR _ sb, hw, _, rfl, ?_⟩
      rw [ed]
      cases ha : patAt wd (l.drop (2 * i)) with
      | false =>
        have hn : patTimes wd (i + 1) l = none := by
          rw [step]
          rcases e : l.drop (2 * i) with _ | ⟨t, _ | ⟨o, r⟩⟩
          · rfl
          · rfl
          · rw [e] at ha
            have ha' : decide (isPat wd t o) = false := ha
            exact if_neg (of_decide_eq_false ha')
        refine iteT (q0 ?_ H1 (sb.new nR))
        have := patTimes_none (i + 1) (k - (i + 1)) l hn
        rw [show i + 1 + (k - (i + 1)) = k by omega] at this
        exact this
      | true =>
        refine iteF ?_
        obtain ⟨t, o, r, e⟩ : ∃ t o r, l.drop (2 * i) = t :: o :: r := by
          rcases e : l.drop (2 * i) with _ | ⟨t, _ | ⟨o, r⟩⟩
          · rw [e] at ha; cases ha
          · rw [e] at ha; cases ha
          · exact ⟨t, o, r, rfl⟩
        rw [e] at ha
        have hpat : isPat wd t o := of_decide_eq_true ha
        have hpo := hpat
        obtain ⟨t0, _, o0, _, _⟩ := hpo
        rw [e] at step
        have step' : patTimes wd (i + 1) l = some (ps ++ [⟨t.toNat, o.toNat⟩]) := step.trans (if_pos hpat)
        obtain ⟨g1, e2⟩ := drop_at (ns := (k : Int) :: l) (ed.trans e)
        obtain ⟨g2, _⟩ := drop_at e2
        refine ⟨_, rfl, .inl ⟨rfl, _, .of hR⟩, ?_⟩
        refine ⟨_, rfl, _, rfl, a, _, _, _, rfl, rfl, naR _ sb, atI_nat (get_int g1), _, rfl, _, rfl, _, _, rfl, rfl, a, _, _, _, rfl, rfl, naR _ sb, at_of (j := 1 + 2 * i + 1) (by omega) (get_int g2), by show 2 ≤ sizeLine; decide, fun T nT => ?_⟩
        have nRT : R ≠ T := ne_of_none hR nT
        have hR' := (upd_ne (o := .tup [.int t, .int o]) nRT).trans hR
        refine ⟨R, _, _, rfl, rfl, hR', ?_, _, _, _, rfl, (sb.same (same_upd nT)).upd, step', upd_same, ?_⟩
        · rw [al.len, List.length_map, (patTimes_len i l hp).1]
          exact sizeLine_of (by omega)
        · rw [List.map_append]
          refine Al.snoc (al.mono fun _ _ k => (k.same (same_upd nT)).but hR' (SameBut.refl R _).upd) ⟨T, rfl, ?_⟩
          rw [upd_ne nRT.symm, upd_same, toNat_int t0, toNat_int o0]
    · rintro σ H1 ⟨y, qs, ps, rfl, sb, hp, hR, al⟩
      exact ⟨_, rfl, q1 ps hp H1 R qs (sb.new nR) nR hR al⟩
end
end RT
set_option Elab.async false
set_option linter.all false
set_option maxRecDepth 100000
set_option maxHeartbeats 4000000
namespace RT
open PySem PySem.Spec PyProof.Rows L2
abbrev sCr : Stmt := topS 21
abbrev sCrs : Stmt := topS 22
abbrev sOwh : Stmt := topS 23
abbrev sOat : Stmt := topS 24
abbrev sOas : Stmt := topS 25
abbrev sSam : Stmt := topS 29
abbrev nCr : List Str := ["rules", "header", "number", "rule"]
theorem scCr : FnScope nCr ["rules", "header"] (defScope sCr) := ⟨rfl, rfl, rfl, by decide +kernel, rfl, by decide +kernel, by decide +kernel⟩
abbrev nCrs : List Str := ["rules", "width", "header"]
theorem scCrs : FnScope nCrs ["rules", "width"] (defScope sCrs) := ⟨rfl, rfl, rfl, by decide +kernel, rfl, by decide +kernel, by decide +kernel⟩
abbrev nOwh : List Str := ["rules", "number", "width", "counting"]
theorem scOwh : FnScope nOwh ["rules", "number", "width"] (defScope sOwh) := ⟨rfl, rfl, rfl, by decide +kernel, rfl, by decide +kernel, by decide +kernel⟩
abbrev nOat : List Str := ["rules", "header", "number"]
theorem scOat : FnScope nOat ["rules", "header"] (defScope sOat) := ⟨rfl, rfl, rfl, by decide +kernel, rfl, by decide +kernel, by decide +kernel⟩
abbrev nOas : List Str := ["rules", "width", "header"]
theorem scOas : FnScope nOas ["rules", "width"] (defScope sOas) := ⟨rfl, rfl, rfl, by decide +kernel, rfl, by decide +kernel, by decide +kernel⟩
abbrev nSam : List Str := ["first", "second", "width"]
theorem scSam : FnScope nSam ["first", "second", "width"] (defScope sSam) := ⟨rfl, rfl, rfl, by decide +kernel, rfl, by decide +kernel, by decide +kernel⟩
def optV : Option Nat → V
  | none => .non
  | some i => .int (i : Nat)
def RetL (H : Hp) (Q : VK) (xs : List V) : Prop := ∀ (H' : Hp) (p : Addr), Same H H' → H p = none → H' p = some (.lst xs) → Q (.ref p) H'
def crs (w : Nat) (t : List R') : List V := (List.range (2 ^ w)).map fun h => optV (VapktBase.ruleFor t h)
def spCr (C : Addr) : Sp := fun vs H Q _ => ∃ (a : Addr) (t : List R') (h : Nat), vs = [.ref a, .int h] ∧ TableAt C H a t ∧ ∀ H', Same H H' → Q (optV (VapktBase.ruleFor t h)) H'
def spCrs (C : Addr) : Sp := fun vs H Q _ => ∃ (a : Addr) (t : List R') (w : Nat), vs = [.ref a, .int w] ∧ TableAt C H a t ∧ w ≤ 7 ∧ RetL H Q (crs w t)
def spOwh (C : Addr) : Sp := fun vs H Q _ => ∃ (a : Addr) (t : List R') (i w : Nat), vs = [.ref a, .int i, .int w] ∧ TableAt C H a t ∧ w ≤ 7 ∧ RetL H Q ((flags w fun h => VapktBase.ruleFor t h == some i).map V.bl)
def spOat (C : Addr) : Sp := fun vs H Q _ => ∃ (a : Addr) (t : List R') (h w : Nat), vs = [.ref a, .int h] ∧ TableAt C H a t ∧ WfAll w t ∧ RetInts H Q (outL (Vapktb.outcome t h))
/-- a list of lists of numbers -/
structure OutsAt (H : Hp) (p : Addr) (ls : List (List Int)) : Prop where
  ex : ∃ qs, H p = some (.lst qs) ∧ Al (fun q l => ∃ b, q = .ref b ∧ H b = some (.lst (l.map V.int))) qs ls
theorem OutsAt.same {H H' : Hp} (s : Same H H') {p : Addr} {t : List (List Int)} (h : OutsAt H p t) : OutsAt H' p t := by
  obtain ⟨qs, h1, h2⟩ := h.ex
  exact ⟨qs, s _ _ h1, h2.mono fun q r ⟨b, e, k⟩ => ⟨b, e, s _ _ k⟩⟩
def spOas (C : Addr) : Sp := fun vs H Q _ => ∃ (a : Addr) (t : List R') (w : Nat), vs = [.ref a, .int w] ∧ TableAt C H a t ∧ w ≤ 7 ∧ WfAll w t ∧ ∀ (H' : Hp) (p : Addr), Same H H' → H p = none → OutsAt H' p (outs w t) → Q (.ref p) H'
def spSam (C : Addr) : Sp := fun vs H Q _ => ∃ (a b : Addr) (t u : List R') (w : Nat), vs = [.ref a, .ref b, .int w] ∧ TableAt C H a t ∧ TableAt C H b u ∧ w ≤ 7 ∧ WfAll w t ∧ WfAll w u ∧ ∀ H', Same H H' → Q (.bl (Vapktb.sameTables w t u)) H'
theorem range_more {A : Type} (f : Nat → A) (i : Nat) : (List.range (i + 1)).map f = (List.range i).map f ++ [f i] := by
  rw [List.range_succ, List.map_append]
  rfl
theorem pow7 {w : Nat} (h : w ≤ 7) : 2 ^ w ≤ 128 := (Nat.pow_le_pow_right (by decide) h : 2 ^ w ≤ 2 ^ 7)
theorem rg62 {n : Nat} (h : n ≤ 128) : -(2 ^ 62) ≤ (n : Int) ∧ (n : Int) < 2 ^ 62 := ⟨by omega, by omega⟩
theorem shl_int (w : Nat) : (1 : Int) * 2 ^ ((w : Int)).toNat = ((2 ^ w : Nat) : Int) := by
  rw [Int.one_mul, Int.toNat_natCast, pow_cast]
section
variable {P : Program} {w : World} {K : PySem.W.Frag} {mg : Str → Option Value} {base : Heap} {C : Addr}
theorem cal_cr (D : Def K mg "counting_rule" sCr ["rules", "header"]) (me : mg "enumerate" = none) (T : RuleTxt K mg C) (cm : Met P w K mg base 2 C "matches" (spMat C)) : Cal P w K mg base 3 "counting_rule" (spCr C) := by
  refine cal_mk D scCr (fun vs H Q E h => ?_) (fun f cdv A outer s H vs Q E hr h => ?_)
  · obtain ⟨a, t, h, rfl, _⟩ := h
    rfl
  · obtain ⟨a, t, h, rfl, ⟨qs, ha, al⟩, q⟩ := h
    refine ⟨_, pss_cons (ps_for PassesOwn.never rfl (pi_enum (by rfl) me (pa_cons (pv 0) pa_nil)) (pg_tup rfl (pgs_cons (pg_name (i := 2) scCr.nd rfl (.inl rfl)) (pgs_cons (pg_name (i := 3) scCr.nd rfl (.inl rfl)) pgs_nil)))
        (pss_one (ps_if (pt_val (pe_m T.cl cm hr (pv 3) (pa_cons (pv 1) pa_nil))) (pss_one (ps_ret (pv 2))) pss_nil)))
      (pss_one (ps_ret pe_non)), ?_⟩
    refine ⟨_, rfl, a, _, rfl, .of ha, for_it (walk_enum (K := K) (a := a) (xs := qs)) (fun i σ H' => ∃ y z, σ = [some (.ref a), some (.int h), y, z] ∧ Same H H' ∧ ∀ j x, j < i → t[j]? = some x → VapktBase.matchesIt x.pattern h = false)
      ⟨none, none, rfl, Same.refl H, fun j x hj => absurd hj (Nat.not_lt_zero _)⟩ (fun i σ H' _ ⟨_, _, _, s1, _⟩ => .of (s1 _ _ ha)) ?_ ?_⟩
    · rintro i x σ H1 H2 hi ⟨y, z, rfl, s1, hn⟩ ⟨U, u, v, rfl, nU, rfl, hu, hv⟩
      cases hu
      obtain ⟨r, hr2⟩ : ∃ r, t[i]? = some r := ⟨_, List.getElem?_eq_getElem (by rw [← al.len]; exact hi)⟩
      obtain ⟨b, rfl, hb⟩ := al.get i v r hv hr2
      have s2 := s1.trans (same_upd (o := .tup [.int (i : Nat), .ref b]) nU)
      have hb' := hb.same s2
      obtain ⟨dx, ac, k1, k2⟩ := hb'.ex
      refine ⟨U, _, rfl, .of upd_same, rfl, _, _, rfl, _, _, rfl, rfl, ?_⟩
      refine ⟨_, rfl, b, dx, _, rfl, k1, rF_none r ac _ (by decide +kernel) (by decide +kernel) (by decide +kernel), _, rfl, b, r, h, rfl, hb', _, rfl, ?_⟩
      cases hm : VapktBase.matchesIt r.pattern h with
      | true =>
        refine iteT ⟨_, rfl, ?_⟩
        have := q _ s2
        rw [ruleFor_some hr2 hm hn] at this
        exact this
      | false =>
        refine iteF ⟨_, _, rfl, s2, fun j x hj hx => ?_⟩
        by_cases e : j = i
        · subst e
          rw [hr2] at hx
          cases hx
          exact hm
        · exact hn j x (by omega) hx
    · rintro σ H1 ⟨y, z, rfl, s1, hn⟩
      have := q _ s1
      rw [ruleFor_none fun j x hx => hn j x (by rw [al.len]; exact (List.getElem?_eq_some_iff.mp hx).1) hx] at this
      exact this
theorem cal_crs (D : Def K mg "counting_rules" sCrs ["rules", "width"]) (mr : mg "range" = none) (cc : Cal P w K mg base 3 "counting_rule" (spCr C)) : Cal P w K mg base 4 "counting_rules" (spCrs C) := by
  refine cal_mk D scCrs (fun vs H Q E h => ?_) (fun f cdv A outer s H vs Q E hr h => ?_)
  · obtain ⟨a, t, w, rfl, _⟩ := h
    rfl
  · obtain ⟨a, t, wd, rfl, ht, hw, q⟩ := h
    refine ⟨_, pss_one (ps_ret (pe_lc (own := [("header", 2)]) (g := gName 2) (tt := tYes) rfl scCrs.nd (pi_range1 (by rfl) mr (pa_cons (pe_op op_shl pe_int (pv 1)) pa_nil)) (blkOk_by (N := nCrs) (sc := defScope sCrs) (by decide +kernel))
      (fun _ _ _ _ _ => pg_name (i := 2) scCrs.nd rfl (.inl rfl) (.inr rfl)) (fun _ _ _ _ _ => pts_nil) (fun _ _ _ _ _ => pe_c cc hr (pa_cons (pv 0) (pa_cons (pv 2) pa_nil))))), ?_⟩
    have h7 := pow7 hw
    refine ⟨_, rfl, _, _, rfl, rfl, ⟨by omega, by omega, by decide⟩, ?_⟩
    refine ⟨_, congrArg (fun z => [V.int z]) (shl_int wd), (rg62 h7).1, (rg62 h7).2, fun D nD => ?_⟩
    rw [Int.toNat_natCast]
    refine lc_range (lo := 0) (n := 2 ^ wd) (fun i H' => SameBut D H H' ∧ H' D = some (.lst ((List.range i).map fun h => optV (VapktBase.ruleFor t h)))) ⟨(SameBut.refl D H).upd, upd_same⟩ ?_ ?_
    · rintro i H1 hi ⟨sb, hD⟩
      refine ⟨rfl, ?_⟩
      have s1 : Same H H1 := sb.new nD
      refine ⟨_, rfl, _, rfl, a, t, i, ?_, ht.same s1, fun H2 s2 => ⟨_, s2 _ _ hD, ?_, (sb.same s2).upd, ?_⟩⟩
      · rw [Int.zero_add]
        rfl
      · rw [List.length_map, List.length_range]
        exact sizeLine_of (by omega)
      · rw [upd_same, range_more]
    · rintro H1 ⟨sb, hD⟩
      exact q H1 D (sb.new nD) nD hD
theorem cal_owh (D : Def K mg "own_headers" sOwh ["rules", "number", "width"]) (cc : Cal P w K mg base 4 "counting_rules" (spCrs C)) : Cal P w K mg base 5 "own_headers" (spOwh C) := by
  refine cal_mk D scOwh (fun vs H Q E h => ?_) (fun f cdv A outer s H vs Q E hr h => ?_)
  · obtain ⟨a, t, i, w, rfl, _⟩ := h
    rfl
  · obtain ⟨a, t, n, wd, rfl, ht, hw, q⟩ := h
    refine ⟨_, pss_one (ps_ret (pe_lc (own := [("counting", 3)]) (g := gName 3) (tt := tYes) rfl scOwh.nd (pi_list (pe_c cc hr (pa_cons (pv 0) (pa_cons (pv 2) pa_nil)))) (blkOk_by (N := nOwh) (sc := defScope sOwh) (by decide +kernel))
      (fun _ _ _ _ _ => pg_name (i := 3) scOwh.nd rfl (.inl rfl) (.inr rfl)) (fun _ _ _ _ _ => pts_nil) (fun _ _ _ _ _ => pe_cmpR op_eq (pv 3) (pv 1) (nomark _)))), ?_⟩
    have h7 := pow7 hw
    refine ⟨_, rfl, _, rfl, a, t, wd, rfl, ht, hw, fun H1 p s1 np hp => ⟨p, rfl, ⟨_, .of hp⟩, fun D nD => ?_⟩⟩
    have nDp : p ≠ D := ne_of_none hp nD
    refine lc_list (K := K) (a := p) (xs := crs wd t) (fun i H' => SameBut D H1 H' ∧ H' D = some (.lst (((List.range i).map fun h => VapktBase.ruleFor t h == some n).map V.bl))) ⟨(SameBut.refl D H1).upd, upd_same⟩ (fun i H' _ ⟨sb, _⟩ => .of (sb _ _ nDp hp)) ?_ ?_
    · rintro i x H2 hi ⟨sb, hD⟩
      obtain ⟨h, hh, rfl⟩ := map_get hi
      obtain ⟨hlt, e⟩ := List.getElem?_eq_some_iff.mp hh
      rw [List.getElem_range] at e
      subst e
      rw [List.length_range] at hlt
      refine ⟨rfl, _, rfl, _, rfl, ?_, _, hD, ?_, sb.upd, ?_⟩
      · cases VapktBase.ruleFor t i <;> rfl
      · rw [List.length_map, List.length_map, List.length_range]
        exact sizeLine_of (by omega)
      · rw [upd_same, range_more, List.map_append]
        congr 3
        show [V.bl _] = [V.bl _]
        congr 2
        cases e : VapktBase.ruleFor t i with
        | none =>
          show decide (V.non = V.int (n : Nat)) = _
          rfl
        | some j =>
          show decide (V.int (j : Nat) = V.int (n : Nat)) = _
          rw [dec_int, Bool.eq_iff_iff]
          simp
          omega
    · rintro H2 ⟨sb, hD⟩
      rw [show (crs wd t).length = 2 ^ wd by simp [crs]] at hD
      exact q H2 D (s1.trans (sb.new nD)) (s1.free nD) hD
theorem cal_oat (D : Def K mg "outcome_at" sOat ["rules", "header"]) (cc : Cal P w K mg base 3 "counting_rule" (spCr C)) (T : RuleTxt K mg C) (co : Met P w K mg base 1 C "outcome" (spOutc C)) {t0 : Tok} (g0 : mg "HOLE" = some (.int 0 t0)) : Cal P w K mg base 4 "outcome_at" (spOat C) := by
  refine cal_mk D scOat (fun vs H Q E h => ?_) (fun f cdv A outer s H vs Q E hr h => ?_)
  · obtain ⟨a, t, h, w, rfl, _⟩ := h
    rfl
  · obtain ⟨a, t, h, wd, rfl, ht, hwf, q⟩ := h
    refine ⟨_, pss_cons (ps_set (i := 2) scOat.nd rfl (.inl rfl) (pe_c cc hr (pa_cons (pv 0) (pa_cons (pv 1) pa_nil))))
      (pss_cons (ps_if (pt_cmp (pc_isN (pv 2))) (pss_one (ps_ret (pe_lst (pa_cons (pe_glob (v := .int 0) (by rfl) g0 ⟨_, rfl⟩) pa_nil)))) pss_nil)
      (pss_one (ps_ret (pe_m T.cl co hr (pe_ix ix_list (pv 0) (pv 2) (fun _ _ => rfl)) (pa_cons (pv 1) pa_nil))))), ?_⟩
    refine ⟨_, rfl, _, rfl, a, t, h, rfl, ht, fun H1 s1 => ?_⟩
    cases e : VapktBase.ruleFor t h with
    | none =>
      rw [outcome_none e] at q
      refine ⟨_, rfl, _, rfl, iteT ⟨by show 1 ≤ sizeLine; decide, fun p np => ?_⟩⟩
      exact q _ p (s1.trans (same_upd np)) (s1.free np) upd_same
    | some i =>
      obtain ⟨r, hr2⟩ : ∃ r, t[i]? = some r := ⟨_, List.getElem?_eq_getElem (ruleFor_lt e)⟩
      rw [outcome_some e hr2] at q
      obtain ⟨qs, h1, h2⟩ := (ht.same s1).ex
      obtain ⟨q1, hq, b, rfl, hb⟩ := h2.at hr2
      obtain ⟨dx, ac, k1, k2⟩ := hb.ex
      refine ⟨_, rfl, _, rfl, iteF ⟨_, rfl, _, rfl, a, _, _, _, rfl, rfl, .of h1, atI_nat hq, b, dx, _, rfl, k1, rF_none r ac _ (by decide +kernel) (by decide +kernel) (by decide +kernel), _, rfl, b, r, h, wd, rfl, hb, (hwf.get hr2).a, fun H5 p s5 np hp => ?_⟩⟩
      exact q H5 p (s1.trans s5) (s1.free np) hp
theorem cal_oas (D : Def K mg "outcomes_at" sOas ["rules", "width"]) (mr : mg "range" = none) (cc : Cal P w K mg base 4 "outcome_at" (spOat C)) : Cal P w K mg base 5 "outcomes_at" (spOas C) := by
  refine cal_mk D scOas (fun vs H Q E h => ?_) (fun f cdv A outer s H vs Q E hr h => ?_)
  · obtain ⟨a, t, w, rfl, _⟩ := h
    rfl
  · obtain ⟨a, t, wd, rfl, ht, hw, hwf, q⟩ := h
    refine ⟨_, pss_one (ps_ret (pe_lc (own := [("header", 2)]) (g := gName 2) (tt := tYes) rfl scOas.nd (pi_range1 (by rfl) mr (pa_cons (pe_op op_shl pe_int (pv 1)) pa_nil)) (blkOk_by (N := nOas) (sc := defScope sOas) (by decide +kernel))
      (fun _ _ _ _ _ => pg_name (i := 2) scOas.nd rfl (.inl rfl) (.inr rfl)) (fun _ _ _ _ _ => pts_nil) (fun _ _ _ _ _ => pe_c cc hr (pa_cons (pv 0) (pa_cons (pv 2) pa_nil))))), ?_⟩
    have h7 := pow7 hw
    refine ⟨_, rfl, _, _, rfl, rfl, ⟨by omega, by omega, by decide⟩, ?_⟩
    refine ⟨_, congrArg (fun z => [V.int z]) (shl_int wd), (rg62 h7).1, (rg62 h7).2, fun D nD => ?_⟩
    rw [Int.toNat_natCast]
    refine lc_range (lo := 0) (n := 2 ^ wd) (fun i H' => SameBut D H H' ∧ ∃ qs, H' D = some (.lst qs) ∧ Al (fun q l => ∃ b, q = .ref b ∧ b ≠ D ∧ H' b = some (.lst (l.map V.int))) qs ((List.range i).map fun h => outL (Vapktb.outcome t h))) ⟨(SameBut.refl D H).upd, [], upd_same, .nil⟩ ?_ ?_
    · rintro i H1 hi ⟨sb, qs, hD, al⟩
      refine ⟨rfl, ?_⟩
      have s1 : Same H H1 := sb.new nD
      refine ⟨_, rfl, _, rfl, a, t, i, wd, ?_, ht.same s1, hwf, fun H2 b s2 nb hb => ⟨_, s2 _ _ hD, ?_, (sb.same s2).upd, _, upd_same, ?_⟩⟩
      · rw [Int.zero_add]
        rfl
      · rw [al.len, List.length_map, List.length_range]
        exact sizeLine_of (by omega)
      · rw [range_more]
        have nbD : b ≠ D := (ne_of_none hD nb).symm
        refine Al.snoc (al.mono fun q l ⟨c, e, n, k⟩ => ⟨c, e, n, ?_⟩) ⟨b, rfl, nbD, ?_⟩
        · rw [upd_ne n]
          exact s2 _ _ k
        · rw [upd_ne nbD]
          exact hb
    · rintro H1 ⟨sb, qs, hD, al⟩
      exact q H1 D (sb.new nD) nD ⟨_, hD, al.mono fun q l ⟨c, e, n, k⟩ => ⟨c, e, k⟩⟩
theorem eqv_lists : ∀ l m : List (List Int), PyData.eqvAll (l.map fun x => PyData.list (x.map PyData.int)) (m.map fun x => PyData.list (x.map PyData.int)) = decide (l = m)
  | [], [] => rfl
  | [], _ :: _ => rfl
  | _ :: _, [] => rfl
  | a :: l, b :: m => by
    show (PyData.eqv (.list (a.map PyData.int)) (.list (b.map PyData.int)) && PyData.eqvAll (l.map fun x => PyData.list (x.map PyData.int)) (m.map fun x => PyData.list (x.map PyData.int))) = _
    rw [eqv_lists l m]
    show (PyData.eqvAll (a.map PyData.int) (b.map PyData.int) && decide (l = m)) = _
    rw [eqv_ints]
    by_cases h1 : a = b <;> by_cases h2 : l = m <;> simp [h1, h2]
theorem depth_ints (l : List Int) : PyData.depthAll (l.map PyData.int) ≤ 1 := by
  induction l with
  | nil => exact Nat.zero_le _
  | cons b l ih => exact Nat.max_le.mpr ⟨Nat.zero_le _, ih⟩
theorem lay_ints (l : List Int) : PyData.canLayAll0 (l.map PyData.int) = true := by
  induction l with
  | nil => rfl
  | cons b l ih => exact ih
theorem shaped_lists (l : List (List Int)) : SeqAt.shaped (.list (l.map fun x => PyData.list (x.map PyData.int))) = true := by
  have h1 : ∀ l : List (List Int), PyData.canLayAll0 (l.map fun x => PyData.list (x.map PyData.int)) = true := by
    intro l
    induction l with
    | nil => rfl
    | cons b l ih =>
      show (PyData.canLayAll0 (b.map PyData.int) && PyData.canLayAll0 (l.map fun x => PyData.list (x.map PyData.int))) = true
      rw [lay_ints, ih]
      rfl
  have h2 : ∀ l : List (List Int), PyData.depthAll (l.map fun x => PyData.list (x.map PyData.int)) ≤ 2 := by
    intro l
    induction l with
    | nil => exact Nat.zero_le _
    | cons b l ih =>
      have := depth_ints b
      exact Nat.max_le.mpr ⟨by show PyData.depthAll (b.map PyData.int) + 1 ≤ 2; omega, ih⟩
  unfold SeqAt.shaped
  rw [Bool.and_eq_true]
  refine ⟨h1 l, decide_eq_true ?_⟩
  show PyData.depthAll (l.map fun x => PyData.list (x.map PyData.int)) + 1 ≤ 64
  have := h2 l
  omega
theorem dp_lists {H : Hp} : ∀ {qs : List V} {ls : List (List Int)}, Al (fun q l => ∃ b, q = V.ref b ∧ H b = some (.lst (l.map V.int))) qs ls → DpAll K H qs (ls.map fun x => PyData.list (x.map PyData.int))
  | [], [], _ => .nil
  | [], _ :: _, h => nomatch h.len
  | _ :: _, [], h => nomatch h.len
  | q :: qs, l :: ls, h => by
    obtain ⟨b, rfl, hb⟩ := h.get 0 q l rfl rfl
    exact .cons (.lst (.of hb) (dp_ints l)) (dp_lists ⟨by have := h.len; simpa using this, fun i a c e1 e2 => h.get (i + 1) a c e1 e2⟩)
theorem cal_sam (D : Def K mg "do_the_same" sSam ["first", "second", "width"]) (cc : Cal P w K mg base 5 "outcomes_at" (spOas C)) : Cal P w K mg base 6 "do_the_same" (spSam C) := by
  refine cal_mk D scSam (fun vs H Q E h => ?_) (fun f cdv A outer s H vs Q E hr h => ?_)
  · obtain ⟨a, b, t, u, w, rfl, _⟩ := h
    rfl
  · obtain ⟨a, b, t, u, wd, rfl, ha, hb, hw, hwt, hwu, q⟩ := h
    refine ⟨_, pss_one (ps_ret (pe_cmpR (op_eqD hr.units) (pe_c cc hr (pa_cons (pv 0) (pa_cons (pv 2) pa_nil))) (pe_c cc hr (pa_cons (pv 1) (pa_cons (pv 2) pa_nil))) (nomark _))), ?_⟩
    refine ⟨_, rfl, _, rfl, a, t, wd, rfl, ha, hw, hwt, fun H1 p s1 np hp => ?_⟩
    refine ⟨_, rfl, _, rfl, b, u, wd, rfl, hb.same s1, hw, hwu, fun H2 p2 s2 np2 hp2 => ?_⟩
    obtain ⟨qs1, k1, a1⟩ := (hp.same s2).ex
    obtain ⟨qs2, k2, a2⟩ := hp2.ex
    refine ⟨.list _, .list _, .lst (.of k1) (dp_lists a1), .lst (.of k2) (dp_lists a2), shaped_lists _, shaped_lists _, bl_eq ?_ (q H2 (s1.trans s2))⟩
    rw [← outs_same]
    exact eqv_lists _ _
end
end RT
set_option linter.all false
/-! The mathematics of tables in another shape. -/
namespace RT
open VapktBase
theorem erase_cut {A : Type} (l : List A) (i : Nat) : l.eraseIdx i = l.take i ++ l.drop (i + 1) := List.eraseIdx_eq_take_drop_succ l i
theorem turned_cut {t : Table} {i : Nat} {a b : Rule} (h1 : t[i]? = some a) (h2 : t[i + 1]? = some b) : Vapktb.turned t i = t.take i ++ [b, a] ++ t.drop (i + 2) := by
  unfold Vapktb.turned
  rw [h1, h2]
  show (t.set i b).set (i + 1) a = _
  clear h1
  induction t generalizing i with
  | nil => simp at h2
  | cons x t ih =>
    cases i with
    | zero =>
      cases t with
      | nil => simp at h2
      | cons y t => rfl
    | succ i =>
      show x :: (t.set i b).set (i + 1) a = x :: (t.take i ++ [b, a] ++ t.drop (i + 2))
      rw [ih (by simpa using h2)]
theorem joined_cut {A : Type} (r : A) : ∀ (t : List A) (i j : Nat), i < j → j < t.length → (t.set i r).eraseIdx j = t.take i ++ [r] ++ (t.drop (i + 1)).take (j - (i + 1)) ++ t.drop (j + 1)
  | [], i, j, _, h => by simp at h
  | x :: t, 0, 0, h, _ => by omega
  | x :: t, 0, j + 1, h, _ => by
    show r :: t.eraseIdx j = r :: (t.take (j + 1 - 1) ++ t.drop (j + 1))
    rw [erase_cut]
    rfl
  | x :: t, i + 1, 0, h, _ => by omega
  | x :: t, i + 1, j + 1, h, h2 => by
    show x :: (t.set i r).eraseIdx j = x :: (t.take i ++ [r] ++ (t.drop (i + 1)).take (j + 1 - (i + 1 + 1)) ++ t.drop (j + 1))
    rw [joined_cut r t i j (by omega) (by simpa using h2), show j + 1 - (i + 1 + 1) = j - (i + 1) by omega]
/-! ### two patterns made one -/
theorem sub_xor {a b : Nat} (h : b &&& a = b) : a - b = a ^^^ b := by
  have e := and_part a b
  rw [Nat.and_comm a b, h] at e
  omega
theorem bit_in {p q : Pattern} {w : Nat} (hp : WfPat w p) (hq : WfPat w q) (e : p.told = q.told) : (p.bits ^^^ q.bits) &&& p.told = p.bits ^^^ q.bits := by
  apply Nat.eq_of_testBit_eq
  intro i
  have a := congrArg (fun n => n.testBit i) hp.s
  have b := congrArg (fun n => n.testBit i) hq.s
  rw [← e] at b
  simp only [Nat.testBit_and, Nat.testBit_xor] at a b ⊢
  revert a b
  cases p.bits.testBit i <;> cases q.bits.testBit i <;> cases p.told.testBit i <;> simp
theorem united_wf {p q u : Pattern} {w : Nat} (hp : WfPat w p) (hq : WfPat w q) (h : Vapktb.united p q = some u) : WfPat w u ∧ p.told = q.told ∧ Vapktb.isOneBit (p.bits ^^^ q.bits) = true ∧ u = ⟨p.told - (p.bits ^^^ q.bits), p.bits &&& q.bits⟩ := by
  unfold Vapktb.united at h
  by_cases c : p.told = q.told ∧ Vapktb.isOneBit (Vapktb.apartBits p q) = true
  · rw [if_pos c] at h
    have e := Option.some.inj h
    have eb := bit_in hp hq c.1
    refine ⟨?_, c.1, c.2, ?_⟩
    · subst e
      refine ⟨Nat.xor_lt_two_pow hp.t (Nat.xor_lt_two_pow hp.b hq.b), Nat.lt_of_le_of_lt Nat.and_le_left hp.b, ?_⟩
      show (p.bits &&& q.bits) &&& (p.told ^^^ (p.bits ^^^ q.bits)) = p.bits &&& q.bits
      apply Nat.eq_of_testBit_eq
      intro i
      have a := congrArg (fun n => n.testBit i) hp.s
      simp only [Nat.testBit_and, Nat.testBit_xor] at a ⊢
      revert a
      cases p.bits.testBit i <;> cases q.bits.testBit i <;> cases p.told.testBit i <;> simp
    · rw [← e, sub_xor eb]
      rfl
  · rw [if_neg c] at h
    cases h
theorem united_none {p q : Pattern} (h : Vapktb.united p q = none) : ¬ (p.told = q.told ∧ Vapktb.isOneBit (p.bits ^^^ q.bits) = true) := by
  intro c
  unfold Vapktb.united at h
  rw [if_pos (show p.told = q.told ∧ Vapktb.isOneBit (Vapktb.apartBits p q) = true from c)] at h
  cases h
/-- whether two rules have one action, and patterns that tell the same bits and differ in just one of them -/
def differ1 (a b : Rule) : Bool := decide (a.action = b.action ∧ a.pattern.told = b.pattern.told) && Vapktb.isOneBit (a.pattern.bits ^^^ b.pattern.bits)
theorem joined_some {t : Table} {i j : Nat} {a b : Rule} {w : Nat} (hw : WfAll w t) (h1 : t[i]? = some a) (h2 : t[j]? = some b) (hd : differ1 a b = true) : ∃ p, WfPat w p ∧ p = ⟨a.pattern.told - (a.pattern.bits ^^^ b.pattern.bits), a.pattern.bits &&& b.pattern.bits⟩ ∧
    Vapktb.joined t i j = some ((t.set i ⟨p, a.action⟩).eraseIdx j) := by
  unfold differ1 at hd
  rw [Bool.and_eq_true, decide_eq_true_iff] at hd
  obtain ⟨⟨d1, d2⟩, d3⟩ := hd
  cases e : Vapktb.united a.pattern b.pattern with
  | none => exact absurd ⟨d2, d3⟩ (united_none e)
  | some u =>
    obtain ⟨u1, _, _, u2⟩ := united_wf (hw.get h1).p (hw.get h2).p e
    refine ⟨u, u1, u2, ?_⟩
    unfold Vapktb.joined
    rw [h1, h2]
    show (if a.action = b.action then _ else _) = _
    rw [if_pos d1, e]
    rfl
theorem joined_none {t : Table} {i j : Nat} {a b : Rule} (h1 : t[i]? = some a) (h2 : t[j]? = some b) (hd : differ1 a b = false) : Vapktb.joined t i j = none := by
  unfold Vapktb.joined
  rw [h1, h2]
  show (if a.action = b.action then _ else _) = _
  by_cases c : a.action = b.action
  · rw [if_pos c]
    cases e : Vapktb.united a.pattern b.pattern with
    | none => rfl
    | some u =>
      unfold Vapktb.united at e
      by_cases d : a.pattern.told = b.pattern.told ∧ Vapktb.isOneBit (Vapktb.apartBits a.pattern b.pattern) = true
      · have : differ1 a b = true := by
          unfold differ1
          rw [Bool.and_eq_true, decide_eq_true_iff]
          exact ⟨⟨c, d.1⟩, d.2⟩
        rw [hd] at this
        cases this
      · rw [if_neg d] at e
        cases e
  · rw [if_neg c]
theorem WfAll.erase {w : Nat} {t : Table} (h : WfAll w t) (i : Nat) : WfAll w (t.eraseIdx i) := fun r hr => h r (List.mem_of_mem_eraseIdx hr)
theorem WfAll.set {w : Nat} {t : Table} (h : WfAll w t) (i : Nat) {r : Rule} (hr : WfRule w r) : WfAll w (t.set i r) := fun x hx => by
  rcases List.mem_or_eq_of_mem_set hx with q | q
  · exact h x q
  · rw [q]
    exact hr
theorem WfAll.joined {w : Nat} {t u : Table} (h : WfAll w t) {i j : Nat} (hu : Vapktb.joined t i j = some u) : WfAll w u ∧ u.length + 1 = t.length := by
  cases h1 : t[i]? with
  | none =>
    unfold Vapktb.joined at hu
    rw [h1] at hu
    cases hu
  | some a =>
    cases h2 : t[j]? with
    | none =>
      unfold Vapktb.joined at hu
      rw [h1, h2] at hu
      cases hu
    | some b =>
      cases d : differ1 a b with
      | false =>
        rw [joined_none h1 h2 d] at hu
        cases hu
      | true =>
        obtain ⟨p, p1, p2, p3⟩ := joined_some h h1 h2 d
        rw [p3] at hu
        have e := Option.some.inj hu
        subst e
        have hj := (List.getElem?_eq_some_iff.mp h2).1
        refine ⟨(h.set i (r := ⟨p, a.action⟩) ⟨p1, (h.get h1).a⟩).erase j, ?_⟩
        rw [List.length_eraseIdx, List.length_set, if_pos hj]
        omega
theorem spare_lt {w : Nat} {t : Table} {i : Nat} (h : i ∈ Vapktb.spare w t) : i < t.length := by
  unfold Vapktb.spare at h
  exact List.mem_range.mp (List.mem_filter.mp h).1
theorem mem_pairs {n : Nat} {x : Nat × Nat} (h : x ∈ Vapktb.pairs n) : x.1 < x.2 ∧ x.2 < n := by
  unfold Vapktb.pairs at h
  obtain ⟨i, _, hx⟩ := List.mem_flatMap.mp h
  obtain ⟨j, hj, rfl⟩ := List.mem_map.mp hx
  obtain ⟨h1, h2⟩ := List.mem_filter.mp hj
  exact ⟨of_decide_eq_true h2, List.mem_range.mp h1⟩
/-- what a step to a smaller table is -/
theorem firstLess_is {w : Nat} {t u : Table} {x : Vapktb.Less} (h : Vapktb.firstLess w t = some (x, u)) (hw : WfAll w t) : WfAll w u ∧ u.length + 1 = t.length ∧
    ((∃ i, x = .out i ∧ i < t.length ∧ u = t.eraseIdx i) ∨ ∃ i j, x = .join i j ∧ i < j ∧ j < t.length ∧ Vapktb.joined t i j = some u) := by
  unfold Vapktb.firstLess at h
  cases e : (Vapktb.spare w t).head? with
  | some i =>
    rw [e] at h
    obtain ⟨e1, e2⟩ := Prod.mk.inj (Option.some.inj h)
    subst e1 e2
    have hi := spare_lt (List.mem_of_mem_head? e)
    refine ⟨hw.erase i, ?_, .inl ⟨i, rfl, hi, rfl⟩⟩
    rw [List.length_eraseIdx, if_pos hi]
    omega
  | none =>
    rw [e] at h
    obtain ⟨p, hp, hx⟩ := List.exists_of_findSome?_eq_some h
    obtain ⟨m1, m2⟩ := mem_pairs hp
    cases e2 : Vapktb.joined t p.1 p.2 with
    | none =>
      rw [e2] at hx
      cases hx
    | some u' =>
      rw [e2, Option.bind_some] at hx
      by_cases c : Vapktb.sameTables w t u' = true
      · rw [if_pos c] at hx
        obtain ⟨e3, e4⟩ := Prod.mk.inj (Option.some.inj hx)
        subst e3 e4
        obtain ⟨g1, g2⟩ := hw.joined e2
        exact ⟨g1, g2, .inr ⟨p.1, p.2, rfl, m1, m2, e2⟩⟩
      · rw [if_neg c] at hx
        cases hx
end RT
set_option Elab.async false
set_option linter.all false
set_option maxRecDepth 100000
set_option maxHeartbeats 4000000
namespace RT
open PySem PySem.Spec PyProof.Rows L2
abbrev sWo : Stmt := topS 30
abbrev sTur : Stmt := topS 31
abbrev sMo : Stmt := topS 32
abbrev sIdl : Stmt := topS 33
abbrev sSpr : Stmt := topS 34
abbrev sCcp : Stmt := topS 35
abbrev sDif : Stmt := topS 36
abbrev sCbm : Stmt := topS 37
abbrev sSms : Stmt := topS 38
abbrev sBhs : Stmt := topS 39
abbrev sRap : Stmt := topS 40
abbrev nWo : List Str := ["rules", "number"]
theorem scWo : FnScope nWo nWo (defScope sWo) := ⟨rfl, rfl, rfl, by decide +kernel, rfl, by decide +kernel, by decide +kernel⟩
theorem scTur : FnScope nWo nWo (defScope sTur) := ⟨rfl, rfl, rfl, by decide +kernel, rfl, by decide +kernel, by decide +kernel⟩
abbrev nMo : List Str := ["rules", "i", "j", "bit", "rule"]
theorem scMo : FnScope nMo ["rules", "i", "j"] (defScope sMo) := ⟨rfl, rfl, rfl, by decide +kernel, rfl, by decide +kernel, by decide +kernel⟩
section
variable {A B : Type} {R : A → B → Prop}
theorem Al.take {l : List A} {m : List B} (h : Al R l m) (n : Nat) : Al R (l.take n) (m.take n) := ⟨by rw [List.length_take, List.length_take, h.len], fun i a b p q => by
  rw [List.getElem?_take] at p q
  by_cases c : i < n
  · rw [if_pos c] at p q
    exact h.get i a b p q
  · rw [if_neg c] at p
    cases p⟩
theorem Al.drop {l : List A} {m : List B} (h : Al R l m) (n : Nat) : Al R (l.drop n) (m.drop n) := ⟨by rw [List.length_drop, List.length_drop, h.len], fun i a b p q => by
  rw [List.getElem?_drop] at p q
  exact h.get _ a b p q⟩
theorem Al.two {a a' : A} {b b' : B} (h : R a b) (k : R a' b') : Al R [a, a'] [b, b'] := (Al.one h).append (Al.one k)
end
/-- a rule's reference -/
abbrev RefAt (C : Addr) (H : Hp) : V → R' → Prop := fun q r => ∃ b, q = .ref b ∧ RuleAt C H b r
theorem refs_same {C : Addr} {H H' : Hp} (s : Same H H') {qs : List V} {t : List R'} (h : Al (RefAt C H) qs t) : Al (RefAt C H') qs t := h.mono fun q r ⟨b, e, k⟩ => ⟨b, e, k.same s⟩
def RetT (C : Addr) (H : Hp) (Q : VK) (t : List R') : Prop := ∀ (H' : Hp) (p : Addr), Same H H' → H p = none → TableAt C H' p t → Q (.ref p) H'
def spWo (C : Addr) : Sp := fun vs H Q _ => ∃ (a : Addr) (t : List R') (i : Nat), vs = [.ref a, .int i] ∧ TableAt C H a t ∧ t.length ≤ 8 ∧ RetT C H Q (t.eraseIdx i)
def spTur (C : Addr) : Sp := fun vs H Q _ => ∃ (a : Addr) (t : List R') (i : Nat), vs = [.ref a, .int i] ∧ TableAt C H a t ∧ t.length ≤ 8 ∧ i + 1 < t.length ∧ RetT C H Q (Vapktb.turned t i)
def spMo (C : Addr) : Sp := fun vs H Q _ => ∃ (a : Addr) (t u : List R') (i j w : Nat), vs = [.ref a, .int i, .int j] ∧ TableAt C H a t ∧ t.length ≤ 8 ∧ WfAll w t ∧ i < j ∧ Vapktb.joined t i j = some u ∧ RetT C H Q u
section
variable {P : Program} {w : World} {K : PySem.W.Frag} {mg : Str → Option Value} {base : Heap} {C : Addr}
theorem cal_wo (D : Def K mg "without_rule" sWo nWo) : Cal P w K mg base 1 "without_rule" (spWo C) := by
  refine cal_mk D scWo (fun vs H Q E h => ?_) (fun f cdv A outer s H vs Q E hr h => ?_)
  · obtain ⟨a, t, i, rfl, _⟩ := h
    rfl
  · obtain ⟨a, t, i, rfl, ⟨qs, ha, al⟩, hl, q⟩ := h
    refine ⟨_, pss_one (ps_ret (pe_op op_cat (pe_slice sl_list (pv 0) po_none (po_some (pv 1))) (pe_slice sl_list (pv 0) (po_some (pe_op op_add (pv 1) pe_int)) po_none))), ?_⟩
    refine ⟨_, rfl, _, rfl, _, rfl, a, _, rfl, .of ha, fun x nx => ?_⟩
    have s1 := same_upd (o := .lst (cutV qs none (some (i : Int)))) nx
    refine ⟨_, rfl, _, rfl, _, _, rfl, rfl, _, rfl, a, _, rfl, .of (s1 _ _ ha), fun y ny => ?_⟩
    have s2 := same_upd (o := .lst (cutV qs (some ((i : Int) + 1)) none)) ny
    refine ⟨x, y, _, _, rfl, rfl, s2 _ _ upd_same, upd_same, ?_, fun z nz => ?_⟩
    · have h1 := cutV_length qs none (some (i : Int))
      have h2 := cutV_length qs (some ((i : Int) + 1)) none
      have := al.len
      exact sizeLine_le (by omega)
    have s3 := (s1.trans s2).trans (same_upd (o := .lst (cutV qs none (some (i : Int)) ++ cutV qs (some ((i : Int) + 1)) none)) nz)
    refine q _ z s3 ((s1.trans s2).free nz) ⟨_, upd_same, ?_⟩
    have e1 : (i : Int) + 1 = ((i + 1 : Nat) : Int) := rfl
    have ec : cutV qs none (some (i : Int)) ++ cutV qs (some ((i : Int) + 1)) none = qs.take i ++ qs.drop (i + 1) := by rw [e1, cut_take, cut_drop]
    have al2 := (al.take i).append (al.drop (i + 1))
    rw [← ec, ← erase_cut] at al2
    exact refs_same s3 al2
theorem cal_tur (D : Def K mg "turned" sTur nWo) : Cal P w K mg base 1 "turned" (spTur C) := by
  refine cal_mk D scTur (fun vs H Q E h => ?_) (fun f cdv A outer s H vs Q E hr h => ?_)
  · obtain ⟨a, t, i, rfl, _⟩ := h
    rfl
  · obtain ⟨a, t, i, rfl, ⟨qs, ha, al⟩, hl, hi, q⟩ := h
    refine ⟨_, pss_one (ps_ret (pe_op op_cat (pe_op op_cat (pe_slice sl_list (pv 0) po_none (po_some (pv 1))) (pe_lst (pa_cons (pe_ix ix_list (pv 0) (pe_op op_add (pv 1) pe_int) (fun _ _ => rfl)) (pa_cons (pe_ix ix_list (pv 0) (pv 1) (fun _ _ => rfl)) pa_nil))))
      (pe_slice sl_list (pv 0) (po_some (pe_op op_add (pv 1) pe_int)) po_none))), ?_⟩
    obtain ⟨r1, g1⟩ : ∃ r, t[i]? = some r := ⟨_, List.getElem?_eq_getElem (by omega)⟩
    obtain ⟨r2, g2⟩ : ∃ r, t[i + 1]? = some r := ⟨_, List.getElem?_eq_getElem hi⟩
    obtain ⟨q1, k1, h1⟩ := al.at g1
    obtain ⟨q2, k2, h2⟩ := al.at g2
    rw [turned_cut g1 g2] at q
    refine ⟨_, rfl, _, rfl, _, rfl, a, _, rfl, .of ha, fun x nx => ?_⟩
    have s1 := same_upd (o := .lst (cutV qs none (some (i : Int)))) nx
    refine ⟨_, rfl, _, rfl, _, _, rfl, rfl, a, _, _, _, rfl, rfl, .of (s1 _ _ ha), at_of (j := i + 1) (by omega) k2, _, rfl, _, rfl, a, _, _, _, rfl, rfl, .of (s1 _ _ ha), atI_nat k1, by show 2 ≤ sizeLine; decide, fun y ny => ?_⟩
    have s2 := same_upd (o := .lst [q2, q1]) ny
    have l1 := cutV_length qs none (some (i : Int))
    have l2 := cutV_length qs (some ((i : Int) + 2)) none
    have l3 := al.len
    refine ⟨x, y, _, _, rfl, rfl, s2 _ _ upd_same, upd_same, sizeLine_le (by show _ + 2 ≤ _; omega), fun z nz => ?_⟩
    have s3 := same_upd (o := .lst (cutV qs none (some (i : Int)) ++ [q2, q1])) nz
    refine ⟨_, rfl, _, rfl, _, _, rfl, rfl, _, rfl, a, _, rfl, .of (s3 _ _ (s2 _ _ (s1 _ _ ha))), fun v nv => ?_⟩
    have s4 := same_upd (o := .lst (cutV qs (some ((i : Int) + 2)) none)) nv
    refine ⟨z, v, _, _, rfl, rfl, s4 _ _ upd_same, upd_same, sizeLine_le (by rw [List.length_append]; show (_ + 2) + _ ≤ _; omega), fun u nu => ?_⟩
    have s5 := (((s1.trans s2).trans s3).trans s4)
    have s6 := s5.trans (same_upd (o := .lst (cutV qs none (some (i : Int)) ++ [q2, q1] ++ cutV qs (some ((i : Int) + 2)) none)) nu)
    refine q _ u s6 (s5.free nu) ⟨_, upd_same, ?_⟩
    have e1 : (i : Int) + 2 = ((i + 2 : Nat) : Int) := rfl
    have ec : cutV qs none (some (i : Int)) ++ [q2, q1] ++ cutV qs (some ((i : Int) + 2)) none = qs.take i ++ [q2, q1] ++ qs.drop (i + 2) := by rw [e1, cut_take, cut_drop]
    have al2 := ((al.take i).append (.two h2 h1)).append (al.drop (i + 2))
    rw [← ec] at al2
    exact refs_same s6 al2
theorem sub_nat {a b : Nat} (h : b ≤ a) : (a : Int) - (b : Int) = ((a - b : Nat) : Int) := by omega
theorem cal_mo (D : Def K mg "made_one" sMo ["rules", "i", "j"]) (T : RuleTxt K mg C) (ck : Mak P w K mg base 1 "Rule" C (spRInit K C)) : Cal P w K mg base 3 "made_one" (spMo C) := by
  refine cal_mk D scMo (fun vs H Q E h => ?_) (fun f cdv A outer s H vs Q E hr h => ?_)
  · obtain ⟨a, t, u, i, j, w, rfl, _⟩ := h
    rfl
  · obtain ⟨a, t, u, i, j, wd, rfl, ⟨qs, ha, al⟩, hl, hwf, hij, hu, q⟩ := h
    refine ⟨_, pss_cons (ps_set (i := 3) scMo.nd rfl (.inl rfl) (pe_op op_xor (pe_fld (pe_ix ix_list (pv 0) (pv 1) (fun _ _ => rfl)) rfl) (pe_fld (pe_ix ix_list (pv 0) (pv 2) (fun _ _ => rfl)) rfl)))
      (pss_cons (ps_set (i := 4) scMo.nd rfl (.inl rfl) (pe_mk ck hr (pa_cons (pe_op op_cat (pe_lst (pa_cons (pe_op op_sub (pe_fld (pe_ix ix_list (pv 0) (pv 1) (fun _ _ => rfl)) rfl) (pv 3))
        (pa_cons (pe_op op_and (pe_fld (pe_ix ix_list (pv 0) (pv 1) (fun _ _ => rfl)) rfl) (pe_fld (pe_ix ix_list (pv 0) (pv 2) (fun _ _ => rfl)) rfl)) pa_nil))) (pe_fld (pe_ix ix_list (pv 0) (pv 1) (fun _ _ => rfl)) rfl)) pa_nil)))
      (pss_one (ps_ret (pe_op op_cat (pe_op op_cat (pe_op op_cat (pe_slice sl_list (pv 0) po_none (po_some (pv 1))) (pe_lst (pa_cons (pv 4) pa_nil))) (pe_slice sl_list (pv 0) (po_some (pe_op op_add (pv 1) pe_int)) (po_some (pv 2))))
        (pe_slice sl_list (pv 0) (po_some (pe_op op_add (pv 2) pe_int)) po_none))))), ?_⟩
    -- the two rules
    obtain ⟨r1, g1⟩ : ∃ r, t[i]? = some r := by
      cases e : t[i]? with
      | some r => exact ⟨r, rfl⟩
      | none =>
        unfold Vapktb.joined at hu
        rw [e] at hu
        cases hu
    obtain ⟨r2, g2⟩ : ∃ r, t[j]? = some r := by
      cases e : t[j]? with
      | some r => exact ⟨r, rfl⟩
      | none =>
        unfold Vapktb.joined at hu
        rw [g1, e] at hu
        cases hu
    have hj : j < t.length := (List.getElem?_eq_some_iff.mp g2).1
    have hd : differ1 r1 r2 = true := by
      cases e : differ1 r1 r2 with
      | true => rfl
      | false =>
        rw [joined_none g1 g2 e] at hu
        cases hu
    obtain ⟨p, hp, pe, pj⟩ := joined_some hwf g1 g2 hd
    rw [pj] at hu
    have hu := (Option.some.inj hu).symm
    subst hu
    have dt : r1.pattern.told = r2.pattern.told := by
      unfold differ1 at hd
      rw [Bool.and_eq_true, decide_eq_true_iff] at hd
      exact hd.1.2
    have hle : r1.pattern.bits ^^^ r2.pattern.bits ≤ r1.pattern.told := by
      rw [← bit_in (hwf.get g1).p (hwf.get g2).p dt]
      exact Nat.and_le_right
    obtain ⟨_, k1, b1, rfl, m1⟩ := al.at g1
    obtain ⟨_, k2, b2, rfl, m2⟩ := al.at g2
    obtain ⟨dx1, ac1, n1, o1⟩ := m1.ex
    obtain ⟨dx2, ac2, n2, o2⟩ := m2.ex
    have l3 := al.len
    -- bit
    refine ⟨_, rfl, _, rfl, a, _, _, _, rfl, rfl, .of ha, atI_nat k1, b1, C, dx1, _, _, rfl, n1, T.cl, T.nO, rF_ones r1 ac1, _, rfl, _, rfl, a, _, _, _, rfl, rfl, .of ha, atI_nat k2, b2, C, dx2, _, _, rfl, n2, T.cl, T.nO, rF_ones r2 ac2, _, _, rfl, rfl, ?_⟩
    simp only [xor_nat]
    -- rule
    refine ⟨_, rfl, _, rfl, a, _, _, _, rfl, rfl, .of ha, atI_nat k1, b1, C, dx1, _, _, rfl, n1, T.cl, T.nT, rF_told r1 ac1, _, rfl, _, _, rfl, rfl, ?_⟩
    refine ⟨_, rfl, _, rfl, a, _, _, _, rfl, rfl, .of ha, atI_nat k1, b1, C, dx1, _, _, rfl, n1, T.cl, T.nO, rF_ones r1 ac1, _, rfl, _, rfl, a, _, _, _, rfl, rfl, .of ha, atI_nat k2, b2, C, dx2, _, _, rfl, n2, T.cl, T.nO, rF_ones r2 ac2, _, _, rfl, rfl, by show 2 ≤ sizeLine; decide, fun y ny => ?_⟩
    simp only [and_nat, sub_nat hle] at ny ⊢
    have s1 : Same H (upd H y (.lst [V.int ((r1.pattern.told - (r1.pattern.bits ^^^ r2.pattern.bits) : Nat) : Int), V.int ((r1.pattern.bits &&& r2.pattern.bits : Nat) : Int)])) := same_upd ny
    have hy : (upd H y (.lst [V.int ((r1.pattern.told - (r1.pattern.bits ^^^ r2.pattern.bits) : Nat) : Int), V.int ((r1.pattern.bits &&& r2.pattern.bits : Nat) : Int)])) y = some (.lst [V.int ((r1.pattern.told - (r1.pattern.bits ^^^ r2.pattern.bits) : Nat) : Int), V.int ((r1.pattern.bits &&& r2.pattern.bits : Nat) : Int)]) := upd_same
    generalize upd H y (.lst [V.int ((r1.pattern.told - (r1.pattern.bits ^^^ r2.pattern.bits) : Nat) : Int), V.int ((r1.pattern.bits &&& r2.pattern.bits : Nat) : Int)]) = H1 at s1 hy
    have ln : (actL r1.action).length ≤ 4 := by
      cases r1.action with
      | drop => exact (by decide : 1 ≤ 4)
      | send u pt => exact Nat.le_refl 4
    refine ⟨_, rfl, _, rfl, a, _, _, _, rfl, rfl, .of (s1 _ _ ha), atI_nat k1, b1, C, dx1, _, _, rfl, s1 _ _ n1, T.cl, T.nA, rF_action r1 ac1, y, ac1, _, _, rfl, rfl, hy, s1 _ _ o1, sizeLine_le (by show 2 + _ ≤ _; omega), fun z nz => ?_⟩
    have s2 : Same H1 (upd H1 z (.lst ([V.int ((r1.pattern.told - (r1.pattern.bits ^^^ r2.pattern.bits) : Nat) : Int), V.int ((r1.pattern.bits &&& r2.pattern.bits : Nat) : Int)] ++ actL r1.action))) := same_upd nz
    have hz : (upd H1 z (.lst ([V.int ((r1.pattern.told - (r1.pattern.bits ^^^ r2.pattern.bits) : Nat) : Int), V.int ((r1.pattern.bits &&& r2.pattern.bits : Nat) : Int)] ++ actL r1.action))) z = some (.lst ((VapktBase.flatRule ⟨p, r1.action⟩).map V.int)) := by
      rw [upd_same, pe]
      rfl
    generalize upd H1 z (.lst ([V.int ((r1.pattern.told - (r1.pattern.bits ^^^ r2.pattern.bits) : Nat) : Int), V.int ((r1.pattern.bits &&& r2.pattern.bits : Nat) : Int)] ++ actL r1.action)) = H2 at s2 hz
    intro x dx nx ndx nex
    refine ⟨x, dx, z, ⟨p, r1.action⟩, rfl, upd_same, ?_, fun H5 hr5 kp => ⟨rfl, ?_⟩⟩
    · have e : z ≠ x := ne_of_none hz nx
      have e' : z ≠ dx := ne_of_none hz ndx
      rw [upd_ne e, upd_ne e']
      exact hz
    have s5 : Same H H5 := (s1.trans s2).trans (Same.made nx ndx kp)
    -- the list
    rw [joined_cut _ t i j hij hj] at q
    have l1 := cutV_length qs none (some (i : Int))
    refine ⟨_, rfl, _, rfl, _, rfl, a, _, rfl, .of (s5 _ _ ha), fun c1 nc1 => ?_⟩
    have s6 : Same H5 (upd H5 c1 (.lst (cutV qs none (some (i : Int))))) := same_upd nc1
    have hc1 : (upd H5 c1 (.lst (cutV qs none (some (i : Int))))) c1 = some (.lst (qs.take i)) := by rw [upd_same, cut_take]
    generalize upd H5 c1 (.lst (cutV qs none (some (i : Int)))) = H6 at s6 hc1
    refine ⟨_, rfl, by show 1 ≤ sizeLine; decide, fun c2 nc2 => ?_⟩
    have s7 : Same H6 (upd H6 c2 (.lst [V.ref x])) := same_upd nc2
    have hc2 : (upd H6 c2 (.lst [V.ref x])) c2 = some (.lst [V.ref x]) := upd_same
    generalize upd H6 c2 (.lst [V.ref x]) = H7 at s7 hc2
    refine ⟨c1, c2, _, _, rfl, rfl, s7 _ _ hc1, hc2, sizeLine_le (by rw [List.length_take]; show _ + 1 ≤ _; omega), fun c3 nc3 => ?_⟩
    have s8 : Same H7 (upd H7 c3 (.lst (qs.take i ++ [V.ref x]))) := same_upd nc3
    have hc3 : (upd H7 c3 (.lst (qs.take i ++ [V.ref x]))) c3 = some (.lst (qs.take i ++ [V.ref x])) := upd_same
    generalize upd H7 c3 (.lst (qs.take i ++ [V.ref x])) = H8 at s8 hc3
    have s58 := ((s5.trans s6).trans s7).trans s8
    refine ⟨_, rfl, _, rfl, _, _, rfl, rfl, _, rfl, _, rfl, _, rfl, a, _, rfl, .of (s58 _ _ ha), fun c4 nc4 => ?_⟩
    have e4 : cutV qs (some ((i : Int) + 1)) (some (j : Int)) = (qs.drop (i + 1)).take (j - (i + 1)) := by
      have e1 : (i : Int) + 1 = ((i + 1 : Nat) : Int) := rfl
      rw [e1, cut_both]
    have s9 : Same H8 (upd H8 c4 (.lst (cutV qs (some ((i : Int) + 1)) (some (j : Int))))) := same_upd nc4
    have hc4 : (upd H8 c4 (.lst (cutV qs (some ((i : Int) + 1)) (some (j : Int))))) c4 = some (.lst ((qs.drop (i + 1)).take (j - (i + 1)))) := by rw [upd_same, e4]
    generalize upd H8 c4 (.lst (cutV qs (some ((i : Int) + 1)) (some (j : Int)))) = H9 at s9 hc4
    refine ⟨c3, c4, _, _, rfl, rfl, s9 _ _ hc3, hc4, sizeLine_le (by rw [List.length_append, List.length_take, List.length_take, List.length_drop]; show _ + 1 + _ ≤ _; omega), fun c5 nc5 => ?_⟩
    have s10 : Same H9 (upd H9 c5 (.lst (qs.take i ++ [V.ref x] ++ (qs.drop (i + 1)).take (j - (i + 1))))) := same_upd nc5
    have hc5 : (upd H9 c5 (.lst (qs.take i ++ [V.ref x] ++ (qs.drop (i + 1)).take (j - (i + 1))))) c5 = some (.lst (qs.take i ++ [V.ref x] ++ (qs.drop (i + 1)).take (j - (i + 1)))) := upd_same
    generalize upd H9 c5 (.lst (qs.take i ++ [V.ref x] ++ (qs.drop (i + 1)).take (j - (i + 1)))) = H10 at s10 hc5
    have s510 := (s58.trans s9).trans s10
    refine ⟨_, rfl, _, rfl, _, _, rfl, rfl, _, rfl, a, _, rfl, .of (s510 _ _ ha), fun c6 nc6 => ?_⟩
    have e6 : cutV qs (some ((j : Int) + 1)) none = qs.drop (j + 1) := by
      have e1 : (j : Int) + 1 = ((j + 1 : Nat) : Int) := rfl
      rw [e1, cut_drop]
    have s11 : Same H10 (upd H10 c6 (.lst (cutV qs (some ((j : Int) + 1)) none))) := same_upd nc6
    have hc6 : (upd H10 c6 (.lst (cutV qs (some ((j : Int) + 1)) none))) c6 = some (.lst (qs.drop (j + 1))) := by rw [upd_same, e6]
    generalize upd H10 c6 (.lst (cutV qs (some ((j : Int) + 1)) none)) = H11 at s11 hc6
    refine ⟨c5, c6, _, _, rfl, rfl, s11 _ _ hc5, hc6, sizeLine_le (by rw [List.length_append, List.length_append, List.length_take, List.length_take, List.length_drop, List.length_drop]; show _ + 1 + _ + _ ≤ _; omega), fun c7 nc7 => ?_⟩
    have s12 := (s510.trans s11).trans (same_upd (o := .lst (qs.take i ++ [V.ref x] ++ (qs.drop (i + 1)).take (j - (i + 1)) ++ qs.drop (j + 1))) nc7)
    have s512 : Same H5 _ := ((((((s6.trans s7).trans s8).trans s9).trans s10).trans s11)).trans (same_upd (o := .lst (qs.take i ++ [V.ref x] ++ (qs.drop (i + 1)).take (j - (i + 1)) ++ qs.drop (j + 1))) nc7)
    refine q _ c7 s12 ((s510.trans s11).free nc7) ⟨_, upd_same, ?_⟩
    refine Al.append (Al.append (Al.append (refs_same s12 (al.take i)) (.one ⟨x, rfl, hr5.same s512⟩)) ?_) ?_
    · exact refs_same s12 ((al.drop (i + 1)).take _)
    · exact refs_same s12 (al.drop (j + 1))
end
end RT
set_option linter.all false
/-! The mathematics of idle and spare rules, and of the first step to a smaller table. -/
namespace RT
open VapktBase
theorem setOf_zero (w : Nat) (f : Nat → Bool) : (setOf w f == 0) = !((List.range (2 ^ w)).any f) := by
  rw [setOf_bits]
  have e : (bitsN (flags w f) == 0) = decide (bitsN (flags w f) = 0) := rfl
  have e2 : (flags w f).any id = (List.range (2 ^ w)).any f := by
    unfold flags
    rw [List.any_map]
    rfl
  rw [e, ← e2]
  cases h : (flags w f).any id with
  | false => exact decide_eq_true ((bitsN_zero _).mpr h)
  | true =>
    refine decide_eq_false fun z => ?_
    have h2 := (bitsN_zero _).mp z
    rw [h] at h2
    cases h2
theorem idle_eq (w : Nat) (t : Table) : Vapktb.idle w t = (List.range t.length).filter fun i => !((List.range (2 ^ w)).any fun h => ruleFor t h == some i) := by
  unfold Vapktb.idle Vapktb.ownSet
  congr 1
  funext i
  exact setOf_zero w _
/-- one more by a test -/
theorem filter_more (f : Nat → Bool) (i : Nat) : (List.range (i + 1)).filter f = (List.range i).filter f ++ (if f i = true then [i] else []) := by
  rw [List.range_succ, List.filter_append]
  by_cases h : f i = true
  · rw [if_pos h, List.filter_cons_of_pos h]
    rfl
  · rw [if_neg h, List.filter_cons_of_neg h]
    rfl
/-! ### a pair's look -/
def joinOk (w : Nat) (t : Table) (i j : Nat) : Bool := match Vapktb.joined t i j with
  | none => false
  | some u => Vapktb.sameTables w t u
def pairStep (w : Nat) (t : Table) (x : Nat × Nat) : Option (Vapktb.Less × Table) := (Vapktb.joined t x.1 x.2).bind fun u => if Vapktb.sameTables w t u then some (.join x.1 x.2, u) else none
theorem pairStep_some {w : Nat} {t : Table} {i j : Nat} (h : joinOk w t i j = true) : ∃ u, pairStep w t (i, j) = some (.join i j, u) := by
  unfold joinOk at h
  unfold pairStep
  cases e : Vapktb.joined t i j with
  | none =>
    rw [e] at h
    cases h
  | some u =>
    rw [e] at h
    exact ⟨u, by rw [Option.bind_some]; exact if_pos h⟩
theorem pairStep_none {w : Nat} {t : Table} {i j : Nat} (h : joinOk w t i j = false) : pairStep w t (i, j) = none := by
  unfold joinOk at h
  unfold pairStep
  cases e : Vapktb.joined t i j with
  | none => rfl
  | some u =>
    rw [e] at h
    rw [Option.bind_some]
    exact if_neg (by rw [show Vapktb.sameTables w t u = false from h]; exact Bool.false_ne_true)
/-- the pairs below n of which the first is i -/
def rowOf (n i : Nat) : List (Nat × Nat) := ((List.range n).filter fun j => decide (i < j)).map fun j => (i, j)
theorem range_above (n i : Nat) : (List.range n).filter (fun j => decide (i < j)) = (List.range (n - (i + 1))).map fun k => i + 1 + k := by
  induction n with
  | zero => simp
  | succ n ih =>
    rw [filter_more, ih]
    by_cases h : i < n
    · rw [if_pos (decide_eq_true h), show n + 1 - (i + 1) = (n - (i + 1)) + 1 by omega, List.range_succ, List.map_append]
      congr 1
      show [n] = [i + 1 + (n - (i + 1))]
      rw [show i + 1 + (n - (i + 1)) = n by omega]
    · rw [if_neg (by simpa using h), List.append_nil, show n + 1 - (i + 1) = n - (i + 1) by omega]
theorem rowOf_eq (n i : Nat) : rowOf n i = (List.range (n - (i + 1))).map fun k => (i, i + 1 + k) := by
  unfold rowOf
  rw [range_above, List.map_map]
  rfl
theorem findSome_append {A B : Type} (f : A → Option B) (l m : List A) : (l ++ m).findSome? f = (l.findSome? f).or (m.findSome? f) := by
  rw [List.findSome?_append]
/-- the first step: no rule is spare, no pair ahead can be made one -/
theorem firstLess_spare {w : Nat} {t : Table} {i : Nat} {r : List Nat} (h : Vapktb.spare w t = i :: r) : Vapktb.firstLess w t = some (.out i, t.eraseIdx i) := by
  unfold Vapktb.firstLess
  rw [h]
  rfl
theorem firstLess_pairs {w : Nat} {t : Table} (h : Vapktb.spare w t = []) : Vapktb.firstLess w t = (Vapktb.pairs t.length).findSome? (pairStep w t) := by
  unfold Vapktb.firstLess
  rw [h]
  rfl
theorem pairs_rows (n : Nat) : Vapktb.pairs n = (List.range n).flatMap (rowOf n) := rfl
/-- what is looked at ahead of the pair (i, i + 1 + k) -/
theorem rows_ahead {w : Nat} {t : Table} {n : Nat} : ∀ i, (∀ a b, a < i → a < b → b < n → joinOk w t a b = false) → i ≤ n → ((List.range i).flatMap (rowOf n)).findSome? (pairStep w t) = none := by
  intro i h hi
  rw [List.findSome?_eq_none_iff]
  intro x hx
  obtain ⟨a, ha, hx⟩ := List.mem_flatMap.mp hx
  rw [rowOf_eq] at hx
  obtain ⟨k, hk, rfl⟩ := List.mem_map.mp hx
  have h1 := List.mem_range.mp ha
  have h2 := List.mem_range.mp hk
  exact pairStep_none (h a (a + 1 + k) h1 (by omega) (by omega))
theorem pairs_found {w : Nat} {t : Table} {n i j : Nat} (h : ∀ a b, a < i → a < b → b < n → joinOk w t a b = false) (hj : ∀ b, i < b → b < j → joinOk w t i b = false) (hij : i < j) (hn : j < n) (hf : joinOk w t i j = true) :
    ∃ u, (Vapktb.pairs n).findSome? (pairStep w t) = some (.join i j, u) := by
  obtain ⟨u, hu⟩ := pairStep_some hf
  refine ⟨u, ?_⟩
  have e : List.range n = List.range i ++ (i :: (List.range (n - (i + 1))).map fun k => i + 1 + k) := by
    have e1 : n = i + (n - i) := by omega
    rw [e1, List.range_add, show i + (n - i) - (i + 1) = n - i - 1 by omega]
    congr 1
    obtain ⟨m, hm⟩ : ∃ m, n - i = m + 1 := ⟨n - i - 1, by omega⟩
    rw [hm, List.range_succ_eq_map, List.map_cons, List.map_map]
    congr 1
    rw [show m + 1 - 1 = m by omega]
    apply List.map_congr_left
    intro k _
    show i + (k + 1) = i + 1 + k
    omega
  rw [pairs_rows, e, List.flatMap_append, findSome_append, rows_ahead i h (by omega), Option.none_or, List.flatMap_cons, findSome_append]
  have er : (rowOf n i).findSome? (pairStep w t) = some (.join i j, u) := by
    have e2 : n - (i + 1) = (j - (i + 1)) + (n - j) := by omega
    rw [rowOf_eq, e2, List.range_add, List.map_append, findSome_append]
    have z : ((List.range (j - (i + 1))).map fun k => (i, i + 1 + k)).findSome? (pairStep w t) = none := by
      rw [List.findSome?_eq_none_iff]
      intro x hx
      obtain ⟨k, hk, rfl⟩ := List.mem_map.mp hx
      have h2 := List.mem_range.mp hk
      exact pairStep_none (hj (i + 1 + k) (by omega) (by omega))
    rw [z, Option.none_or]
    obtain ⟨m, hm⟩ : ∃ m, n - j = m + 1 := ⟨n - j - 1, by omega⟩
    rw [hm, List.range_succ_eq_map]
    show List.findSome? (pairStep w t) ((i, i + 1 + (j - (i + 1) + 0)) :: _) = _
    rw [show i + 1 + (j - (i + 1) + 0) = j by omega, List.findSome?_cons, hu]
  rw [er]
  rfl
theorem pairs_none {w : Nat} {t : Table} {n : Nat} (h : ∀ a b, a < n → a < b → b < n → joinOk w t a b = false) : (Vapktb.pairs n).findSome? (pairStep w t) = none := rows_ahead n h (Nat.le_refl n)
/-- a step's numbers, nothing if there's none -/
def stepL (o : Option (Vapktb.Less × Table)) : List Int := match o with
  | none => []
  | some x => Vapktb.lessTold x.1
end RT
set_option Elab.async false
set_option linter.all false
set_option maxRecDepth 100000
set_option maxHeartbeats 4000000
namespace RT
open PySem PySem.Spec PyProof.Rows L2
abbrev nIdl : List Str := ["rules", "width", "counting", "number"]
theorem scIdl : FnScope nIdl ["rules", "width"] (defScope sIdl) := ⟨rfl, rfl, rfl, by decide +kernel, rfl, by decide +kernel, by decide +kernel⟩
abbrev nSpr : List Str := ["rules", "width", "number"]
theorem scSpr : FnScope nSpr ["rules", "width"] (defScope sSpr) := ⟨rfl, rfl, rfl, by decide +kernel, rfl, by decide +kernel, by decide +kernel⟩
abbrev nCcp : List Str := ["rules", "number", "width"]
theorem scCcp : FnScope nCcp nCcp (defScope sCcp) := ⟨rfl, rfl, rfl, by decide +kernel, rfl, by decide +kernel, by decide +kernel⟩
abbrev nDif : List Str := ["first", "second", "unlike"]
theorem scDif : FnScope nDif ["first", "second"] (defScope sDif) := ⟨rfl, rfl, rfl, by decide +kernel, rfl, by decide +kernel, by decide +kernel⟩
abbrev nCbm : List Str := ["rules", "i", "j", "width"]
theorem scCbm : FnScope nCbm nCbm (defScope sCbm) := ⟨rfl, rfl, rfl, by decide +kernel, rfl, by decide +kernel, by decide +kernel⟩
def spIdl (C : Addr) : Sp := fun vs H Q _ => ∃ (a : Addr) (t : List R') (w : Nat), vs = [.ref a, .int w] ∧ TableAt C H a t ∧ t.length ≤ 8 ∧ w ≤ 7 ∧ RetL H Q ((Vapktb.idle w t).map fun i => V.int (i : Nat))
def spSpr (C : Addr) : Sp := fun vs H Q _ => ∃ (a : Addr) (t : List R') (w : Nat), vs = [.ref a, .int w] ∧ TableAt C H a t ∧ t.length ≤ 8 ∧ w ≤ 7 ∧ WfAll w t ∧ RetL H Q ((Vapktb.spare w t).map fun i => V.int (i : Nat))
def spCcp (C : Addr) : Sp := fun vs H Q _ => ∃ (a : Addr) (t : List R') (i w : Nat), vs = [.ref a, .int i, .int w] ∧ TableAt C H a t ∧ t.length ≤ 8 ∧ w ≤ 7 ∧ WfAll w t ∧ i + 1 < t.length ∧ ∀ H', Same H H' → Q (.bl (Vapktb.canTurn w t i)) H'
def spDif (C : Addr) : Sp := fun vs H Q _ => ∃ (a b : Addr) (r u : R'), vs = [.ref a, .ref b] ∧ RuleAt C H a r ∧ RuleAt C H b u ∧ Q (.bl (differ1 r u)) H
def spCbm (C : Addr) : Sp := fun vs H Q _ => ∃ (a : Addr) (t : List R') (i j w : Nat), vs = [.ref a, .int i, .int j, .int w] ∧ TableAt C H a t ∧ t.length ≤ 8 ∧ w ≤ 7 ∧ WfAll w t ∧ i < j ∧ j < t.length ∧ ∀ H', Same H H' → Q (.bl (joinOk w t i j)) H'
theorem crs_flat (w : Nat) (t : List R') : (crs w t).all flatV = true := by
  unfold crs
  rw [List.all_map, List.all_eq_true]
  intro h _
  show flatV (optV (VapktBase.ruleFor t h)) = true
  cases VapktBase.ruleFor t h <;> rfl
theorem eqV_opt (o : Option Nat) (i : Nat) : eqV (optV o) (.int (i : Nat)) = (o == some i) := by
  cases o with
  | none => rfl
  | some j =>
    show ((j : Int) == (i : Int)) = (some j == some i)
    rw [Bool.eq_iff_iff]
    simp
    omega
theorem inV_crs (w : Nat) (t : List R') (i : Nat) : inV (.int (i : Nat)) (crs w t) = (List.range (2 ^ w)).any fun h => VapktBase.ruleFor t h == some i := by
  unfold inV crs
  rw [List.any_map]
  congr 1
  funext h
  exact eqV_opt _ i
theorem flatAction_inj {a b : VapktBase.Action} (h : VapktBase.flatAction a = VapktBase.flatAction b) : a = b := by
  cases a with
  | drop =>
    cases b with
    | drop => rfl
    | send u p => cases h
  | send u p =>
    cases b with
    | drop => cases h
    | send v q =>
      have e1 : ((u.mask : Nat) : Int) = ((v.mask : Nat) : Int) := (List.cons.inj (List.cons.inj h).2).1
      have e2 : ((u.bits : Nat) : Int) = ((v.bits : Nat) : Int) := (List.cons.inj (List.cons.inj (List.cons.inj h).2).2).1
      have e3 : ((p : Nat) : Int) = ((q : Nat) : Int) := (List.cons.inj (List.cons.inj (List.cons.inj (List.cons.inj h).2).2).2).1
      obtain ⟨m, n⟩ := u
      obtain ⟨m', n'⟩ := v
      have f1 : m = m' := Int.ofNat.inj e1
      have f2 : n = n' := Int.ofNat.inj e2
      have f3 : p = q := Int.ofNat.inj e3
      rw [f1, f2, f3]
section
variable {P : Program} {w : World} {K : PySem.W.Frag} {mg : Str → Option Value} {base : Heap} {C : Addr}
theorem cal_idl (D : Def K mg "idle_rules" sIdl ["rules", "width"]) (ml : mg "len" = none) (mr : mg "range" = none) (cc : Cal P w K mg base 4 "counting_rules" (spCrs C)) : Cal P w K mg base 5 "idle_rules" (spIdl C) := by
  refine cal_mk D scIdl (fun vs H Q E h => ?_) (fun f cdv A outer s H vs Q E hr h => ?_)
  · obtain ⟨a, t, w, rfl, _⟩ := h
    rfl
  · obtain ⟨a, t, wd, rfl, ht, hl, hw, q⟩ := h
    refine ⟨_, pss_cons (ps_set (i := 2) scIdl.nd rfl (.inr rfl) (pe_c cc hr (pa_cons (pv 0) (pa_cons (pv 1) pa_nil))))
      (pss_one (ps_ret (pe_lc (own := [("number", 3)]) (g := gName 3) (tt := tTest (tOp (rIn K true) (tVar 3) (tVar 2))) rfl scIdl.nd (pi_range1 (by rfl) mr (pa_cons (pe_len ml (pv 0)) pa_nil)) (blkOk_by (N := nIdl) (sc := defScope sIdl) (by decide +kernel))
      (fun _ _ _ _ _ => pg_name (i := 3) scIdl.nd rfl (.inl rfl) (.inr rfl)) (fun _ _ _ _ _ => pts_one (pt_cmpR op_notIn_seq (pv 3) (pv 2) rfl)) (fun _ _ _ _ _ => pv 3)))), ?_⟩
    refine ⟨_, rfl, _, rfl, a, t, wd, rfl, ht, hw, fun H1 p s1 np hp => ?_⟩
    obtain ⟨qs, ha, al⟩ := (ht.same s1).ex
    refine ⟨_, rfl, a, _, rfl, .inl (.of ha), _, rfl, (rg62 (by rw [al.len]; omega)).1, (rg62 (by rw [al.len]; omega)).2, fun D nD => ?_⟩
    rw [Int.toNat_natCast]
    have nDp : p ≠ D := ne_of_none hp nD
    refine lc_range (lo := 0) (n := qs.length) (fun i H' => SameBut D H1 H' ∧ H' D = some (.lst (((List.range i).filter fun i => !((List.range (2 ^ wd)).any fun h => VapktBase.ruleFor t h == some i)).map fun i => V.int (i : Nat)))) ⟨(SameBut.refl D H1).upd, upd_same⟩ ?_ ?_
    · rintro i H2 hi ⟨sb, hD⟩
      rw [Int.zero_add]
      refine ⟨rfl, _, rfl, _, rfl, p, _, rfl, .inl (.of (sb _ _ nDp hp)), rfl, crs_flat wd t, _, rfl, ?_⟩
      rw [if_pos rfl, inV_crs, filter_more]
      refine ite2 (fun c => ?_) (fun c => ?_)
      · refine ⟨_, rfl, _, hD, ?_, sb.upd, ?_⟩
        · rw [List.length_map]
          exact sizeLine_of (Nat.le_trans (List.length_filter_le _ _) (by rw [List.length_range]; have := al.len; omega))
        · rw [upd_same, if_pos c, List.map_append]
          rfl
      · refine ⟨sb, ?_⟩
        rw [hD, if_neg c, List.append_nil]
    · rintro H2 ⟨sb, hD⟩
      rw [al.len, ← idle_eq] at hD
      exact q H2 D (s1.trans (sb.new nD)) (s1.free nD) hD
theorem cal_spr (D : Def K mg "spare_rules" sSpr ["rules", "width"]) (ml : mg "len" = none) (mr : mg "range" = none) (cs : Cal P w K mg base 6 "do_the_same" (spSam C)) (co : Cal P w K mg base 1 "without_rule" (spWo C)) : Cal P w K mg base 7 "spare_rules" (spSpr C) := by
  refine cal_mk D scSpr (fun vs H Q E h => ?_) (fun f cdv A outer s H vs Q E hr h => ?_)
  · obtain ⟨a, t, w, rfl, _⟩ := h
    rfl
  · obtain ⟨a, t, wd, rfl, ht, hl, hw, hwf, q⟩ := h
    refine ⟨_, pss_one (ps_ret (pe_lc (own := [("number", 2)]) (g := gName 2) rfl scSpr.nd (pi_range1 (by rfl) mr (pa_cons (pe_len ml (pv 0)) pa_nil)) (blkOk_by (N := nSpr) (sc := defScope sSpr) (by decide +kernel))
      (fun _ _ _ _ _ => pg_name (i := 2) scSpr.nd rfl (.inl rfl) (.inr rfl)) (fun _ _ _ _ _ => pts_one (pt_val (pe_c cs hr (pa_cons (pv 0) (pa_cons (pe_c co hr (pa_cons (pv 0) (pa_cons (pv 2) pa_nil))) (pa_cons (pv 1) pa_nil)))))) (fun _ _ _ _ _ => pv 2))), ?_⟩
    obtain ⟨qs, ha, al⟩ := ht.ex
    refine ⟨_, rfl, a, _, rfl, .inl (.of ha), _, rfl, (rg62 (by rw [al.len]; omega)).1, (rg62 (by rw [al.len]; omega)).2, fun D nD => ?_⟩
    rw [Int.toNat_natCast]
    refine lc_range (lo := 0) (n := qs.length) (fun i H' => SameBut D H H' ∧ H' D = some (.lst (((List.range i).filter fun i => Vapktb.sameTables wd t (t.eraseIdx i)).map fun i => V.int (i : Nat)))) ⟨(SameBut.refl D H).upd, upd_same⟩ ?_ ?_
    · rintro i H1 hi ⟨sb, hD⟩
      rw [Int.zero_add]
      have s1 := sb.new nD
      refine ⟨rfl, _, rfl, _, rfl, _, rfl, a, t, i, rfl, ht.same s1, hl, fun H2 p s2 np hp => ?_⟩
      refine ⟨_, rfl, a, p, t, t.eraseIdx i, wd, rfl, ht.same (s1.trans s2), hp, hw, hwf, hwf.erase i, fun H3 s3 => ⟨_, rfl, ?_⟩⟩
      have hD3 := s3 _ _ (s2 _ _ hD)
      have sb3 := (sb.same s2).same s3
      rw [filter_more]
      refine ite2 (fun c => ?_) (fun c => ?_)
      · refine ⟨_, rfl, _, hD3, ?_, sb3.upd, ?_⟩
        · rw [List.length_map]
          exact sizeLine_of (Nat.le_trans (List.length_filter_le _ _) (by rw [List.length_range]; have := al.len; omega))
        · rw [upd_same, if_pos c, List.map_append]
          rfl
      · refine ⟨sb3, ?_⟩
        rw [hD3, if_neg c, List.append_nil]
    · rintro H1 ⟨sb, hD⟩
      rw [al.len] at hD
      exact q H1 D (sb.new nD) nD hD
theorem cal_ccp (D : Def K mg "can_change_places" sCcp nCcp) (cs : Cal P w K mg base 6 "do_the_same" (spSam C)) (co : Cal P w K mg base 1 "turned" (spTur C)) (hwt : ∀ (wd i : Nat) (t : List R'), WfAll wd t → WfAll wd (Vapktb.turned t i)) : Cal P w K mg base 7 "can_change_places" (spCcp C) := by
  refine cal_mk D scCcp (fun vs H Q E h => ?_) (fun f cdv A outer s H vs Q E hr h => ?_)
  · obtain ⟨a, t, i, w, rfl, _⟩ := h
    rfl
  · obtain ⟨a, t, i, wd, rfl, ht, hl, hw, hwf, hi, q⟩ := h
    refine ⟨_, pss_one (ps_ret (pe_c cs hr (pa_cons (pv 0) (pa_cons (pe_c co hr (pa_cons (pv 0) (pa_cons (pv 1) pa_nil))) (pa_cons (pv 2) pa_nil))))), ?_⟩
    refine ⟨_, rfl, _, rfl, _, rfl, a, t, i, rfl, ht, hl, hi, fun H1 p s1 np hp => ?_⟩
    exact ⟨_, rfl, a, p, t, _, wd, rfl, ht.same s1, hp, hw, hwf, hwt wd i t hwf, fun H2 s2 => q H2 (s1.trans s2)⟩
theorem cal_dif (D : Def K mg "differ_in_one_bit" sDif ["first", "second"]) (T : RuleTxt K mg C) : Cal P w K mg base 1 "differ_in_one_bit" (spDif C) := by
  refine cal_mk D scDif (fun vs H Q E h => ?_) (fun f cdv A outer s H vs Q E hr h => ?_)
  · obtain ⟨a, b, r, u, rfl, _⟩ := h
    rfl
  · obtain ⟨a, b, r, u, rfl, h1, h2, q⟩ := h
    obtain ⟨dx1, ac1, n1, o1⟩ := h1.ex
    obtain ⟨dx2, ac2, n2, o2⟩ := h2.ex
    refine ⟨_, pss_cons (ps_if (PW.pt (pw_or (pt_cmpR (op_neD hr.units) (pe_fld (pv 0) rfl) (pe_fld (pv 1) rfl) (nomark _)) (pw_or1 (pt_cmpR op_ne (pe_fld (pv 0) rfl) (pe_fld (pv 1) rfl) (nomark _))))) (pss_one (ps_ret pe_bl)) pss_nil)
      (pss_cons (ps_set (i := 2) scDif.nd rfl (.inl rfl) (pe_op op_xor (pe_fld (pv 0) rfl) (pe_fld (pv 1) rfl)))
      (pss_one (ps_ret (pe_and (pe_cmpR op_ne (pv 2) pe_int (nomark _)) (pe_one (pe_cmpR op_eq (pe_op op_and (pv 2) (pe_op op_sub (pv 2) pe_int)) pe_int (nomark _))))))), ?_⟩
    refine ⟨_, rfl, a, C, dx1, _, _, rfl, n1, T.cl, T.nA, rF_action r ac1, _, rfl, b, C, dx2, _, _, rfl, n2, T.cl, T.nA, rF_action u ac2, .list _, .list _, .lst (.of o1) (dp_ints _), .lst (.of o2) (dp_ints _), shaped_ints _, shaped_ints _, _, rfl, ?_⟩
    have ea : PyData.eqv (.list ((VapktBase.flatAction r.action).map PyData.int)) (.list ((VapktBase.flatAction u.action).map PyData.int)) = decide (r.action = u.action) := by
      refine (eqv_ints _ _).trans ?_
      rw [Bool.eq_iff_iff, decide_eq_true_iff, decide_eq_true_iff]
      exact ⟨flatAction_inj, fun e => by rw [e]⟩
    rw [ea]
    unfold differ1 at q
    by_cases c1 : r.action = u.action
    case neg =>
      rw [decide_eq_false c1]
      rw [decide_eq_false (fun z => c1 z.1)] at q
      exact iteT (iteT q)
    rw [decide_eq_true c1]
    refine iteF ⟨_, rfl, a, C, dx1, _, _, rfl, n1, T.cl, T.nT, rF_told r ac1, _, rfl, b, C, dx2, _, _, rfl, n2, T.cl, T.nT, rF_told u ac2, rfl, _, rfl, ?_⟩
    rw [dec_nat]
    by_cases c2 : r.pattern.told = u.pattern.told
    case neg =>
      rw [decide_eq_false c2]
      rw [decide_eq_false (fun z => c2 z.2)] at q
      exact iteT q
    rw [decide_eq_true c2]
    rw [decide_eq_true ⟨c1, c2⟩] at q
    refine iteF ⟨_, rfl, a, C, dx1, _, _, rfl, n1, T.cl, T.nO, rF_ones r ac1, _, rfl, b, C, dx2, _, _, rfl, n2, T.cl, T.nO, rF_ones u ac2, _, _, rfl, rfl, ?_⟩
    simp only [xor_nat]
    generalize hn : r.pattern.bits ^^^ u.pattern.bits = n at q
    refine ⟨_, rfl, rfl, _, rfl, ?_⟩
    have e0 : decide (V.int ((n : Nat) : Int) = V.int 0) = decide (n = 0) := dec_nat n 0
    rw [e0]
    unfold Vapktb.isOneBit at q
    by_cases c3 : n = 0
    · rw [decide_eq_true c3]
      rw [c3] at q
      exact iteF q
    · rw [decide_eq_false c3]
      refine iteT ⟨_, rfl, _, rfl, _, _, rfl, rfl, _, _, rfl, rfl, rfl, bl_eq ?_ q⟩
      have e1 : (n : Int) - 1 = ((n - 1 : Nat) : Int) := by omega
      show decide (V.int (Builtin.bitAnd (n : Int) ((n : Int) - 1)) = V.int 0) = _
      rw [e1, and_nat]
      refine (dec_nat (n &&& (n - 1)) 0).trans ?_
      rw [show (n != 0) = true from bne_iff_ne.mpr c3]
      rfl
theorem cal_cbm (D : Def K mg "can_be_made_one" sCbm nCbm) (cd : Cal P w K mg base 1 "differ_in_one_bit" (spDif C)) (cs : Cal P w K mg base 6 "do_the_same" (spSam C)) (co : Cal P w K mg base 3 "made_one" (spMo C)) : Cal P w K mg base 7 "can_be_made_one" (spCbm C) := by
  refine cal_mk D scCbm (fun vs H Q E h => ?_) (fun f cdv A outer s H vs Q E hr h => ?_)
  · obtain ⟨a, t, i, j, w, rfl, _⟩ := h
    rfl
  · obtain ⟨a, t, i, j, wd, rfl, ht, hl, hw, hwf, hij, hj, q⟩ := h
    refine ⟨_, pss_one (ps_ret (pe_and (pe_c cd hr (pa_cons (pe_ix ix_list (pv 0) (pv 1) (fun _ _ => rfl)) (pa_cons (pe_ix ix_list (pv 0) (pv 2) (fun _ _ => rfl)) pa_nil)))
      (pe_one (pe_c cs hr (pa_cons (pv 0) (pa_cons (pe_c co hr (pa_cons (pv 0) (pa_cons (pv 1) (pa_cons (pv 2) pa_nil)))) (pa_cons (pv 3) pa_nil))))))), ?_⟩
    obtain ⟨r1, g1⟩ : ∃ r, t[i]? = some r := ⟨_, List.getElem?_eq_getElem (by omega)⟩
    obtain ⟨r2, g2⟩ : ∃ r, t[j]? = some r := ⟨_, List.getElem?_eq_getElem hj⟩
    obtain ⟨qs, ha, al⟩ := ht.ex
    obtain ⟨_, k1, b1, rfl, m1⟩ := al.at g1
    obtain ⟨_, k2, b2, rfl, m2⟩ := al.at g2
    refine ⟨_, rfl, _, rfl, a, _, _, _, rfl, rfl, .of ha, atI_nat k1, _, rfl, _, rfl, a, _, _, _, rfl, rfl, .of ha, atI_nat k2, b1, b2, r1, r2, rfl, m1, m2, _, rfl, ?_⟩
    unfold joinOk at q
    cases d : differ1 r1 r2 with
    | false =>
      rw [joined_none g1 g2 d] at q
      exact iteF (q H (Same.refl H))
    | true =>
      obtain ⟨p, p1, p2, p3⟩ := joined_some hwf g1 g2 d
      rw [p3] at q
      obtain ⟨w1, w2⟩ := hwf.joined p3
      refine iteT ⟨_, rfl, _, rfl, _, rfl, _, rfl, a, t, _, i, j, wd, rfl, ht, hl, hwf, hij, p3, fun H1 x s1 nx hx => ?_⟩
      exact ⟨_, rfl, a, x, t, _, wd, rfl, ht.same s1, hx, hw, hwf, w1, fun H2 s2 => q H2 (s1.trans s2)⟩
end
end RT
set_option linter.all false
/-! The mathematics of small, apart. -/
namespace RT
open VapktBase
theorem WfAll.turned {w : Nat} {t : Table} (h : WfAll w t) (i : Nat) : WfAll w (Vapktb.turned t i) := by
  unfold Vapktb.turned
  split
  · rename_i a b h1 h2
    exact (h.set i (h.get h2)).set (i + 1) (h.get h1)
  · exact h
/-- the rules apart, from the rules from the place k on -/
def apartFrom (w : Nat) (t : Table) (k : Nat) (l : Table) : Table := (l.zipIdx k).flatMap fun x => (formOf w (Vapktb.ownSet w t x.2)).map fun p => ⟨p, x.1.action⟩
def apartOf (w : Nat) (t : Table) (i : Nat) (a : Action) : List Rule := (pats w (flags w fun h => ruleFor t h == some i)).map fun p => ⟨mkPat p, a⟩
theorem apartOf_eq (w : Nat) (t : Table) (i : Nat) (a : Action) : ((formOf w (Vapktb.ownSet w t i)).map fun p => (⟨p, a⟩ : Rule)) = apartOf w t i a := by
  unfold Vapktb.ownSet apartOf
  rw [form_setOf, List.map_map]
  rfl
/-- the first i rules' parts -/
def apartTo (w : Nat) (t : Table) (i : Nat) : List Rule := ((t.take i).zipIdx).flatMap fun x => apartOf w t x.2 x.1.action
theorem apartTo_all (w : Nat) (t : Table) : apartTo w t t.length = Vapktb.apart w t := by
  unfold apartTo Vapktb.apart
  rw [List.take_length]
  congr 1
  funext x
  exact (apartOf_eq w t x.2 x.1.action).symm
theorem apartTo_more {w : Nat} {t : Table} {i : Nat} {r : Rule} (h : t[i]? = some r) : apartTo w t (i + 1) = apartTo w t i ++ apartOf w t i r.action := by
  unfold apartTo
  have e : t.take (i + 1) = t.take i ++ [r] := by
    rw [List.take_add_one, h]
    rfl
  have hl : (t.take i).length = i := by
    rw [List.length_take]
    have := (List.getElem?_eq_some_iff.mp h).1
    omega
  rw [e, List.zipIdx_append, List.flatMap_append, hl]
  congr 1
  show apartOf w t (0 + i) r.action ++ [] = _
  rw [List.append_nil, Nat.zero_add]
theorem apartOf_len (w : Nat) (t : Table) (i : Nat) (a : Action) : (apartOf w t i a).length ≤ 2 ^ w := by
  unfold apartOf
  rw [List.length_map]
  exact pats_len w _
theorem apartTo_len (w : Nat) (t : Table) : ∀ i, i ≤ t.length → (apartTo w t i).length ≤ 2 ^ w * i
  | 0, _ => by simp [apartTo]
  | i + 1, h => by
    have ih := apartTo_len w t i (by omega)
    have h2 := apartOf_len w t i (t[i]'(by omega)).action
    rw [apartTo_more (List.getElem?_eq_getElem (by omega)), List.length_append, Nat.mul_succ]
    omega
/-! ### a smaller table -/
/-- the steps' numbers -/
def stepsL (l : List Vapktb.Less) : List Int := l.flatMap Vapktb.lessTold
theorem lessTold_len (x : Vapktb.Less) : (Vapktb.lessTold x).length ≤ 3 ∧ (Vapktb.lessTold x).length ≠ 0 := by
  cases x <;> simp [Vapktb.lessTold]
theorem lessened_none {w n : Nat} {t : Table} (h : Vapktb.firstLess w t = none) : Vapktb.lessened w n t = ([], t) := by
  cases n with
  | zero => rfl
  | succ n =>
    unfold Vapktb.lessened
    rw [h]
theorem lessened_some {w n : Nat} {t u : Table} {x : Vapktb.Less} (h : Vapktb.firstLess w t = some (x, u)) : Vapktb.lessened w (n + 1) t = (x :: (Vapktb.lessened w n u).1, (Vapktb.lessened w n u).2) := by
  show (match Vapktb.firstLess w t with
    | none => ([], t)
    | some x => let r := Vapktb.lessened w n x.2
      (x.1 :: r.1, r.2)) = _
  rw [h]
theorem lessened_wf {w : Nat} : ∀ (n : Nat) {t : Table}, WfTab w t → WfTab w (Vapktb.lessened w n t).2
  | 0, t, h => h
  | n + 1, t, h => by
    cases e : Vapktb.firstLess w t with
    | none =>
      rw [lessened_none e]
      exact h
    | some p =>
      obtain ⟨x, u⟩ := p
      obtain ⟨h1, h2, _⟩ := firstLess_is e h.2
      rw [lessened_some e]
      exact lessened_wf n ⟨by have := h.1; omega, h1⟩
end RT
set_option Elab.async false
set_option linter.all false
set_option maxRecDepth 100000
set_option maxHeartbeats 4000000
namespace RT
open PySem PySem.Spec PyProof.Rows L2
abbrev nSms : List Str := ["rules", "width", "spares", "i", "j"]
theorem scSms : FnScope nSms ["rules", "width"] (defScope sSms) := ⟨rfl, rfl, rfl, by decide +kernel, rfl, by decide +kernel, by decide +kernel⟩
abbrev nBhs : List Str := ["rules", "step"]
theorem scBhs : FnScope nBhs nBhs (defScope sBhs) := ⟨rfl, rfl, rfl, by decide +kernel, rfl, by decide +kernel, by decide +kernel⟩
abbrev nRap : List Str := ["rules", "width", "parts", "number", "rule", "told", "ones"]
theorem scRap : FnScope nRap ["rules", "width"] (defScope sRap) := ⟨rfl, rfl, rfl, by decide +kernel, rfl, by decide +kernel, by decide +kernel⟩
def spSms (C : Addr) : Sp := fun vs H Q _ => ∃ (a : Addr) (t : List R') (w : Nat), vs = [.ref a, .int w] ∧ TableAt C H a t ∧ t.length ≤ 8 ∧ w ≤ 7 ∧ WfAll w t ∧ RetInts H Q (stepL (Vapktb.firstLess w t))
def spBhs (K : PySem.W.Frag) (C : Addr) : Sp := fun vs H Q _ => ∃ (a b : Addr) (t u : List R') (x : Vapktb.Less) (w : Nat), vs = [.ref a, .ref b] ∧ TableAt C H a t ∧ t.length ≤ 8 ∧ WfAll w t ∧ Vapktb.firstLess w t = some (x, u) ∧ SqL K H b ((Vapktb.lessTold x).map V.int) ∧ RetT C H Q u
def spRap (C : Addr) : Sp := fun vs H Q _ => ∃ (a : Addr) (t : List R') (w : Nat), vs = [.ref a, .int w] ∧ TableAt C H a t ∧ t.length ≤ 8 ∧ w ≤ 7 ∧ RetT C H Q (Vapktb.apart w t)
section
variable {P : Program} {w : World} {K : PySem.W.Frag} {mg : Str → Option Value} {base : Heap} {C : Addr}
theorem cal_sms (D : Def K mg "smaller_step" sSms ["rules", "width"]) (ml : mg "len" = none) (mr : mg "range" = none) {t0 t1 : Tok} (g0 : mg "TAKEN_OUT" = some (.int 0 t0)) (g1 : mg "MADE_ONE" = some (.int 1 t1))
    (cs : Cal P w K mg base 7 "spare_rules" (spSpr C)) (cc : Cal P w K mg base 7 "can_be_made_one" (spCbm C)) : Cal P w K mg base 8 "smaller_step" (spSms C) := by
  refine cal_mk D scSms (fun vs H Q E h => ?_) (fun f cdv A outer s H vs Q E hr h => ?_)
  · obtain ⟨a, t, w, rfl, _⟩ := h
    rfl
  · obtain ⟨a, t, wd, rfl, ht, hl, hw, hwf, q⟩ := h
    refine ⟨_, pss_cons (ps_set (i := 2) scSms.nd rfl (.inl rfl) (pe_c cs hr (pa_cons (pv 0) (pa_cons (pv 1) pa_nil))))
      (pss_cons (ps_if (pt_truth (pv 2) (by intro _; rfl)) (pss_one (ps_ret (pe_lst (pa_cons (pe_glob (v := .int 0) (by rfl) g0 ⟨_, rfl⟩) (pa_cons (pe_ix ix_list (pv 2) pe_int (fun _ _ => rfl)) pa_nil))))) pss_nil)
      (pss_cons (ps_for PassesOwn.never rfl (pi_range1 (by rfl) mr (pa_cons (pe_len ml (pv 0)) pa_nil)) (pg_name (i := 3) scSms.nd rfl (.inl rfl))
        (pss_one (ps_for PassesOwn.never rfl (pi_range2 (by rfl) mr (pa_cons (pe_op op_add (pv 3) pe_int) (pa_cons (pe_len ml (pv 0)) pa_nil))) (pg_name (i := 4) scSms.nd rfl (.inl rfl))
          (pss_one (ps_if (pt_val (pe_c cc hr (pa_cons (pv 0) (pa_cons (pv 3) (pa_cons (pv 4) (pa_cons (pv 1) pa_nil)))))) (pss_one (ps_ret (pe_lst (pa_cons (pe_glob (v := .int 1) (by rfl) g1 ⟨_, rfl⟩) (pa_cons (pv 3) (pa_cons (pv 4) pa_nil)))))) pss_nil)))))
      (pss_one (ps_ret (pe_lst pa_nil))))), ?_⟩
    refine ⟨_, rfl, _, rfl, a, t, wd, rfl, ht, hl, hw, hwf, fun H1 p s1 np hp => ?_⟩
    refine ⟨_, rfl, _, .inl ⟨_, .of hp, rfl⟩, ?_⟩
    cases e : Vapktb.spare wd t with
    | cons i r =>
      rw [firstLess_spare e] at q
      rw [e] at hp
      refine iteT ⟨_, rfl, p, _, 0, _, rfl, rfl, .of hp, atI_nat (j := 0) rfl, by show 2 ≤ sizeLine; decide, fun z nz => ?_⟩
      exact q _ z (s1.trans (same_upd nz)) (s1.free nz) upd_same
    | nil =>
      rw [firstLess_pairs e] at q
      refine iteF ?_
      obtain ⟨qs, ha, al⟩ := (ht.same s1).ex
      have hn : qs.length ≤ 8 := by rw [al.len]; exact hl
      refine ⟨_, rfl, a, _, rfl, .inl (.of ha), _, rfl, (rg62 (by omega)).1, (rg62 (by omega)).2, ?_⟩
      rw [Int.toNat_natCast]
      refine for_range (lo := 0) (n := qs.length) (fun i σ H' => ∃ y3 y4, σ = [some (.ref a), some (.int wd), some (.ref p), y3, y4] ∧ Same H1 H' ∧ ∀ b c, b < i → b < c → c < t.length → joinOk wd t b c = false)
        ⟨none, none, rfl, Same.refl H1, fun b c hb => absurd hb (Nat.not_lt_zero _)⟩ ?_ ?_
      · rintro i σ H2 hi ⟨y3, y4, rfl, s2, hno⟩
        rw [Int.zero_add]
        have ha2 := s2 _ _ ha
        have e1 : (i : Int) + 1 = ((i + 1 : Nat) : Int) := rfl
        refine ⟨_, rfl, _, _, rfl, rfl, _, rfl, a, _, rfl, .inl (.of ha2), _, _, rfl, ⟨by rw [e1]; exact (rg62 (by omega)).1, by rw [e1]; exact (rg62 (by omega)).2, (rg62 (by omega)).1, (rg62 (by omega)).2⟩, ?_⟩
        refine for_range (lo := (i : Int) + 1) (n := (((qs.length : Nat) : Int) - ((i : Int) + 1)).toNat) (fun k σ H' => ∃ y4, σ = [some (.ref a), some (.int wd), some (.ref p), some (.int (i : Nat)), y4] ∧ Same H1 H' ∧ ∀ c, i < c → c < i + 1 + k → joinOk wd t i c = false)
          ⟨y4, rfl, s2, fun c h1 h2 => by omega⟩ ?_ ?_
        · rintro k σ H3 hk ⟨y4, rfl, s3, hno2⟩
          have ej : (i : Int) + 1 + (k : Nat) = ((i + 1 + k : Nat) : Int) := rfl
          rw [ej]
          have hj : i + 1 + k < t.length := by rw [← al.len]; omega
          refine ⟨_, rfl, _, rfl, _, rfl, _, rfl, a, t, i, i + 1 + k, wd, rfl, ht.same (s1.trans s3), hl, hw, hwf, by omega, hj, fun H4 s4 => ⟨_, rfl, ?_⟩⟩
          cases hf : joinOk wd t i (i + 1 + k) with
          | true =>
            obtain ⟨u, hu⟩ := pairs_found (n := t.length) hno hno2 (by omega) hj hf
            rw [hu] at q
            refine iteT ⟨_, rfl, _, rfl, by show 3 ≤ sizeLine; decide, fun z nz => ?_⟩
            exact q _ z (((s1.trans s3).trans s4).trans (same_upd nz)) (((s1.trans s3).trans s4).free nz) upd_same
          | false =>
            refine iteF ⟨_, rfl, s3.trans s4, fun c h1 h2 => ?_⟩
            by_cases ec : c = i + 1 + k
            · rw [ec]
              exact hf
            · exact hno2 c h1 (by omega)
        · rintro σ H3 ⟨y4, rfl, s3, hno2⟩
          refine ⟨_, _, rfl, s3, fun b c hb hbc hc => ?_⟩
          by_cases eb : b = i
          · subst eb
            exact hno2 c hbc (by have := al.len; omega)
          · exact hno b c (by omega) hbc hc
      · rintro σ H2 ⟨y3, y4, rfl, s2, hno⟩
        rw [pairs_none (n := t.length) (fun b c hb hbc hc => hno b c (by have := al.len; omega) hbc hc)] at q
        refine ⟨Nat.zero_le _, fun z nz => ?_⟩
        exact q _ z ((s1.trans s2).trans (same_upd nz)) ((s1.trans s2).free nz) upd_same
theorem cal_bhs (D : Def K mg "behind_step" sBhs nBhs) {t0 : Tok} (g0 : mg "TAKEN_OUT" = some (.int 0 t0)) (cw : Cal P w K mg base 1 "without_rule" (spWo C)) (co : Cal P w K mg base 3 "made_one" (spMo C)) : Cal P w K mg base 4 "behind_step" (spBhs K C) := by
  refine cal_mk D scBhs (fun vs H Q E h => ?_) (fun f cdv A outer s H vs Q E hr h => ?_)
  · obtain ⟨a, b, t, u, x, w, rfl, _⟩ := h
    rfl
  · obtain ⟨a, b, t, u, x, wd, rfl, ht, hl, hwf, hf, hb, q⟩ := h
    refine ⟨_, pss_cons (ps_if (pt_cmpR op_eq (pe_ix ix_list (pv 1) pe_int (fun _ _ => rfl)) (pe_glob (v := .int 0) (by rfl) g0 ⟨_, rfl⟩) (nomark _)) (pss_one (ps_ret (pe_c cw hr (pa_cons (pv 0) (pa_cons (pe_ix ix_list (pv 1) pe_int (fun _ _ => rfl)) pa_nil))))) pss_nil)
      (pss_one (ps_ret (pe_c co hr (pa_cons (pv 0) (pa_cons (pe_ix ix_list (pv 1) pe_int (fun _ _ => rfl)) (pa_cons (pe_ix ix_list (pv 1) pe_int (fun _ _ => rfl)) pa_nil)))))), ?_⟩
    obtain ⟨_, _, k⟩ := firstLess_is hf hwf
    rcases k with ⟨i, rfl, hi, rfl⟩ | ⟨i, j, rfl, hij, hj, hu⟩
    · refine ⟨_, rfl, b, _, 0, _, rfl, rfl, hb, atI_nat (j := 0) rfl, rfl, _, rfl, iteT ?_⟩
      exact ⟨_, rfl, _, rfl, b, _, 1, _, rfl, rfl, hb, atI_nat (j := 1) rfl, a, t, i, rfl, ht, hl, q⟩
    · refine ⟨_, rfl, b, _, 0, _, rfl, rfl, hb, atI_nat (j := 0) rfl, rfl, _, rfl, iteF ?_⟩
      exact ⟨_, rfl, _, rfl, b, _, 1, _, rfl, rfl, hb, atI_nat (j := 1) rfl, _, rfl, b, _, 2, _, rfl, rfl, hb, atI_nat (j := 2) rfl, a, t, u, i, j, wd, rfl, ht, hl, hwf, hij, hu, q⟩
theorem cal_rap (D : Def K mg "rules_apart" sRap ["rules", "width"]) (me : mg "enumerate" = none) (T : RuleTxt K mg C) (ck : Mak P w K mg base 1 "Rule" C (spRInit K C)) (cp : Cal P w K mg base 9 "patterns_of" (spPatsA K)) (co : Cal P w K mg base 5 "own_headers" (spOwh C)) : Cal P w K mg base 10 "rules_apart" (spRap C) := by
  refine cal_mk D scRap (fun vs H Q E h => ?_) (fun f cdv A outer s H vs Q E hr h => ?_)
  · obtain ⟨a, t, w, rfl, _⟩ := h
    rfl
  · obtain ⟨a, t, wd, rfl, ⟨qs, ha, al⟩, hl, hw, q⟩ := h
    refine ⟨_, pss_cons (ps_set (i := 2) scRap.nd rfl (.inl rfl) (pe_lst pa_nil))
      (pss_cons (ps_for PassesOwn.never rfl (pi_enum (by rfl) me (pa_cons (pv 0) pa_nil)) (pg_tup rfl (pgs_cons (pg_name (i := 3) scRap.nd rfl (.inl rfl)) (pgs_cons (pg_name (i := 4) scRap.nd rfl (.inl rfl)) pgs_nil)))
        (pss_one (ps_for PassesOwn.never rfl (pi_list (pe_c cp hr (pa_cons (pe_c co hr (pa_cons (pv 0) (pa_cons (pv 3) (pa_cons (pv 1) pa_nil)))) pa_nil))) (pg_tup rfl (pgs_cons (pg_name (i := 5) scRap.nd rfl (.inl rfl)) (pgs_cons (pg_name (i := 6) scRap.nd rfl (.inl rfl)) pgs_nil)))
          (pss_one (ps_expr (pe_bm PySem.F.plainAttrs_list PySem.F.slot_list_append PySem.F.type_list_append mt_append (pv 2) (pa_cons (pe_mk ck hr (pa_cons (pe_op op_cat (pe_lst (pa_cons (pv 5) (pa_cons (pv 6) pa_nil))) (pe_fld (pv 4) rfl)) pa_nil)) pa_nil)))))))
      (pss_one (ps_ret (pv 2)))), ?_⟩
    have h7 := pow7 hw
    refine ⟨Nat.zero_le _, fun R nR => ?_⟩
    have naR : a ≠ R := ne_of_none ha nR
    refine ⟨_, rfl, a, _, rfl, .of ((upd_ne naR).trans ha), for_it (walk_enum (K := K) (a := a) (xs := qs)) (fun i σ H' => ∃ y3 y4 y5 y6, σ = [some (.ref a), some (.int wd), some (.ref R), y3, y4, y5, y6] ∧ SameBut R H H' ∧ TableAt C H' R (apartTo wd t i))
      ⟨none, none, none, none, rfl, (SameBut.refl R H).upd, ⟨[], upd_same, .nil⟩⟩ (fun i σ H' _ ⟨_, _, _, _, _, sb, _⟩ => .of (sb _ _ naR ha)) ?_ ?_⟩
    · rintro i x σ H1 H2 hi ⟨y3, y4, y5, y6, rfl, sb, tb⟩ ⟨U, u, v, rfl, nU, rfl, hu, hv⟩
      cases hu
      obtain ⟨r, hr2⟩ : ∃ r, t[i]? = some r := ⟨_, List.getElem?_eq_getElem (by rw [← al.len]; exact hi)⟩
      obtain ⟨b, rfl, hb⟩ := al.get i v r hv hr2
      have sb2 := sb.same (same_upd (o := .tup [.int (i : Nat), .ref b]) nU)
      have tb2 := tb.same (same_upd (o := .tup [.int (i : Nat), .ref b]) nU)
      have hU : (upd H1 U (.tup [.int (i : Nat), .ref b])) U = some (.tup [.int (i : Nat), .ref b]) := upd_same
      generalize upd H1 U (.tup [.int (i : Nat), .ref b]) = H2 at sb2 tb2 hU
      refine ⟨U, _, rfl, .of hU, rfl, _, _, rfl, _, _, rfl, rfl, ?_⟩
      have s2 := sb2.new nR
      refine ⟨_, rfl, _, rfl, _, rfl, a, t, i, wd, rfl, ⟨qs, s2 _ _ ha, refs_same s2 al⟩, hw, fun H3 p s3 np hp => ?_⟩
      refine ⟨wd, hw, p, flags wd fun h => VapktBase.ruleFor t h == some i, rfl, .of hp, flags_len _ _, fun H4 p2 qs2 s4 np2 hp2 al2 => ?_⟩
      have s34 := s3.trans s4
      have sb4 := sb2.same s34
      have tb4 := tb2.same s34
      obtain ⟨qR, hR4, _⟩ := tb4.ex
      have np2R : p2 ≠ R := (ne_of_none (tb2.same s3 |>.ex.choose_spec.1) np2).symm
      refine ⟨p2, rfl, ⟨qs2, .of hp2⟩, for_list (K := K) (a := p2) (xs := qs2) (fun k σ H' => ∃ y5 y6, σ = [some (.ref a), some (.int wd), some (.ref R), some (.int (i : Nat)), some (.ref b), y5, y6] ∧ SameBut R H4 H' ∧
          TableAt C H' R (apartTo wd t i ++ ((pats wd (flags wd fun h => VapktBase.ruleFor t h == some i)).take k).map fun p => ⟨mkPat p, r.action⟩))
        ⟨y5, y6, rfl, SameBut.refl R H4, by simpa using tb4⟩ (fun k σ H' _ ⟨_, _, _, sb5, _⟩ => .of (sb5 _ _ np2R hp2)) ?_ ?_⟩
      · rintro k x σ H5 hk ⟨y5, y6, rfl, sb5, tb5⟩
        obtain ⟨pr, hpr⟩ : ∃ pr, (pats wd (flags wd fun h => VapktBase.ruleFor t h == some i))[k]? = some pr := by
          obtain ⟨c, _⟩ := List.getElem?_eq_some_iff.mp hk
          exact ⟨_, List.getElem?_eq_getElem (by rw [← al2.len]; exact c)⟩
        obtain ⟨tt, rfl, htt⟩ := al2.get k x pr hk hpr
        have ntR : tt ≠ R := ne_of htt hR4 (by intro z; cases z)
        have sbA := SameBut.trans sb4 sb5
        obtain ⟨dx, ac, m1, m2⟩ := (hb.same (sbA.new nR)).ex
        obtain ⟨qR5, hR5, alR⟩ := tb5.ex
        refine ⟨tt, _, rfl, .of (sb5 _ _ ntR htt), rfl, _, _, rfl, _, _, rfl, rfl, ?_⟩
        refine ⟨_, rfl, .inl ⟨rfl, _, .of hR5⟩, _, rfl, _, rfl, by show 2 ≤ sizeLine; decide, fun y ny => ?_⟩
        have s6 : Same H5 (upd H5 y (.lst [V.int (pr.1 : Int), V.int (pr.2 : Int)])) := same_upd ny
        have hy : (upd H5 y (.lst [V.int (pr.1 : Int), V.int (pr.2 : Int)])) y = some (.lst [V.int (pr.1 : Int), V.int (pr.2 : Int)]) := upd_same
        generalize upd H5 y (.lst [V.int (pr.1 : Int), V.int (pr.2 : Int)]) = H6 at s6 hy
        have ln : (actL r.action).length ≤ 4 := by
          cases r.action with
          | drop => exact (by decide : 1 ≤ 4)
          | send u pt => exact Nat.le_refl 4
        refine ⟨_, rfl, b, C, dx, _, _, rfl, s6 _ _ m1, T.cl, T.nA, rF_action r ac, y, ac, _, _, rfl, rfl, hy, s6 _ _ m2, sizeLine_le (by show 2 + _ ≤ _; omega), fun z nz => ?_⟩
        have s7 : Same H6 (upd H6 z (.lst ([V.int (pr.1 : Int), V.int (pr.2 : Int)] ++ actL r.action))) := same_upd nz
        have hz : (upd H6 z (.lst ([V.int (pr.1 : Int), V.int (pr.2 : Int)] ++ actL r.action))) z = some (.lst ((VapktBase.flatRule ⟨mkPat pr, r.action⟩).map V.int)) := by
          rw [upd_same]
          rfl
        generalize upd H6 z (.lst ([V.int (pr.1 : Int), V.int (pr.2 : Int)] ++ actL r.action)) = H7 at s7 hz
        intro x dx2 nx ndx nex
        refine ⟨x, dx2, z, ⟨mkPat pr, r.action⟩, rfl, upd_same, ?_, fun H8 hr8 kp => ⟨rfl, ?_⟩⟩
        · have e : z ≠ x := ne_of_none hz nx
          have e' : z ≠ dx2 := ne_of_none hz ndx
          rw [upd_ne e, upd_ne e']
          exact hz
        have s8 : Same H5 H8 := (s6.trans s7).trans (Same.made nx ndx kp)
        have hR8 := s8 _ _ hR5
        refine ⟨R, _, _, rfl, rfl, hR8, ?_, _, _, rfl, (sb5.same s8).upd, ?_⟩
        · rw [alR.len, List.length_append, List.length_map, List.length_take]
          have h1 := apartTo_len wd t i (by have := (List.getElem?_eq_some_iff.mp hr2).1; omega)
          have h2 : 2 ^ wd * i ≤ 128 * 8 := Nat.mul_le_mul h7 (by have := (List.getElem?_eq_some_iff.mp hr2).1; omega)
          have h3 := pats_len wd (flags wd fun h => VapktBase.ruleFor t h == some i)
          exact sizeLine_of (by omega)
        · rw [take_more hpr, List.map_append, ← List.append_assoc]
          refine ⟨_, upd_same, Al.snoc (alR.mono fun q' r' ⟨b, e, k⟩ => ⟨b, e, ?_⟩) ⟨x, rfl, ?_⟩⟩
          · exact (k.same s8).but hR8 (tab_refs alR) (SameBut.refl R _).upd
          · exact hr8.but hR8 (tab_refs alR) (SameBut.refl R _).upd
      · rintro σ H5 ⟨y5, y6, rfl, sb5, tb5⟩
        refine ⟨_, _, _, _, rfl, SameBut.trans sb4 sb5, ?_⟩
        rw [al2.len, List.take_length] at tb5
        rw [apartTo_more hr2]
        exact tb5
    · rintro σ H1 ⟨y3, y4, y5, y6, rfl, sb, tb⟩
      rw [al.len, apartTo_all] at tb
      exact ⟨_, rfl, q H1 R (sb.new nR) nR tb⟩
end
end RT
set_option linter.all false
/-! The mathematics of the sets that are told. -/
namespace RT
open VapktBase
/-- an outcome's first number -/
def codeO : Vapktb.Outcome → Int
  | .hole => 0
  | .dropped => 1
  | .sent p _ => 2 + (p : Int)
theorem outL_head (o : Vapktb.Outcome) : (outL o)[0]? = some (codeO o) := by cases o <;> rfl
theorem code_hole (t : Table) (h : Nat) : decide (codeO (Vapktb.outcome t h) = 0) = (ruleFor t h == none) := by
  unfold Vapktb.outcome
  cases ruleFor t h with
  | none => rfl
  | some i =>
    show decide (codeO (Vapktb.outcomeBy (actionAt t i) h) = 0) = false
    cases actionAt t i with
    | drop => rfl
    | send r p => exact decide_eq_false (by show ¬ (2 + (p : Int) = 0); omega)
theorem code_to (o : Vapktb.Outcome) (p : Nat) : decide (codeO o = 2 + (p : Int)) = Vapktb.isTo p o := by
  cases o with
  | hole => exact decide_eq_false (by show ¬ ((0 : Int) = 2 + (p : Int)); omega)
  | dropped => exact decide_eq_false (by show ¬ ((1 : Int) = 2 + (p : Int)); omega)
  | sent q k =>
    show decide (2 + (q : Int) = 2 + (p : Int)) = (q == p)
    rw [Bool.eq_iff_iff, decide_eq_true_iff, beq_iff_eq]
    omega
theorem isTo_sent {o : Vapktb.Outcome} {p : Nat} (h : Vapktb.isTo p o = true) : ∃ k, o = .sent p k := by
  cases o with
  | hole => cases h
  | dropped => cases h
  | sent q k => exact ⟨k, by rw [eq_of_beq (show (q == p) = true from h)]⟩
/-- the header as which one is sent lies within the bits -/
theorem sent_lt {w : Nat} {t : Table} (hw : WfAll w t) {h p k : Nat} (hh : h < 2 ^ w) (e : Vapktb.outcome t h = .sent p k) : k < 2 ^ w ∧ p < 6 := by
  unfold Vapktb.outcome at e
  cases er : ruleFor t h with
  | none =>
    rw [er] at e
    cases e
  | some i =>
    rw [er] at e
    obtain ⟨r, hr⟩ : ∃ r, t[i]? = some r := ⟨_, List.getElem?_eq_getElem (ruleFor_lt er)⟩
    have e2 : Vapktb.outcomeBy (actionAt t i) h = .sent p k := e
    rw [actionAt_get hr] at e2
    have wa := (hw.get hr).a
    cases ea : r.action with
    | drop =>
      rw [ea] at e2
      cases e2
    | send u q =>
      rw [ea] at e2 wa
      have e3 : Vapktb.Outcome.sent q (rewritten u h) = .sent p k := e2
      injection e3 with e4 e5
      obtain ⟨w1, w2, w3, w4⟩ := wa
      rw [← e4, ← e5]
      exact ⟨rewritten_lt w2 hh, w4⟩
/-! ### the headers as which they are sent -/
/-- of the first n headers -/
def outsTo (t : Table) (p n j : Nat) : Bool := (List.range n).any fun h => Vapktb.outcome t h == .sent p j
theorem outsTo_more (t : Table) (p n j : Nat) : outsTo t p (n + 1) j = (outsTo t p n j || (Vapktb.outcome t n == .sent p j)) := by
  unfold outsTo
  rw [List.range_succ, List.any_append]
  simp
theorem comes_fold (t : Table) (p : Nat) : ∀ (n i : Nat), ((List.range n).foldl (fun s h => match Vapktb.outcome t h with
  | .sent q k => if q = p then either s (one k) else s
  | _ => s) 0).testBit i = outsTo t p n i
  | 0, i => by
    show (0 : Nat).testBit i = _
    rw [Nat.zero_testBit]
    rfl
  | n + 1, i => by
    rw [List.range_succ, List.foldl_append, List.foldl_cons, List.foldl_nil, outsTo_more]
    have ih := comes_fold t p n i
    generalize (List.range n).foldl _ 0 = s at ih
    rw [← ih]
    cases e : Vapktb.outcome t n with
    | hole =>
      show s.testBit i = (s.testBit i || (Vapktb.Outcome.hole == Vapktb.Outcome.sent p i))
      rw [show (Vapktb.Outcome.hole == Vapktb.Outcome.sent p i) = false from rfl, Bool.or_false]
    | dropped =>
      show s.testBit i = (s.testBit i || (Vapktb.Outcome.dropped == Vapktb.Outcome.sent p i))
      rw [show (Vapktb.Outcome.dropped == Vapktb.Outcome.sent p i) = false from rfl, Bool.or_false]
    | sent q k =>
      show (if q = p then either s (one k) else s).testBit i = (s.testBit i || (Vapktb.Outcome.sent q k == Vapktb.Outcome.sent p i))
      have eb : (Vapktb.Outcome.sent q k == Vapktb.Outcome.sent p i) = (decide (q = p) && decide (k = i)) := by
        rw [Bool.eq_iff_iff, beq_iff_eq, Bool.and_eq_true, decide_eq_true_iff, decide_eq_true_iff]
        simp
      rw [eb]
      by_cases c : q = p
      · rw [if_pos c, decide_eq_true c, Bool.true_and]
        show (s ||| 2 ^ k).testBit i = _
        rw [Nat.testBit_or, Nat.testBit_two_pow]
      · rw [if_neg c, decide_eq_false c, Bool.false_and, Bool.or_false]
theorem comes_told {w : Nat} {t : Table} (hw : WfAll w t) (p : Nat) : Vapktb.setTold w (Vapktb.comesOut w t p) = tellPats (pats w (flags w (outsTo t p (2 ^ w)))) := by
  have e : Vapktb.comesOut w t p = bitsN (flags w (outsTo t p (2 ^ w))) := by
    refine set_bits (flags_len w _) fun i => ?_
    refine Eq.trans (comes_fold t p (2 ^ w) i) ?_
    rw [flags_getD]
    by_cases c : i < 2 ^ w
    · rw [decide_eq_true c, Bool.true_and]
    · rw [decide_eq_false c, Bool.false_and]
      unfold outsTo
      rw [List.any_eq_false]
      intro h hh
      have hl := List.mem_range.mp hh
      intro z
      exact c (sent_lt hw hl (eq_of_beq z)).1
  rw [e, setTold_bits w _ (flags_len w _)]
/-- one flag more -/
theorem flags_sent {w : Nat} {t : Table} {p n k : Nat} (e : Vapktb.outcome t n = .sent p k) : (flags w (outsTo t p n)).set k true = flags w (outsTo t p (n + 1)) := by
  apply List.ext_getElem?
  intro i
  rw [List.getElem?_set]
  by_cases c : i < 2 ^ w
  · rw [flags_get w _ i c, flags_get w _ i c, flags_len, outsTo_more, e]
    by_cases q : k = i
    · subst q
      rw [if_pos rfl, if_pos c]
      rw [beq_self_eq_true, Bool.or_true]
    · rw [if_neg q]
      have eb : (Vapktb.Outcome.sent p k == Vapktb.Outcome.sent p i) = false := beq_eq_false_iff_ne.mpr (by
        intro z
        injection z with _ z2
        exact q z2)
      rw [eb, Bool.or_false]
  · have h1 : (flags w (outsTo t p n))[i]? = none := List.getElem?_eq_none (by rw [flags_len]; omega)
    have h2 : (flags w (outsTo t p (n + 1)))[i]? = none := List.getElem?_eq_none (by rw [flags_len]; omega)
    rw [h1, h2, flags_len]
    by_cases q : k = i
    · rw [if_pos q, if_neg (by rw [q]; exact c)]
    · rw [if_neg q]
theorem flags_other {w : Nat} {t : Table} {p n : Nat} (e : Vapktb.isTo p (Vapktb.outcome t n) = false) : flags w (outsTo t p n) = flags w (outsTo t p (n + 1)) := by
  unfold flags
  apply List.map_congr_left
  intro i _
  rw [outsTo_more]
  have eb : (Vapktb.outcome t n == .sent p i) = false := beq_eq_false_iff_ne.mpr (by
    intro z
    rw [z] at e
    have : (p == p) = false := e
    rw [beq_self_eq_true] at this
    cases this)
  rw [eb, Bool.or_false]
theorem flags_none (w : Nat) (t : Table) (p : Nat) : flags w (outsTo t p 0) = List.replicate (2 ^ w) false := by
  unfold flags
  show (List.range (2 ^ w)).map (fun _ => false) = _
  rw [List.map_const']
  simp
/-! ### numbers below one another -/
theorem below_some {n : Int} {m : Nat} (h : 0 ≤ n ∧ n < (m : Int)) : Vapktb.belowN n m = some n.toNat := if_pos h
theorem below_none {n : Int} {m : Nat} (h : ¬ (0 ≤ n ∧ n < (m : Int))) : Vapktb.belowN n m = none := if_neg h
end RT
set_option linter.all false
/-! What each call answers, a table's number being right. -/
namespace RT
open VapktBase
section
variable {st : Vapktb.State} {k : Nat}
theorem below_tab (hk : k < 2) : Vapktb.belowN (k : Int) 2 = some k := by
  unfold Vapktb.belowN
  rw [if_pos ⟨by omega, by show (k : Int) < 2; omega⟩, Int.toNat_natCast]
theorem withTable_eq (hk : k < 2) (f : Nat → VapktBase.Table → Vapktb.State × Vapktb.Answer) : Vapktb.withTable st (k : Int) f = f k (Vapktb.tableAt st k) := by
  unfold Vapktb.withTable
  rw [below_tab hk]
theorem look_eq (hk : k < 2) (f : VapktBase.Table → Vapktb.Answer) : Vapktb.look st (k : Int) f = (st, f (Vapktb.tableAt st k)) := by
  unfold Vapktb.look
  rw [withTable_eq hk]
theorem step_table (hk : k < 2) (row : List Int) : Vapktb.step st (.table (k : Int) row) = (match Vapktb.tableOf st.wide row with
    | none => (st, [-1])
    | some t => Vapktb.setTable st k t [Vapktb.int t.length]) := withTable_eq (st := st) hk (fun k _ => (match Vapktb.tableOf st.wide row with
    | none => (st, [-1])
    | some t => Vapktb.setTable st k t [Vapktb.int t.length]))
theorem step_put (hk : k < 2) (i : Int) (row : List Int) : Vapktb.step st (.put (k : Int) i row) = (match Vapktb.belowN i ((Vapktb.tableAt st k).length + 1) with
  | none => (st, [-3])
  | some j => match Vapktb.ruleOf st.wide row with
    | none => (st, [-1])
    | some r => if VapktBase.RULES ≤ (Vapktb.tableAt st k).length then (st, [-5]) else Vapktb.setTable st k ((Vapktb.tableAt st k).take j ++ r :: (Vapktb.tableAt st k).drop j) [Vapktb.int ((Vapktb.tableAt st k).length + 1)]) :=
  withTable_eq (st := st) hk (fun k t => (match Vapktb.belowN i (t.length + 1) with
  | none => (st, [-3])
  | some j => match Vapktb.ruleOf st.wide row with
    | none => (st, [-1])
    | some r => if VapktBase.RULES ≤ t.length then (st, [-5]) else Vapktb.setTable st k (t.take j ++ r :: t.drop j) [Vapktb.int (t.length + 1)]))
theorem step_take (hk : k < 2) (i : Int) : Vapktb.step st (.take (k : Int) i) = (match Vapktb.belowN i (Vapktb.tableAt st k).length with
    | none => (st, [-3])
    | some j => Vapktb.setTable st k ((Vapktb.tableAt st k).eraseIdx j) [Vapktb.int ((Vapktb.tableAt st k).length - 1)]) :=
  withTable_eq (st := st) hk (fun k t => (match Vapktb.belowN i t.length with
    | none => (st, [-3])
    | some j => Vapktb.setTable st k (t.eraseIdx j) [Vapktb.int (t.length - 1)]))
theorem step_shown (hk : k < 2) : Vapktb.step st (.shown (k : Int)) = (st, VapktBase.flatTable (Vapktb.tableAt st k)) := look_eq hk VapktBase.flatTable
theorem step_does (hk : k < 2) (h : Int) : Vapktb.step st (.does (k : Int) h) = (st, match Vapktb.belowN h (VapktBase.headers st.wide) with
  | none => [-3]
  | some x => Vapktb.outcomeTold (Vapktb.tableAt st k) x) := look_eq (st := st) hk (fun t => match Vapktb.belowN h (VapktBase.headers st.wide) with
  | none => [-3]
  | some x => Vapktb.outcomeTold t x)
theorem step_own (hk : k < 2) (i : Int) : Vapktb.step st (.own (k : Int) i) = (st, match Vapktb.belowN i (Vapktb.tableAt st k).length with
    | none => [-3]
    | some j => Vapktb.setTold st.wide (Vapktb.ownSet st.wide (Vapktb.tableAt st k) j)) := look_eq (st := st) hk (fun t => match Vapktb.belowN i t.length with
    | none => [-3]
    | some j => Vapktb.setTold st.wide (Vapktb.ownSet st.wide t j))
theorem step_hole (hk : k < 2) : Vapktb.step st (.hole (k : Int)) = (st, Vapktb.setTold st.wide (Vapktb.holeSet st.wide (Vapktb.tableAt st k))) := look_eq (st := st) hk (fun t => Vapktb.setTold st.wide (Vapktb.holeSet st.wide t))
theorem onPort_eq (hk : k < 2) (p : Int) (f : VapktBase.Table → Nat → Vapktb.Answer) : Vapktb.onPort st (k : Int) p f = (st, match Vapktb.belowN p VapktBase.PORTS with
  | none => [-3]
  | some x => f (Vapktb.tableAt st k) x) := look_eq (st := st) hk (fun t => match Vapktb.belowN p VapktBase.PORTS with
  | none => [-3]
  | some x => f t x)
theorem step_to (hk : k < 2) (p : Int) : Vapktb.step st (.to (k : Int) p) = (st, match Vapktb.belowN p VapktBase.PORTS with
  | none => [-3]
  | some x => Vapktb.setTold st.wide (Vapktb.toSet st.wide (Vapktb.tableAt st k) x)) := onPort_eq (st := st) hk p (fun t k => Vapktb.setTold st.wide (Vapktb.toSet st.wide t k))
theorem step_out (hk : k < 2) (p : Int) : Vapktb.step st (.out (k : Int) p) = (st, match Vapktb.belowN p VapktBase.PORTS with
  | none => [-3]
  | some x => Vapktb.setTold st.wide (Vapktb.comesOut st.wide (Vapktb.tableAt st k) x)) := onPort_eq (st := st) hk p (fun t k => Vapktb.setTold st.wide (Vapktb.comesOut st.wide t k))
theorem step_from (hk : k < 2) (p : Int) (row : List Int) : Vapktb.step st (.from_ (k : Int) p row) = (st, match Vapktb.belowN p VapktBase.PORTS with
  | none => [-3]
  | some x => match Vapktb.setOfPatterns st.wide row with
    | none => [-1]
    | some y => Vapktb.setTold st.wide (Vapktb.fromSet st.wide (Vapktb.tableAt st k) x y)) := onPort_eq (st := st) hk p (fun t k => (match Vapktb.setOfPatterns st.wide row with
    | none => [-1]
    | some x => Vapktb.setTold st.wide (Vapktb.fromSet st.wide t k x)))
theorem step_idle (hk : k < 2) : Vapktb.step st (.idle (k : Int)) = (st, Vapktb.listed (Vapktb.idle st.wide (Vapktb.tableAt st k))) := look_eq (st := st) hk (fun t => Vapktb.listed (Vapktb.idle st.wide t))
theorem step_spare (hk : k < 2) : Vapktb.step st (.spare (k : Int)) = (st, Vapktb.listed (Vapktb.spare st.wide (Vapktb.tableAt st k))) := look_eq (st := st) hk (fun t => Vapktb.listed (Vapktb.spare st.wide t))
theorem step_turn (hk : k < 2) (i : Int) : Vapktb.step st (.turn (k : Int) i) = (st, match Vapktb.belowN i ((Vapktb.tableAt st k).length - 1) with
    | none => [-3]
    | some j => [if Vapktb.canTurn st.wide (Vapktb.tableAt st k) j then 1 else 0]) := look_eq (st := st) hk (fun t => match Vapktb.belowN i (t.length - 1) with
    | none => [-3]
    | some j => [if Vapktb.canTurn st.wide t j then 1 else 0])
theorem step_small (hk : k < 2) : Vapktb.step st (.small (k : Int)) = Vapktb.setTable st k (Vapktb.small st.wide (Vapktb.tableAt st k)).2 (Vapktb.int (Vapktb.small st.wide (Vapktb.tableAt st k)).1.length :: (Vapktb.small st.wide (Vapktb.tableAt st k)).1.flatMap Vapktb.lessTold) :=
  withTable_eq (st := st) hk (fun k t => let x := Vapktb.small st.wide t
    Vapktb.setTable st k x.2 (Vapktb.int x.1.length :: x.1.flatMap Vapktb.lessTold))
theorem step_apart (hk : k < 2) : Vapktb.step st (.apart (k : Int)) = (st, VapktBase.flatTable (Vapktb.apart st.wide (Vapktb.tableAt st k))) := look_eq (st := st) hk (fun t => let x := Vapktb.apart st.wide t
    Vapktb.int x.length :: x.flatMap VapktBase.flatRule)
theorem step_why (hk : k < 2) (h : Int) : Vapktb.step st (.why (k : Int) h) = (st, match Vapktb.belowN h (VapktBase.headers st.wide) with
  | none => [-3]
  | some x => Vapktb.listed (Vapktb.whyNot st.wide (Vapktb.tableAt st k) x)) := look_eq (st := st) hk (fun t => match Vapktb.belowN h (VapktBase.headers st.wide) with
  | none => [-3]
  | some x => Vapktb.listed (Vapktb.whyNot st.wide t x))
theorem step_counts (hk : k < 2) : Vapktb.step st (.counts (k : Int)) = (st, Vapktb.int (Vapktb.tableAt st k).length :: ((List.range (Vapktb.tableAt st k).length).map fun i => Vapktb.int (VapktBase.size st.wide (Vapktb.ownSet st.wide (Vapktb.tableAt st k) i))) ++ [Vapktb.int (VapktBase.size st.wide (Vapktb.holeSet st.wide (Vapktb.tableAt st k)))]) :=
  look_eq (st := st) hk (fun t => Vapktb.int t.length :: ((List.range t.length).map fun i => Vapktb.int (VapktBase.size st.wide (Vapktb.ownSet st.wide t i))) ++ [Vapktb.int (VapktBase.size st.wide (Vapktb.holeSet st.wide t))])
end
end RT
set_option Elab.async false
set_option linter.all false
set_option maxRecDepth 100000
set_option maxHeartbeats 4000000
/-! The desk, and how a call changes it. -/
namespace RT
open PySem PySem.Spec PyProof.Rows L2
abbrev sDesk : Stmt := topS 42
abbrev sDInit : Stmt := inClass sDesk 0
abbrev sBc : Stmt := topS 43
theorem scDInit : FnScope ["self"] ["self"] (defScope sDInit) := ⟨rfl, rfl, rfl, by decide +kernel, rfl, by decide +kernel, by decide +kernel⟩
theorem scBc : FnScope ["found"] ["found"] (defScope sBc) := ⟨rfl, rfl, rfl, by decide +kernel, rfl, by decide +kernel, by decide +kernel⟩
def deskF (w : Nat) (a : Addr) : List (Str × V) := [("width", .int (w : Nat)), ("tables", .ref a)]
theorem dF_wide (w : Nat) (a : Addr) : (deskF w a).lookup ("width" : Str) = some (.int (w : Nat)) := lk_here
theorem dF_tabs (w : Nat) (a : Addr) : (deskF w a).lookup ("tables" : Str) = some (.ref a) := (lk_past (by decide +kernel)).trans lk_here
theorem dF_putW (w : Nat) (a : Addr) (v : Nat) : putF "width" (.int (v : Nat)) (deskF w a) = deskF v a := put_here
theorem dF_putT (w : Nat) (a b : Addr) : putF "tables" (.ref b) (deskF w a) = deskF w b := (put_past (by decide +kernel)).trans (congrArg (fun l => ((("width" : String) : Str), V.int (w : Nat)) :: l) put_here)
theorem dF_new (w : Nat) (a : Addr) : putF "tables" (.ref a) (putF "width" (.int (w : Nat)) []) = deskF w a := by
  have e1 : putF "width" (.int (w : Nat)) [] = [((("width" : String) : Str), V.int (w : Nat))] := rfl
  rw [e1, put_past (by decide +kernel)]
  rfl
structure DeskTxt (K : PySem.W.Frag) (CD : Addr) : Prop where
  cl : Cls K CD
  nW : NoAttr K CD "width"
  nT : NoAttr K CD "tables"
/-- the desk at d; what of it may change: D -/
structure DeskAt (C CD : Addr) (H : Hp) (d : Addr) (D : List Addr) (st : Vapktb.State) : Prop where
  ex : ∃ dx a p q t0 t1, D = [d, a, p, q] ∧ H d = some (.ins CD dx (deskF st.wide a)) ∧ H a = some (.lst [.ref p, .ref q]) ∧ a ≠ p ∧ a ≠ q ∧ p ≠ q ∧ st.tables = [t0, t1] ∧ TableAt C H p t0 ∧ TableAt C H q t1 ∧ WfTab st.wide t0 ∧ WfTab st.wide t1 ∧ 1 ≤ st.wide ∧ st.wide ≤ 7
theorem DeskAt.same {C CD : Addr} {H H' : Hp} (s : Same H H') {d : Addr} {D : List Addr} {st : Vapktb.State} (h : DeskAt C CD H d D st) : DeskAt C CD H' d D st := by
  obtain ⟨dx, a, p, q, t0, t1, e, h1, h2, n1, n2, n3, h3, h4, h5, r⟩ := h.ex
  exact ⟨dx, a, p, q, t0, t1, e, s _ _ h1, s _ _ h2, n1, n2, n3, h3, h4.same s, h5.same s, r⟩
theorem DeskAt.w7 {C CD : Addr} {H : Hp} {d : Addr} {D : List Addr} {st : Vapktb.State} (h : DeskAt C CD H d D st) : 1 ≤ st.wide ∧ st.wide ≤ 7 := by
  obtain ⟨dx, a, p, q, t0, t1, e, h1, h2, n1, n2, n3, h3, h4, h5, w0, w1, r⟩ := h.ex
  exact r
/-- the k-th table -/
structure TabK (C CD : Addr) (H : Hp) (d : Addr) (D : List Addr) (st : Vapktb.State) (k : Nat) (dx a p : Addr) (pl : List V) : Prop where
  fd : H d = some (.ins CD dx (deskF st.wide a))
  fa : H a = some (.lst pl)
  fp : pl[k]? = some (.ref p)
  fm : p ∈ D
  ft : TableAt C H p (Vapktb.tableAt st k)
  fw : WfTab st.wide (Vapktb.tableAt st k)
theorem DeskAt.tab {C CD : Addr} {H : Hp} {d : Addr} {D : List Addr} {st : Vapktb.State} (h : DeskAt C CD H d D st) {k : Nat} (hk : k < 2) : ∃ dx a p pl, TabK C CD H d D st k dx a p pl := by
  obtain ⟨dx, a, p, q, t0, t1, e, h1, h2, n1, n2, n3, h3, h4, h5, w0, w1, r⟩ := h.ex
  match k, hk with
  | 0, _ =>
    have et : Vapktb.tableAt st 0 = t0 := by unfold Vapktb.tableAt; rw [h3]; rfl
    exact ⟨dx, a, p, _, h1, h2, rfl, by rw [e]; simp, by rw [et]; exact h4, by rw [et]; exact w0⟩
  | 1, _ =>
    have et : Vapktb.tableAt st 1 = t1 := by unfold Vapktb.tableAt; rw [h3]; rfl
    exact ⟨dx, a, q, _, h1, h2, rfl, by rw [e]; simp, by rw [et]; exact h5, by rw [et]; exact w1⟩
/-- what is not the desk's is as it was -/
def Out (D : List Addr) (H H' : Hp) : Prop := ∀ b o, b ∉ D → H b = some o → H' b = some o
theorem same_out {D : List Addr} {H H' : Hp} (s : Same H H') : Out D H H' := fun b o _ h => s b o h
def stWith (st : Vapktb.State) (k : Nat) (t : List R') : Vapktb.State := { st with tables := st.tables.set k t }
/-- the k-th table's list is written -/
theorem DeskAt.wr {C CD : Addr} {H H' : Hp} {d : Addr} {D : List Addr} {st : Vapktb.State} (h : DeskAt C CD H d D st) {k : Nat} (hk : k < 2) {dx a p : Addr} {pl : List V} (T : TabK C CD H d D st k dx a p pl) {t : List R'} (sb : SameBut p H H') (ht : TableAt C H' p t) (hw : WfTab st.wide t) :
    DeskAt C CD H' d D (stWith st k t) ∧ Out D H H' := by
  obtain ⟨dx', a', p0, q0, t0, t1, e, h1, h2, n1, n2, n3, h3, h4, h5, w0, w1, r⟩ := h.ex
  obtain ⟨qs, hp, al⟩ := T.ft.ex
  have hd : d ≠ p := ne_of h1 hp (by intro z; cases z)
  have ea : a' = a := by
    have e1 := Option.some.inj (h1.symm.trans T.fd)
    injection e1 with _ _ e2
    have e3 := dF_tabs st.wide a'
    rw [e2, dF_tabs] at e3
    injection e3 with e4
    injection e4 with e5
    exact e5.symm
  subst ea
  have epl : pl = [.ref p0, .ref q0] := by
    have e1 := Option.some.inj (h2.symm.trans T.fa)
    injection e1 with e2
    exact e2.symm
  have Tp := T.fp
  rw [epl] at Tp
  have ot : Out D H H' := fun b o nb hb => sb b o (fun z => nb (by rw [z]; exact T.fm)) hb
  have keep : ∀ {x : Addr} {u : List R'}, x ≠ p → TableAt C H x u → TableAt C H' x u := fun {x u} nx hx => by
    obtain ⟨qs2, k1, k2⟩ := hx.ex
    exact ⟨qs2, sb _ _ nx k1, k2.mono fun q r ⟨b, e, kk⟩ => ⟨b, e, kk.but hp (tab_refs al) sb⟩⟩
  match k, hk with
  | 0, _ =>
    have ep : p0 = p := by
      have := Option.some.inj Tp
      injection this
    subst ep
    exact ⟨⟨dx', a', p0, q0, t, t1, e, sb _ _ hd h1, sb _ _ n1 h2, n1, n2, n3, by unfold stWith; rw [h3]; rfl, ht, keep n3.symm h5, hw, w1, r⟩, ot⟩
  | 1, _ =>
    have ep : q0 = p := by
      have := Option.some.inj Tp
      injection this
    subst ep
    exact ⟨⟨dx', a', p0, q0, t0, t, e, sb _ _ hd h1, sb _ _ n2 h2, n1, n2, n3, by unfold stWith; rw [h3]; rfl, keep n3 h4, ht, w0, hw, r⟩, ot⟩
/-- another list stands for the k-th table -/
theorem DeskAt.st {C CD : Addr} {H H' : Hp} {d : Addr} {D : List Addr} {st : Vapktb.State} (h : DeskAt C CD H d D st) {k : Nat} (hk : k < 2) {dx a p n : Addr} {pl : List V} (T : TabK C CD H d D st k dx a p pl) {t : List R'} (hn : H n = none) (s : Same H H') (ht : TableAt C H' n t) (hw : WfTab st.wide t) :
    ∃ D', DeskAt C CD (upd H' a (.lst (pl.set k (.ref n)))) d D' (stWith st k t) ∧ Out D H (upd H' a (.lst (pl.set k (.ref n)))) ∧ ∀ x ∈ D', x ∈ D ∨ H x = none := by
  obtain ⟨dx', a', p0, q0, t0, t1, e, h1, h2, n1, n2, n3, h3, h4, h5, w0, w1, r⟩ := h.ex
  have ea : a' = a := by
    have e1 := Option.some.inj (h1.symm.trans T.fd)
    injection e1 with _ _ e2
    have e3 := dF_tabs st.wide a'
    rw [e2, dF_tabs] at e3
    injection e3 with e4
    injection e4 with e5
    exact e5.symm
  subst ea
  have epl : pl = [.ref p0, .ref q0] := by
    have e1 := Option.some.inj (h2.symm.trans T.fa)
    injection e1 with e2
    exact e2.symm
  subst epl
  have hd : d ≠ a' := ne_of h1 h2 (by intro z; cases z)
  have na : n ≠ a' := (ne_of_none h2 hn).symm
  have ha' := s _ _ h2
  have refs : ∀ q ∈ ([.ref p0, .ref q0] : List V), ∃ c, q = V.ref c := fun q hq => by
    simp at hq
    rcases hq with rfl | rfl
    · exact ⟨_, rfl⟩
    · exact ⟨_, rfl⟩
  have sb : SameBut a' H' (upd H' a' (.lst (([.ref p0, .ref q0] : List V).set k (.ref n)))) := (SameBut.refl a' H').upd
  have keep : ∀ {x : Addr} {u : List R'}, x ≠ a' → TableAt C H' x u → TableAt C (upd H' a' (.lst (([.ref p0, .ref q0] : List V).set k (.ref n)))) x u := fun {x u} nx hx => by
    obtain ⟨qs2, k1, k2⟩ := hx.ex
    exact ⟨qs2, sb _ _ nx k1, k2.mono fun q r ⟨b, e, kk⟩ => ⟨b, e, kk.but ha' refs sb⟩⟩
  have ot : Out D H (upd H' a' (.lst (([.ref p0, .ref q0] : List V).set k (.ref n)))) := fun b o nb hb => by
    rw [upd_ne (fun z => nb (by rw [z, e]; simp))]
    exact s _ _ hb
  have nn : ∀ {x : Addr} {u : List R'}, TableAt C H x u → n ≠ x := fun {x u} hx => by
    obtain ⟨qs2, k1, _⟩ := hx.ex
    exact (ne_of_none k1 hn).symm
  match k, hk with
  | 0, _ =>
    refine ⟨[d, a', n, q0], ⟨dx', a', n, q0, t, t1, rfl, (upd_ne hd).trans (s _ _ h1), upd_same, na.symm, n2, nn h5, by unfold stWith; rw [h3]; rfl, keep na ht, keep n2.symm (h5.same s), hw, w1, r⟩, ot, fun x hx => ?_⟩
    simp at hx
    rw [e]
    rcases hx with rfl | rfl | rfl | rfl
    · exact .inl (by simp)
    · exact .inl (by simp)
    · exact .inr hn
    · exact .inl (by simp)
  | 1, _ =>
    refine ⟨[d, a', p0, n], ⟨dx', a', p0, n, t0, t, rfl, (upd_ne hd).trans (s _ _ h1), upd_same, n1, na.symm, (nn h4).symm, by unfold stWith; rw [h3]; rfl, keep n1.symm (h4.same s), keep na ht, w0, hw, r⟩, ot, fun x hx => ?_⟩
    simp at hx
    rw [e]
    rcases hx with rfl | rfl | rfl | rfl
    · exact .inl (by simp)
    · exact .inl (by simp)
    · exact .inl (by simp)
    · exact .inr hn
theorem free_upd {H : Hp} {a z : Addr} {o : HO} (h : upd H a o z = none) : H z = none := by
  by_cases e : z = a
  · subst e
    rw [upd_same] at h
    cases h
  · rw [upd_ne e] at h
    exact h
/-! ### what a call's function promises -/
def RetCmd (C CD : Addr) (H : Hp) (Q : VK) (d : Addr) (D : List Addr) (st : Vapktb.State) (call : Vapktb.Call) : Prop := ∀ (H' : Hp) (p : Addr) (D' : List Addr), H p = none → DeskAt C CD H' d D' (Vapktb.step st call).1 → Out D H H' → (∀ x ∈ D', x ∈ D ∨ H x = none) →
  H' p = some (.lst ((Vapktb.step st call).2.map V.int)) → Q (.ref p) H'
theorem RetCmd.look {C CD : Addr} {H : Hp} {Q : VK} {d : Addr} {D : List Addr} {st : Vapktb.State} {call : Vapktb.Call} (h : RetCmd C CD H Q d D st call) (hD : DeskAt C CD H d D st) {ans : List Int} (hs : Vapktb.step st call = (st, ans)) {H' : Hp} {p : Addr} (s : Same H H') (nf : H p = none) (hp : H' p = some (.lst (ans.map V.int))) : Q (.ref p) H' := by
  refine h H' p D nf ?_ (same_out s) (fun x hx => .inl hx) ?_
  · rw [hs]
    exact hD.same s
  · rw [hs]
    exact hp
def spCmd (C CD : Addr) (pre : List Int → List Int → Vapktb.Call → Prop) : Sp := fun vs H Q _ => ∃ (d b c : Addr) (D : List Addr) (st : Vapktb.State) (ns row : List Int) (call : Vapktb.Call), vs = [.ref d, .ref b, .ref c] ∧ DeskAt C CD H d D st ∧ H b = some (.lst (ns.map V.int)) ∧ H c = some (.lst (row.map V.int)) ∧ row.length ≤ 60 ∧ pre ns row call ∧ RetCmd C CD H Q d D st call
/-- one number: a table's -/
def preT (g : Int → Vapktb.Call) : List Int → List Int → Vapktb.Call → Prop := fun ns _ call => ∃ k : Nat, k < 2 ∧ ns = [(k : Int)] ∧ call = g k
/-- a table's number and another -/
def preN (g : Int → Int → Vapktb.Call) : List Int → List Int → Vapktb.Call → Prop := fun ns _ call => ∃ (k : Nat) (n : Int), k < 2 ∧ ns = [(k : Int), n] ∧ call = g k n
def preR (g : Int → List Int → Vapktb.Call) : List Int → List Int → Vapktb.Call → Prop := fun ns row call => ∃ k : Nat, k < 2 ∧ ns = [(k : Int)] ∧ call = g k row
def preNR (g : Int → Int → List Int → Vapktb.Call) : List Int → List Int → Vapktb.Call → Prop := fun ns row call => ∃ (k : Nat) (n : Int), k < 2 ∧ ns = [(k : Int), n] ∧ call = g k n row
def preW : List Int → List Int → Vapktb.Call → Prop := fun ns _ call => ∃ n : Int, ns = [n] ∧ call = .wide n
def pre0 (g : Vapktb.Call) : List Int → List Int → Vapktb.Call → Prop := fun _ _ call => call = g
theorem spCmd_len {C CD : Addr} {pre : List Int → List Int → Vapktb.Call → Prop} : ∀ vs H Q E, spCmd C CD pre vs H Q E → vs.length = 3 := fun vs H Q E h => by
  obtain ⟨d, b, c, D, st, ns, row, call, rfl, _⟩ := h
  rfl
/-! ### desk.tables[numbers[0]] -/
def tTab (K : PySem.W.Frag) : TE := tOp (rIxL K) (tFld K (tVar 0) "tables") (tOp (rIxL K) (tVar 1) (tC (.int 0)))
theorem rd_tab {K : PySem.W.Frag} {C CD : Addr} {H : Hp} {d b : Addr} {D : List Addr} {st : Vapktb.State} {k : Nat} {dx a p : Addr} {pl : List V} (T : DeskTxt K CD) (t : TabK C CD H d D st k dx a p pl) {r : List Int} (hb : H b = some (.lst (((k : Int) :: r).map V.int))) {σ : L2.St} {Q : VK} (h0 : σ[0]? = some (some (.ref d))) (h1 : σ[1]? = some (some (.ref b))) (q : Q (.ref p) H) : tTab K σ H Q :=
  ⟨_, h0, d, CD, dx, _, _, rfl, t.fd, T.cl, T.nT, dF_tabs _ _, _, h1, b, _, 0, _, rfl, rfl, .of hb, atI_nat (j := 0) rfl, a, _, _, _, rfl, rfl, .of t.fa, atI_nat t.fp, q⟩
section
variable {P : Program} {w : World} {K : PySem.W.Frag} {mg : Str → Option Value} {base : Heap} {C CD : Addr}
/-- a new desk -/
def spDInit (C CD : Addr) : Sp := fun vs H Q _ => ∃ (x dx : Addr), vs = [.ref x] ∧ H x = some (.ins CD dx []) ∧
  ∀ (H' : Hp) (D : List Addr), DeskAt C CD H' x D Vapktb.start → (∀ b o, H b = some o → b ≠ x → H' b = some o) → (∀ y ∈ D, y = x ∨ H y = none) → Q .non H'
theorem mak_desk (D : IDef K mg "Desk" CD "Desk.__init__" sDInit ["self"]) (T : DeskTxt K CD) : Mak P w K mg base 1 "Desk" CD (spDInit C CD) := by
  refine mak_mk D scDInit (fun vs H Q E h => ?_) (fun f cdv A outer s H vs Q E hr h => ?_)
  · obtain ⟨x, dx, rfl, _⟩ := h
    rfl
  · obtain ⟨x, dx, rfl, hx, q⟩ := h
    refine ⟨_, pss_cons (ps_fld (pv 0) pe_int rfl) (pss_one (ps_fld (pv 0) (pe_lst (pa_cons (pe_lst pa_nil) (pa_cons (pe_lst pa_nil) pa_nil))) rfl)), ?_⟩
    refine ⟨_, rfl, x, CD, dx, _, rfl, hx, T.cl, T.nW, by show 0 < 1000; decide, ?_⟩
    refine ⟨Nat.zero_le _, fun p np => ⟨Nat.zero_le _, fun q' nq => ⟨by show 2 ≤ sizeLine; decide, fun a na => ?_⟩⟩⟩
    have npx : x ≠ p := ne_of_none upd_same np
    have k1 : (upd (upd H x (.ins CD dx (putF "width" (.int 4) []))) p (.lst [])) x = some (.ins CD dx (putF "width" (.int 4) [])) := (upd_ne npx).trans upd_same
    have nqx : x ≠ q' := ne_of_none k1 nq
    have npq : p ≠ q' := ne_of_none upd_same nq
    have k2 := (upd_ne (o := .lst []) nqx).trans k1
    have k3 : (upd (upd (upd H x (.ins CD dx (putF "width" (.int 4) []))) p (.lst [])) q' (.lst [])) p = some (.lst []) := (upd_ne npq).trans upd_same
    have nax : x ≠ a := ne_of_none k2 na
    have nap : p ≠ a := ne_of_none k3 na
    have naq : q' ≠ a := ne_of_none upd_same na
    have k4 := (upd_ne (o := .lst [.ref p, .ref q']) nax).trans k2
    refine ⟨_, rfl, x, CD, dx, _, rfl, k4, T.cl, T.nT, by show 1 < 1000; decide, ?_⟩
    rw [show putF "tables" (.ref a) (putF "width" (.int 4) []) = deskF 4 a from dF_new 4 a]
    refine q _ [x, a, p, q'] ⟨dx, a, p, q', [], [], rfl, upd_same, ?_, nap.symm, naq.symm, npq, rfl, ⟨[], ?_, .nil⟩, ⟨[], ?_, .nil⟩, ⟨by decide, fun _ h => nomatch h⟩, ⟨by decide, fun _ h => nomatch h⟩, by decide, by decide⟩ (fun b o hb nb => ?_) (fun y hy => ?_)
    · rw [upd_ne nax.symm, upd_same]
    · rw [upd_ne npx.symm, upd_ne nap]
      exact k3
    · rw [upd_ne nqx.symm, upd_ne naq, upd_same]
    · have e1 : (upd H x (.ins CD dx (putF "width" (.int 4) []))) b = some o := (upd_ne nb).trans hb
      have nbp : b ≠ p := ne_of_none e1 np
      have e2 := (upd_ne (o := .lst []) nbp).trans e1
      have nbq : b ≠ q' := ne_of_none e2 nq
      have e3 := (upd_ne (o := .lst []) nbq).trans e2
      have nba : b ≠ a := ne_of_none e3 na
      rw [upd_ne nb, upd_ne nba]
      exact e3
    · simp at hy
      rcases hy with rfl | rfl | rfl | rfl
      · exact .inl rfl
      · rw [upd_ne naq.symm, upd_ne nap.symm, upd_ne nax.symm] at na
        exact .inr na
      · rw [upd_ne npx.symm] at np
        exact .inr np
      · rw [upd_ne npq.symm, upd_ne nqx.symm] at nq
        exact .inr nq
/-- behind how many they are -/
def spBc : Sp := fun vs H Q _ => ∃ (a : Addr) (ns : List Int), vs = [.ref a] ∧ H a = some (.lst (ns.map V.int)) ∧ ns.length ≤ 1000 ∧ ∀ (H' : Hp) (p : Addr), Same H H' → H p = none → H' p = some (.lst (((ns.length : Int) :: ns).map V.int)) → Q (.ref p) H'
theorem cal_bc (D : Def K mg "behind_count" sBc ["found"]) (ml : mg "len" = none) : Cal P w K mg base 1 "behind_count" spBc := by
  refine cal_mk D scBc (fun vs H Q E h => ?_) (fun f cdv A outer s H vs Q E hr h => ?_)
  · obtain ⟨a, ns, rfl, _⟩ := h
    rfl
  · obtain ⟨a, ns, rfl, ha, hl, q⟩ := h
    refine ⟨_, pss_one (ps_ret (pe_op op_cat (pe_lst (pa_cons (pe_len ml (pv 0)) pa_nil)) (pv 0))), ?_⟩
    refine ⟨_, rfl, a, _, rfl, .inl (.of ha), by show 1 ≤ sizeLine; decide, fun x nx => ?_⟩
    have s1 := same_upd (o := .lst [V.int ((ns.map V.int).length : Nat)]) nx
    refine ⟨_, rfl, x, a, _, _, rfl, rfl, upd_same, s1 _ _ ha, sizeLine_le (by rw [List.length_map]; show 1 + _ ≤ _; omega), fun y ny => ?_⟩
    refine q _ y (s1.trans (same_upd ny)) (s1.free ny) ?_
    rw [upd_same, List.length_map]
    rfl
end
end RT
set_option Elab.async false
set_option linter.all false
set_option maxRecDepth 100000
set_option maxHeartbeats 4000000
/-! wide, table, put, take, shown. -/
namespace RT
open PySem PySem.Spec PyProof.Rows L2
abbrev sWide : Stmt := topS 44
abbrev sTable : Stmt := topS 45
abbrev sPut : Stmt := topS 46
abbrev sTake : Stmt := topS 47
abbrev sShown : Stmt := topS 48
abbrev n3 : List Str := ["desk", "numbers", "row"]
theorem scWide : FnScope n3 n3 (defScope sWide) := ⟨rfl, rfl, rfl, by decide +kernel, rfl, by decide +kernel, by decide +kernel⟩
abbrev nTable : List Str := ["desk", "numbers", "row", "rules"]
theorem scTable : FnScope nTable n3 (defScope sTable) := ⟨rfl, rfl, rfl, by decide +kernel, rfl, by decide +kernel, by decide +kernel⟩
abbrev nPut : List Str := ["desk", "numbers", "row", "rules", "place", "rule"]
theorem scPut : FnScope nPut n3 (defScope sPut) := ⟨rfl, rfl, rfl, by decide +kernel, rfl, by decide +kernel, by decide +kernel⟩
abbrev nTake : List Str := ["desk", "numbers", "row", "rules"]
theorem scTake : FnScope nTake n3 (defScope sTake) := ⟨rfl, rfl, rfl, by decide +kernel, rfl, by decide +kernel, by decide +kernel⟩
theorem scShown : FnScope n3 n3 (defScope sShown) := ⟨rfl, rfl, rfl, by decide +kernel, rfl, by decide +kernel, by decide +kernel⟩
section
variable {P : Program} {w : World} {K : PySem.W.Frag} {mg : Str → Option Value} {base : Heap} {C CD : Addr}
theorem cal_wide (D : Def K mg "wide" sWide n3) (T : DeskTxt K CD) : Cal P w K mg base 1 "wide" (spCmd C CD preW) := by
  refine cal_mk D scWide spCmd_len (fun f cdv A outer s H vs Q E hr h => ?_)
  obtain ⟨d, b, c, D, st, ns, row, call, rfl, hD, hb, hc, hrow, ⟨n, rfl, rfl⟩, q⟩ := h
  refine ⟨_, pss_cons (ps_if (pt_not (pt_chain op_le op_le pe_int (pe_ix ix_list (pv 1) pe_int (fun _ _ => rfl)) pe_int)) (pss_one (ps_ret (pe_lst (pa_cons (pe_un un_neg pe_int) pa_nil)))) pss_nil)
    (pss_cons (ps_fld (pv 0) (pe_ix ix_list (pv 1) pe_int (fun _ _ => rfl)) rfl)
    (pss_cons (ps_fld (pv 0) (pe_lst (pa_cons (pe_lst pa_nil) (pa_cons (pe_lst pa_nil) pa_nil))) rfl)
    (pss_one (ps_ret (pe_lst (pa_cons pe_int pa_nil)))))), ?_⟩
  have hbad : ¬ (1 ≤ n ∧ n ≤ 7) → ∀ p, H p = none → Q (.ref p) (upd H p (.lst [V.int (-1)])) := fun hn p np => by
    refine q.look hD (ans := [-1]) ?_ (same_upd np) np upd_same
    show (if 1 ≤ n ∧ n ≤ Vapktb.int VapktBase.WIDE then _ else _) = _
    exact if_neg hn
  refine ⟨_, rfl, b, _, 0, _, rfl, rfl, .of hb, atI_nat (j := 0) rfl, _, _, rfl, rfl, _, rfl, ite2 (fun c1 => ?_) (fun c1 => ?_)⟩
  case refine_2 => exact ⟨_, rfl, iteT ⟨_, rfl, by show 1 ≤ sizeLine; decide, hbad fun z => c1 (decide_eq_true z.1)⟩⟩
  have c1' := of_decide_eq_true c1
  refine ⟨_, _, rfl, rfl, _, rfl, ?_⟩
  by_cases c2 : n ≤ 7
  case neg =>
    rw [decide_eq_false c2]
    exact iteT ⟨_, rfl, by show 1 ≤ sizeLine; decide, hbad fun z => c2 z.2⟩
  rw [decide_eq_true c2]
  refine iteF ?_
  obtain ⟨v, rfl⟩ := Int.eq_ofNat_of_zero_le (show 0 ≤ n by omega)
  obtain ⟨dx, a, p, q', t0, t1, e, h1, h2, n1, n2, n3', h3, h4, h5, w0, w1, r⟩ := hD.ex
  refine ⟨_, rfl, b, _, 0, _, rfl, rfl, .of hb, atI_nat (j := 0) rfl, _, rfl, d, CD, dx, _, rfl, h1, T.cl, T.nW, by show 2 < 1000; decide, ?_⟩
  rw [show putF "width" (V.int (v : Int)) (deskF st.wide a) = deskF v a from dF_putW st.wide a v]
  refine ⟨Nat.zero_le _, fun p1 np1 => ⟨Nat.zero_le _, fun q1 nq1 => ⟨by show 2 ≤ sizeLine; decide, fun a1 na1 => ?_⟩⟩⟩
  have m1 : d ≠ p1 := ne_of_none upd_same np1
  have k1 := (upd_ne (o := .lst []) m1).trans (upd_same (H := H) (a := d) (o := .ins CD dx (deskF v a)))
  have m2 : d ≠ q1 := ne_of_none k1 nq1
  have m3 : p1 ≠ q1 := ne_of_none upd_same nq1
  have k2 := (upd_ne (o := .lst []) m2).trans k1
  have k3 : (upd (upd (upd H d (.ins CD dx (deskF v a))) p1 (.lst [])) q1 (.lst [])) p1 = some (.lst []) := (upd_ne m3).trans upd_same
  have m4 : d ≠ a1 := ne_of_none k2 na1
  have m5 : p1 ≠ a1 := ne_of_none k3 na1
  have m6 : q1 ≠ a1 := ne_of_none upd_same na1
  have k4 := (upd_ne (o := .lst [.ref p1, .ref q1]) m4).trans k2
  refine ⟨_, rfl, d, CD, dx, _, rfl, k4, T.cl, T.nT, by show 2 < 1000; decide, ?_⟩
  rw [dF_putT]
  refine ⟨by show 1 ≤ sizeLine; decide, fun z nz => ?_⟩
  have es : Vapktb.step st (.wide (v : Int)) = (⟨v, [[], []]⟩, [0]) := by
    show (if 1 ≤ (v : Int) ∧ (v : Int) ≤ Vapktb.int VapktBase.WIDE then _ else _) = _
    rw [if_pos (show 1 ≤ (v : Int) ∧ (v : Int) ≤ Vapktb.int VapktBase.WIDE from ⟨c1', c2⟩), Int.toNat_natCast]
  have m7 : d ≠ z := ne_of_none upd_same nz
  have j1 : (upd (upd (upd (upd (upd H d (.ins CD dx (deskF v a))) p1 (.lst [])) q1 (.lst [])) a1 (.lst [.ref p1, .ref q1])) d (.ins CD dx (deskF v a1))) a1 = some (.lst [.ref p1, .ref q1]) := by
    rw [upd_ne m4.symm, upd_same]
  have j2 : (upd (upd (upd (upd (upd H d (.ins CD dx (deskF v a))) p1 (.lst [])) q1 (.lst [])) a1 (.lst [.ref p1, .ref q1])) d (.ins CD dx (deskF v a1))) p1 = some (.lst []) := by
    rw [upd_ne m1.symm, upd_ne m5]
    exact k3
  have j3 : (upd (upd (upd (upd (upd H d (.ins CD dx (deskF v a))) p1 (.lst [])) q1 (.lst [])) a1 (.lst [.ref p1, .ref q1])) d (.ins CD dx (deskF v a1))) q1 = some (.lst []) := by
    rw [upd_ne m2.symm, upd_ne m6, upd_same]
  refine q _ z [d, a1, p1, q1] (free_upd (free_upd (free_upd (free_upd (free_upd nz))))) ?_ (fun b' o nb hb' => ?_) (fun x hx => ?_) ?_
  · rw [es]
    exact ⟨dx, a1, p1, q1, [], [], rfl, (upd_ne m7).trans upd_same, (upd_ne (ne_of_none j1 nz)).trans j1, m5.symm, m6.symm, m3, rfl, ⟨[], (upd_ne (ne_of_none j2 nz)).trans j2, .nil⟩, ⟨[], (upd_ne (ne_of_none j3 nz)).trans j3, .nil⟩, ⟨by decide, fun _ h => nomatch h⟩, ⟨by decide, fun _ h => nomatch h⟩, by show 1 ≤ v; omega, by show v ≤ 7; omega⟩
  · have nd : b' ≠ d := fun z => nb (by rw [z, e]; simp)
    have e1 := (upd_ne (o := .ins CD dx (deskF v a)) nd).trans hb'
    have e2 := (upd_ne (o := .lst []) (ne_of_none e1 np1)).trans e1
    have e3 := (upd_ne (o := .lst []) (ne_of_none e2 nq1)).trans e2
    have e4 := (upd_ne (o := .lst [.ref p1, .ref q1]) (ne_of_none e3 na1)).trans e3
    have e5 := (upd_ne (o := .ins CD dx (deskF v a1)) nd).trans e4
    exact (upd_ne (ne_of_none e5 nz)).trans e5
  · simp at hx
    rcases hx with rfl | rfl | rfl | rfl
    · exact .inl (by rw [e]; simp)
    · rw [upd_ne m6.symm, upd_ne m5.symm, upd_ne m4.symm] at na1
      exact .inr na1
    · rw [upd_ne m1.symm] at np1
      exact .inr np1
    · rw [upd_ne m3.symm, upd_ne m2.symm] at nq1
      exact .inr nq1
  · rw [es]
    exact upd_same
theorem ixN2 {k : Nat} (hk : k < 2) : ixN 2 (k : Int) = some k := by
  match k, hk with
  | 0, _ => rfl
  | 1, _ => rfl
theorem cal_table (D : Def K mg "table" sTable n3) (T : DeskTxt K CD) (ml : mg "len" = none) (cr : Cal P w K mg base 4 "read_rules" (spRds K C)) : Cal P w K mg base 5 "table" (spCmd C CD (preR .table)) := by
  refine cal_mk D scTable spCmd_len (fun f cdv A outer s H vs Q E hr h => ?_)
  obtain ⟨d, b, c, D, st, ns, row, call, rfl, hD, hb, hc, hrow, ⟨k, hk, rfl, rfl⟩, q⟩ := h
  refine ⟨_, pss_cons (ps_set (i := 3) scTable.nd rfl (.inl rfl) (pe_c cr hr (pa_cons (pv 2) (pa_cons (pe_fld (pv 0) rfl) pa_nil))))
    (pss_cons (ps_if (pt_cmp (pc_isN (pv 3))) (pss_one (ps_ret (pe_lst (pa_cons (pe_un un_neg pe_int) pa_nil)))) pss_nil)
    (pss_cons (ps_asg (pv 3) (pg_sub (pe_fld (pv 0) rfl) (pe_ix ix_list (pv 1) pe_int (fun _ _ => rfl)) set_list))
    (pss_one (ps_ret (pe_lst (pa_cons (pe_len ml (pv 3)) pa_nil)))))), ?_⟩
  obtain ⟨dx, a, p, pl, t⟩ := hD.tab hk
  have w7 := hD.w7
  have es := step_table (st := st) hk row
  refine ⟨_, rfl, _, rfl, d, CD, dx, _, _, rfl, t.fd, T.cl, T.nW, dF_wide _ _, c, row, st.wide, rfl, .of hc, w7.2, fun en H1 s1 => ?_, fun u eu H1 n s1 nn hn => ?_⟩
  · rw [en] at es
    refine ⟨_, rfl, _, rfl, iteT ⟨_, rfl, by show 1 ≤ sizeLine; decide, fun z nz => ?_⟩⟩
    exact q.look hD es (s1.trans (same_upd nz)) (s1.free nz) upd_same
  · rw [eu] at es
    have hl : pl.length = 2 := by
      obtain ⟨dx', a', p0, q0, t0, t1, e, h1, h2, _⟩ := hD.ex
      have ea : a' = a := by
        have e1 := Option.some.inj (h1.symm.trans t.fd)
        injection e1 with _ _ e2
        have e3 := dF_tabs st.wide a'
        rw [e2, dF_tabs] at e3
        injection e3 with e4
        injection e4 with e5
        exact e5.symm
      rw [ea] at h2
      have e1 := Option.some.inj (h2.symm.trans t.fa)
      injection e1 with e2
      rw [← e2]
      rfl
    obtain ⟨D', g1, g2, g3⟩ := hD.st hk t nn s1 hn (tableOf_wf eu)
    obtain ⟨qs, hq, al⟩ := hn.ex
    have nna : n ≠ a := (ne_of_none t.fa nn).symm
    refine ⟨_, rfl, _, rfl, iteF ⟨_, rfl, _, rfl, d, CD, dx, _, _, rfl, s1 _ _ t.fd, T.cl, T.nT, dF_tabs _ _, _, rfl, b, _, 0, _, rfl, rfl, .of (s1 _ _ hb), atI_nat (j := 0) rfl, a, pl, _, k, rfl, rfl, s1 _ _ t.fa, by rw [hl]; exact ixN2 hk, ?_⟩⟩
    refine ⟨_, rfl, n, qs, rfl, .inl (.of ((upd_ne nna).trans hq)), by show 1 ≤ sizeLine; decide, fun z nz => ?_⟩
    have s2 := same_upd (o := .lst [V.int (qs.length : Nat)]) nz
    refine q _ z D' (s1.free (free_upd nz)) ?_ (fun x o nx hx => s2 _ _ (g2 x o nx hx)) g3 ?_
    · rw [es]
      exact g1.same s2
    · rw [es, upd_same, al.len]
      rfl
end
end RT
set_option Elab.async false
set_option linter.all false
set_option maxRecDepth 100000
set_option maxHeartbeats 4000000
/-! put, take, shown, does, own. -/
namespace RT
open PySem PySem.Spec PyProof.Rows L2
abbrev sDoes : Stmt := topS 49
abbrev sOwn : Stmt := topS 50
abbrev nDoes : List Str := ["desk", "numbers", "row", "rules", "header", "number", "outcome"]
theorem scDoes : FnScope nDoes n3 (defScope sDoes) := ⟨rfl, rfl, rfl, by decide +kernel, rfl, by decide +kernel, by decide +kernel⟩
abbrev nOwn : List Str := ["desk", "numbers", "row", "rules", "number"]
theorem scOwn : FnScope nOwn n3 (defScope sOwn) := ⟨rfl, rfl, rfl, by decide +kernel, rfl, by decide +kernel, by decide +kernel⟩
section
variable {P : Program} {w : World} {K : PySem.W.Frag} {mg : Str → Option Value} {base : Heap} {C CD : Addr}
theorem seqIx_nat {i n : Nat} (h : i < n) : seqIndex? (i : Int) n = some i := by
  unfold seqIndex?
  simp
  omega
theorem cal_put (D : Def K mg "put" sPut n3) (T : DeskTxt K CD) (ml : mg "len" = none) (cr : Cal P w K mg base 5 "read_rule" (spRd1 C)) {t8 : Tok} (g8 : mg "MOST_RULES" = some (.int 8 t8)) : Cal P w K mg base 6 "put" (spCmd C CD (preNR .put)) := by
  refine cal_mk D scPut spCmd_len (fun f cdv A outer s H vs Q E hr h => ?_)
  obtain ⟨d, b, c, D, st, ns, row, call, rfl, hD, hb, hc, hrow, ⟨k, n, hk, rfl, rfl⟩, q⟩ := h
  refine ⟨_, pss_cons (ps_set (i := 3) scPut.nd rfl (.inl rfl) (pe_ix ix_list (pe_fld (pv 0) rfl) (pe_ix ix_list (pv 1) pe_int (fun _ _ => rfl)) (fun _ _ => rfl)))
    (pss_cons (ps_set (i := 4) scPut.nd rfl (.inl rfl) (pe_ix ix_list (pv 1) pe_int (fun _ _ => rfl)))
    (pss_cons (ps_if (pt_not (pt_chain op_le op_le pe_int (pv 4) (pe_len ml (pv 3)))) (pss_one (ps_ret (pe_lst (pa_cons (pe_un un_neg pe_int) pa_nil)))) pss_nil)
    (pss_cons (ps_set (i := 5) scPut.nd rfl (.inl rfl) (pe_c cr hr (pa_cons (pv 2) (pa_cons (pe_fld (pv 0) rfl) pa_nil))))
    (pss_cons (ps_if (pt_cmp (pc_isN (pv 5))) (pss_one (ps_ret (pe_lst (pa_cons (pe_un un_neg pe_int) pa_nil)))) pss_nil)
    (pss_cons (ps_if (pt_cmpR op_eq (pe_len ml (pv 3)) (pe_glob (v := .int 8) (by rfl) g8 ⟨_, rfl⟩) (nomark _)) (pss_one (ps_ret (pe_lst (pa_cons (pe_un un_neg pe_int) pa_nil)))) pss_nil)
    (pss_cons (ps_expr (pe_bm PySem.F.plainAttrs_list PySem.F.slot_list_insert PySem.F.type_list_insert mt_insert (pv 3) (pa_cons (pv 4) (pa_cons (pv 5) pa_nil))))
    (pss_one (ps_ret (pe_lst (pa_cons (pe_len ml (pv 3)) pa_nil)))))))))), ?_⟩
  obtain ⟨dx, a, p, pl, t⟩ := hD.tab hk
  have w7 := hD.w7
  have es := step_put (st := st) hk n row
  obtain ⟨qs, hp, al⟩ := t.ft.ex
  have hl8 := t.fw.1
  refine rd_tab T t hb rfl rfl ?_
  refine ⟨_, rfl, b, _, 1, _, rfl, rfl, .of hb, atI_nat (j := 1) rfl, ?_⟩
  have hbad : ¬ (0 ≤ n ∧ n ≤ (qs.length : Int)) → ∀ z, H z = none → Q (.ref z) (upd H z (.lst [V.int (-3)])) := fun hn z nz => by
    rw [below_none (by rw [← al.len]; omega)] at es
    exact q.look hD es (same_upd nz) nz upd_same
  refine ⟨_, rfl, _, _, rfl, rfl, _, rfl, ite2 (fun c1 => ?_) (fun c1 => ?_)⟩
  case refine_2 => exact ⟨_, rfl, iteT ⟨_, rfl, by show 1 ≤ sizeLine; decide, hbad fun z => c1 (decide_eq_true z.1)⟩⟩
  have c1' : 0 ≤ n := of_decide_eq_true c1
  refine ⟨_, rfl, p, _, rfl, .inl (.of hp), _, _, rfl, rfl, _, rfl, ?_⟩
  by_cases c2 : n ≤ (qs.length : Int)
  case neg =>
    rw [decide_eq_false c2]
    exact iteT ⟨_, rfl, by show 1 ≤ sizeLine; decide, hbad fun z => c2 z.2⟩
  rw [decide_eq_true c2]
  refine iteF ?_
  obtain ⟨i, rfl⟩ := Int.eq_ofNat_of_zero_le c1'
  rw [below_some (show 0 ≤ (i : Int) ∧ (i : Int) < (((Vapktb.tableAt st k).length + 1 : Nat) : Int) by have := al.len; omega), Int.toNat_natCast] at es
  refine ⟨_, rfl, _, rfl, d, CD, dx, _, _, rfl, t.fd, T.cl, T.nW, dF_wide _ _, c, row, st.wide, rfl, hc, by omega, w7.2, fun en H1 s1 => ?_, fun r er H1 x s1 hx => ?_⟩
  · have es' : Vapktb.step st (.put (k : Int) (i : Int) row) = (st, [-1]) := by
      rw [es, en]
    refine ⟨_, rfl, _, rfl, iteT ⟨_, rfl, by show 1 ≤ sizeLine; decide, fun z nz => ?_⟩⟩
    exact q.look hD es' (s1.trans (same_upd nz)) (s1.free nz) upd_same
  have es2 : Vapktb.step st (.put (k : Int) (i : Int) row) = if VapktBase.RULES ≤ (Vapktb.tableAt st k).length then (st, [-5]) else Vapktb.setTable st k ((Vapktb.tableAt st k).take i ++ r :: (Vapktb.tableAt st k).drop i) [Vapktb.int ((Vapktb.tableAt st k).length + 1)] := by
    rw [es, er]
  have hp1 := s1 _ _ hp
  refine ⟨_, rfl, _, rfl, iteF ⟨_, rfl, p, _, rfl, .inl (.of hp1), rfl, _, rfl, ?_⟩⟩
  rw [dec_int]
  by_cases c3 : qs.length = 8
  · rw [show ((qs.length : Int) == 8) = true by rw [beq_iff_eq]; omega]
    rw [if_pos (show VapktBase.RULES ≤ (Vapktb.tableAt st k).length by rw [← al.len, c3]; exact Nat.le_refl 8)] at es2
    exact iteT ⟨_, rfl, by show 1 ≤ sizeLine; decide, fun z nz => q.look hD es2 (s1.trans (same_upd nz)) (s1.free nz) upd_same⟩
  rw [show ((qs.length : Int) == 8) = false by rw [beq_eq_false_iff_ne]; omega]
  rw [if_neg (show ¬ VapktBase.RULES ≤ (Vapktb.tableAt st k).length by rw [← al.len]; show ¬ 8 ≤ _; have := al.len; omega)] at es2
  refine iteF ⟨_, rfl, .inl ⟨rfl, _, .of hp1⟩, _, rfl, _, rfl, p, qs, i, .ref x, rfl, rfl, hp1, sizeLine_of (by have := al.len; omega), by omega, by have := al.len; omega, ?_⟩
  rw [Int.toNat_natCast]
  have sb : SameBut p H (upd H1 p (.lst (qs.take i ++ [V.ref x] ++ qs.drop i))) := (SameBut.same (SameBut.refl p H) s1).upd
  have sb1 : SameBut p H1 (upd H1 p (.lst (qs.take i ++ [V.ref x] ++ qs.drop i))) := (SameBut.refl p H1).upd
  have al1 := refs_same s1 al
  have tb : TableAt C (upd H1 p (.lst (qs.take i ++ [V.ref x] ++ qs.drop i))) p ((Vapktb.tableAt st k).take i ++ r :: (Vapktb.tableAt st k).drop i) := by
    refine ⟨_, upd_same, ?_⟩
    have a2 := ((al1.take i).append (.one ⟨x, rfl, hx⟩)).append (al1.drop i)
    rw [List.append_assoc (List.take i (Vapktb.tableAt st k))] at a2
    exact a2.mono fun q' r' ⟨b, e, kk⟩ => ⟨b, e, kk.but hp1 (tab_refs al1) sb1⟩
  have wf : WfTab st.wide ((Vapktb.tableAt st k).take i ++ r :: (Vapktb.tableAt st k).drop i) := by
    refine ⟨?_, fun y hy => ?_⟩
    · rw [List.length_append, List.length_cons, List.length_take, List.length_drop]
      have := al.len
      omega
    · rcases List.mem_append.mp hy with hy | hy
      · exact t.fw.2 y (List.mem_of_mem_take hy)
      · rcases List.mem_cons.mp hy with rfl | hy
        · exact ruleOf_wf er
        · exact t.fw.2 y (List.mem_of_mem_drop hy)
  obtain ⟨g1, g2⟩ := hD.wr hk t sb tb wf
  refine ⟨_, rfl, p, _, rfl, .inl (.of upd_same), by show 1 ≤ sizeLine; decide, fun z nz => ?_⟩
  have s2 := same_upd (o := .lst [V.int ((qs.take i ++ [V.ref x] ++ qs.drop i).length : Nat)]) nz
  refine q _ z D (s1.free (free_upd nz)) ?_ (fun y o ny hy => s2 _ _ (g2 y o ny hy)) (fun y hy => .inl hy) ?_
  · rw [es2]
    exact g1.same s2
  · rw [es2, upd_same]
    have e1 : (qs.take i ++ [V.ref x] ++ qs.drop i).length = (Vapktb.tableAt st k).length + 1 := by
      rw [List.length_append, List.length_append, List.length_take, List.length_drop, List.length_singleton]
      have := al.len
      omega
    rw [e1]
    rfl
theorem cal_take (D : Def K mg "take" sTake n3) (T : DeskTxt K CD) (ml : mg "len" = none) (ch : Cal P w K mg base 1 "has_rule" (spHas K)) : Cal P w K mg base 2 "take" (spCmd C CD (preN .take)) := by
  refine cal_mk D scTake spCmd_len (fun f cdv A outer s H vs Q E hr h => ?_)
  obtain ⟨d, b, c, D, st, ns, row, call, rfl, hD, hb, hc, hrow, ⟨k, n, hk, rfl, rfl⟩, q⟩ := h
  refine ⟨_, pss_cons (ps_set (i := 3) scTake.nd rfl (.inl rfl) (pe_ix ix_list (pe_fld (pv 0) rfl) (pe_ix ix_list (pv 1) pe_int (fun _ _ => rfl)) (fun _ _ => rfl)))
    (pss_cons (ps_if (pt_not (pt_val (pe_c ch hr (pa_cons (pv 3) (pa_cons (pe_ix ix_list (pv 1) pe_int (fun _ _ => rfl)) pa_nil))))) (pss_one (ps_ret (pe_lst (pa_cons (pe_un un_neg pe_int) pa_nil)))) pss_nil)
    (pss_cons (ps_expr (pe_bm PySem.F.plainAttrs_list PySem.F.slot_list_pop PySem.F.type_list_pop mt_popAt (pv 3) (pa_cons (pe_ix ix_list (pv 1) pe_int (fun _ _ => rfl)) pa_nil)))
    (pss_one (ps_ret (pe_lst (pa_cons (pe_len ml (pv 3)) pa_nil)))))), ?_⟩
  obtain ⟨dx, a, p, pl, t⟩ := hD.tab hk
  have es := step_take (st := st) hk n
  obtain ⟨qs, hp, al⟩ := t.ft.ex
  refine rd_tab T t hb rfl rfl ?_
  refine ⟨_, rfl, _, rfl, b, _, 1, _, rfl, rfl, .of hb, atI_nat (j := 1) rfl, p, qs, n, rfl, .of hp, _, rfl, ?_⟩
  by_cases c1 : 0 ≤ n ∧ n < (qs.length : Int)
  case neg =>
    rw [decide_eq_false c1]
    rw [below_none (by rw [← al.len]; exact c1)] at es
    exact iteT ⟨_, rfl, by show 1 ≤ sizeLine; decide, fun z nz => q.look hD es (same_upd nz) nz upd_same⟩
  rw [decide_eq_true c1]
  rw [below_some (by rw [← al.len]; exact c1)] at es
  obtain ⟨i, rfl⟩ := Int.eq_ofNat_of_zero_le c1.1
  rw [Int.toNat_natCast] at es
  have hi : i < qs.length := by omega
  have hl8 := t.fw.1
  have hl := al.len
  refine iteF ⟨_, rfl, .inl ⟨rfl, _, .of hp⟩, _, rfl, b, _, 1, _, rfl, rfl, .of hb, atI_nat (j := 1) rfl, p, qs, i, i, _, rfl, rfl, hp, by omega, by omega, seqIx_nat hi, List.getElem?_eq_getElem hi, ?_⟩
  have sb : SameBut p H (upd H p (.lst (qs.eraseIdx i))) := (SameBut.refl p H).upd
  have tb : TableAt C (upd H p (.lst (qs.eraseIdx i))) p ((Vapktb.tableAt st k).eraseIdx i) := by
    refine ⟨_, upd_same, ?_⟩
    have a2 := (al.take i).append (al.drop (i + 1))
    rw [← erase_cut, ← erase_cut] at a2
    exact a2.mono fun q' r' ⟨b, e, kk⟩ => ⟨b, e, kk.but hp (tab_refs al) sb⟩
  have wf : WfTab st.wide ((Vapktb.tableAt st k).eraseIdx i) := ⟨by rw [List.length_eraseIdx, if_pos (by omega)]; omega, WfAll.erase t.fw.2 i⟩
  obtain ⟨g1, g2⟩ := hD.wr hk t sb tb wf
  refine ⟨_, rfl, p, _, rfl, .inl (.of upd_same), by show 1 ≤ sizeLine; decide, fun z nz => ?_⟩
  have s2 := same_upd (o := .lst [V.int ((qs.eraseIdx i).length : Nat)]) nz
  refine q _ z D (free_upd nz) ?_ (fun y o ny hy => s2 _ _ (g2 y o ny hy)) (fun y hy => .inl hy) ?_
  · rw [es]
    exact g1.same s2
  · rw [es, upd_same, List.length_eraseIdx, if_pos hi, hl]
    rfl
theorem cal_shown (D : Def K mg "shown" sShown n3) (T : DeskTxt K CD) (cr : Cal P w K mg base 2 "rules_as_numbers" (spRan C)) : Cal P w K mg base 3 "shown" (spCmd C CD (preT .shown)) := by
  refine cal_mk D scShown spCmd_len (fun f cdv A outer s H vs Q E hr h => ?_)
  obtain ⟨d, b, c, D, st, ns, row, call, rfl, hD, hb, hc, hrow, ⟨k, hk, rfl, rfl⟩, q⟩ := h
  refine ⟨_, pss_one (ps_ret (pe_c cr hr (pa_cons (pe_ix ix_list (pe_fld (pv 0) rfl) (pe_ix ix_list (pv 1) pe_int (fun _ _ => rfl)) (fun _ _ => rfl)) pa_nil))), ?_⟩
  obtain ⟨dx, a, p, pl, t⟩ := hD.tab hk
  have es := step_shown (st := st) hk
  refine rd_tab T t hb rfl rfl ?_
  exact ⟨p, _, rfl, t.ft, by have := t.fw.1; omega, fun H1 z s1 nz hz => q.look hD es s1 nz hz⟩
end
end RT
set_option Elab.async false
set_option linter.all false
set_option maxRecDepth 100000
set_option maxHeartbeats 4000000
/-! does, own. -/
namespace RT
open PySem PySem.Spec PyProof.Rows L2
theorem told_hole {t : List R'} {h : Nat} (e : VapktBase.ruleFor t h = none) : Vapktb.outcomeTold t h = [0] := by
  unfold Vapktb.outcomeTold
  rw [e]
theorem told_some {t : List R'} {h i : Nat} {r : R'} (e : VapktBase.ruleFor t h = some i) (hr : t[i]? = some r) : Vapktb.outcomeTold t h = (match Vapktb.outcomeBy r.action h with
    | .sent p k => [2, Vapktb.int i, Vapktb.int p, Vapktb.int k]
    | _ => [1, Vapktb.int i]) := by
  unfold Vapktb.outcomeTold
  rw [e, outcome_some e hr]
  rfl
theorem within_iff {n : Int} {w : Nat} : (0 ≤ n ∧ n < 2 ^ w) ↔ (0 ≤ n ∧ n < ((VapktBase.headers w : Nat) : Int)) := by
  have := pow_cast w
  unfold VapktBase.headers
  rw [this]
section
variable {P : Program} {w : World} {K : PySem.W.Frag} {mg : Str → Option Value} {base : Heap} {C CD : Addr}
theorem cal_does (D : Def K mg "does" sDoes n3) (T : DeskTxt K CD) (TR : RuleTxt K mg C) (cw : Cal P w K mg base 1 "within_bits" spWithin) (cc : Cal P w K mg base 3 "counting_rule" (spCr C)) (co : Met P w K mg base 1 C "outcome" (spOutc C))
    {t1 t2 : Tok} (g1 : mg "DROPPED" = some (.int 1 t1)) (g2 : mg "SENT" = some (.int 2 t2)) : Cal P w K mg base 4 "does" (spCmd C CD (preN .does)) := by
  refine cal_mk D scDoes spCmd_len (fun f cdv A outer s H vs Q E hr h => ?_)
  obtain ⟨d, b, c, D, st, ns, row, call, rfl, hD, hb, hc, hrow, ⟨k, n, hk, rfl, rfl⟩, q⟩ := h
  refine ⟨_, pss_cons (ps_set (i := 3) scDoes.nd rfl (.inl rfl) (pe_ix ix_list (pe_fld (pv 0) rfl) (pe_ix ix_list (pv 1) pe_int (fun _ _ => rfl)) (fun _ _ => rfl)))
    (pss_cons (ps_set (i := 4) scDoes.nd rfl (.inl rfl) (pe_ix ix_list (pv 1) pe_int (fun _ _ => rfl)))
    (pss_cons (ps_if (pt_not (pt_val (pe_c cw hr (pa_cons (pv 4) (pa_cons (pe_fld (pv 0) rfl) pa_nil))))) (pss_one (ps_ret (pe_lst (pa_cons (pe_un un_neg pe_int) pa_nil)))) pss_nil)
    (pss_cons (ps_set (i := 5) scDoes.nd rfl (.inl rfl) (pe_c cc hr (pa_cons (pv 3) (pa_cons (pv 4) pa_nil))))
    (pss_cons (ps_if (pt_cmp (pc_isN (pv 5))) (pss_one (ps_ret (pe_lst (pa_cons pe_int pa_nil)))) pss_nil)
    (pss_cons (ps_set (i := 6) scDoes.nd rfl (.inl rfl) (pe_m TR.cl co hr (pe_ix ix_list (pv 3) (pv 5) (fun _ _ => rfl)) (pa_cons (pv 4) pa_nil)))
    (pss_cons (ps_if (pt_cmpR op_eq (pe_ix ix_list (pv 6) pe_int (fun _ _ => rfl)) (pe_glob (v := .int 1) (by rfl) g1 ⟨_, rfl⟩) (nomark _)) (pss_one (ps_ret (pe_lst (pa_cons pe_int (pa_cons (pv 5) pa_nil))))) pss_nil)
    (pss_one (ps_ret (pe_lst (pa_cons pe_int (pa_cons (pv 5) (pa_cons (pe_op op_sub (pe_ix ix_list (pv 6) pe_int (fun _ _ => rfl)) (pe_glob (v := .int 2) (by rfl) g2 ⟨_, rfl⟩)) (pa_cons (pe_ix ix_list (pv 6) pe_int (fun _ _ => rfl)) pa_nil))))))))))))), ?_⟩
  obtain ⟨dx, a, p, pl, t⟩ := hD.tab hk
  have w7 := hD.w7
  have es := step_does (st := st) hk n
  refine rd_tab T t hb rfl rfl ?_
  refine ⟨_, rfl, b, _, 1, _, rfl, rfl, .of hb, atI_nat (j := 1) rfl, ?_⟩
  refine ⟨_, rfl, _, rfl, d, CD, dx, _, _, rfl, t.fd, T.cl, T.nW, dF_wide _ _, n, st.wide, rfl, w7.2, _, rfl, ?_⟩
  by_cases c1 : 0 ≤ n ∧ n < 2 ^ st.wide
  case neg =>
    rw [decide_eq_false c1]
    rw [below_none (fun z => c1 (within_iff.mpr z))] at es
    exact iteT ⟨_, rfl, by show 1 ≤ sizeLine; decide, fun z nz => q.look hD es (same_upd nz) nz upd_same⟩
  rw [decide_eq_true c1]
  rw [below_some (within_iff.mp c1)] at es
  obtain ⟨h, rfl⟩ := Int.eq_ofNat_of_zero_le c1.1
  rw [Int.toNat_natCast] at es
  refine iteF ⟨_, rfl, _, rfl, p, _, h, rfl, t.ft, fun H1 s1 => ?_⟩
  cases e : VapktBase.ruleFor (Vapktb.tableAt st k) h with
  | none =>
    have es' : Vapktb.step st (.does (k : Int) (h : Int)) = (st, [0]) := by
      rw [es, ← told_hole e]
    exact ⟨_, rfl, _, rfl, iteT ⟨by show 1 ≤ sizeLine; decide, fun z nz => q.look hD es' (s1.trans (same_upd nz)) (s1.free nz) upd_same⟩⟩
  | some i =>
    obtain ⟨r, hr2⟩ : ∃ r, (Vapktb.tableAt st k)[i]? = some r := ⟨_, List.getElem?_eq_getElem (ruleFor_lt e)⟩
    obtain ⟨qs, h1, h2⟩ := (t.ft.same s1).ex
    obtain ⟨q1, hq, x, rfl, hx⟩ := h2.at hr2
    obtain ⟨dx', ac, k1, k2⟩ := hx.ex
    refine ⟨_, rfl, _, rfl, iteF ⟨_, rfl, _, rfl, p, _, _, _, rfl, rfl, .of h1, atI_nat hq, x, dx', _, rfl, k1, rF_none r ac _ (by decide +kernel) (by decide +kernel) (by decide +kernel), _, rfl, x, r, h, st.wide, rfl, hx, (WfAll.get t.fw.2 hr2).a, fun H2 y s2 ny hy => ?_⟩⟩
    have s12 := s1.trans s2
    have et := told_some e hr2
    cases ea : Vapktb.outcomeBy r.action h with
    | hole =>
      cases ha : r.action with
      | drop =>
        rw [ha] at ea
        cases ea
      | send u v =>
        rw [ha] at ea
        cases ea
    | dropped =>
      rw [ea] at hy et
      have es' : Vapktb.step st (.does (k : Int) (h : Int)) = (st, [1, (i : Int)]) := by
        rw [es]
        show (st, Vapktb.outcomeTold (Vapktb.tableAt st k) h) = _
        rw [et]
        rfl
      exact ⟨_, rfl, y, _, 0, _, rfl, rfl, .of hy, atI_nat (j := 0) rfl, rfl, _, rfl, iteT ⟨_, rfl, by show 2 ≤ sizeLine; decide, fun z nz => q.look hD es' (s12.trans (same_upd nz)) (s12.free nz) upd_same⟩⟩
    | sent u v =>
      rw [ea] at hy et
      have es' : Vapktb.step st (.does (k : Int) (h : Int)) = (st, [2, (i : Int), (u : Int), (v : Int)]) := by
        rw [es]
        show (st, Vapktb.outcomeTold (Vapktb.tableAt st k) h) = _
        rw [et]
        rfl
      refine ⟨_, rfl, y, _, 0, _, rfl, rfl, .of hy, atI_nat (j := 0) rfl, rfl, _, rfl, ?_⟩
      rw [show decide (V.int (2 + (u : Int)) = V.int 1) = false from decide_eq_false (by intro z; injection z with z; omega)]
      refine iteF ⟨_, rfl, _, rfl, y, _, 0, _, rfl, rfl, .of hy, atI_nat (j := 0) rfl, _, _, rfl, rfl, _, rfl, y, _, 1, _, rfl, rfl, .of hy, atI_nat (j := 1) rfl, by show 4 ≤ sizeLine; decide, fun z nz => ?_⟩
      refine q.look hD es' (s12.trans (same_upd nz)) (s12.free nz) ?_
      rw [upd_same]
      show some (HO.lst [V.int 2, V.int (i : Nat), V.int (2 + (u : Int) - 2), V.int (v : Int)]) = some (HO.lst [V.int 2, V.int (i : Nat), V.int (u : Int), V.int (v : Int)])
      rw [show 2 + (u : Int) - 2 = (u : Int) by omega]
theorem cal_own (D : Def K mg "own" sOwn n3) (T : DeskTxt K CD) (ch : Cal P w K mg base 1 "has_rule" (spHas K)) (co : Cal P w K mg base 5 "own_headers" (spOwh C)) (cs : Cal P w K mg base 10 "set_as_numbers" (spSet K)) : Cal P w K mg base 11 "own" (spCmd C CD (preN .own)) := by
  refine cal_mk D scOwn spCmd_len (fun f cdv A outer s H vs Q E hr h => ?_)
  obtain ⟨d, b, c, D, st, ns, row, call, rfl, hD, hb, hc, hrow, ⟨k, n, hk, rfl, rfl⟩, q⟩ := h
  refine ⟨_, pss_cons (ps_set (i := 3) scOwn.nd rfl (.inl rfl) (pe_ix ix_list (pe_fld (pv 0) rfl) (pe_ix ix_list (pv 1) pe_int (fun _ _ => rfl)) (fun _ _ => rfl)))
    (pss_cons (ps_set (i := 4) scOwn.nd rfl (.inl rfl) (pe_ix ix_list (pv 1) pe_int (fun _ _ => rfl)))
    (pss_cons (ps_if (pt_not (pt_val (pe_c ch hr (pa_cons (pv 3) (pa_cons (pv 4) pa_nil))))) (pss_one (ps_ret (pe_lst (pa_cons (pe_un un_neg pe_int) pa_nil)))) pss_nil)
    (pss_one (ps_ret (pe_c cs hr (pa_cons (pe_c co hr (pa_cons (pv 3) (pa_cons (pv 4) (pa_cons (pe_fld (pv 0) rfl) pa_nil)))) pa_nil)))))), ?_⟩
  obtain ⟨dx, a, p, pl, t⟩ := hD.tab hk
  have w7 := hD.w7
  have es := step_own (st := st) hk n
  obtain ⟨qs, hp, al⟩ := t.ft.ex
  refine rd_tab T t hb rfl rfl ?_
  refine ⟨_, rfl, b, _, 1, _, rfl, rfl, .of hb, atI_nat (j := 1) rfl, ?_⟩
  refine ⟨_, rfl, _, rfl, p, qs, n, rfl, .of hp, _, rfl, ?_⟩
  by_cases c1 : 0 ≤ n ∧ n < (qs.length : Int)
  case neg =>
    rw [decide_eq_false c1]
    rw [below_none (by rw [← al.len]; exact c1)] at es
    exact iteT ⟨_, rfl, by show 1 ≤ sizeLine; decide, fun z nz => q.look hD es (same_upd nz) nz upd_same⟩
  rw [decide_eq_true c1]
  rw [below_some (by rw [← al.len]; exact c1)] at es
  obtain ⟨i, rfl⟩ := Int.eq_ofNat_of_zero_le c1.1
  rw [Int.toNat_natCast] at es
  refine iteF ⟨_, rfl, _, rfl, _, rfl, d, CD, dx, _, _, rfl, t.fd, T.cl, T.nW, dF_wide _ _, p, _, i, st.wide, rfl, t.ft, w7.2, fun H1 y s1 ny hy => ?_⟩
  refine ⟨y, _, st.wide, rfl, .of hy, flags_len _ _, w7.2, fun H2 z s2 nz hz => ?_⟩
  refine q.look hD es (s1.trans s2) (s1.free nz) ?_
  rw [hz]
  exact congrArg (fun x => some (HO.lst (List.map V.int x))) (setTold_setOf st.wide fun h => VapktBase.ruleFor (Vapktb.tableAt st k) h == some i).symm
end
end RT
set_option Elab.async false
set_option linter.all false
set_option maxRecDepth 100000
set_option maxHeartbeats 4000000
/-! hole, to, out. -/
namespace RT
open PySem PySem.Spec PyProof.Rows L2
abbrev sHole : Stmt := topS 51
abbrev sTo : Stmt := topS 52
abbrev sOut : Stmt := topS 53
abbrev nHole : List Str := ["desk", "numbers", "row", "outcomes", "outcome"]
theorem scHole : FnScope nHole n3 (defScope sHole) := ⟨rfl, rfl, rfl, by decide +kernel, rfl, by decide +kernel, by decide +kernel⟩
abbrev nTo : List Str := ["desk", "numbers", "row", "port", "outcomes", "outcome"]
theorem scTo : FnScope nTo n3 (defScope sTo) := ⟨rfl, rfl, rfl, by decide +kernel, rfl, by decide +kernel, by decide +kernel⟩
abbrev nOut : List Str := ["desk", "numbers", "row", "port", "flags", "outcome"]
theorem scOut : FnScope nOut n3 (defScope sOut) := ⟨rfl, rfl, rfl, by decide +kernel, rfl, by decide +kernel, by decide +kernel⟩
theorem told_flags {w : Nat} {f : Nat → Bool} {s : Nat} (h : s = VapktBase.setOf w f) : Vapktb.setTold w s = tellPats (pats w (flags w f)) := by
  rw [h, setTold_setOf]
section
variable {P : Program} {w : World} {K : PySem.W.Frag} {mg : Str → Option Value} {base : Heap} {C CD : Addr}
theorem cal_hole (D : Def K mg "hole" sHole n3) (T : DeskTxt K CD) (co : Cal P w K mg base 5 "outcomes_at" (spOas C)) (cs : Cal P w K mg base 10 "set_as_numbers" (spSet K)) {t0 : Tok} (g0 : mg "HOLE" = some (.int 0 t0)) : Cal P w K mg base 11 "hole" (spCmd C CD (preT .hole)) := by
  refine cal_mk D scHole spCmd_len (fun f cdv A outer s H vs Q E hr h => ?_)
  obtain ⟨d, b, c, D, st, ns, row, call, rfl, hD, hb, hc, hrow, ⟨k, hk, rfl, rfl⟩, q⟩ := h
  refine ⟨_, pss_cons (ps_set (i := 3) scHole.nd rfl (.inl rfl) (pe_c co hr (pa_cons (pe_ix ix_list (pe_fld (pv 0) rfl) (pe_ix ix_list (pv 1) pe_int (fun _ _ => rfl)) (fun _ _ => rfl)) (pa_cons (pe_fld (pv 0) rfl) pa_nil))))
    (pss_one (ps_ret (pe_c cs hr (pa_cons (pe_lc (own := [("outcome", 4)]) (g := gName 4) (tt := tYes) (te := tOp rEq (tOp (rIxL K) (tVar 4) (tC (.int 0))) (tC (.int 0))) rfl scHole.nd (pi_list (pv 3)) (blkOk_by (N := nHole) (sc := defScope sHole) (by decide +kernel))
      (fun _ _ _ _ _ => pg_name (i := 4) scHole.nd rfl (.inl rfl) (.inr rfl)) (fun _ _ _ _ _ => pts_nil) (fun _ _ _ _ _ => pe_cmpR op_eq (pe_ix ix_list (pv 4) pe_int (fun _ _ => rfl)) (pe_glob (v := .int 0) (by rfl) g0 ⟨_, rfl⟩) (nomark _))) pa_nil)))), ?_⟩
  obtain ⟨dx, a, p, pl, t⟩ := hD.tab hk
  have w7 := hD.w7
  have h7 := pow7 w7.2
  have es := step_hole (st := st) hk
  refine rd_tab T t hb rfl rfl ?_
  refine ⟨_, rfl, d, CD, dx, _, _, rfl, t.fd, T.cl, T.nW, dF_wide _ _, p, _, st.wide, rfl, t.ft, w7.2, t.fw.2, fun H1 o s1 no ho => ?_⟩
  obtain ⟨qs, h1, al⟩ := ho.ex
  refine ⟨_, rfl, o, rfl, ⟨_, .of h1⟩, fun F nF => ?_⟩
  have nFo : o ≠ F := ne_of_none h1 nF
  refine lc_list (K := K) (a := o) (xs := qs) (fun i H' => SameBut F H1 H' ∧ H' F = some (.lst (((List.range i).map fun h => VapktBase.ruleFor (Vapktb.tableAt st k) h == none).map V.bl))) ⟨(SameBut.refl F H1).upd, upd_same⟩ (fun i H' _ ⟨sb, _⟩ => .of (sb _ _ nFo h1)) ?_ ?_
  · rintro i x H2 hi ⟨sb, hF⟩
    have hlt : i < 2 ^ st.wide := by
      have := (List.getElem?_eq_some_iff.mp hi).1
      rw [al.len, outs_len] at this
      exact this
    obtain ⟨z, rfl, hz⟩ := al.get i x _ hi (outs_get _ _ hlt)
    have hz2 := (sb.new nF) _ _ hz
    refine ⟨rfl, _, rfl, z, _, 0, _, rfl, rfl, .of hz2, atI_nat (j := 0) (get_int (outL_head _)), rfl, _, hF, ?_, sb.upd, ?_⟩
    · rw [List.length_map, List.length_map, List.length_range]
      exact sizeLine_of (by omega)
    · rw [upd_same, range_more, List.map_append, ← code_hole]
      rw [show decide (codeO (Vapktb.outcome (Vapktb.tableAt st k) i) = 0) = decide (V.int (codeO (Vapktb.outcome (Vapktb.tableAt st k) i)) = V.int 0) by rw [dec_int]; rfl]
      rfl
  · rintro H2 ⟨sb, hF⟩
    rw [al.len, outs_len] at hF
    have s2 := sb.new nF
    refine ⟨F, flags st.wide fun h => VapktBase.ruleFor (Vapktb.tableAt st k) h == none, st.wide, rfl, .of hF, flags_len _ _, w7.2, fun H3 z s3 nz hz => ?_⟩
    refine q.look hD es ((s1.trans s2).trans s3) ((s1.trans s2).free nz) ?_
    rw [hz]
    exact congrArg (fun x => some (HO.lst (List.map V.int x))) (setTold_setOf st.wide fun h => VapktBase.ruleFor (Vapktb.tableAt st k) h == none).symm
theorem cal_to (D : Def K mg "to" sTo n3) (T : DeskTxt K CD) (cp : Cal P w K mg base 1 "is_port" spPort) (co : Cal P w K mg base 5 "outcomes_at" (spOas C)) (cs : Cal P w K mg base 10 "set_as_numbers" (spSet K)) {t2 : Tok} (g2 : mg "SENT" = some (.int 2 t2)) : Cal P w K mg base 11 "to" (spCmd C CD (preN .to)) := by
  refine cal_mk D scTo spCmd_len (fun f cdv A outer s H vs Q E hr h => ?_)
  obtain ⟨d, b, c, D, st, ns, row, call, rfl, hD, hb, hc, hrow, ⟨k, n, hk, rfl, rfl⟩, q⟩ := h
  refine ⟨_, pss_cons (ps_set (i := 3) scTo.nd rfl (.inr rfl) (pe_ix ix_list (pv 1) pe_int (fun _ _ => rfl)))
    (pss_cons (ps_if (pt_not (pt_val (pe_c cp hr (pa_cons (pv 3) pa_nil)))) (pss_one (ps_ret (pe_lst (pa_cons (pe_un un_neg pe_int) pa_nil)))) pss_nil)
    (pss_cons (ps_set (i := 4) scTo.nd rfl (.inl rfl) (pe_c co hr (pa_cons (pe_ix ix_list (pe_fld (pv 0) rfl) (pe_ix ix_list (pv 1) pe_int (fun _ _ => rfl)) (fun _ _ => rfl)) (pa_cons (pe_fld (pv 0) rfl) pa_nil))))
    (pss_one (ps_ret (pe_c cs hr (pa_cons (pe_lc (own := [("outcome", 5)]) (g := gName 5) (tt := tYes) (te := tOp rEq (tOp (rIxL K) (tVar 5) (tC (.int 0))) (tOp (rI0 fun i j => .int (i + j)) (tC (.int 2)) (tVar 3))) rfl scTo.nd (pi_list (pv 4)) (blkOk_by (N := nTo) (sc := defScope sTo) (by decide +kernel))
      (fun _ _ _ _ _ => pg_name (i := 5) scTo.nd rfl (.inl rfl) (.inr rfl)) (fun _ _ _ _ _ => pts_nil) (fun _ _ _ _ _ => pe_cmpR op_eq (pe_ix ix_list (pv 5) pe_int (fun _ _ => rfl)) (pe_op op_add (pe_glob (v := .int 2) (by rfl) g2 ⟨_, rfl⟩) (pv 3)) (nomark _))) pa_nil)))))), ?_⟩
  obtain ⟨dx, a, p, pl, t⟩ := hD.tab hk
  have w7 := hD.w7
  have h7 := pow7 w7.2
  have es := step_to (st := st) hk n
  refine ⟨_, rfl, b, _, 1, _, rfl, rfl, .of hb, atI_nat (j := 1) rfl, _, rfl, n, rfl, _, rfl, ?_⟩
  by_cases c1 : isPort n
  case neg =>
    rw [decide_eq_false c1]
    rw [below_none (show ¬ (0 ≤ n ∧ n < ((VapktBase.PORTS : Nat) : Int)) from c1)] at es
    exact iteT ⟨_, rfl, by show 1 ≤ sizeLine; decide, fun z nz => q.look hD es (same_upd nz) nz upd_same⟩
  rw [decide_eq_true c1]
  rw [below_some (show (0 ≤ n ∧ n < ((VapktBase.PORTS : Nat) : Int)) from c1)] at es
  obtain ⟨j, rfl⟩ := Int.eq_ofNat_of_zero_le c1.1
  rw [Int.toNat_natCast] at es
  refine iteF ?_
  refine rd_tab T t hb rfl rfl ?_
  refine ⟨_, rfl, d, CD, dx, _, _, rfl, t.fd, T.cl, T.nW, dF_wide _ _, p, _, st.wide, rfl, t.ft, w7.2, t.fw.2, fun H1 o s1 no ho => ?_⟩
  obtain ⟨qs, h1, al⟩ := ho.ex
  refine ⟨_, rfl, o, rfl, ⟨_, .of h1⟩, fun F nF => ?_⟩
  have nFo : o ≠ F := ne_of_none h1 nF
  refine lc_list (K := K) (a := o) (xs := qs) (fun i H' => SameBut F H1 H' ∧ H' F = some (.lst (((List.range i).map fun h => Vapktb.isTo j (Vapktb.outcome (Vapktb.tableAt st k) h)).map V.bl))) ⟨(SameBut.refl F H1).upd, upd_same⟩ (fun i H' _ ⟨sb, _⟩ => .of (sb _ _ nFo h1)) ?_ ?_
  · rintro i x H2 hi ⟨sb, hF⟩
    have hlt : i < 2 ^ st.wide := by
      have := (List.getElem?_eq_some_iff.mp hi).1
      rw [al.len, outs_len] at this
      exact this
    obtain ⟨z, rfl, hz⟩ := al.get i x _ hi (outs_get _ _ hlt)
    have hz2 := (sb.new nF) _ _ hz
    refine ⟨rfl, _, rfl, z, _, 0, _, rfl, rfl, .of hz2, atI_nat (j := 0) (get_int (outL_head _)), _, rfl, _, _, rfl, rfl, rfl, _, hF, ?_, sb.upd, ?_⟩
    · rw [List.length_map, List.length_map, List.length_range]
      exact sizeLine_of (by omega)
    · rw [upd_same, range_more, List.map_append, ← code_to]
      rw [show decide (codeO (Vapktb.outcome (Vapktb.tableAt st k) i) = 2 + (j : Int)) = decide (V.int (codeO (Vapktb.outcome (Vapktb.tableAt st k) i)) = V.int (2 + (j : Int))) by rw [dec_int]; rfl]
      rfl
  · rintro H2 ⟨sb, hF⟩
    rw [al.len, outs_len] at hF
    have s2 := sb.new nF
    refine ⟨F, flags st.wide fun h => Vapktb.isTo j (Vapktb.outcome (Vapktb.tableAt st k) h), st.wide, rfl, .of hF, flags_len _ _, w7.2, fun H3 z s3 nz hz => ?_⟩
    refine q.look hD es ((s1.trans s2).trans s3) ((s1.trans s2).free nz) ?_
    rw [hz]
    exact congrArg (fun x => some (HO.lst (List.map V.int x))) (setTold_setOf st.wide fun h => Vapktb.isTo j (Vapktb.outcome (Vapktb.tableAt st k) h)).symm
theorem cal_out (D : Def K mg "out" sOut n3) (T : DeskTxt K CD) (cp : Cal P w K mg base 1 "is_port" spPort) (co : Cal P w K mg base 5 "outcomes_at" (spOas C)) (cs : Cal P w K mg base 10 "set_as_numbers" (spSet K)) {t2 : Tok} (g2 : mg "SENT" = some (.int 2 t2)) : Cal P w K mg base 11 "out" (spCmd C CD (preN .out)) := by
  refine cal_mk D scOut spCmd_len (fun f cdv A outer s H vs Q E hr h => ?_)
  obtain ⟨d, b, c, D, st, ns, row, call, rfl, hD, hb, hc, hrow, ⟨k, n, hk, rfl, rfl⟩, q⟩ := h
  refine ⟨_, pss_cons (ps_set (i := 3) scOut.nd rfl (.inl rfl) (pe_ix ix_list (pv 1) pe_int (fun _ _ => rfl)))
    (pss_cons (ps_if (pt_not (pt_val (pe_c cp hr (pa_cons (pv 3) pa_nil)))) (pss_one (ps_ret (pe_lst (pa_cons (pe_un un_neg pe_int) pa_nil)))) pss_nil)
    (pss_cons (ps_set (i := 4) scOut.nd rfl (.inl rfl) (pe_op op_rep (pe_lst (pa_cons pe_bl pa_nil)) (pe_op op_shl pe_int (pe_fld (pv 0) rfl))))
    (pss_cons (ps_for PassesOwn.never rfl (pi_list (pe_c co hr (pa_cons (pe_ix ix_list (pe_fld (pv 0) rfl) (pe_ix ix_list (pv 1) pe_int (fun _ _ => rfl)) (fun _ _ => rfl)) (pa_cons (pe_fld (pv 0) rfl) pa_nil)))) (pg_name (i := 5) scOut.nd rfl (.inl rfl))
      (pss_one (ps_if (pt_cmpR op_eq (pe_ix ix_list (pv 5) pe_int (fun _ _ => rfl)) (pe_op op_add (pe_glob (v := .int 2) (by rfl) g2 ⟨_, rfl⟩) (pv 3)) (nomark _)) (pss_one (ps_asg pe_bl (pg_sub (pv 4) (pe_ix ix_list (pv 5) pe_int (fun _ _ => rfl)) set_list))) pss_nil)))
    (pss_one (ps_ret (pe_c cs hr (pa_cons (pv 4) pa_nil))))))), ?_⟩
  obtain ⟨dx, a, p, pl, t⟩ := hD.tab hk
  have w7 := hD.w7
  have h7 := pow7 w7.2
  have es := step_out (st := st) hk n
  refine ⟨_, rfl, b, _, 1, _, rfl, rfl, .of hb, atI_nat (j := 1) rfl, _, rfl, n, rfl, _, rfl, ?_⟩
  by_cases c1 : isPort n
  case neg =>
    rw [decide_eq_false c1]
    rw [below_none (show ¬ (0 ≤ n ∧ n < ((VapktBase.PORTS : Nat) : Int)) from c1)] at es
    exact iteT ⟨_, rfl, by show 1 ≤ sizeLine; decide, fun z nz => q.look hD es (same_upd nz) nz upd_same⟩
  rw [decide_eq_true c1]
  rw [below_some (show (0 ≤ n ∧ n < ((VapktBase.PORTS : Nat) : Int)) from c1)] at es
  obtain ⟨j, rfl⟩ := Int.eq_ofNat_of_zero_le c1.1
  rw [Int.toNat_natCast] at es
  refine iteF ?_
  -- flags
  refine ⟨by show 1 ≤ sizeLine; decide, fun z nz => ?_⟩
  have s1 : Same H (upd H z (.lst [V.bl false])) := same_upd nz
  have hz : (upd H z (.lst [V.bl false])) z = some (.lst [V.bl false]) := upd_same
  generalize upd H z (.lst [V.bl false]) = H1 at s1 hz
  refine ⟨_, rfl, d, CD, dx, _, _, rfl, s1 _ _ t.fd, T.cl, T.nW, dF_wide _ _, _, _, rfl, rfl, ⟨by omega, by omega, by decide⟩, ?_⟩
  have ec : (1 : Int) * 2 ^ ((st.wide : Int)).toNat = ((2 ^ st.wide : Nat) : Int) := shl_int st.wide
  have hr7 := rg62 h7
  refine ⟨z, ((2 ^ st.wide : Nat) : Int), _, rfl, congrArg V.int ec, hz, Int.le_trans (by decide) hr7.1, Int.lt_of_lt_of_le hr7.2 (by decide), ?_, fun F nF => ?_⟩
  · rw [Int.toNat_natCast]
    show 1 * _ ≤ _
    exact sizeLine_le (by omega)
  rw [Int.toNat_natCast]
  have s2 : Same H1 (upd H1 F (.lst (List.replicate (2 ^ st.wide) [V.bl false]).flatten)) := same_upd nF
  have hF : (upd H1 F (.lst (List.replicate (2 ^ st.wide) [V.bl false]).flatten)) F = some (.lst ((flags st.wide (outsTo (Vapktb.tableAt st k) j 0)).map V.bl)) := by
    rw [upd_same, flags_none, List.map_replicate]
    congr 2
    generalize 2 ^ st.wide = m
    induction m with
    | zero => rfl
    | succ m ih =>
      rw [List.replicate_succ, List.flatten_cons, ih]
      rfl
  generalize upd H1 F (.lst (List.replicate (2 ^ st.wide) [V.bl false]).flatten) = H2 at s2 hF
  have s12 := s1.trans s2
  have tF : F ≠ p := by
    obtain ⟨qs, hp, _⟩ := t.ft.ex
    exact (ne_of_none (s1 _ _ hp) nF).symm
  -- the outcomes
  refine rd_tab (H := H2) T ⟨s12 _ _ t.fd, s12 _ _ t.fa, t.fp, t.fm, t.ft.same s12, t.fw⟩ (s12 _ _ hb) rfl rfl ?_
  refine ⟨_, rfl, d, CD, dx, _, _, rfl, s12 _ _ t.fd, T.cl, T.nW, dF_wide _ _, p, _, st.wide, rfl, t.ft.same s12, w7.2, t.fw.2, fun H3 o s3 no ho => ?_⟩
  obtain ⟨qs, h1, al⟩ := ho.ex
  have hF3 := s3 _ _ hF
  have nFo : o ≠ F := (ne_of_none hF no).symm
  refine ⟨o, rfl, ⟨_, .of h1⟩, for_list (K := K) (a := o) (xs := qs) (fun i σ H' => ∃ y, σ = [some (.ref d), some (.ref b), some (.ref c), some (.int (j : Nat)), some (.ref F), y] ∧ SameBut F H3 H' ∧ H' F = some (.lst ((flags st.wide (outsTo (Vapktb.tableAt st k) j i)).map V.bl)))
    ⟨none, rfl, SameBut.refl F H3, hF3⟩ (fun i σ H' _ ⟨_, _, sb, _⟩ => .of (sb _ _ nFo h1)) ?_ ?_⟩
  · rintro i x σ H4 hi ⟨y, rfl, sb, hF4⟩
    have hlt : i < 2 ^ st.wide := by
      have := (List.getElem?_eq_some_iff.mp hi).1
      rw [al.len, outs_len] at this
      exact this
    obtain ⟨z2, rfl, hz2⟩ := al.get i x _ hi (outs_get _ _ hlt)
    have nzF : z2 ≠ F := by
      intro e
      rw [e, hF3] at hz2
      have e2 := Option.some.inj hz2
      injection e2 with e3
      have e4 := congrArg (fun l => l[0]?) e3
      have e5 : ((flags st.wide (outsTo (Vapktb.tableAt st k) j 0)).map V.bl)[0]? = some (.bl (outsTo (Vapktb.tableAt st k) j 0 0)) := by
        rw [List.getElem?_map, flags_get _ _ _ (Nat.two_pow_pos _)]
        rfl
      have e6 : ((outL (Vapktb.outcome (Vapktb.tableAt st k) i)).map V.int)[0]? = some (.int (codeO (Vapktb.outcome (Vapktb.tableAt st k) i))) := get_int (outL_head _)
      rw [e5, e6] at e4
      cases e4
    have hz4 := sb _ _ nzF hz2
    refine ⟨_, rfl, z2, _, 0, _, rfl, rfl, .of hz4, atI_nat (j := 0) (get_int (outL_head _)), _, rfl, _, _, rfl, rfl, rfl, _, rfl, ?_⟩
    have ed : decide (V.int (codeO (Vapktb.outcome (Vapktb.tableAt st k) i)) = V.int (2 + (j : Int))) = Vapktb.isTo j (Vapktb.outcome (Vapktb.tableAt st k) i) := by
      rw [← code_to, dec_int]
      rfl
    rw [ed]
    cases e : Vapktb.isTo j (Vapktb.outcome (Vapktb.tableAt st k) i) with
    | true =>
      obtain ⟨v, ev⟩ := isTo_sent e
      have hv := (sent_lt t.fw.2 hlt ev).1
      rw [ev] at hz4
      refine iteT ⟨_, rfl, _, rfl, z2, _, 1, _, rfl, rfl, .of hz4, atI_nat (j := 1) rfl, F, _, _, v, rfl, rfl, hF4, ?_, _, rfl, sb.upd, ?_⟩
      · rw [List.length_map, flags_len]
        unfold ixN
        rw [if_pos (Int.natCast_nonneg v), if_pos (Int.ofNat_lt.mpr hv), Int.toNat_natCast]
      · rw [upd_same, ← flags_sent ev, List.map_set]
    | false =>
      refine iteF ⟨_, rfl, sb, ?_⟩
      rw [hF4, flags_other e]
  · rintro σ H4 ⟨y, rfl, sb, hF4⟩
    rw [al.len, outs_len] at hF4
    refine ⟨_, rfl, F, _, st.wide, rfl, .of hF4, flags_len _ _, w7.2, fun H5 z5 s5 nz5 hz5 => ?_⟩
    have nF2 : H F = none := s1.free nF
    have sA : Same H H4 := fun x o hx => sb _ _ (ne_of_none hx nF2) (s3 _ _ (s12 _ _ hx))
    refine q.look hD es (sA.trans s5) (sA.free nz5) ?_
    rw [hz5]
    exact congrArg (fun x => some (HO.lst (List.map V.int x))) (comes_told t.fw.2 j).symm
end
end RT
set_option linter.all false
/-! The mathematics of from, why, counts, small. -/
namespace RT
open VapktBase
theorem flags_congr {w : Nat} {f g : Nat → Bool} (h : ∀ i, i < 2 ^ w → f i = g i) : flags w f = flags w g := by
  unfold flags
  exact List.map_congr_left fun i hi => h i (List.mem_range.mp hi)
theorem setOf_congr {w : Nat} {f g : Nat → Bool} (h : ∀ i, i < 2 ^ w → f i = g i) : setOf w f = setOf w g := by
  rw [setOf_bits, setOf_bits, flags_congr h]
theorem patternSet_test (w : Nat) (p : Pattern) (k : Nat) : (patternSet w p).testBit k = (decide (k < 2 ^ w) && matchesIt p k) := setOf_test w _ k
theorem fold_pats (w k : Nat) : ∀ (ps : List Pattern) (s : Nat), (ps.foldl (fun s p => either s (patternSet w p)) s).testBit k = (s.testBit k || (decide (k < 2 ^ w) && ps.any fun p => matchesIt p k))
  | [], s => by simp
  | p :: ps, s => by
    rw [List.foldl_cons, fold_pats w k ps, List.any_cons]
    have e : (either s (patternSet w p)).testBit k = (s.testBit k || (decide (k < 2 ^ w) && matchesIt p k)) := by
      show (s ||| patternSet w p).testBit k = _
      rw [Nat.testBit_or, patternSet_test]
    rw [e]
    cases s.testBit k <;> cases decide (k < 2 ^ w) <;> cases matchesIt p k <;> simp
theorem setOfPatterns_eq (w : Nat) (l : List Int) : Vapktb.setOfPatterns w l = (patsOf w l).map fun ps => ps.foldl (fun s p => either s (patternSet w p)) 0 := by
  unfold Vapktb.setOfPatterns patsOf
  cases readListed RULES (readPattern w) l with
  | none => rfl
  | some v =>
    obtain ⟨ps, r⟩ := v
    cases r <;> rfl
def fromB (ps : List Pattern) (p : Nat) : Vapktb.Outcome → Bool
  | .sent q k => q == p && ps.any fun x => matchesIt x k
  | _ => false
theorem from_told {w : Nat} {t : Table} (hw : WfAll w t) (p : Nat) (ps : List Pattern) : Vapktb.setTold w (Vapktb.fromSet w t p (ps.foldl (fun s p => either s (patternSet w p)) 0)) = tellPats (pats w (flags w fun h => fromB ps p (Vapktb.outcome t h))) := by
  have e : Vapktb.fromSet w t p (ps.foldl (fun s p => either s (patternSet w p)) 0) = setOf w fun h => fromB ps p (Vapktb.outcome t h) := by
    unfold Vapktb.fromSet
    refine setOf_congr fun h hh => ?_
    cases eo : Vapktb.outcome t h with
    | hole => rfl
    | dropped => rfl
    | sent q k =>
      show (q == p && has _ k) = (q == p && _)
      unfold has
      rw [fold_pats, Nat.zero_testBit, Bool.false_or, decide_eq_true (sent_lt hw hh eo).1, Bool.true_and]
  rw [e, setTold_setOf]
theorem fromB_no {ps : List Pattern} {p : Nat} {o : Vapktb.Outcome} (h : Vapktb.isTo p o = false) : fromB ps p o = false := by
  cases o with
  | hole => rfl
  | dropped => rfl
  | sent q k =>
    have h' : (q == p) = false := h
    show (q == p && _) = false
    rw [h', Bool.false_and]
theorem fromB_sent {ps : List Pattern} {p k : Nat} : fromB ps p (.sent p k) = ps.any fun x => matchesIt x k := by
  show (p == p && _) = _
  rw [beq_self_eq_true, Bool.true_and]
/-! ### why -/
theorem why_eq {w : Nat} {t : Table} {h n : Nat} (e : (ruleFor t h).getD t.length = n) : Vapktb.whyNot w t h = (t.take n).map fun r => (Vapktb.missAt w r.pattern h).getD w := by
  unfold Vapktb.whyNot
  rw [e]
/-! ### counts -/
theorem countP_own (w : Nat) (t : Table) (i : Nat) : ((List.range (2 ^ w)).countP fun h => ruleFor t h == some i) = size w (Vapktb.ownSet w t i) := by
  unfold Vapktb.ownSet
  rw [size_setOf, List.countP_eq_length_filter]
theorem countP_hole (w : Nat) (t : Table) : ((List.range (2 ^ w)).countP fun h => ruleFor t h == none) = size w (Vapktb.holeSet w t) := by
  unfold Vapktb.holeSet
  rw [size_setOf, List.countP_eq_length_filter]
/-! ### small -/
theorem small_eq (w : Nat) (t : Table) : Vapktb.small w t = Vapktb.lessened w t.length t := rfl
end RT
set_option Elab.async false
set_option linter.all false
set_option maxRecDepth 100000
set_option maxHeartbeats 4000000
/-! from, idle, spare, turn, apart, why, counts. -/
namespace RT
open PySem PySem.Spec PyProof.Rows L2
abbrev sFrom : Stmt := topS 54
abbrev sIdle : Stmt := topS 55
abbrev sSpare : Stmt := topS 56
abbrev sTurn : Stmt := topS 57
abbrev sSmall : Stmt := topS 58
abbrev sApart : Stmt := topS 59
abbrev sWhy : Stmt := topS 60
abbrev sCounts : Stmt := topS 61
abbrev nFrom : List Str := ["desk", "numbers", "row", "port", "patterns", "flags", "outcome", "by_port", "told", "ones"]
theorem scFrom : FnScope nFrom n3 (defScope sFrom) := ⟨rfl, rfl, rfl, by decide +kernel, rfl, by decide +kernel, by decide +kernel⟩
theorem scIdle : FnScope n3 n3 (defScope sIdle) := ⟨rfl, rfl, rfl, by decide +kernel, rfl, by decide +kernel, by decide +kernel⟩
theorem scSpare : FnScope n3 n3 (defScope sSpare) := ⟨rfl, rfl, rfl, by decide +kernel, rfl, by decide +kernel, by decide +kernel⟩
abbrev nTurn : List Str := ["desk", "numbers", "row", "rules", "number"]
theorem scTurn : FnScope nTurn n3 (defScope sTurn) := ⟨rfl, rfl, rfl, by decide +kernel, rfl, by decide +kernel, by decide +kernel⟩
theorem scApart : FnScope n3 n3 (defScope sApart) := ⟨rfl, rfl, rfl, by decide +kernel, rfl, by decide +kernel, by decide +kernel⟩
abbrev nWhy : List Str := ["desk", "numbers", "row", "header", "bits", "rule"]
theorem scWhy : FnScope nWhy n3 (defScope sWhy) := ⟨rfl, rfl, rfl, by decide +kernel, rfl, by decide +kernel, by decide +kernel⟩
abbrev nCounts : List Str := ["desk", "numbers", "row", "rules", "counting", "sizes", "number"]
theorem scCounts : FnScope nCounts n3 (defScope sCounts) := ⟨rfl, rfl, rfl, by decide +kernel, rfl, by decide +kernel, by decide +kernel⟩
theorem idle_len (w : Nat) (t : List R') : (Vapktb.idle w t).length ≤ t.length := by
  unfold Vapktb.idle
  exact Nat.le_trans (List.length_filter_le _ _) (by rw [List.length_range]; exact Nat.le_refl _)
theorem spare_len (w : Nat) (t : List R') : (Vapktb.spare w t).length ≤ t.length := by
  unfold Vapktb.spare
  exact Nat.le_trans (List.length_filter_le _ _) (by rw [List.length_range]; exact Nat.le_refl _)
theorem map_ints (l : List Nat) : (l.map fun i => V.int (i : Nat)) = (l.map Vapktb.int).map V.int := by
  rw [List.map_map]
  rfl
section
variable {P : Program} {w : World} {K : PySem.W.Frag} {mg : Str → Option Value} {base : Heap} {C CD : Addr}
theorem cal_idle (D : Def K mg "idle" sIdle n3) (T : DeskTxt K CD) (cb : Cal P w K mg base 1 "behind_count" spBc) (ci : Cal P w K mg base 5 "idle_rules" (spIdl C)) : Cal P w K mg base 6 "idle" (spCmd C CD (preT .idle)) := by
  refine cal_mk D scIdle spCmd_len (fun f cdv A outer s H vs Q E hr h => ?_)
  obtain ⟨d, b, c, D, st, ns, row, call, rfl, hD, hb, hc, hrow, ⟨k, hk, rfl, rfl⟩, q⟩ := h
  refine ⟨_, pss_one (ps_ret (pe_c cb hr (pa_cons (pe_c ci hr (pa_cons (pe_ix ix_list (pe_fld (pv 0) rfl) (pe_ix ix_list (pv 1) pe_int (fun _ _ => rfl)) (fun _ _ => rfl)) (pa_cons (pe_fld (pv 0) rfl) pa_nil))) pa_nil))), ?_⟩
  obtain ⟨dx, a, p, pl, t⟩ := hD.tab hk
  have es := step_idle (st := st) hk
  refine rd_tab T t hb rfl rfl ?_
  refine ⟨_, rfl, d, CD, dx, _, _, rfl, t.fd, T.cl, T.nW, dF_wide _ _, p, _, st.wide, rfl, t.ft, t.fw.1, hD.w7.2, fun H1 x s1 nx hx => ?_⟩
  rw [map_ints] at hx
  refine ⟨x, _, rfl, hx, ?_, fun H2 y s2 ny hy => ?_⟩
  · rw [List.length_map]
    have := idle_len st.wide (Vapktb.tableAt st k)
    have := t.fw.1
    omega
  · rw [List.length_map] at hy
    exact q.look hD es (s1.trans s2) (s1.free ny) hy
theorem cal_spare (D : Def K mg "spare" sSpare n3) (T : DeskTxt K CD) (cb : Cal P w K mg base 1 "behind_count" spBc) (ci : Cal P w K mg base 7 "spare_rules" (spSpr C)) : Cal P w K mg base 8 "spare" (spCmd C CD (preT .spare)) := by
  refine cal_mk D scSpare spCmd_len (fun f cdv A outer s H vs Q E hr h => ?_)
  obtain ⟨d, b, c, D, st, ns, row, call, rfl, hD, hb, hc, hrow, ⟨k, hk, rfl, rfl⟩, q⟩ := h
  refine ⟨_, pss_one (ps_ret (pe_c cb hr (pa_cons (pe_c ci hr (pa_cons (pe_ix ix_list (pe_fld (pv 0) rfl) (pe_ix ix_list (pv 1) pe_int (fun _ _ => rfl)) (fun _ _ => rfl)) (pa_cons (pe_fld (pv 0) rfl) pa_nil))) pa_nil))), ?_⟩
  obtain ⟨dx, a, p, pl, t⟩ := hD.tab hk
  have es := step_spare (st := st) hk
  refine rd_tab T t hb rfl rfl ?_
  refine ⟨_, rfl, d, CD, dx, _, _, rfl, t.fd, T.cl, T.nW, dF_wide _ _, p, _, st.wide, rfl, t.ft, t.fw.1, hD.w7.2, t.fw.2, fun H1 x s1 nx hx => ?_⟩
  rw [map_ints] at hx
  refine ⟨x, _, rfl, hx, ?_, fun H2 y s2 ny hy => ?_⟩
  · rw [List.length_map]
    have := spare_len st.wide (Vapktb.tableAt st k)
    have := t.fw.1
    omega
  · rw [List.length_map] at hy
    exact q.look hD es (s1.trans s2) (s1.free ny) hy
theorem cal_apart (D : Def K mg "apart" sApart n3) (T : DeskTxt K CD) (cr : Cal P w K mg base 2 "rules_as_numbers" (spRan C)) (ca : Cal P w K mg base 10 "rules_apart" (spRap C)) : Cal P w K mg base 11 "apart" (spCmd C CD (preT .apart)) := by
  refine cal_mk D scApart spCmd_len (fun f cdv A outer s H vs Q E hr h => ?_)
  obtain ⟨d, b, c, D, st, ns, row, call, rfl, hD, hb, hc, hrow, ⟨k, hk, rfl, rfl⟩, q⟩ := h
  refine ⟨_, pss_one (ps_ret (pe_c cr hr (pa_cons (pe_c ca hr (pa_cons (pe_ix ix_list (pe_fld (pv 0) rfl) (pe_ix ix_list (pv 1) pe_int (fun _ _ => rfl)) (fun _ _ => rfl)) (pa_cons (pe_fld (pv 0) rfl) pa_nil))) pa_nil))), ?_⟩
  obtain ⟨dx, a, p, pl, t⟩ := hD.tab hk
  have es := step_apart (st := st) hk
  have w7 := hD.w7
  refine rd_tab T t hb rfl rfl ?_
  refine ⟨_, rfl, d, CD, dx, _, _, rfl, t.fd, T.cl, T.nW, dF_wide _ _, p, _, st.wide, rfl, t.ft, t.fw.1, w7.2, fun H1 x s1 nx hx => ?_⟩
  refine ⟨x, _, rfl, hx, ?_, fun H2 y s2 ny hy => ?_⟩
  · rw [← apartTo_all]
    have h1 := apartTo_len st.wide (Vapktb.tableAt st k) _ (Nat.le_refl _)
    have h2 : 2 ^ st.wide * (Vapktb.tableAt st k).length ≤ 128 * 8 := Nat.mul_le_mul (pow7 w7.2) t.fw.1
    omega
  · exact q.look hD es (s1.trans s2) (s1.free ny) hy
theorem cal_turn (D : Def K mg "turn" sTurn n3) (T : DeskTxt K CD) (mi : mg "int" = none) (ch : Cal P w K mg base 1 "has_rule" (spHas K)) (cc : Cal P w K mg base 7 "can_change_places" (spCcp C)) : Cal P w K mg base 8 "turn" (spCmd C CD (preN .turn)) := by
  refine cal_mk D scTurn spCmd_len (fun f cdv A outer s H vs Q E hr h => ?_)
  obtain ⟨d, b, c, D, st, ns, row, call, rfl, hD, hb, hc, hrow, ⟨k, n, hk, rfl, rfl⟩, q⟩ := h
  refine ⟨_, pss_cons (ps_set (i := 3) scTurn.nd rfl (.inl rfl) (pe_ix ix_list (pe_fld (pv 0) rfl) (pe_ix ix_list (pv 1) pe_int (fun _ _ => rfl)) (fun _ _ => rfl)))
    (pss_cons (ps_set (i := 4) scTurn.nd rfl (.inl rfl) (pe_ix ix_list (pv 1) pe_int (fun _ _ => rfl)))
    (pss_cons (ps_if (PW.pt (pw_or (pt_not (pt_val (pe_c ch hr (pa_cons (pv 3) (pa_cons (pv 4) pa_nil))))) (pw_or1 (pt_not (pt_val (pe_c ch hr (pa_cons (pv 3) (pa_cons (pe_op op_add (pv 4) pe_int) pa_nil)))))))) (pss_one (ps_ret (pe_lst (pa_cons (pe_un un_neg pe_int) pa_nil)))) pss_nil)
    (pss_one (ps_ret (pe_lst (pa_cons (pe_callTy call_int1 (by rfl) mi (by decide +kernel) (pa_cons (pe_c cc hr (pa_cons (pv 3) (pa_cons (pv 4) (pa_cons (pe_fld (pv 0) rfl) pa_nil)))) pa_nil)) pa_nil)))))), ?_⟩
  obtain ⟨dx, a, p, pl, t⟩ := hD.tab hk
  have w7 := hD.w7
  have es := step_turn (st := st) hk n
  obtain ⟨qs, hp, al⟩ := t.ft.ex
  have hl := al.len
  refine rd_tab T t hb rfl rfl ?_
  refine ⟨_, rfl, b, _, 1, _, rfl, rfl, .of hb, atI_nat (j := 1) rfl, ?_⟩
  refine ⟨_, rfl, _, rfl, p, qs, n, rfl, .of hp, _, rfl, ?_⟩
  by_cases c1 : 0 ≤ n ∧ n < (qs.length : Int)
  case neg =>
    rw [decide_eq_false c1]
    rw [below_none (by omega)] at es
    exact iteT (iteT ⟨_, rfl, by show 1 ≤ sizeLine; decide, fun z nz => q.look hD es (same_upd nz) nz upd_same⟩)
  rw [decide_eq_true c1]
  refine iteF ⟨_, rfl, _, rfl, _, _, rfl, rfl, p, qs, n + 1, rfl, .of hp, _, rfl, ?_⟩
  by_cases c2 : 0 ≤ n + 1 ∧ n + 1 < (qs.length : Int)
  case neg =>
    rw [decide_eq_false c2]
    rw [below_none (by omega)] at es
    exact iteT ⟨_, rfl, by show 1 ≤ sizeLine; decide, fun z nz => q.look hD es (same_upd nz) nz upd_same⟩
  rw [decide_eq_true c2]
  rw [below_some (by omega)] at es
  obtain ⟨i, rfl⟩ := Int.eq_ofNat_of_zero_le c1.1
  rw [Int.toNat_natCast] at es
  refine iteF ⟨_, rfl, _, rfl, _, rfl, d, CD, dx, _, _, rfl, t.fd, T.cl, T.nW, dF_wide _ _, p, _, i, st.wide, rfl, t.ft, t.fw.1, w7.2, t.fw.2, by omega, fun H1 s1 => .inr ⟨_, rfl, by show 1 ≤ sizeLine; decide, fun z nz => ?_⟩⟩
  refine q.look hD es (s1.trans (same_upd nz)) (s1.free nz) ?_
  rw [upd_same]
  rfl
theorem cal_why (D : Def K mg "why" sWhy n3) (T : DeskTxt K CD) (TR : RuleTxt K mg C) (cw : Cal P w K mg base 1 "within_bits" spWithin) (cb : Cal P w K mg base 1 "behind_count" spBc) (cm : Met P w K mg base 2 C "matches" (spMat C)) (chi : Met P w K mg base 1 C "highest_unlike" (spHi C)) : Cal P w K mg base 3 "why" (spCmd C CD (preN .why)) := by
  refine cal_mk D scWhy spCmd_len (fun f cdv A outer s H vs Q E hr h => ?_)
  obtain ⟨d, b, c, D, st, ns, row, call, rfl, hD, hb, hc, hrow, ⟨k, n, hk, rfl, rfl⟩, q⟩ := h
  refine ⟨_, pss_cons (ps_set (i := 3) scWhy.nd rfl (.inl rfl) (pe_ix ix_list (pv 1) pe_int (fun _ _ => rfl)))
    (pss_cons (ps_if (pt_not (pt_val (pe_c cw hr (pa_cons (pv 3) (pa_cons (pe_fld (pv 0) rfl) pa_nil))))) (pss_one (ps_ret (pe_lst (pa_cons (pe_un un_neg pe_int) pa_nil)))) pss_nil)
    (pss_cons (ps_set (i := 4) scWhy.nd rfl (.inl rfl) (pe_lst pa_nil))
    (pss_cons (ps_for PassesOwn.never rfl (pi_list (pe_ix ix_list (pe_fld (pv 0) rfl) (pe_ix ix_list (pv 1) pe_int (fun _ _ => rfl)) (fun _ _ => rfl))) (pg_name (i := 5) scWhy.nd rfl (.inl rfl))
      (pss_cons (ps_if (pt_val (pe_m TR.cl cm hr (pv 5) (pa_cons (pv 3) pa_nil))) (pss_one ps_break) pss_nil)
      (pss_one (ps_expr (pe_bm PySem.F.plainAttrs_list PySem.F.slot_list_append PySem.F.type_list_append mt_append (pv 4) (pa_cons (pe_m TR.cl chi hr (pv 5) (pa_cons (pv 3) pa_nil)) pa_nil))))))
    (pss_one (ps_ret (pe_c cb hr (pa_cons (pv 4) pa_nil))))))), ?_⟩
  obtain ⟨dx, a, p, pl, t⟩ := hD.tab hk
  have w7 := hD.w7
  have es := step_why (st := st) hk n
  obtain ⟨qs, hp, al⟩ := t.ft.ex
  have hl := al.len
  have hl8 := t.fw.1
  refine ⟨_, rfl, b, _, 1, _, rfl, rfl, .of hb, atI_nat (j := 1) rfl, ?_⟩
  refine ⟨_, rfl, _, rfl, d, CD, dx, _, _, rfl, t.fd, T.cl, T.nW, dF_wide _ _, n, st.wide, rfl, w7.2, _, rfl, ?_⟩
  by_cases c1 : 0 ≤ n ∧ n < 2 ^ st.wide
  case neg =>
    rw [decide_eq_false c1]
    rw [below_none (fun z => c1 (within_iff.mpr z))] at es
    exact iteT ⟨_, rfl, by show 1 ≤ sizeLine; decide, fun z nz => q.look hD es (same_upd nz) nz upd_same⟩
  rw [decide_eq_true c1]
  rw [below_some (within_iff.mp c1)] at es
  obtain ⟨h, rfl⟩ := Int.eq_ofNat_of_zero_le c1.1
  rw [Int.toNat_natCast] at es
  refine iteF ⟨Nat.zero_le _, fun F nF => ?_⟩
  have s1 : Same H (upd H F (.lst [])) := same_upd nF
  have npF : p ≠ F := ne_of_none hp nF
  -- what stands behind the loop
  have fin : ∀ (m : Nat) (H' : Hp), SameBut F H H' → (VapktBase.ruleFor (Vapktb.tableAt st k) h).getD (Vapktb.tableAt st k).length = m → H' F = some (.lst ((((Vapktb.tableAt st k).take m).map fun r => Vapktb.int ((Vapktb.missAt st.wide r.pattern h).getD st.wide)).map V.int)) →
      ∀ (y : Option V), tRet (tCall spBc [] E0 (tCons (tVar 4) tNil)) { nx := fun _ H' => Q .non H', rt := Q } [some (.ref d), some (.ref b), some (.ref c), some (.int (h : Nat)), some (.ref F), y] H' := fun m H' sb em hF y => by
    refine ⟨_, rfl, F, _, rfl, hF, ?_, fun H2 z s2 nz hz => ?_⟩
    · rw [List.length_map, List.length_take]
      omega
    · have s3 := sb.new nF
      refine q.look hD es (s3.trans s2) (s3.free nz) ?_
      rw [hz]
      have ew : Vapktb.listed (Vapktb.whyNot st.wide (Vapktb.tableAt st k) h) = ((((Vapktb.tableAt st k).take m).map fun r => Vapktb.int ((Vapktb.missAt st.wide r.pattern h).getD st.wide)).length : Int) :: ((Vapktb.tableAt st k).take m).map fun r => Vapktb.int ((Vapktb.missAt st.wide r.pattern h).getD st.wide) := by
        unfold Vapktb.listed
        rw [why_eq em, List.map_map, List.length_map, List.length_map]
        rfl
      exact congrArg (fun x => some (HO.lst (List.map V.int x))) ew.symm
  refine rd_tab (H := upd H F (.lst [])) T ⟨s1 _ _ t.fd, s1 _ _ t.fa, t.fp, t.fm, t.ft.same s1, t.fw⟩ (s1 _ _ hb) rfl rfl ?_
  refine ⟨p, rfl, ⟨_, .of (s1 _ _ hp)⟩, for_list (K := K) (a := p) (xs := qs) (fun i σ H' => ∃ y, σ = [some (.ref d), some (.ref b), some (.ref c), some (.int (h : Nat)), some (.ref F), y] ∧ SameBut F H H' ∧
      H' F = some (.lst ((((Vapktb.tableAt st k).take i).map fun r => Vapktb.int ((Vapktb.missAt st.wide r.pattern h).getD st.wide)).map V.int)) ∧ ∀ (j : Nat) (x : R'), j < i → (Vapktb.tableAt st k)[j]? = some x → VapktBase.matchesIt x.pattern h = false)
    ⟨none, rfl, (SameBut.refl F H).upd, upd_same, fun j x hj => absurd hj (Nat.not_lt_zero _)⟩ (fun i σ H' _ ⟨_, _, sb, _⟩ => .of (sb _ _ npF hp)) ?_ ?_⟩
  · rintro i x σ H2 hi ⟨y, rfl, sb, hF, hn⟩
    obtain ⟨r, hr2⟩ : ∃ r, (Vapktb.tableAt st k)[i]? = some r := by
      have := (List.getElem?_eq_some_iff.mp hi).1
      exact ⟨_, List.getElem?_eq_getElem (by omega)⟩
    obtain ⟨z, rfl, hz⟩ := al.get i x r hi hr2
    have hz2 := hz.same (sb.new nF)
    obtain ⟨dx', ac, k1, k2⟩ := hz2.ex
    refine ⟨_, rfl, z, dx', _, rfl, k1, rF_none r ac _ (by decide +kernel) (by decide +kernel) (by decide +kernel), _, rfl, z, r, h, rfl, hz2, _, rfl, ?_⟩
    cases hm : VapktBase.matchesIt r.pattern h with
    | true =>
      refine iteT ?_
      refine fin i H2 sb ?_ hF _
      rw [ruleFor_some hr2 hm hn]
      rfl
    | false =>
      refine iteF ⟨_, rfl, .inl ⟨rfl, _, .of hF⟩, _, rfl, z, dx', _, rfl, k1, rF_none r ac _ (by decide +kernel) (by decide +kernel) (by decide +kernel), _, rfl, z, r, h, st.wide, rfl, hz2, (WfAll.get t.fw.2 hr2).p, hm, F, _, _, rfl, rfl, hF, ?_, _, rfl, sb.upd, ?_, fun j x hj hx => ?_⟩
      · rw [List.length_map, List.length_map, List.length_take]
        exact sizeLine_of (by omega)
      · rw [upd_same, take_more hr2, List.map_append, List.map_append]
        rfl
      · by_cases e : j = i
        · subst e
          rw [hr2] at hx
          cases hx
          exact hm
        · exact hn j x (by omega) hx
  · rintro σ H2 ⟨y, rfl, sb, hF, hn⟩
    refine fin qs.length H2 sb ?_ hF _
    rw [ruleFor_none fun j x hx => hn j x (by rw [hl]; exact (List.getElem?_eq_some_iff.mp hx).1) hx, hl]
    rfl
end
end RT
set_option Elab.async false
set_option linter.all false
set_option maxRecDepth 100000
set_option maxHeartbeats 4000000
/-! counts, from, small. -/
namespace RT
open PySem PySem.Spec PyProof.Rows L2
theorem counts_len (w : Nat) (t : List R') : (crs w t).length = 2 ^ w := by simp [crs]
theorem count_own (w : Nat) (t : List R') (i : Nat) : ((crs w t).countP fun z => eqV z (.int (i : Nat))) = VapktBase.size w (Vapktb.ownSet w t i) := by
  rw [← countP_own]
  unfold crs
  rw [List.countP_map]
  congr 1
  funext h
  exact eqV_opt _ i
theorem count_hole (w : Nat) (t : List R') : ((crs w t).countP fun z => eqV z .non) = VapktBase.size w (Vapktb.holeSet w t) := by
  rw [← countP_hole]
  unfold crs
  rw [List.countP_map]
  congr 1
  funext h
  show eqV (optV (VapktBase.ruleFor t h)) .non = _
  cases VapktBase.ruleFor t h <;> rfl
section
variable {P : Program} {w : World} {K : PySem.W.Frag} {mg : Str → Option Value} {base : Heap} {C CD : Addr}
theorem cal_counts (D : Def K mg "counts" sCounts n3) (T : DeskTxt K CD) (ml : mg "len" = none) (mr : mg "range" = none) (cb : Cal P w K mg base 1 "behind_count" spBc) (cc : Cal P w K mg base 4 "counting_rules" (spCrs C)) : Cal P w K mg base 5 "counts" (spCmd C CD (preT .counts)) := by
  refine cal_mk D scCounts spCmd_len (fun f cdv A outer s H vs Q E hr h => ?_)
  obtain ⟨d, b, c, D, st, ns, row, call, rfl, hD, hb, hc, hrow, ⟨k, hk, rfl, rfl⟩, q⟩ := h
  refine ⟨_, pss_cons (ps_set (i := 3) scCounts.nd rfl (.inl rfl) (pe_ix ix_list (pe_fld (pv 0) rfl) (pe_ix ix_list (pv 1) pe_int (fun _ _ => rfl)) (fun _ _ => rfl)))
    (pss_cons (ps_set (i := 4) scCounts.nd rfl (.inr rfl) (pe_c cc hr (pa_cons (pv 3) (pa_cons (pe_fld (pv 0) rfl) pa_nil))))
    (pss_cons (ps_setLc (i := 5) (own := [("number", 6)]) (g := gName 6) (tt := tYes) (te := tBM K "list" (rCnt K) (tVar 4) (tCons (tVar 6) tNil)) rfl scCounts.nd rfl rfl (sw_true rfl rfl rfl (by decide +kernel)) (pi_range1 (by rfl) mr (pa_cons (pe_len ml (pv 3)) pa_nil)) (blkOk_by (N := nCounts) (sc := defScope sCounts) (by decide +kernel))
      (fun _ _ _ _ _ => pg_name (i := 6) scCounts.nd rfl (.inl rfl) (.inr rfl)) (fun _ _ _ _ _ => pts_nil) (fun _ _ _ _ _ => pe_bm PySem.F.plainAttrs_list PySem.F.slot_list_count PySem.F.type_list_count mt_count (pv 4) (pa_cons (pv 6) pa_nil)))
    (pss_one (ps_ret (pe_op op_cat (pe_c cb hr (pa_cons (pv 5) pa_nil)) (pe_lst (pa_cons (pe_bm PySem.F.plainAttrs_list PySem.F.slot_list_count PySem.F.type_list_count mt_count (pv 4) (pa_cons pe_non pa_nil)) pa_nil))))))), ?_⟩
  obtain ⟨dx, a, p, pl, t⟩ := hD.tab hk
  have w7 := hD.w7
  have es := step_counts (st := st) hk
  have hl8 := t.fw.1
  refine rd_tab T t hb rfl rfl ?_
  refine ⟨_, rfl, _, rfl, d, CD, dx, _, _, rfl, t.fd, T.cl, T.nW, dF_wide _ _, p, _, st.wide, rfl, t.ft, w7.2, fun H1 x s1 nx hx => ?_⟩
  obtain ⟨qs, hp, al⟩ := (t.ft.same s1).ex
  have hl := al.len
  refine ⟨_, rfl, p, qs, rfl, .inl (.of hp), _, rfl, (rg62 (by omega)).1, (rg62 (by omega)).2, fun F nF => ?_⟩
  rw [Int.toNat_natCast]
  have nxF : x ≠ F := ne_of_none hx nF
  refine lc_range (lo := 0) (n := qs.length) (fun i H' => SameBut F H1 H' ∧ H' F = some (.lst (((List.range i).map fun i => Vapktb.int (VapktBase.size st.wide (Vapktb.ownSet st.wide (Vapktb.tableAt st k) i))).map V.int))) ⟨(SameBut.refl F H1).upd, upd_same⟩ ?_ ?_
  · rintro i H2 hi ⟨sb, hF⟩
    have hx2 := sb _ _ nxF hx
    rw [Int.zero_add]
    refine ⟨rfl, _, rfl, .inl ⟨rfl, _, .of hx2⟩, _, rfl, x, _, _, rfl, rfl, .of hx2, rfl, crs_flat _ _, _, hF, ?_, sb.upd, ?_⟩
    · rw [List.length_map, List.length_map, List.length_range]
      exact sizeLine_of (by omega)
    · rw [upd_same, range_more, List.map_append, count_own]
      rfl
  · rintro H2 ⟨sb, hF⟩
    have s2 := sb.new nF
    refine ⟨_, rfl, F, _, rfl, hF, ?_, fun H3 y s3 ny hy => ?_⟩
    · rw [List.length_map, List.length_range]
      omega
    have hx3 := s3 _ _ (s2 _ _ hx)
    refine ⟨_, rfl, .inl ⟨rfl, _, .of hx3⟩, x, _, .non, rfl, rfl, .of hx3, rfl, crs_flat _ _, by show 1 ≤ sizeLine; decide, fun z nz => ?_⟩
    rw [count_hole]
    have s4 := same_upd (o := .lst [V.int (VapktBase.size st.wide (Vapktb.holeSet st.wide (Vapktb.tableAt st k)) : Nat)]) nz
    refine ⟨y, z, _, _, rfl, rfl, s4 _ _ hy, upd_same, ?_, fun u nu => ?_⟩
    · rw [List.length_map, List.length_cons, List.length_map, List.length_range]
      exact sizeLine_le (by show _ + 1 ≤ _; omega)
    · refine q.look hD es ((((s1.trans s2).trans s3).trans s4).trans (same_upd nu)) ((((s1.trans s2).trans s3).trans s4).free nu) ?_
      rw [upd_same, List.length_map, List.length_range, hl, List.map_append]
      rfl
theorem cal_from (D : Def K mg "from_which" sFrom n3) (T : DeskTxt K CD) (ma : mg "any" = none) (cp : Cal P w K mg base 1 "is_port" spPort) (cr : Cal P w K mg base 3 "read_patterns" (spRps K)) (cm : Cal P w K mg base 1 "matches_pattern" spMp) (co : Cal P w K mg base 5 "outcomes_at" (spOas C)) (cs : Cal P w K mg base 10 "set_as_numbers" (spSet K))
    {t2 : Tok} (g2 : mg "SENT" = some (.int 2 t2)) : Cal P w K mg base 11 "from_which" (spCmd C CD (preNR .from_)) := by
  refine cal_mk D scFrom spCmd_len (fun f cdv A outer s H vs Q E hr h => ?_)
  obtain ⟨d, b, c, D, st, ns, row, call, rfl, hD, hb, hc, hrow, ⟨k, n, hk, rfl, rfl⟩, q⟩ := h
  refine ⟨_, pss_cons (ps_set (i := 3) scFrom.nd rfl (.inl rfl) (pe_ix ix_list (pv 1) pe_int (fun _ _ => rfl)))
    (pss_cons (ps_if (pt_not (pt_val (pe_c cp hr (pa_cons (pv 3) pa_nil)))) (pss_one (ps_ret (pe_lst (pa_cons (pe_un un_neg pe_int) pa_nil)))) pss_nil)
    (pss_cons (ps_set (i := 4) scFrom.nd rfl (.inl rfl) (pe_c cr hr (pa_cons (pv 2) (pa_cons (pe_fld (pv 0) rfl) pa_nil))))
    (pss_cons (ps_if (pt_cmp (pc_isN (pv 4))) (pss_one (ps_ret (pe_lst (pa_cons (pe_un un_neg pe_int) pa_nil)))) pss_nil)
    (pss_cons (ps_set (i := 5) scFrom.nd rfl (.inl rfl) (pe_lst pa_nil))
    (pss_cons (ps_for PassesOwn.never rfl (pi_list (pe_c co hr (pa_cons (pe_ix ix_list (pe_fld (pv 0) rfl) (pe_ix ix_list (pv 1) pe_int (fun _ _ => rfl)) (fun _ _ => rfl)) (pa_cons (pe_fld (pv 0) rfl) pa_nil)))) (pg_name (i := 6) scFrom.nd rfl (.inr rfl))
      (pss_cons (ps_set (i := 7) scFrom.nd rfl (.inl rfl) (pe_cmpR op_eq (pe_ix ix_list (pv 6) pe_int (fun _ _ => rfl)) (pe_op op_add (pe_glob (v := .int 2) (by rfl) g2 ⟨_, rfl⟩) (pv 3)) (nomark _)))
      (pss_one (ps_expr (pe_bm PySem.F.plainAttrs_list PySem.F.slot_list_append PySem.F.type_list_append mt_append (pv 5) (pa_cons (pe_and (pv 7) (pe_one (pe_callB (cr_any rfl) (by rfl) ma (by decide +kernel) (pa_cons
        (pe_lc (own := [("told", 8), ("ones", 9)]) (g := gTup K 2 (gCons (gName 8) (gCons (gName 9) gNil))) (tt := tYes) (te := tCall spMp [] E0 (tCons (tOp (rIxL K) (tVar 6) (tC (.int 1))) (tCons (tVar 8) (tCons (tVar 9) tNil)))) rfl scFrom.nd (pi_list (pv 4)) (blkOk_by (N := nFrom) (sc := defScope sFrom) (by decide +kernel))
          (fun _ _ _ _ _ => pg_tup rfl (pgs_cons (pg_name (i := 8) scFrom.nd rfl (.inl rfl) (.inr rfl)) (pgs_cons (pg_name (i := 9) scFrom.nd rfl (.inl rfl) (.inr rfl)) pgs_nil))) (fun _ _ _ _ _ => pts_nil)
          (fun _ _ _ _ _ => pe_c cm hr (pa_cons (pe_ix ix_list (pv 6) pe_int (fun _ _ => rfl)) (pa_cons (pv 8) (pa_cons (pv 9) pa_nil))))) pa_nil)))) pa_nil))))))
    (pss_one (ps_ret (pe_c cs hr (pa_cons (pv 5) pa_nil))))))))), ?_⟩
  obtain ⟨dx, a, p, pl, t⟩ := hD.tab hk
  have w7 := hD.w7
  have h7 := pow7 w7.2
  have es := step_from (st := st) hk n row
  refine ⟨_, rfl, b, _, 1, _, rfl, rfl, .of hb, atI_nat (j := 1) rfl, _, rfl, n, rfl, _, rfl, ?_⟩
  by_cases c1 : isPort n
  case neg =>
    rw [decide_eq_false c1]
    rw [below_none (show ¬ (0 ≤ n ∧ n < ((VapktBase.PORTS : Nat) : Int)) from c1)] at es
    exact iteT ⟨_, rfl, by show 1 ≤ sizeLine; decide, fun z nz => q.look hD es (same_upd nz) nz upd_same⟩
  rw [decide_eq_true c1]
  rw [below_some (show (0 ≤ n ∧ n < ((VapktBase.PORTS : Nat) : Int)) from c1), setOfPatterns_eq] at es
  obtain ⟨j, rfl⟩ := Int.eq_ofNat_of_zero_le c1.1
  rw [Int.toNat_natCast] at es
  refine iteF ⟨_, rfl, _, rfl, d, CD, dx, _, _, rfl, t.fd, T.cl, T.nW, dF_wide _ _, c, row, st.wide, rfl, .of hc, w7.2, fun en H1 s1 => ?_, fun ps eps H1 pp qp s1 npp hpp alp => ?_⟩
  · rw [en] at es
    refine ⟨_, rfl, _, rfl, iteT ⟨_, rfl, by show 1 ≤ sizeLine; decide, fun z nz => ?_⟩⟩
    exact q.look hD es (s1.trans (same_upd nz)) (s1.free nz) upd_same
  rw [eps] at es
  have hps : ps.length ≤ 8 := by
    rcases row with _ | ⟨m, l⟩
    · rw [patsOf_nil] at eps
      cases eps
    · rw [patsOf_cons] at eps
      by_cases cm8 : 0 ≤ m ∧ m ≤ 8 ∧ ((l.length + 1 : Nat) : Int) = 1 + 2 * m
      · rw [if_pos cm8] at eps
        have := (patTimes_len _ _ eps).1
        omega
      · rw [if_neg cm8] at eps
        cases eps
  refine ⟨_, rfl, _, rfl, iteF ⟨Nat.zero_le _, fun F nF => ?_⟩⟩
  have s2 : Same H (upd H1 F (.lst [])) := s1.trans (same_upd nF)
  have hpp2 : (upd H1 F (.lst [])) pp = some (.lst qp) := (same_upd nF) _ _ hpp
  have hF : (upd H1 F (.lst [])) F = some (.lst []) := upd_same
  have alp2 : Al (PairAt (upd H1 F (.lst []))) qp (ps.map fun x => (x.told, x.bits)) := alp.mono fun _ _ kk => kk.same (same_upd nF)
  generalize upd H1 F (.lst []) = H2 at s2 hpp2 hF alp2
  refine rd_tab (H := H2) T ⟨s2 _ _ t.fd, s2 _ _ t.fa, t.fp, t.fm, t.ft.same s2, t.fw⟩ (s2 _ _ hb) rfl rfl ?_
  refine ⟨_, rfl, d, CD, dx, _, _, rfl, s2 _ _ t.fd, T.cl, T.nW, dF_wide _ _, p, _, st.wide, rfl, t.ft.same s2, w7.2, t.fw.2, fun H3 o s3 no ho => ?_⟩
  obtain ⟨qs, h1, al⟩ := ho.ex
  have hF3 := s3 _ _ hF
  have hpp3 := s3 _ _ hpp2
  have nFo : o ≠ F := (ne_of_none hF no).symm
  have nFn : H F = none := s1.free nF
  have nFp : pp ≠ F := ne_of_none hpp nF
  refine ⟨o, rfl, ⟨_, .of h1⟩, for_list (K := K) (a := o) (xs := qs) (fun i σ H' => ∃ y6 y7 y8 y9, σ = [some (.ref d), some (.ref b), some (.ref c), some (.int (j : Nat)), some (.ref pp), some (.ref F), y6, y7, y8, y9] ∧ SameBut F H3 H' ∧ H' F = some (.lst (((List.range i).map fun h => fromB ps j (Vapktb.outcome (Vapktb.tableAt st k) h)).map V.bl)))
    ⟨none, none, none, none, rfl, SameBut.refl F H3, hF3⟩ (fun i σ H' _ ⟨_, _, _, _, _, sb, _⟩ => .of (sb _ _ nFo h1)) ?_ ?_⟩
  · rintro i x σ H4 hi ⟨y6, y7, y8, y9, rfl, sb, hF4⟩
    have hlt : i < 2 ^ st.wide := by
      have := (List.getElem?_eq_some_iff.mp hi).1
      rw [al.len, outs_len] at this
      exact this
    obtain ⟨z2, rfl, hz2⟩ := al.get i x _ hi (outs_get _ _ hlt)
    have nzF : z2 ≠ F := by
      intro e
      rw [e, hF3] at hz2
      have e2 := Option.some.inj hz2
      injection e2 with e3
      have e6 : ((outL (Vapktb.outcome (Vapktb.tableAt st k) i)).map V.int)[0]? = some (.int (codeO (Vapktb.outcome (Vapktb.tableAt st k) i))) := get_int (outL_head _)
      rw [← e3] at e6
      cases e6
    have hz4 := sb _ _ nzF hz2
    have hpp4 := sb _ _ nFp hpp3
    refine ⟨_, rfl, z2, _, 0, _, rfl, rfl, .of hz4, atI_nat (j := 0) (get_int (outL_head _)), _, rfl, _, _, rfl, rfl, rfl, ?_⟩
    have ed : decide (V.int (codeO (Vapktb.outcome (Vapktb.tableAt st k) i)) = V.int (2 + (j : Int))) = Vapktb.isTo j (Vapktb.outcome (Vapktb.tableAt st k) i) := by
      rw [← code_to, dec_int]
      rfl
    refine ⟨_, rfl, .inl ⟨rfl, _, .of hF4⟩, _, rfl, _, rfl, ?_⟩
    have hlenF : (((List.range i).map fun h => fromB ps j (Vapktb.outcome (Vapktb.tableAt st k) h)).map V.bl).length < sizeLine := by
      rw [List.length_map, List.length_map, List.length_range]
      exact sizeLine_of (by omega)
    show if decide (V.int (codeO (Vapktb.outcome (Vapktb.tableAt st k) i)) = V.int (2 + (j : Int))) = true then _ else _
    rw [ed]
    cases e : Vapktb.isTo j (Vapktb.outcome (Vapktb.tableAt st k) i) with
    | false =>
      refine iteF ⟨F, _, _, rfl, rfl, hF4, hlenF, _, _, _, _, rfl, sb.upd, ?_⟩
      rw [upd_same, range_more, List.map_append, fromB_no e]
      rfl
    | true =>
      obtain ⟨v, ev⟩ := isTo_sent e
      rw [ev] at hz4
      refine iteT ⟨_, rfl, pp, rfl, ⟨_, .of hpp4⟩, fun L nL => ?_⟩
      have nLp : pp ≠ L := ne_of_none hpp4 nL
      have nLz : z2 ≠ L := ne_of_none hz4 nL
      have nLF : F ≠ L := ne_of_none hF4 nL
      refine lc_list (K := K) (a := pp) (xs := qp) (fun m H' => SameBut L H4 H' ∧ H' L = some (.lst (((ps.take m).map fun x => VapktBase.matchesIt x v).map V.bl))) ⟨(SameBut.refl L H4).upd, upd_same⟩ (fun m H' _ ⟨sb2, _⟩ => .of (sb2 _ _ nLp hpp4)) ?_ ?_
      · rintro m x H5 hm ⟨sb2, hL⟩
        obtain ⟨pr, hpr⟩ : ∃ pr, ps[m]? = some pr := by
          have := (List.getElem?_eq_some_iff.mp hm).1
          rw [alp2.len, List.length_map] at this
          exact ⟨_, List.getElem?_eq_getElem this⟩
        obtain ⟨tt, rfl, htt⟩ := alp2.get m x (pr.told, pr.bits) hm (by rw [List.getElem?_map, hpr]; rfl)
        have htt3 := s3 _ _ htt
        have ntF : tt ≠ F := ne_of htt3 hF3 (by intro z; cases z)
        have htt4 := sb _ _ ntF htt3
        have ntL : tt ≠ L := ne_of_none htt4 nL
        refine ⟨tt, _, rfl, .of (sb2 _ _ ntL htt4), rfl, _, _, rfl, _, _, rfl, rfl, rfl, ?_⟩
        refine ⟨_, rfl, z2, _, 1, _, rfl, rfl, .of (sb2 _ _ nLz hz4), atI_nat (j := 1) rfl, _, rfl, _, rfl, v, pr.told, pr.bits, rfl, _, hL, ?_, sb2.upd, ?_⟩
        · rw [List.length_map, List.length_map, List.length_take]
          exact sizeLine_of (by omega)
        · rw [upd_same, take_more hpr, List.map_append, List.map_append]
          rfl
      · rintro H5 ⟨sb2, hL⟩
        rw [alp2.len, List.length_map, List.take_length] at hL
        have s5 := sb2.new nL
        refine ⟨L, _, rfl, .of hL, F, _, _, rfl, rfl, s5 _ _ hF4, hlenF, _, _, _, _, rfl, (SameBut.same sb s5).upd, ?_⟩
        rw [upd_same, range_more, List.map_append, ev, fromB_sent, List.any_map]
        rfl
  · rintro σ H4 ⟨y6, y7, y8, y9, rfl, sb, hF4⟩
    rw [al.len, outs_len] at hF4
    refine ⟨_, rfl, F, flags st.wide fun h => fromB ps j (Vapktb.outcome (Vapktb.tableAt st k) h), st.wide, rfl, .of hF4, flags_len _ _, w7.2, fun H5 z5 s5 nz5 hz5 => ?_⟩
    have sA : Same H H4 := fun x o hx => sb _ _ (ne_of_none hx nFn) (s3 _ _ (s2 _ _ hx))
    refine q.look hD es (sA.trans s5) (sA.free nz5) ?_
    rw [hz5]
    exact congrArg (fun x => some (HO.lst (List.map V.int x))) (from_told t.fw.2 j ps).symm
end
end RT
set_option Elab.async false
set_option linter.all false
set_option maxRecDepth 100000
set_option maxHeartbeats 4000000
/-! small. -/
namespace RT
open PySem PySem.Spec PyProof.Rows L2
abbrev nSmall : List Str := ["desk", "numbers", "row", "rules", "steps", "told", "step"]
theorem scSmall : FnScope nSmall n3 (defScope sSmall) := ⟨rfl, rfl, rfl, by decide +kernel, rfl, by decide +kernel, by decide +kernel⟩
/-- steps' numbers aren't an action's -/
theorem steps_act (l : List Vapktb.Less) (a : VapktBase.Action) : stepsL l ≠ VapktBase.flatAction a := by
  intro e
  cases l with
  | nil =>
    cases a <;> cases e
  | cons x r =>
    have e1 : stepsL (x :: r) = Vapktb.lessTold x ++ stepsL r := List.flatMap_cons
    rw [e1] at e
    cases x with
    | out i =>
      cases a with
      | drop =>
        have := congrArg List.length e
        simp [Vapktb.lessTold, VapktBase.flatAction] at this
      | send u p =>
        have := (List.cons.inj e).1
        cases this
    | join i j =>
      cases a with
      | drop =>
        have := (List.cons.inj e).1
        cases this
      | send u p =>
        have h1 := congrArg List.length e
        have h2 : (stepsL r).length = 1 := by
          simp [Vapktb.lessTold, VapktBase.flatAction] at h1
          omega
        cases r with
        | nil => cases h2
        | cons y r =>
          have e2 : stepsL (y :: r) = Vapktb.lessTold y ++ stepsL r := List.flatMap_cons
          rw [e2, List.length_append] at h2
          cases y <;> (simp [Vapktb.lessTold] at h2; try omega)
theorem map_int_inj : ∀ {l m : List Int}, l.map V.int = m.map V.int → l = m
  | [], [], _ => rfl
  | [], _ :: _, h => nomatch h
  | _ :: _, [], h => nomatch h
  | a :: l, b :: m, h => by
    rw [List.map_cons, List.map_cons] at h
    obtain ⟨h1, h2⟩ := List.cons.inj h
    rw [V.int.inj h1, map_int_inj h2]
theorem RuleAt.told {C : Addr} {H H' : Hp} {F b : Addr} {r : R'} {l : List Vapktb.Less} (hF : H F = some (.lst ((stepsL l).map V.int))) (k : SameBut F H H') (h : RuleAt C H b r) : RuleAt C H' b r := by
  obtain ⟨dx, ac, h1, h2⟩ := h.ex
  refine ⟨dx, ac, k _ _ (ne_of h1 hF (by intro z; cases z)) h1, k _ _ (fun z => ?_) h2⟩
  subst z
  rw [hF] at h2
  have e := Option.some.inj h2
  injection e with e2
  exact steps_act l r.action (map_int_inj e2)
theorem TableAt.told {C : Addr} {H H' : Hp} {F p : Addr} {t : List R'} {l : List Vapktb.Less} (hF : H F = some (.lst ((stepsL l).map V.int))) (n : p ≠ F) (k : SameBut F H H') (h : TableAt C H p t) : TableAt C H' p t := by
  obtain ⟨qs, h1, h2⟩ := h.ex
  exact ⟨qs, k _ _ n h1, h2.mono fun q r ⟨b, e, kk⟩ => ⟨b, e, kk.told hF k⟩⟩
theorem stepsL_snoc (l : List Vapktb.Less) (x : Vapktb.Less) : stepsL (l ++ [x]) = stepsL l ++ Vapktb.lessTold x := by
  unfold stepsL
  rw [List.flatMap_append, List.flatMap_singleton]
theorem stepsL_len (l : List Vapktb.Less) : (stepsL l).length ≤ 3 * l.length := by
  induction l with
  | nil => exact Nat.le_refl _
  | cons x l ih =>
    have e : stepsL (x :: l) = Vapktb.lessTold x ++ stepsL l := List.flatMap_cons
    have := (lessTold_len x).1
    rw [e, List.length_append, List.length_cons]
    omega
section
variable {P : Program} {w : World} {K : PySem.W.Frag} {mg : Str → Option Value} {base : Heap} {C CD : Addr}
theorem cal_small (D : Def K mg "small" sSmall n3) (T : DeskTxt K CD) (cs : Cal P w K mg base 8 "smaller_step" (spSms C)) (cb : Cal P w K mg base 4 "behind_step" (spBhs K C)) : Cal P w K mg base 9 "small" (spCmd C CD (preT .small)) := by
  refine cal_mk D scSmall spCmd_len (fun f cdv A outer s H vs Q E hr h => ?_)
  obtain ⟨d, b, c, D, st, ns, row, call, rfl, hD, hb, hc, hrow, ⟨k, hk, rfl, rfl⟩, q⟩ := h
  refine ⟨_, pss_cons (ps_set (i := 3) scSmall.nd rfl (.inl rfl) (pe_ix ix_list (pe_fld (pv 0) rfl) (pe_ix ix_list (pv 1) pe_int (fun _ _ => rfl)) (fun _ _ => rfl)))
    (pss_cons (ps_set (i := 4) scSmall.nd rfl (.inl rfl) pe_int)
    (pss_cons (ps_set (i := 5) scSmall.nd rfl (.inl rfl) (pe_lst pa_nil))
    (pss_cons (ps_set (i := 6) scSmall.nd rfl (.inl rfl) (pe_c cs hr (pa_cons (pv 3) (pa_cons (pe_fld (pv 0) rfl) pa_nil))))
    (pss_cons (ps_while PassesOwn.never (pt_truth (pv 6) (by intro _; rfl))
      (pss_cons (ps_set (i := 3) scSmall.nd rfl (.inl rfl) (pe_c cb hr (pa_cons (pv 3) (pa_cons (pv 6) pa_nil))))
      (pss_cons (ps_aug (i := 4) scSmall.nd rfl (.inl rfl) pe_int ip_add)
      (pss_cons (ps_expr (pe_bm PySem.F.plainAttrs_list PySem.F.slot_list_extend PySem.F.type_list_extend mt_extend (pv 5) (pa_cons (pv 6) pa_nil)))
      (pss_one (ps_set (i := 6) scSmall.nd rfl (.inl rfl) (pe_c cs hr (pa_cons (pv 3) (pa_cons (pe_fld (pv 0) rfl) pa_nil)))))))))
    (pss_cons (ps_asg (pv 3) (pg_sub (pe_fld (pv 0) rfl) (pe_ix ix_list (pv 1) pe_int (fun _ _ => rfl)) set_list))
    (pss_one (ps_ret (pe_op op_cat (pe_lst (pa_cons (pv 4) pa_nil)) (pv 5))))))))), ?_⟩
  obtain ⟨dx, a, p, pl, t⟩ := hD.tab hk
  have w7 := hD.w7
  have es := step_small (st := st) hk
  have hl8 := t.fw.1
  rw [small_eq] at es
  obtain ⟨qp, hp, alp⟩ := t.ft.ex
  refine rd_tab T t hb rfl rfl ?_
  refine ⟨Nat.zero_le _, fun F nF => ?_⟩
  have npF : p ≠ F := ne_of_none hp nF
  have s1 : Same H (upd H F (.lst [])) := same_upd nF
  have hF1 : (upd H F (.lst [])) F = some (.lst ((stepsL []).map V.int)) := upd_same
  have sb1 : SameBut F H (upd H F (.lst [])) := (SameBut.refl F H).upd
  generalize upd H F (.lst []) = H1 at s1 hF1 sb1
  refine ⟨_, rfl, _, rfl, d, CD, dx, _, _, rfl, s1 _ _ t.fd, T.cl, T.nW, dF_wide _ _, p, _, st.wide, rfl, t.ft.same s1, hl8, w7.2, t.fw.2, fun H2 S s2 nS hS => ?_⟩
  have nSF : S ≠ F := (ne_of_none hF1 nS).symm
  refine ⟨fun m σ H' => ∃ (p' : Addr) (t' : List R') (done : List Vapktb.Less) (S : Addr), σ = [some (.ref d), some (.ref b), some (.ref c), some (.ref p'), some (.int (done.length : Nat)), some (.ref F), some (.ref S)] ∧ m = t'.length ∧ SameBut F H H' ∧ TableAt C H' p' t' ∧ p' ≠ F ∧ WfTab st.wide t' ∧
      H' F = some (.lst ((stepsL done).map V.int)) ∧ H' S = some (.lst ((stepL (Vapktb.firstLess st.wide t')).map V.int)) ∧ S ≠ F ∧ ((p' = p ∧ t' = Vapktb.tableAt st k) ∨ H p' = none) ∧ done.length + t'.length = (Vapktb.tableAt st k).length ∧
      Vapktb.lessened st.wide (Vapktb.tableAt st k).length (Vapktb.tableAt st k) = (done ++ (Vapktb.lessened st.wide t'.length t').1, (Vapktb.lessened st.wide t'.length t').2),
    ⟨_, p, Vapktb.tableAt st k, [], S, rfl, rfl, sb1.same s2, (t.ft.same s1).same s2, npF, t.fw, s2 _ _ hF1, hS, nSF, .inl ⟨rfl, rfl⟩, by simp, rfl⟩, ?_⟩
  rintro m σ H3 ⟨p', t', done, S', rfl, rfl, sb, tb, np', wf, hF, hS', nSF', hpp, hlen, hless⟩
  have s3 : Same H H3 := sb.new nF
  refine ⟨_, rfl, _, .inl ⟨_, .of hS', rfl⟩, ?_⟩
  cases e : Vapktb.firstLess st.wide t' with
  | some y =>
    obtain ⟨x, u⟩ := y
    rw [e] at hS'
    have hS2 : H3 S' = some (.lst ((Vapktb.lessTold x).map V.int)) := hS'
    have hne : (!((stepL (some (x, u))).map V.int).isEmpty) = true := by
      show (!((Vapktb.lessTold x).map V.int).isEmpty) = true
      cases x <;> rfl
    rw [hne]
    refine iteT ?_
    obtain ⟨f1, f2, _⟩ := firstLess_is e wf.2
    obtain ⟨n', hn'⟩ : ∃ n', t'.length = n' + 1 := ⟨u.length, f2.symm⟩
    have hu : u.length = n' := by omega
    refine ⟨fun σ' H' => ∃ (p2 : Addr) (done2 : List Vapktb.Less) (S2 : Addr), σ' = [some (.ref d), some (.ref b), some (.ref c), some (.ref p2), some (.int (done2.length : Nat)), some (.ref F), some (.ref S2)] ∧ SameBut F H H' ∧ TableAt C H' p2 u ∧ p2 ≠ F ∧
        H' F = some (.lst ((stepsL done2).map V.int)) ∧ H' S2 = some (.lst ((stepL (Vapktb.firstLess st.wide u)).map V.int)) ∧ S2 ≠ F ∧ H p2 = none ∧ done2 = done ++ [x],
      fun σ' H' ⟨p2, done2, S2, e1, e2, e3, e4, e5, e6, e7, e8, e9⟩ => ⟨u.length, by omega, p2, u, done2, S2, e1, rfl, e2, e3, e4, ⟨by have := wf.1; omega, f1⟩, e5, e6, e7, .inr e8, by rw [e9, List.length_append, List.length_singleton]; omega, ?_⟩, ?_⟩
    · rw [hless, hn', lessened_some e, e9, hu, List.append_assoc]
      rfl
    refine ⟨_, rfl, _, rfl, p', S', t', u, x, st.wide, rfl, tb, wf.1, wf.2, e, .of hS2, fun H4 p2 s4 np2 hp2 => ?_⟩
    have hF4 := s4 _ _ hF
    have hS4 := s4 _ _ hS2
    have np2F : p2 ≠ F := (ne_of_none hF np2).symm
    refine ⟨_, rfl, _, _, rfl, rfl, ?_⟩
    refine ⟨_, rfl, .inl ⟨rfl, _, .of hF4⟩, _, rfl, F, S', _, _, rfl, rfl, hF4, hS4, ?_, ?_⟩
    · rw [List.length_map, List.length_map]
      have h1 := stepsL_len done
      have h2 := (lessTold_len x).1
      exact sizeLine_le (by omega)
    have sb5 : SameBut F H4 (upd H4 F (.lst ((stepsL done).map V.int ++ (Vapktb.lessTold x).map V.int))) := (SameBut.refl F H4).upd
    have hF5 : (upd H4 F (.lst ((stepsL done).map V.int ++ (Vapktb.lessTold x).map V.int))) F = some (.lst ((stepsL (done ++ [x])).map V.int)) := by
      rw [upd_same, stepsL_snoc, List.map_append]
    have sb6 : SameBut F H (upd H4 F (.lst ((stepsL done).map V.int ++ (Vapktb.lessTold x).map V.int))) := (sb.same s4).upd
    have tb5 := hp2.told hF4 np2F sb5
    generalize upd H4 F (.lst ((stepsL done).map V.int ++ (Vapktb.lessTold x).map V.int)) = H5 at sb5 hF5 sb6 tb5
    have s5 := sb6.new nF
    refine ⟨_, rfl, _, rfl, d, CD, dx, _, _, rfl, s5 _ _ t.fd, T.cl, T.nW, dF_wide _ _, p2, u, st.wide, rfl, tb5, by have := wf.1; omega, w7.2, f1, fun H6 S2 s6 nS2 hS2' => ?_⟩
    refine ⟨p2, done ++ [x], S2, ?_, sb6.same s6, tb5.same s6, np2F, s6 _ _ hF5, hS2', (ne_of_none hF5 nS2).symm, s3.free np2, rfl⟩
    rw [List.length_append, List.length_singleton]
    rfl
  | none =>
    rw [e] at hS'
    refine iteF ?_
    have hl2 : Vapktb.lessened st.wide (Vapktb.tableAt st k).length (Vapktb.tableAt st k) = (done, t') := by
      rw [hless, lessened_none e, List.append_nil]
    rw [hl2] at es
    have ha3 := s3 _ _ t.fa
    have naF : a ≠ F := ne_of_none t.fa nF
    have hl : pl.length = 2 := by
      obtain ⟨dx', a', p0, q0, t0, t1, e, h1, h2, _⟩ := hD.ex
      have ea : a' = a := by
        have e1 := Option.some.inj (h1.symm.trans t.fd)
        injection e1 with _ _ e2
        have e3 := dF_tabs st.wide a'
        rw [e2, dF_tabs] at e3
        injection e3 with e4
        injection e4 with e5
        exact e5.symm
      rw [ea] at h2
      have e1 := Option.some.inj (h2.symm.trans t.fa)
      injection e1 with e2
      rw [← e2]
      rfl
    refine ⟨_, rfl, _, rfl, d, CD, dx, _, _, rfl, s3 _ _ t.fd, T.cl, T.nT, dF_tabs _ _, _, rfl, b, _, 0, _, rfl, rfl, .of (s3 _ _ hb), atI_nat (j := 0) rfl, a, pl, _, k, rfl, rfl, ha3, by rw [hl]; exact ixN2 hk, ?_⟩
    -- the desk behind it
    have main : ∃ D', DeskAt C CD (upd H3 a (.lst (pl.set k (.ref p')))) d D' (stWith st k t') ∧ Out D H (upd H3 a (.lst (pl.set k (.ref p')))) ∧ ∀ x ∈ D', x ∈ D ∨ H x = none := by
      rcases hpp with ⟨rfl, rfl⟩ | hn
      · have e1 : pl.set k (.ref p') = pl := by
          apply List.ext_getElem?
          intro i
          rw [List.getElem?_set]
          by_cases c : k = i
          · subst c
            rw [if_pos rfl, if_pos (by omega), t.fp]
          · rw [if_neg c]
        have e2 : upd H3 a (.lst pl) = H3 := by
          funext x
          unfold upd
          by_cases c : x = a
          · rw [if_pos c, c, ha3]
          · rw [if_neg c]
        rw [e1, e2]
        obtain ⟨g1, g2⟩ := hD.wr hk t (fun x o _ hx => s3 x o hx) tb wf
        exact ⟨D, g1, g2, fun x hx => .inl hx⟩
      · exact hD.st hk t hn s3 tb wf
    obtain ⟨D', g1, g2, g3⟩ := main
    refine ⟨_, rfl, by show 1 ≤ sizeLine; decide, fun y ny => ?_⟩
    have s7 := same_upd (o := .lst [V.int (done.length : Nat)]) ny
    have hF7 := s7 _ _ ((upd_ne (o := .lst (pl.set k (.ref p'))) naF.symm).trans hF)
    refine ⟨_, rfl, y, F, _, _, rfl, rfl, upd_same, hF7, ?_, fun z nz => ?_⟩
    · rw [List.length_map]
      have h1 := stepsL_len done
      exact sizeLine_le (by show 1 + _ ≤ _; omega)
    have s8 := s7.trans (same_upd (o := .lst ([V.int (done.length : Nat)] ++ (stepsL done).map V.int)) nz)
    refine q _ z D' (s3.free (free_upd (s7.free nz))) ?_ (fun x o nx hx => s8 _ _ (g2 x o nx hx)) g3 ?_
    · rw [es]
      exact g1.same s8
    · rw [es, upd_same]
      rfl
end
end RT
set_option Elab.async false
set_option linter.all false
set_option maxRecDepth 100000
set_option maxHeartbeats 4000000
/-! Rules: setdefault and sorted of dicts whose keys are tuples of ints. -/
namespace RT
open PySem PySem.Spec PyProof.Rows L2
section
variable {X : Cx}
def rSetdT : V → List V → Hp → VK → Prop := fun x xs H Q => ∃ (a : Addr) (kvs : List (List L2.Key × V)) (k : List L2.Key) (b : Addr) (d : V), x = .ref a ∧ xs = [.ref b, d] ∧ H a = some (.dT kvs) ∧ H b = some (.tup (k.map kV)) ∧ kvs.length < sizeLine ∧
  (∀ v, valV kvs k = some v → Q v H) ∧ (valV kvs k = none → Q d (upd H a (.dT (putK kvs k d))))
theorem mt_setdT (hu : X.A.units + 1 < cLine) : MtR X "dict.setdefault" rSetdT := by
  intro pins s σ H x xs v us Q I rx rxs h
  obtain ⟨a, kvs, k, b, d, rfl, rfl, ha, hb, hl, q1, q2⟩ := h
  cases rx
  obtain ⟨u1, u2, rfl, r1, r2⟩ := vals2 rxs
  cases r1
  obtain ⟨z, hd, xs', rel, dd⟩ := dt_of I.hok ha
  have hz : xs'.length ≤ sizeLine := by rw [← Paired.length rel]; exact z
  refine call_setdefault_heap (hsz := hz) (knd := tupleKind (mixKind X.prog X.w)) (k := k) (tupleKind_room_in1 hu) (key_of I.hok hb) hd dd (fun p hp => ?_) (fun hn h' dd' hs => ?_)
  · have r := rel.val k
    rw [hp] at r
    cases ev : valV kvs k with
    | none =>
      rw [ev] at r
      exact (show False from r).elim
    | some v0 =>
      rw [ev] at r
      exact ⟨v0, H, I.tok _, r, q1 v0 ev⟩
  · have r := rel.val k
    rw [hn] at r
    have ev : valV kvs k = none := by
      cases ev : valV kvs k with
      | none => rfl
      | some v0 =>
        rw [ev] at r
        exact (show False from r).elim
    have hl2 : (putK kvs k d).length ≤ sizeLine := by have := length_putK kvs k d; omega
    obtain ⟨o, es, ep, hq, h2, h3, h4, _, h5⟩ := dd'
    have new : ObjOk X.prog X.w (upd H a (.dT (putK kvs k d))) h' a (.dT (putK kvs k d)) := ⟨hl2, hd, _, (rel.put k hb r2).keeps fun c ys ec => by
      rw [upd_ne (ne_of ec ha (fun z => nomatch z))]
      exact ec, o, es, ep, hq, h2, h3, h4, h5⟩
    exact ⟨d, _, d_write I (by rw [ha]; exact True.intro) hs ⟨o, hq⟩ new, r2, q2 ev⟩
/-- sorted(d), d's keys tuples of so many ints -/
def rSortDT : List V → Hp → VK → Prop := fun vs H Q => ∃ (a : Addr) (kvs : List (List L2.Key × V)) (ks : List (List Int)) (d : Nat) (B : Int), vs = [.ref a] ∧ H a = some (.dT kvs) ∧ kvs.map (·.1) = ks.map (fun k => k.map Sum.inl) ∧ ks.length < 64 ∧ 1 ≤ d ∧
  (∀ k ∈ ks, k.length = d ∧ TS.Bd B k) ∧
  ∀ (L : List (Addr × List Int)) (p : Addr), (L.map (·.2)).Perm ks → L.Pairwise (fun q r => TS.code B q.2 ≤ TS.code B r.2) → (∀ y ∈ L, H y.1 = some (.tup (y.2.map V.int))) → H p = none → Q (.ref p) (upd H p (.lst (L.map fun y => V.ref y.1)))
theorem cr_sortDT (hc : X.calm = true) : CallR X (.builtin "sorted") rSortDT := by
  intro pins s σ H vs us Q I r h
  obtain ⟨a, kvs, ks, d, B, rfl, ha, hks, h64, hd1, hB, q⟩ := h
  rw [Vals.ref1 r]
  obtain ⟨z, hs, xs, pr, o, es, ep, ho, hx, hdt, he, hn⟩ := (show ObjOk X.prog X.w H s.heap a (.dT kvs) from I.hok a _ ha)
  have l1 : es.size = xs.length := size_of_entries he
  have l2 : kvs.length = xs.length := Paired.length pr
  have l3 : kvs.length = ks.length := by
    have e := congrArg List.length hks
    rw [List.length_map, List.length_map] at e
    exact e
  -- the keys' addresses with what they hold
  have hL : ∃ L0 : List (Addr × List Int), xs.map (fun x => x.2.1) = L0.map (·.1) ∧ L0.map (·.2) = ks ∧ ∀ y ∈ L0, H y.1 = some (.tup (y.2.map V.int)) := by
    clear q hB h64 l1 l2 l3 he hn hdt ho hx ha z
    induction pr generalizing ks with
    | nil =>
      cases ks with
      | nil => exact ⟨[], rfl, rfl, fun _ h => nomatch h⟩
      | cons k ks => exact nomatch hks
    | @cons p x ps xs' hpx t ih =>
      cases ks with
      | nil => exact nomatch hks
      | cons k ks =>
        rw [List.map_cons, List.map_cons] at hks
        obtain ⟨e1, e2⟩ := List.cons.inj hks
        obtain ⟨L0, f1, f2, f3⟩ := ih (ks := ks) e2
        refine ⟨(x.2.1, k) :: L0, by rw [List.map_cons, List.map_cons, f1], by rw [List.map_cons, f2], fun y hy => ?_⟩
        rcases List.mem_cons.mp hy with rfl | hy
        · have h1 := hpx.2.1
          rw [e1, List.map_map] at h1
          exact h1
        · exact f3 y hy
  obtain ⟨L0, f1, f2, f3⟩ := hL
  have lL : L0.length = ks.length := by rw [← f2, List.length_map]
  refine Calls.call_function_entry kind_sorted plain_sorted entry_sorted (args_sorted1 _) ?_
  unfold Builtin.«sorted»
  refine wpAny_bind (m := checkCount "sorted" 1 1 _) (wpAny_pure ?_)
  refine wpAny_bind (PySem.W.kdu_collect (A := X.A.in1) (kdl_raw hs hx hdt) (I.ok.hd hc) ho (by rw [sizeLine_eq]; omega) fun h' tk acc hk hacc => ?_)
  have ea : acc.toList = L0.map fun y => Value.ref y.1 := by
    have ea0 : acc.toList = xs.map fun x => Value.ref x.2.1 := by
      have hl : acc.toList.length = xs.length := by rw [Array.length_toList, hacc.1]; exact l1
      apply List.ext_getElem?
      intro j
      rw [List.getElem?_map]
      cases hj : acc.toList[j]? with
      | none =>
        have h1 := List.getElem?_eq_none_iff.mp hj
        rw [List.getElem?_eq_none (by omega)]
        all_goals rfl
      | some v =>
        obtain ⟨en, hen, hv⟩ := hacc.2 j v (by rw [← Array.getElem?_toList]; exact hj)
        have qe := entry_at he j
        rw [hen] at qe
        cases hb : xs[j]? with
        | none =>
          rw [hb] at qe
          exact nomatch (show some en = none from qe)
        | some b =>
          rw [hb] at qe
          have e2 : en = entryOfKey (tupleKind (mixKind X.prog X.w)) b := Option.some.inj qe
          rw [hv, e2]
          all_goals rfl
    rw [ea0]
    have e3 := congrArg (List.map Value.ref) f1
    rw [List.map_map, List.map_map] at e3
    exact e3
  have hal : acc.toList.length = ks.length := by rw [ea, List.length_map, lL]
  have I1 : Inv X pins σ H { s with heap := h', toks := tk } := I.kept hk
  refine wpAny_bind (wpAny_newList ?_ (by rw [hal, sizeLine_eq]; omega))
  have hoL : (h'.push (seqObj "list" acc.toList.toArray 0)).get? h'.objs.size = some (seqObj "list" acc.toList.toArray 0) := Heap.get?_push_size _ rfl
  have tkL : ∀ y ∈ L0, TS.TupInts (h'.push (seqObj "list" acc.toList.toArray 0)) (.ref y.1) y.2 := fun y hy => by
    have h1 := I1.isT (b := y.1) (k := y.2) (.inl (.of (f3 y hy)))
    exact tupInts_of (P := X.prog) (w := X.w) (isT_keep h1 fun b u e => Heap.get?_push_of_some _ e)
  have x : TS.TupsOk (h'.push (seqObj "list" acc.toList.toArray 0)) d B acc.toList := fun v hv => by
    rw [ea] at hv
    obtain ⟨y, hy, e⟩ := List.mem_map.mp hv
    rw [← e]
    have hk2 : y.2 ∈ ks := by rw [← f2]; exact List.mem_map.mpr ⟨y, hy, rfl⟩
    exact ⟨y.2, tkL y hy, (hB _ hk2).1, (hB _ hk2).2⟩
  show wpAny _ _ _ _ _ { s with heap := h'.push (seqObj "list" acc.toList.toArray 0), toks := tk }
  refine wpAny_bind (wpAny_holding (TS.call_sort_tups (s := { s with heap := h'.push (seqObj "list" acc.toList.toArray 0), toks := tk }) hoL (by rw [hal]; exact h64) hd1 x fun out a1 a2 => ?_))
  obtain ⟨c, hcc⟩ := sortedHeap_at (vs := acc.toList) (out := out) hoL
  -- what stands in the new list
  have ord : ∀ vs : List Value, (∀ v ∈ vs, ∃ y ∈ L0, v = Value.ref y.1) → ∃ L1 : List (Addr × List Int), vs = L1.map (fun y => Value.ref y.1) ∧ ∀ y ∈ L1, y ∈ L0 := by
    intro vs
    induction vs with
    | nil => intro _; exact ⟨[], rfl, fun q hq => nomatch hq⟩
    | cons v vs ih =>
      intro hv
      obtain ⟨y, hy, e⟩ := hv v List.mem_cons_self
      obtain ⟨L1, e1, hs⟩ := ih fun u hu => hv u (List.mem_cons_of_mem _ hu)
      refine ⟨y :: L1, by rw [List.map_cons, e, e1], fun r hr => ?_⟩
      rcases List.mem_cons.mp hr with z | z
      · rw [z]; exact hy
      · exact hs r z
  obtain ⟨L1, e1, hL1⟩ := ord out.toList fun v hv => by
    have h1 := a1.mem_iff.mp hv
    rw [ea] at h1
    obtain ⟨y, hy, e⟩ := List.mem_map.mp h1
    exact ⟨y, hy, e.symm⟩
  have onto : ∀ y ∈ L0, ∀ r ∈ L0, y.1 = r.1 → y.2 = r.2 := fun y hy r hr e => by
    have h1 := f3 y hy
    have h2 := f3 r hr
    rw [e, h2] at h1
    have e2 := Option.some.inj h1
    injection e2 with e3
    have inj : ∀ {l m : List Int}, l.map V.int = m.map V.int → l = m := by
      intro l
      induction l with
      | nil =>
        intro m h
        cases m with
        | nil => rfl
        | cons b m => exact nomatch h
      | cons b l ih =>
        intro m h
        cases m with
        | nil => exact nomatch h
        | cons c m =>
          rw [List.map_cons, List.map_cons] at h
          obtain ⟨g1, g2⟩ := List.cons.inj h
          rw [V.int.inj g1, ih g2]
    exact (inj e3).symm
  have pm : (L1.map (·.2)).Perm ks := by
    have p1 : (L1.map fun y => Value.ref y.1).Perm (L0.map fun y => Value.ref y.1) := by
      rw [← e1, ← ea]
      exact a1
    have g : ∀ l : List (Addr × List Int), (∀ y ∈ l, y ∈ L0) → l.map (·.2) = (l.map fun y => Value.ref y.1).map fun v => TS.intsOf (h'.push (seqObj "list" acc.toList.toArray 0)) v := fun l hl => by
      rw [List.map_map]
      refine List.map_congr_left fun y hy => ?_
      exact ((tkL y (hl y hy)).ints).symm
    rw [g L1 hL1, ← f2, g L0 fun y hy => hy]
    exact p1.map _
  have pw : L1.Pairwise (fun q r => TS.code B q.2 ≤ TS.code B r.2) := by
    rw [e1] at a2
    refine List.Pairwise.imp_of_mem (fun {q r} hq hr hle => ?_) (List.pairwise_map.mp a2)
    have g1 : TS.intsOf (h'.push (seqObj "list" acc.toList.toArray 0)) (.ref q.1) = q.2 := (tkL q (hL1 q hq)).ints
    have g2 : TS.intsOf (h'.push (seqObj "list" acc.toList.toArray 0)) (.ref r.1) = r.2 := (tkL r (hL1 r hr)).ints
    rw [← g1, ← g2]
    exact hle
  have hlen : (L1.map fun y => V.ref y.1).length ≤ sizeLine := by
    have e := pm.length_eq
    rw [List.length_map] at e
    rw [List.length_map, sizeLine_eq]
    omega
  refine wpAny_pure ⟨_, rfl, .ref h'.objs.size, upd H h'.objs.size (.lst (L1.map fun y => V.ref y.1)), I1.laid (t' := tk) (fun b u e => ?_) (Nat.le_refl _)
    (show ObjOk X.prog X.w _ _ _ (.lst (L1.map fun y => V.ref y.1)) from ⟨hlen, out.toList, c, by rw [e1]; exact vals_of_refs L1, by rw [Array.toArray_toList]; exact hcc⟩), rfl, q L1 _ pm pw (fun y hy => f3 y (hL1 y hy)) (I1.hok.fresh (Nat.le_refl _))⟩
  have hb : b < h'.objs.size := Heap.lt_size e
  rw [PyProof.Rows.sortedHeap_old (Nat.ne_of_lt hb) (by rw [size_push']; exact Nat.lt_succ_of_lt hb)]
  exact Heap.get?_push_of_some _ e
end
end RT
set_option Elab.async false
set_option linter.all false
set_option maxRecDepth 100000
set_option maxHeartbeats 4000000
/-! Rule: list(zip(a, b)) of two lists of one length. -/
namespace LZ
open PySem PySem.Spec PyProof.Rows L2

theorem zip_no_len : typeLookup (.type "zip") "__len__" = pure none := am_miss_of_fast (by decide +kernel)
theorem zip_no_hint : typeLookup (.type "zip") "__length_hint__" = pure none := am_miss_of_fast (by decide +kernel)

structure Lows (S z TI TO i1 i2 l1 l2 : Addr) : Prop where
  z : z < S
  TI : TI < S
  TO : TO < S
  i1 : i1 < S
  i2 : i2 < S
  l1 : l1 < S
  l2 : l2 < S

structure ZSt (h : Heap) (S z TI TO i1 i2 l1 l2 : Addr) (xs ys : Array Value) (i : Nat) : Prop where
  ti : IsPair h TI (.ref i1) (.ref i2)
  a : h.IsListIter i1 l1 i
  b : h.IsListIter i2 l2 i
  la : h.IsList l1 xs
  lb : h.IsList l2 ys
  zp : (IsZip h z TI TO .none ∧ ∃ a b, IsPair h TO a b) ∨ ∃ T f oT, IsZipHeld h z TI TO T f ∧ h.get? T = some oT ∧ S < T

section
variable {S z TI TO i1 i2 l1 l2 : Addr} {xs ys : Array Value} {i : Nat}
theorem ZSt.keep {h h' : Heap} (B : Lows S z TI TO i1 i2 l1 l2) (st : ZSt h S z TI TO i1 i2 l1 l2 xs ys i) (k : ∀ b o, b ≠ S → h.get? b = some o → h'.get? b = some o) : ZSt h' S z TI TO i1 i2 l1 l2 xs ys i where
  ti := k _ _ (Nat.ne_of_lt B.TI) st.ti
  a := st.a.at fun o e => k _ o (Nat.ne_of_lt B.i1) e
  b := st.b.at fun o e => k _ o (Nat.ne_of_lt B.i2) e
  la := st.la.at fun o e => k _ o (Nat.ne_of_lt B.l1) e
  lb := st.lb.at fun o e => k _ o (Nat.ne_of_lt B.l2) e
  zp := by
    rcases st.zp with ⟨h1, a, b, h2⟩ | ⟨T, f, oT, h1, h2, h3⟩
    · exact .inl ⟨k _ _ (Nat.ne_of_lt B.z) h1, a, b, k _ _ (Nat.ne_of_lt B.TO) h2⟩
    · exact .inr ⟨T, f, oT, k _ _ (Nat.ne_of_lt B.z) h1, k _ _ (Nat.ne_of_gt h3) h2, h3⟩
theorem ZSt.type {s : Shared} (st : ZSt s.heap S z TI TO i1 i2 l1 l2 xs ys i) : s.TypeIs (.ref z) "zip" := by
  rcases st.zp with ⟨h1, _⟩ | ⟨_, _, _, h1, _⟩
  · exact ⟨_, h1, rfl⟩
  · exact ⟨_, h1, rfl⟩
variable {prog : Program} {w : World} {A : Around} {E : Value → Shared → Prop} {s : Shared}
theorem ZSt.self {Q : Value → Shared → Prop} (st : ZSt s.heap S z TI TO i1 i2 l1 l2 xs ys i) (h : Q (.ref z) s) : wpAny (model prog w) A (pyIter (.ref z)) Q E s := by
  rcases st.zp with ⟨h1, _⟩ | ⟨T, f, _, h1, _⟩
  · exact wpAny_pyIter_zip h1 h
  · have hT : s.TypeIs (.ref z) "zip" := ⟨_, h1, rfl⟩
    refine wpAny_pyIter_slot hT F.slot_zip_iter (wpAny_call_entry F.slot_zip_iter hT F.entry_zip_iter ?_ (F.args_zip_iter_1 _))
    show wpAny _ _ (ret (.ref z)) _ _ s
    exact wpAny_pure ⟨_, rfl, "zip", _, hT, F.slot_zip_next.lookup, h⟩
theorem nxt {x y : Value} {Q : Option Value → Shared → Prop} (D : ZipApart z TI TO i1 i2 l1 l2) (B : Lows S z TI TO i1 i2 l1 l2) (st : ZSt s.heap S z TI TO i1 i2 l1 l2 xs ys i) (hS : S < s.heap.objs.size) (hx : xs[i]? = some x) (hy : ys[i]? = some y)
    (hQ : ∀ h', ZSt h' S z TI TO i1 i2 l1 l2 xs ys (i + 1) → IsPair h' s.heap.objs.size x y → h'.objs.size = s.heap.objs.size + 1 → (∀ c o, c ≠ z → c ≠ TO → c ≠ i1 → c ≠ i2 → s.heap.get? c = some o → h'.get? c = some o) → Q (some (.ref s.heap.objs.size)) { s with heap := h' }) :
    wpAny (model prog w) A (pyNext (.ref z)) Q E s := by
  have g1 := B.z
  have g2 := B.TO
  have g3 := B.i1
  have g4 := B.i2
  rcases st.zp with ⟨h1, a, b, h2⟩ | ⟨T, f, oT, h1, h2, h3⟩
  · refine wpAny_pyNext_zip_item D h1 st.ti h2 st.a st.b st.la st.lb hx hy fun h' a1 a2 a3 a4 a5 a6 hk => hQ h' ⟨hk _ _ D.TIz D.TITO D.TIi1 D.TIi2 st.ti, a3, a4, ?_, ?_, .inr ⟨s.heap.objs.size, false, _, a1, a5, hS⟩⟩ a5 a6 hk
    · exact st.la.at fun o e => hk _ o D.l1z D.l1TO D.l1i1 D.l1i2 e
    · exact st.lb.at fun o e => hk _ o D.l2z D.l2TO D.l2i1 D.l2i2 e
  · refine wpAny_pyNext_zip_item_held D h1 h2 st.ti st.a st.b st.la st.lb hx hy fun h' a1 a3 a4 a5 a6 hk => hQ h' ⟨hk _ _ D.TIz D.TIi1 D.TIi2 st.ti, a3, a4, ?_, ?_, .inr ⟨T, true, oT, a1, hk _ _ ?_ ?_ ?_ h2, h3⟩⟩ a5 a6 (fun c o c1 _ c3 c4 e => hk c o c1 c3 c4 e)
    · exact st.la.at fun o e => hk _ o D.l1z D.l1i1 D.l1i2 e
    · exact st.lb.at fun o e => hk _ o D.l2z D.l2i1 D.l2i2 e
    · exact Nat.ne_of_gt (Nat.lt_trans g1 h3)
    · exact Nat.ne_of_gt (Nat.lt_trans g3 h3)
    · exact Nat.ne_of_gt (Nat.lt_trans g4 h3)
theorem fin {Q : Option Value → Shared → Prop} (hh : A.handled = none) (D : ZipApart z TI TO i1 i2 l1 l2) (st : ZSt s.heap S z TI TO i1 i2 l1 l2 xs ys i) (hend : xs[i]? = none ∨ ys[i]? = none)
    (hQ : ∀ h', (∀ c o, c ≠ z → c ≠ TO → c ≠ i1 → c ≠ i2 → s.heap.get? c = some o → h'.get? c = some o) → Q none { s with heap := h' }) : wpAny (model prog w) A (pyNext (.ref z)) Q E s := by
  rcases st.zp with ⟨h1, a, b, h2⟩ | ⟨T, f, oT, h1, h2, h3⟩
  · exact wpAny_pyNext_zip_end hh D h1 st.ti h2 st.a st.b st.la st.lb hend hQ
  · exact wpAny_pyNext_zip_end_held hh D h1 h2 st.ti st.a st.b st.la st.lb hend fun h' hk => hQ h' fun c o c1 _ c3 c4 e => hk c o c1 c3 c4 e
end

structure Made (xs ys : Array Value) (S : Addr) (h : Heap) (as : List Addr) : Prop where
  rise : as.Pairwise (· < ·)
  above : ∀ a ∈ as, S < a
  pairs : ∀ (j : Nat) (a : Addr), as[j]? = some a → ∃ x y, xs[j]? = some x ∧ ys[j]? = some y ∧ IsPair h a x y

section
variable {S z TI TO i1 i2 l1 l2 : Addr} {xs ys : Array Value}
variable {prog : Program} {w : World} {A : Around} {s : Shared} {R : Result → Shared → Prop}
theorem loop (hh : A.handled = none) (D : ZipApart z TI TO i1 i2 l1 l2) (B : Lows S z TI TO i1 i2 l1 l2) (hxy : xs.size = ys.size) (hn : xs.size ≤ sizeLine) (res : Value) {h₁ : Heap}
    (hR : ∀ h' tk acc c as, (∀ b o, b ≠ S → b ≠ z → b ≠ TO → b ≠ i1 → b ≠ i2 → h₁.get? b = some o → h'.get? b = some o) → h'.get? S = some { cls := .type "list", dict := none, data := .seq acc c, slots := #[] } → as.length = xs.size → Made xs ys S h' as →
      acc.toList = as.map Value.ref → R (.ok (.ret res)) { s with heap := h', toks := tk }) :
    ∀ (k i : Nat) (h : Heap) (tk c : Nat) (acc : Array Value) (as : List Addr), xs.size - i = k → i ≤ xs.size → ZSt h S z TI TO i1 i2 l1 l2 xs ys i → (∀ b o, b ≠ S → b ≠ z → b ≠ TO → b ≠ i1 → b ≠ i2 → h₁.get? b = some o → h.get? b = some o) →
      h.get? S = some { cls := .type "list", dict := none, data := .seq acc c, slots := #[] } → acc.toList = as.map Value.ref → as.length = i → Made xs ys S h as →
      codeAny (model prog w) A (.builtin "list.extend.loop" ⟨[.ref S, .ref z, res], []⟩) R { s with heap := h, toks := tk } := by
  have nz : S ≠ z := Nat.ne_of_gt B.z
  have nTO : S ≠ TO := Nat.ne_of_gt B.TO
  have n1 : S ≠ i1 := Nat.ne_of_gt B.i1
  have n2 : S ≠ i2 := Nat.ne_of_gt B.i2
  intro k
  induction k with
  | zero =>
    intro i h tk c acc as hk hi hst hkeep hS hacc hal hG
    refine codeAny_builtin PySem.F.entry_extend_loop ?_
    rw [Around.under_plainId PySem.F.plain_extend_loop _]
    show wpAny _ A.in1 (pyNext (.ref z) >>= _) _ _ _
    refine wpAny_bind (fin (s := { s with heap := h, toks := tk }) (A := A.in1) hh D hst (.inl (Array.getElem?_eq_none (by omega))) fun h' he => ?_)
    refine wpAny_pure (hR h' tk acc c as (fun b o h0 h1 h2 h3 h4 e => he b o h1 h2 h3 h4 (hkeep b o h0 h1 h2 h3 h4 e)) (he S _ nz nTO n1 n2 hS) (by omega) ⟨hG.rise, hG.above, fun j a hj => ?_⟩ hacc)
    obtain ⟨x, y, e1, e2, e3⟩ := hG.pairs j a hj
    have ha := hG.above a (List.mem_of_getElem? hj)
    have g1 := B.z
    have g2 := B.TO
    have g3 := B.i1
    have g4 := B.i2
    exact ⟨x, y, e1, e2, he a _ (Nat.ne_of_gt (Nat.lt_trans g1 ha)) (Nat.ne_of_gt (Nat.lt_trans g2 ha)) (Nat.ne_of_gt (Nat.lt_trans g3 ha)) (Nat.ne_of_gt (Nat.lt_trans g4 ha)) e3⟩
  | succ k ih =>
    intro i h tk c acc as hk hi hst hkeep hS hacc hal hG
    have hlt : i < xs.size := by omega
    have hlt2 : i < ys.size := by omega
    have hsz : acc.size = i := by rw [← Array.length_toList, hacc, List.length_map, hal]
    have hSl : S < h.objs.size := Heap.lt_size hS
    refine codeAny_builtin PySem.F.entry_extend_loop ?_
    rw [Around.under_plainId PySem.F.plain_extend_loop _]
    show wpAny _ A.in1 (pyNext (.ref z) >>= _) _ _ _
    refine wpAny_bind (nxt (s := { s with heap := h, toks := tk }) D B hst hSl (Array.getElem?_eq_getElem hlt) (Array.getElem?_eq_getElem hlt2) fun h' hst' ht hz hkp => ?_)
    dsimp only at ht hz hkp ⊢
    have hS' := hkp S _ nz nTO n1 n2 hS
    have up : ∀ b o, b ≠ S → h'.get? b = some o → (h'.update S (Obj.mapSeq (·.push (Value.ref h.objs.size)))).get? b = some o := fun b o hb e => (Heap.get?_update_other _ _ (Ne.symm hb)).trans e
    show wpAny _ A.in1 (updateSeq S (·.push (Value.ref h.objs.size)) >>= _) _ _ _
    refine wpAny_bind ?_
    refine wpAny_updateSeq hS' rfl (wpAny_pure ⟨plainId_quiet PySem.F.plain_extend_loop _, ih (i + 1) _ tk _ (acc.push (Value.ref h.objs.size)) (as ++ [h.objs.size]) (by omega) hlt (hst'.keep B up)
      (fun b o h0 h1 h2 h3 h4 e => up b o h0 (hkp b o h1 h2 h3 h4 (hkeep b o h0 h1 h2 h3 h4 e))) (Heap.get?_update_self _ hS' rfl) (by rw [Array.toList_push, hacc, List.map_append]; rfl) (by rw [List.length_append, hal]; rfl) ⟨?_, ?_, ?_⟩⟩) (by rw [hsz]; omega) (by show (acc.push (Value.ref h.objs.size)).size ≤ sizeLine + 1; rw [Array.size_push, hsz]; omega)
    · refine List.pairwise_append.mpr ⟨hG.rise, List.pairwise_singleton _ _, fun a ha b hb => ?_⟩
      rw [List.mem_singleton.mp hb]
      obtain ⟨j, hj⟩ := List.mem_iff_getElem?.mp ha
      obtain ⟨_, _, _, _, e⟩ := hG.pairs j a hj
      exact Heap.lt_size e
    · intro a ha
      rcases List.mem_append.mp ha with ha | ha
      · exact hG.above a ha
      · rw [List.mem_singleton.mp ha]; exact hSl
    · intro j b hj
      rcases Nat.lt_trichotomy j as.length with h1 | h1 | h1
      · rw [List.getElem?_append_left h1] at hj
        obtain ⟨x, y, e1, e2, e3⟩ := hG.pairs j b hj
        have ha := hG.above b (List.mem_of_getElem? hj)
        have g1 := B.z
        have g2 := B.TO
        have g3 := B.i1
        have g4 := B.i2
        exact ⟨x, y, e1, e2, up b _ (Nat.ne_of_gt ha) (hkp b _ (Nat.ne_of_gt (Nat.lt_trans g1 ha)) (Nat.ne_of_gt (Nat.lt_trans g2 ha)) (Nat.ne_of_gt (Nat.lt_trans g3 ha)) (Nat.ne_of_gt (Nat.lt_trans g4 ha)) e3)⟩
      · subst h1
        have hb : h.objs.size = b := by simpa using hj
        subst hb
        exact ⟨_, _, Array.getElem?_eq_getElem (by rw [hal]; exact hlt), Array.getElem?_eq_getElem (by rw [hal]; exact hlt2), up _ _ (Nat.ne_of_gt hSl) (by subst hal; exact ht)⟩
      · have hnone : (as ++ [h.objs.size])[j]? = none := List.getElem?_eq_none (by rw [List.length_append, List.length_singleton]; omega)
        rw [hnone] at hj; cases hj
end
section
variable {S z TI TO i1 i2 l1 l2 : Addr} {xs ys : Array Value}
variable {prog : Program} {w : World} {A : Around} {E : Value → Shared → Prop} {s : Shared}
theorem hint {Q : Bool → Shared → Prop} (hT : s.TypeIs (.ref z) "zip") (h : ∀ b, Q b s) : wpAny (model prog w) A (Builtin.List.listLengthHint (.ref z)) Q E s := by
  unfold Builtin.List.listLengthHint
  refine wpAny_bind (wpAny_specialOf hT zip_no_len ?_)
  show wpAny _ _ (specialOf (Value.ref z) (Str.ofString "__length_hint__") >>= _) _ _ _
  refine wpAny_bind (wpAny_specialOf hT zip_no_hint ?_)
  exact wpAny_pure (h _)
theorem ext {R : Result → Shared → Prop} (hh : A.handled = none) (D : ZipApart z TI TO i1 i2 l1 l2) (B : Lows S z TI TO i1 i2 l1 l2) (hxy : xs.size = ys.size) (hn : xs.size ≤ sizeLine) (res : Value) (c₀ : Nat) (st : ZSt s.heap S z TI TO i1 i2 l1 l2 xs ys 0)
    (hS : s.heap.get? S = some { cls := .type "list", data := .seq #[] c₀ })
    (hR : ∀ h' tk acc c as, (∀ b o, b ≠ S → b ≠ z → b ≠ TO → b ≠ i1 → b ≠ i2 → s.heap.get? b = some o → h'.get? b = some o) → h'.get? S = some { cls := .type "list", dict := none, data := .seq acc c, slots := #[] } → as.length = xs.size → Made xs ys S h' as →
      acc.toList = as.map Value.ref → R (.ok (.ret res)) { s with heap := h', toks := tk }) :
    wpAny (model prog w) A.in1 (Builtin.List.listExtendWith (.ref S) (.ref z) res)
      (fun fin s' => match fin with | .done f => R (.ok f) s' | .again c' => c'.quiet = true ∧ codeAny (model prog w) A c' R s') (fun e s' => R (.error e) s') s := by
  have key : ∀ (h : Heap) (c₁ : Nat), (∀ b o, b ≠ S → s.heap.get? b = some o → h.get? b = some o) →
      h.get? S = some { cls := .type "list", data := .seq #[] c₁ } → codeAny (model prog w) A (.builtin "list.extend.loop" ⟨[.ref S, .ref z, res], []⟩) R { s with heap := h } := by
    intro h c₁ hk hS₁
    exact loop (s := s) (h₁ := s.heap) hh D B hxy hn res hR xs.size 0 h s.toks c₁ #[] [] (Nat.sub_zero _) (Nat.zero_le _) (st.keep B hk) (fun b o hb _ _ _ _ e => hk b o hb e) hS₁ rfl rfl ⟨List.Pairwise.nil, (fun _ ha => nomatch ha), (fun j a hj => by simp at hj)⟩
  have hSz : S ≠ z := Nat.ne_of_gt B.z
  unfold Builtin.List.listExtendWith
  refine wpAny_bind (wpAny_typeOf (T := "zip") st.type ?_)
  have h1 : Builtin.List.listSameRef (.ref S) (.ref z) = false := by simp [Builtin.List.listSameRef, hSz]
  have h2 : (Value.type "zip" == Value.type "list") = false := by decide
  have h3 : (Value.type "zip" == Value.type "tuple") = false := by decide
  simp only [h1, h2, h3, Bool.or_false, Bool.false_eq_true, if_false]
  refine wpAny_bind (st.self ?_)
  refine wpAny_bind (wpAny_holding (hint st.type fun b => ?_))
  refine wpAny_ite_split (fun _ => ?_) (fun _ => wpAny_pure ⟨plainId_quiet PySem.F.plain_extend_loop _, key _ c₀ (fun b o _ e => e) hS⟩)
  refine wpAny_bind (wpAny_rule ?_)
  refine wpAny_bind ?_
  show wpAny _ _ (updateSeq S (·.push .none) >>= fun _ => updateSeq S (·.pop)) _ _ _
  refine wpAny_bind (wpAny_updateSeq hS rfl ?_)
  have hS₂ := Heap.get?_update_self (Obj.mapSeq (·.push Value.none)) hS rfl
  refine wpAny_updateSeq (hz := by seq_fits) hS₂ rfl ?_
  have hS₃ := Heap.get?_update_self (Obj.mapSeq (·.pop)) hS₂ rfl
  refine wpAny_pure ⟨plainId_quiet PySem.F.plain_extend_loop _, key _ _ (fun b o hb e => ?_) hS₃⟩
  exact (Heap.get?_update_other _ _ (Ne.symm hb)).trans ((Heap.get?_update_other _ _ (Ne.symm hb)).trans e)
theorem init {R : Result → Shared → Prop} (hh : A.handled = none) (D : ZipApart z TI TO i1 i2 l1 l2) (B : Lows S z TI TO i1 i2 l1 l2) (hxy : xs.size = ys.size) (hn : xs.size ≤ sizeLine) (st : ZSt s.heap S z TI TO i1 i2 l1 l2 xs ys 0)
    (hS : s.heap.get? S = some { cls := .type "list", data := .seq #[] })
    (hR : ∀ h' tk acc c as, (∀ b o, b ≠ S → b ≠ z → b ≠ TO → b ≠ i1 → b ≠ i2 → s.heap.get? b = some o → h'.get? b = some o) → h'.get? S = some { cls := .type "list", dict := none, data := .seq acc c, slots := #[] } → as.length = xs.size → Made xs ys S h' as →
      acc.toList = as.map Value.ref → R (.ok (.ret .none)) { s with heap := h', toks := tk }) :
    wpAny (model prog w) A.in1 (Builtin.«list.__init__» ⟨[.ref S, .ref z], []⟩)
      (fun fin s' => match fin with | .done f => R (.ok f) s' | .again c' => c'.quiet = true ∧ codeAny (model prog w) A c' R s') (fun e s' => R (.error e) s') s := by
  show wpAny _ _ (do let old ← Builtin.List.listItems (.ref S); Builtin.List.listUpdate (.ref S) (fun _ => #[]); letGo old.toList.reverse; Builtin.List.listExtendWith (.ref S) (.ref z) .none) _ _ s
  refine wpAny_bind ?_
  unfold Builtin.List.listItems
  refine wpAny_bind (wpAny_seqItems hS rfl (wpAny_pure ?_))
  show wpAny _ _ (updateSeq S (fun _ => #[]) >>= fun _ => letGo (#[] : Array Value).toList.reverse >>= fun _ => Builtin.List.listExtendWith (.ref S) (.ref z) .none) _ _ s
  refine wpAny_bind (wpAny_updateSeq hS rfl ?_)
  have hS₂ := Heap.get?_update_self (Obj.mapSeq (fun _ => (#[] : Array Value))) hS rfl
  have oth : ∀ b o, b ≠ S → s.heap.get? b = some o → (s.heap.update S (Obj.mapSeq (fun _ => (#[] : Array Value)))).get? b = some o :=
    fun b o hb e => (Heap.get?_update_other _ _ (Ne.symm hb)).trans e
  refine wpAny_bind (wpAny_letGo ?_)
  refine ext hh D B hxy hn .none _ (st.keep B oth) hS₂ fun h' tk acc' c' as hk hS' hl hG hacc => ?_
  exact hR h' tk acc' c' as (fun b o hb h1 h2 h3 h4 e => hk b o hb h1 h2 h3 h4 (oth b o hb e)) hS' hl hG hacc
theorem callZ {Q : Value → Shared → Prop} (hh : A.handled = none) (D : ZipApart z TI TO i1 i2 l1 l2) (B : Lows s.heap.objs.size z TI TO i1 i2 l1 l2) (hxy : xs.size = ys.size) (hn : xs.size ≤ sizeLine) (st : ZSt s.heap s.heap.objs.size z TI TO i1 i2 l1 l2 xs ys 0)
    (hQ : ∀ h' tk acc c as, (∀ b o, b ≠ z → b ≠ TO → b ≠ i1 → b ≠ i2 → s.heap.get? b = some o → h'.get? b = some o) → h'.get? s.heap.objs.size = some { cls := .type "list", dict := none, data := .seq acc c, slots := #[] } → as.length = xs.size → Made xs ys s.heap.objs.size h' as →
      acc.toList = as.map Value.ref → Q (.ref s.heap.objs.size) { s with heap := h', toks := tk }) :
    wpAny (model prog w) A (call (.type "list") [.ref z]) Q E s := by
  refine callType_codes (Q₁ := fun obj s₁ => obj = .ref s.heap.objs.size ∧ s₁ = { s with heap := s.heap.push { cls := .type "list", data := .seq #[] } }) PySem.F.called_list (PySem.F.typeCall_list_1 _) PySem.F.entry_list_init
    (PySem.code_list_new _ ⟨rfl, rfl⟩) fun obj s₁ h₁ => ?_
  obtain ⟨rfl, rfl⟩ := h₁
  have hS : (s.heap.push { cls := .type "list", data := .seq #[] }).get? s.heap.objs.size = some { cls := .type "list", data := .seq #[] } := Heap.get?_push_size _ rfl
  refine ⟨⟨_, hS, rfl⟩, PySem.F.args_list_init_2 _ _, init (A := A.in1) hh D B hxy hn (st.keep B fun b o _ e => Heap.get?_push_of_some _ e) hS (fun h' tk acc' c' as hk hS' hl hG hacc => ?_)⟩
  exact ⟨rfl, hQ h' tk acc' c' as (fun b o h1 h2 h3 h4 e => hk b o (Nat.ne_of_lt (Heap.lt_size e)) h1 h2 h3 h4 (Heap.get?_push_of_some _ e)) hS' hl hG hacc⟩
end
end LZ
namespace LZ
open PySem PySem.Spec PyProof.Rows L2
def tLZip (K : PySem.W.Frag) (ta : TA) : TE := fun σ H Q => ta σ H fun vs H1 => ∃ (a b : Addr) (xs ys : List V), vs = [.ref a, .ref b] ∧ SqL K H1 a xs ∧ SqL K H1 b ys ∧ xs.length = ys.length ∧
  ∀ (H2 : Hp) (p : Addr) (ts : List Addr), (∀ b o, H1 b = some o → H2 b = some o) → H1 p = none → H2 p = some (.lst (ts.map V.ref)) → ts.length = xs.length →
    (∀ (j : Nat) (t : Addr), ts[j]? = some t → ∃ x y, xs[j]? = some x ∧ ys[j]? = some y ∧ H2 t = some (.tup [x, y]) ∧ H1 t = none) → Q (.ref p) H2
theorem vget {xs : List V} {us : List Value} (r : Vals xs us) {j : Nat} {u : Value} (h : us[j]? = some u) : ∃ x, xs[j]? = some x ∧ RelV x u := by
  obtain ⟨hl, _⟩ := List.getElem?_eq_some_iff.mp h
  have e := r.length
  have hx : xs[j]? = some (xs[j]'(by omega)) := List.getElem?_eq_getElem (by omega)
  obtain ⟨u', hu, ru⟩ := r.get hx
  rw [h] at hu
  cases hu
  exact ⟨_, hx, ru⟩
theorem pe_listZip {X : Cx} {e1 e2 : Expr} {ta : TA} {p p2 pos pos2 : Pos} (hc : X.calm = true) (hgl : Gl X "list") (hml : X.mg "list" = none) (hg : Gl X "zip") (hm : X.mg "zip" = none) (ha : PA X [e1, e2] ta)
    (hs : starEach [e1, e2] X.env = (false, eval e1 X.env) :: starEach [e2] X.env := by rfl) (hpl : (backTo pos2 (starEach [e2] X.env)).any (·.1) = false := by rfl)
    (na : starEach [Expr.Call (.Name "zip" p2) [e1, e2] [] pos2] X.env = (false, eval (Expr.Call (.Name "zip" p2) [e1, e2] [] pos2) X.env) :: starEach [] X.env := by rfl) :
    PE X (.Call (.Name "list" p) [.Call (.Name "zip" p2) [e1, e2] [] pos2] [] pos) (tLZip X.K ta) := by
  refine ⟨fun pins s σ H Q I h => ?_⟩
  refine Call_ (ld_blt I hgl hml PyProof.Rows.boot_list (PyProof.Rows.callWith_type1 (args_cons ?_ na) na))
  refine Call_ (ld_blt I hg hm PyProof.Rows.boot_zip (PyProof.Rows.callWith_type1 (thn (ha.run pos2 pins s σ H _ I h) fun us s1 ⟨vs, H1, I1, r1, q1⟩ => ?_) hs hpl))
  obtain ⟨a, b, xs, ys, rfl, hqx, hqy, hl, q⟩ := q1
  obtain ⟨u1, u2, rfl, ra, rb⟩ := vals2 r1
  cases ra
  cases rb
  obtain ⟨its, rv, p1, z1⟩ := I1.list hqx
  obtain ⟨its2, rv2, p2', z2⟩ := I1.list hqy
  have e1' := rv.length
  have e2' := rv2.length
  refine call_zip_2 p1.isList p2'.isList fun h' hz hTI hTO h1 h2 hsz hk => args_nil ?_
  have l1 := p1.lt
  have l2 := p2'.lt
  have D := PySem.W.ktu_apart s1.heap.objs.size a b p1.lt p2'.lt
  have B : Lows h'.objs.size (s1.heap.objs.size + 4) (s1.heap.objs.size + 2) (s1.heap.objs.size + 3) s1.heap.objs.size (s1.heap.objs.size + 1) a b := by
    rw [hsz]
    exact ⟨Nat.lt_succ_self _, Nat.add_lt_add_left (by decide) _, Nat.add_lt_add_left (by decide) _, Nat.lt_add_of_pos_right (by decide), Nat.add_lt_add_left (by decide) _, Nat.lt_of_lt_of_le l1 (Nat.le_add_right _ _), Nat.lt_of_lt_of_le l2 (Nat.le_add_right _ _)⟩
  refine callZ (s := { s1 with heap := h' }) (xs := its.toArray) (ys := its2.toArray) (I1.ok.hd hc) D B (by rw [List.size_toArray, List.size_toArray]; omega) (by rw [List.size_toArray]; omega)
    ⟨hTI, h1, h2, p1.isList.at fun o e => hk _ o e, p2'.isList.at fun o e => hk _ o e, .inl ⟨hz, _, _, hTO⟩⟩ fun h2' tk acc c as kp hS hla hG hacc => ?_
  have hS1 : s1.heap.objs.size ≤ h'.objs.size := by rw [hsz]; omega
  have kS : ∀ b o, s1.heap.get? b = some o → h2'.get? b = some o := fun b o e => by
    have hb : b < s1.heap.objs.size := Heap.lt_size e
    exact kp b o (Nat.ne_of_lt (Nat.lt_of_lt_of_le hb (Nat.le_add_right _ _))) (Nat.ne_of_lt (Nat.lt_of_lt_of_le hb (Nat.le_add_right _ _))) (Nat.ne_of_lt hb) (Nat.ne_of_lt (Nat.lt_of_lt_of_le hb (Nat.le_add_right _ _))) (hk b o e)
  have hn0 : H1 h'.objs.size = none := I1.hok.fresh hS1
  rw [List.size_toArray] at hla
  have I2 : Inv X pins σ (upd H1 h'.objs.size (.lst (as.map V.ref))) { s1 with heap := h2', toks := tk } :=
    I1.laid (t' := tk) kS hS1 ⟨by rw [List.length_map]; omega, acc.toList, c, by rw [hacc]; exact vals_refs as, by rw [Array.toArray_toList]; exact hS⟩
  obtain ⟨H2, I3, g, qt⟩ := DX.takeT (P := fun t vs => ∃ (j : Nat) (x y : V), as[j]? = some t ∧ xs[j]? = some x ∧ ys[j]? = some y ∧ vs = [x, y]) I1 as _ I2 (hG.rise.imp fun h => Nat.ne_of_lt h) fun t ht => by
    obtain ⟨j, hj⟩ := List.mem_iff_getElem?.mp ht
    obtain ⟨u, v, hu, hv, hp⟩ := hG.pairs j t hj
    have hlt := hG.above t ht
    rw [List.getElem?_toArray] at hu hv
    obtain ⟨x, hx, rx⟩ := vget rv hu
    obtain ⟨y, hy, ry⟩ := vget rv2 hv
    refine ⟨Nat.le_trans hS1 (Nat.le_of_lt hlt), ?_, [x, y], ⟨j, x, y, hj, hx, hy, rfl⟩, fun H3 => ⟨(by rw [sizeLine_eq]; show 2 ≤ 16777216; omega), [u, v], .cons rx (.cons ry .nil), ⟨_, hp, rfl, 0, rfl⟩⟩⟩
    rw [upd_ne (Nat.ne_of_gt hlt)]
    exact I1.hok.fresh (Nat.le_trans hS1 (Nat.le_of_lt hlt))
  refine ⟨.ref h'.objs.size, H2, I3, rfl, q H2 _ as (fun b o e => g b o (by rw [upd_ne (ne_of_none e hn0)]; exact e)) hn0 (g _ _ upd_same) (by omega) fun j t hj => ?_⟩
  have ht := List.mem_of_getElem? hj
  obtain ⟨vs, ⟨i, x, y, hi, hx, hy, rfl⟩, hH⟩ := qt t ht
  have eij : i = j := (List.getElem?_inj (List.getElem?_eq_some_iff.mp hi).1 (hG.rise.imp fun h => Nat.ne_of_lt h)).mp (hi.trans hj.symm)
  subst eij
  exact ⟨x, y, hx, hy, hH, I1.hok.fresh (Nat.le_trans hS1 (Nat.le_of_lt (hG.above t ht)))⟩
end LZ
set_option Elab.async false
set_option linter.all false
set_option maxRecDepth 100000
set_option maxHeartbeats 4000000
/-! outcome_pairs, other. -/
namespace RT
open PySem PySem.Spec PyProof.Rows L2
abbrev sOp : Stmt := topS 62
abbrev sOther : Stmt := topS 63
abbrev sClasses : Stmt := topS 64
theorem scOp : FnScope ["desk"] ["desk"] (defScope sOp) := ⟨rfl, rfl, rfl, by decide +kernel, rfl, by decide +kernel, by decide +kernel⟩
abbrev nOther : List Str := ["desk", "numbers", "row", "flags", "first", "second"]
theorem scOther : FnScope nOther n3 (defScope sOther) := ⟨rfl, rfl, rfl, by decide +kernel, rfl, by decide +kernel, by decide +kernel⟩
/-- the outcomes of each header at two tables, in pairs -/
def PairsAt (H : Hp) (p : Addr) (w : Nat) (t u : List R') : Prop := ∃ ts : List Addr, H p = some (.lst (ts.map V.ref)) ∧ ts.length = 2 ^ w ∧
  ∀ (i : Nat) (T : Addr), ts[i]? = some T → ∃ x y : Addr, H T = some (.tup [.ref x, .ref y]) ∧ H x = some (.lst ((outL (Vapktb.outcome t i)).map V.int)) ∧ H y = some (.lst ((outL (Vapktb.outcome u i)).map V.int))
def spOp (C CD : Addr) : Sp := fun vs H Q _ => ∃ (d : Addr) (D : List Addr) (st : Vapktb.State), vs = [.ref d] ∧ DeskAt C CD H d D st ∧ ∀ (H' : Hp) (p : Addr), Same H H' → H p = none → PairsAt H' p st.wide (Vapktb.tableAt st 0) (Vapktb.tableAt st 1) → Q (.ref p) H'
theorem flat_bls (l : List Bool) : (l.map V.bl).all flatV = true := by
  rw [List.all_map, List.all_eq_true]
  intro b _
  rfl
theorem count_bls (l : List Bool) : ((l.map V.bl).countP fun z => eqV z (.bl true)) = l.countP id := by
  rw [List.countP_map]
  congr 1
  funext b
  cases b <;> rfl
theorem count_flags (w : Nat) (f : Nat → Bool) : (flags w f).countP id = VapktBase.size w (VapktBase.setOf w f) := by
  unfold flags
  rw [List.countP_map, size_setOf, List.countP_eq_length_filter]
  rfl
theorem tellPats_len (w : Nat) (l : List Bool) : (tellPats (pats w l)).length ≤ 1 + 2 * 2 ^ w := by
  have := pats_len w l
  have e : (tellPats (pats w l)).length = 1 + 2 * (pats w l).length := by
    show (flat2 (pats w l)).length + 1 = _
    rw [flat2_len]
    omega
  omega
theorem outL_dec (o o' : Vapktb.Outcome) : decide (outL o = outL o') = decide (o = o') := by
  rw [Bool.eq_iff_iff, decide_eq_true_iff, decide_eq_true_iff]
  exact ⟨outL_inj, fun e => by rw [e]⟩
theorem eqv_outs (o o' : Vapktb.Outcome) : PyData.eqv (.list ((outL o).map PyData.int)) (.list ((outL o').map PyData.int)) = decide (o = o') :=
  (eqv_ints _ _).trans (outL_dec o o')
section
variable {P : Program} {w : World} {K : PySem.W.Frag} {mg : Str → Option Value} {base : Heap} {C CD : Addr}
theorem cal_op (D : Def K mg "outcome_pairs" sOp ["desk"]) (T : DeskTxt K CD) (ml : mg "list" = none) (mz : mg "zip" = none) (co : Cal P w K mg base 5 "outcomes_at" (spOas C)) : Cal P w K mg base 6 "outcome_pairs" (spOp C CD) := by
  refine cal_mk D scOp (fun vs H Q E h => ?_) (fun f cdv A outer s H vs Q E hr h => ?_)
  · obtain ⟨d, D, st, rfl, _⟩ := h
    rfl
  obtain ⟨d, D, st, rfl, hD, q⟩ := h
  refine ⟨_, pss_one (ps_ret (LZ.pe_listZip rfl (by rfl) ml (by rfl) mz
    (pa_cons (pe_c co hr (pa_cons (pe_ix ix_list (pe_fld (pv 0) rfl) pe_int (fun _ _ => rfl)) (pa_cons (pe_fld (pv 0) rfl) pa_nil)))
    (pa_cons (pe_c co hr (pa_cons (pe_ix ix_list (pe_fld (pv 0) rfl) pe_int (fun _ _ => rfl)) (pa_cons (pe_fld (pv 0) rfl) pa_nil))) pa_nil)))), ?_⟩
  obtain ⟨dx, a, p, pl, t⟩ := hD.tab (k := 0) (by decide)
  have w7 := hD.w7
  refine ⟨_, rfl, d, CD, dx, _, _, rfl, t.fd, T.cl, T.nT, dF_tabs _ _, a, _, 0, _, rfl, rfl, .of t.fa, atI_nat (j := 0) t.fp, ?_⟩
  refine ⟨_, rfl, d, CD, dx, _, _, rfl, t.fd, T.cl, T.nW, dF_wide _ _, p, _, st.wide, rfl, t.ft, w7.2, t.fw.2, fun H1 o1 s1 no1 ho1 => ?_⟩
  obtain ⟨dx2, a2, p2, pl2, t2⟩ := (hD.same s1).tab (k := 1) (by decide)
  refine ⟨_, rfl, d, CD, dx2, _, _, rfl, t2.fd, T.cl, T.nT, dF_tabs _ _, a2, _, 1, _, rfl, rfl, .of t2.fa, atI_nat (j := 1) t2.fp, ?_⟩
  refine ⟨_, rfl, d, CD, dx2, _, _, rfl, t2.fd, T.cl, T.nW, dF_wide _ _, p2, _, st.wide, rfl, t2.ft, w7.2, t2.fw.2, fun H2 o2 s2 no2 ho2 => ?_⟩
  obtain ⟨qs1, k1, al1⟩ := (ho1.same s2).ex
  obtain ⟨qs2, k2, al2⟩ := ho2.ex
  have e1 := al1.len
  have e2 := al2.len
  rw [outs_len] at e1 e2
  refine ⟨o1, o2, qs1, qs2, rfl, .of k1, .of k2, by omega, fun H3 p ts s3 np hp hl hts => ?_⟩
  refine q H3 p ((s1.trans s2).trans s3) (s1.free (s2.free np)) ⟨ts, hp, by omega, fun i U hi => ?_⟩
  obtain ⟨x, y, hx, hy, hU, _⟩ := hts i U hi
  have hlt : i < 2 ^ st.wide := by
    have := (List.getElem?_eq_some_iff.mp hi).1
    omega
  obtain ⟨b1, rfl, m1⟩ := al1.get i x _ hx (outs_get _ _ hlt)
  obtain ⟨b2, rfl, m2⟩ := al2.get i y _ hy (outs_get _ _ hlt)
  exact ⟨b1, b2, hU, s3 _ _ m1, s3 _ _ m2⟩
theorem cal_other (D : Def K mg "other" sOther n3) (cop : Cal P w K mg base 6 "outcome_pairs" (spOp C CD)) (cs : Cal P w K mg base 10 "set_as_numbers" (spSet K)) : Cal P w K mg base 11 "other" (spCmd C CD (pre0 .other)) := by
  refine cal_mk D scOther spCmd_len (fun f cdv A outer s H vs Q E hr h => ?_)
  obtain ⟨d, b, c, D, st, ns, row, call, rfl, hD, hb, hc, hrow, rfl, q⟩ := h
  refine ⟨_, pss_cons (ps_setLc (i := 3) (own := [("first", 4), ("second", 5)]) (g := gTup K 2 (gCons (gName 4) (gCons (gName 5) gNil))) (tt := tYes) (te := tOp (rNeD K) (tVar 4) (tVar 5)) rfl scOther.nd rfl rfl (sw_true rfl rfl rfl (by decide +kernel)) (pi_list (pe_c cop hr (pa_cons (pv 0) pa_nil))) (blkOk_by (N := nOther) (sc := defScope sOther) (by decide +kernel))
      (fun _ _ _ _ _ => pg_tup rfl (pgs_cons (pg_name (i := 4) scOther.nd rfl (.inl rfl) (.inr rfl)) (pgs_cons (pg_name (i := 5) scOther.nd rfl (.inl rfl) (.inr rfl)) pgs_nil))) (fun _ _ _ _ _ => pts_nil) (fun _ _ _ _ _ => pe_cmpR (op_neD hr.units) (pv 4) (pv 5) (nomark _)))
    (pss_one (ps_ret (pe_op op_cat (pe_lst (pa_cons (pe_bm PySem.F.plainAttrs_list PySem.F.slot_list_count PySem.F.type_list_count mt_count (pv 3) (pa_cons pe_bl pa_nil)) pa_nil)) (pe_c cs hr (pa_cons (pv 3) pa_nil))))), ?_⟩
  have w7 := hD.w7
  have h7 := pow7 w7.2
  refine ⟨_, rfl, d, D, st, rfl, hD, fun H1 p s1 np ⟨ts, hp, hl, hts⟩ => ?_⟩
  refine ⟨p, rfl, ⟨_, .of hp⟩, fun F nF => ?_⟩
  have nFp : p ≠ F := ne_of_none hp nF
  refine lc_list (K := K) (a := p) (xs := ts.map V.ref) (fun i H' => SameBut F H1 H' ∧ H' F = some (.lst (((List.range i).map fun h => Vapktb.outcome (Vapktb.tableAt st 0) h != Vapktb.outcome (Vapktb.tableAt st 1) h).map V.bl))) ⟨(SameBut.refl F H1).upd, upd_same⟩ (fun i H' _ ⟨sb, _⟩ => .of (sb _ _ nFp hp)) ?_ ?_
  · rintro i x H2 hi ⟨sb, hF⟩
    obtain ⟨U, hU, rfl⟩ := map_get hi
    have hlt : i < 2 ^ st.wide := by
      have := (List.getElem?_eq_some_iff.mp hU).1
      omega
    obtain ⟨x, y, k0, k1, k2⟩ := hts i U hU
    have s2 := sb.new nF
    refine ⟨U, _, rfl, .of (s2 _ _ k0), rfl, _, _, rfl, _, _, rfl, rfl, rfl, _, rfl, _, rfl, .list _, .list _, .lst (.of (s2 _ _ k1)) (dp_ints _), .lst (.of (s2 _ _ k2)) (dp_ints _), shaped_ints _, shaped_ints _, _, hF, ?_, sb.upd, ?_⟩
    · rw [List.length_map, List.length_map, List.length_range]
      exact sizeLine_of (by omega)
    · rw [upd_same, range_more, List.map_append, eqv_outs]
      show some (HO.lst (_ ++ [V.bl (!decide _)])) = some (HO.lst (_ ++ [V.bl (_ != _)]))
      congr 4
  · rintro H2 ⟨sb, hF⟩
    rw [List.length_map, hl] at hF
    have s2 := sb.new nF
    refine ⟨_, rfl, .inl ⟨rfl, _, .of hF⟩, F, _, .bl true, rfl, rfl, .of hF, rfl, flat_bls _, by show 1 ≤ sizeLine; decide, fun z nz => ?_⟩
    rw [count_bls]
    have s3 := same_upd (o := .lst [V.int (((List.range (2 ^ st.wide)).map fun h => Vapktb.outcome (Vapktb.tableAt st 0) h != Vapktb.outcome (Vapktb.tableAt st 1) h).countP id : Nat)]) nz
    refine ⟨_, rfl, F, flags st.wide fun h => Vapktb.outcome (Vapktb.tableAt st 0) h != Vapktb.outcome (Vapktb.tableAt st 1) h, st.wide, rfl, .of (s3 _ _ hF), flags_len _ _, w7.2, fun H3 y s4 ny hy => ?_⟩
    refine ⟨z, y, _, _, rfl, rfl, s4 _ _ upd_same, hy, ?_, fun u nu => ?_⟩
    · have := tellPats_len st.wide (flags st.wide fun h => Vapktb.outcome (Vapktb.tableAt st 0) h != Vapktb.outcome (Vapktb.tableAt st 1) h)
      rw [List.length_map]
      exact sizeLine_le (by show 1 + _ ≤ _; omega)
    · refine q.look hD (st := st) rfl ((((s1.trans s2).trans s3).trans s4).trans (same_upd nu)) ((((s1.trans s2).trans s3).trans s4).free nu) ?_
      rw [upd_same]
      have e1 := setTold_setOf st.wide fun h => Vapktb.outcome (Vapktb.tableAt st 0) h != Vapktb.outcome (Vapktb.tableAt st 1) h
      have e2 := count_flags st.wide fun h => Vapktb.outcome (Vapktb.tableAt st 0) h != Vapktb.outcome (Vapktb.tableAt st 1) h
      show some (HO.lst ([V.int _] ++ _)) = some (HO.lst ((Vapktb.int (VapktBase.size st.wide (VapktBase.setOf st.wide _)) :: Vapktb.setTold st.wide (VapktBase.setOf st.wide _)).map V.int))
      rw [e1, ← e2]
      rfl
end
end RT
set_option linter.all false
set_option maxRecDepth 100000
/-! The mathematics of classes. -/
namespace RT
open VapktBase
theorem code_sort (o : Vapktb.Outcome) : codeO o = ((Vapktb.sortOf o : Nat) : Int) := by
  cases o with
  | hole => rfl
  | dropped => rfl
  | sent p k => show 2 + (p : Int) = ((p + 2 : Nat) : Int); omega
abbrev KP := Nat × Nat
def keyOf (t u : Table) (h : Nat) : KP := (Vapktb.sortOf (Vapktb.outcome t h), Vapktb.sortOf (Vapktb.outcome u h))
def difs (t u : Table) (n : Nat) : List Nat := (List.range n).filter fun h => Vapktb.outcome t h != Vapktb.outcome u h
def memb (t u : Table) (n : Nat) (k : KP) : List Nat := (difs t u n).filter fun h => keyOf t u h == k
def allP : List KP := (List.range 8).flatMap fun a => (List.range 8).map fun b => (a, b)
def cN (k : KP) : Nat := k.1 * 64 + k.2
theorem allP_lt : allP.Pairwise fun a b => cN a < cN b := by decide +kernel
theorem allP_mem {a b : Nat} (ha : a < 8) (hb : b < 8) : (a, b) ∈ allP := by
  unfold allP
  rw [List.mem_flatMap]
  exact ⟨a, List.mem_range.mpr ha, List.mem_map.mpr ⟨b, List.mem_range.mpr hb, rfl⟩⟩
theorem allP_in {k : KP} (h : k ∈ allP) : k.1 < 8 ∧ k.2 < 8 := by
  unfold allP at h
  rw [List.mem_flatMap] at h
  obtain ⟨a, ha, hk⟩ := h
  obtain ⟨b, hb, rfl⟩ := List.mem_map.mp hk
  exact ⟨List.mem_range.mp ha, List.mem_range.mp hb⟩
def clsOf (t u : Table) (n : Nat) (k : KP) : Option Vapktb.Class_ := (memb t u n k).head?.map fun h => ⟨k.1, k.2, (memb t u n k).length, h⟩
theorem classes_all (w : Nat) (t u : Table) : Vapktb.classesOf w t u = allP.filterMap (clsOf t u (2 ^ w)) := by
  unfold Vapktb.classesOf Vapktb.otherSet allP
  rw [members_setOf]
  show (List.range 8).flatMap _ = _
  rw [List.filterMap_flatMap]
  congr 1
theorem strict_eq : ∀ {l m : List KP}, l.Pairwise (fun a b => cN a < cN b) → m.Pairwise (fun a b => cN a < cN b) → (∀ k, k ∈ l ↔ k ∈ m) → l = m
  | [], [], _, _, _ => rfl
  | [], b :: m, _, _, h => nomatch (h b).mpr List.mem_cons_self
  | a :: l, [], _, _, h => nomatch (h a).mp List.mem_cons_self
  | a :: l, b :: m, hl, hm, h => by
    rw [List.pairwise_cons] at hl hm
    have e : a = b := by
      have h1 := (h a).mp List.mem_cons_self
      have h2 := (h b).mpr List.mem_cons_self
      rcases List.mem_cons.mp h1 with e | h1
      · exact e
      · rcases List.mem_cons.mp h2 with e | h2
        · exact e.symm
        · have := hl.1 b h2
          have := hm.1 a h1
          omega
    subst e
    refine congrArg _ (strict_eq hl.2 hm.2 fun k => ⟨fun hk => ?_, fun hk => ?_⟩)
    · rcases List.mem_cons.mp ((h k).mp (List.mem_cons_of_mem _ hk)) with rfl | h1
      · have := hl.1 k hk
        omega
      · exact h1
    · rcases List.mem_cons.mp ((h k).mpr (List.mem_cons_of_mem _ hk)) with rfl | h1
      · have := hm.1 k hk
        omega
      · exact h1
/-- the least of a class -/
def leastOf (t u : Table) (n : Nat) (k : KP) : Nat := ((memb t u n k).head?).getD 0
def clsRow (t u : Table) (n : Nat) (k : KP) : List Int := [(k.1 : Int), (k.2 : Int), ((memb t u n k).length : Int), (leastOf t u n k : Int)]
theorem fm_map {A B : Type} (f : A → Option B) (g : A → B) : ∀ l : List A, (∀ a ∈ l, ∀ b, f a = some b → b = g a) → l.filterMap f = (l.filter fun a => (f a).isSome).map g
  | [], _ => rfl
  | a :: l, h => by
    have ih := fm_map f g l fun x hx => h x (List.mem_cons_of_mem _ hx)
    rw [List.filterMap_cons, List.filter_cons]
    cases e : f a with
    | none => simpa using ih
    | some b =>
      rw [h a List.mem_cons_self b e]
      simp [ih]
theorem sort_lt {w : Nat} {t : Table} (hw : WfAll w t) {h : Nat} (hh : h < 2 ^ w) : Vapktb.sortOf (Vapktb.outcome t h) < 8 := by
  cases e : Vapktb.outcome t h with
  | hole => show 0 < 8; decide
  | dropped => show 1 < 8; decide
  | sent p k =>
    have := (sent_lt hw hh e).2
    show p + 2 < 8
    omega
theorem mem_difs {t u : Table} {n h : Nat} : h ∈ difs t u n ↔ h < n ∧ Vapktb.outcome t h ≠ Vapktb.outcome u h := by
  unfold difs
  rw [List.mem_filter, List.mem_range]
  simp
theorem mem_memb {t u : Table} {n h : Nat} {k : KP} : h ∈ memb t u n k ↔ h ∈ difs t u n ∧ keyOf t u h = k := by
  unfold memb
  rw [List.mem_filter, beq_iff_eq]
/-- the answer to classes by the keys, sorted -/
theorem classes_told {w : Nat} {t u : Table} (ht : WfAll w t) (hu : WfAll w u) {ks : List KP} (hs : ks.Pairwise (fun a b => cN a < cN b)) (hm : ∀ k, k ∈ ks ↔ memb t u (2 ^ w) k ≠ []) :
    (Vapktb.int (Vapktb.classesOf w t u).length :: (Vapktb.classesOf w t u).flatMap fun c => [Vapktb.int c.was, Vapktb.int c.now, Vapktb.int c.count, Vapktb.int c.least]) = (ks.length : Int) :: ks.flatMap (clsRow t u (2 ^ w)) := by
  have e : allP.filter (fun k => (clsOf t u (2 ^ w) k).isSome) = ks := by
    refine strict_eq (allP_lt.sublist List.filter_sublist) hs fun k => ?_
    rw [List.mem_filter, hm]
    have e1 : (clsOf t u (2 ^ w) k).isSome = true ↔ memb t u (2 ^ w) k ≠ [] := by
      unfold clsOf
      cases memb t u (2 ^ w) k <;> simp
    rw [e1]
    refine ⟨fun h => h.2, fun h => ⟨?_, h⟩⟩
    obtain ⟨x, hx⟩ := List.exists_mem_of_ne_nil _ h
    obtain ⟨hd, rfl⟩ := mem_memb.mp hx
    have hl := (mem_difs.mp hd).1
    exact allP_mem (sort_lt ht hl) (sort_lt hu hl)
  have e2 : Vapktb.classesOf w t u = ks.map fun k => ⟨k.1, k.2, (memb t u (2 ^ w) k).length, leastOf t u (2 ^ w) k⟩ := by
    rw [classes_all, fm_map (clsOf t u (2 ^ w)) (fun k => ⟨k.1, k.2, (memb t u (2 ^ w) k).length, leastOf t u (2 ^ w) k⟩), e]
    intro k _ c hc
    unfold clsOf at hc
    unfold leastOf
    cases hh : (memb t u (2 ^ w) k).head? with
    | none => rw [hh] at hc; cases hc
    | some x => rw [hh] at hc; cases hc; rfl
  rw [e2, List.length_map, List.flatMap_map]
  rfl
/-! one header more -/
theorem difs_more (t u : Table) (i : Nat) : difs t u (i + 1) = if Vapktb.outcome t i = Vapktb.outcome u i then difs t u i else difs t u i ++ [i] := by
  unfold difs
  rw [List.range_succ, List.filter_append, List.filter_cons, List.filter_nil]
  by_cases e : Vapktb.outcome t i = Vapktb.outcome u i
  · rw [if_pos e, bne_eq_false_iff_eq.mpr e]
    simp
  · rw [if_neg e, bne_iff_ne.mpr e]
    simp
theorem memb_same {t u : Table} {i : Nat} (e : Vapktb.outcome t i = Vapktb.outcome u i) (k : KP) : memb t u (i + 1) k = memb t u i k := by
  unfold memb
  rw [difs_more, if_pos e]
theorem memb_more {t u : Table} {i : Nat} (e : Vapktb.outcome t i ≠ Vapktb.outcome u i) (k : KP) : memb t u (i + 1) k = if keyOf t u i = k then memb t u i k ++ [i] else memb t u i k := by
  unfold memb
  rw [difs_more, if_neg e, List.filter_append, List.filter_cons, List.filter_nil]
  by_cases c : keyOf t u i = k
  · rw [if_pos c, beq_iff_eq.mpr c]
    simp
  · rw [if_neg c]
    rw [show (keyOf t u i == k) = false from beq_eq_false_iff_ne.mpr c]
    simp
theorem memb_len (t u : Table) (n : Nat) (k : KP) : (memb t u n k).length ≤ n := by
  unfold memb difs
  refine Nat.le_trans (List.length_filter_le _ _) (Nat.le_trans (List.length_filter_le _ _) ?_)
  rw [List.length_range]
  exact Nat.le_refl _
theorem memb_inc (t u : Table) (n : Nat) (k : KP) : (memb t u n k).Pairwise (· < ·) := by
  unfold memb difs
  exact (List.pairwise_lt_range.sublist List.filter_sublist).sublist List.filter_sublist
/-- the least, as min finds it -/
theorem least_min {t u : Table} {n : Nat} {k : KP} {m : Int} (h1 : m ∈ (memb t u n k).map fun i => ((i : Nat) : Int)) (h2 : ∀ y ∈ (memb t u n k).map fun i => ((i : Nat) : Int), m ≤ y) : m = leastOf t u n k := by
  have hi := memb_inc t u n k
  unfold leastOf
  cases hl : memb t u n k with
  | nil => rw [hl] at h1; cases h1
  | cons a r =>
    rw [hl] at h1 h2 hi
    rw [List.pairwise_cons] at hi
    show m = (a : Int)
    obtain ⟨x, hx, rfl⟩ := List.mem_map.mp h1
    have h3 := h2 a (List.mem_map.mpr ⟨a, List.mem_cons_self, rfl⟩)
    rcases List.mem_cons.mp hx with rfl | hx
    · rfl
    · have := hi.1 x hx
      omega
end RT
set_option Elab.async false
set_option linter.all false
set_option maxRecDepth 100000
set_option maxHeartbeats 4000000
/-! classes. -/
namespace RT
open PySem PySem.Spec PyProof.Rows L2
abbrev nClasses : List Str := ["desk", "numbers", "row", "members", "header", "pair", "told", "sorts", "headers"]
theorem scClasses : FnScope nClasses n3 (defScope sClasses) := ⟨rfl, rfl, rfl, by decide +kernel, rfl, by decide +kernel, by decide +kernel⟩
/-! ### the dict's keys -/
def kk (k : KP) : List L2.Key := [Sum.inl (k.1 : Int), Sum.inl (k.2 : Int)]
theorem kk_inj {k l : KP} (h : kk k = kk l) : k = l := by
  unfold kk at h
  obtain ⟨a, b⟩ := k
  obtain ⟨c, d⟩ := l
  have h1 := (List.cons.inj h).1
  have h2 := (List.cons.inj (List.cons.inj h).2).1
  have e1 : (a : Int) = (c : Int) := Sum.inl.inj h1
  have e2 : (b : Int) = (d : Int) := Sum.inl.inj h2
  rw [Int.ofNat.inj e1, Int.ofNat.inj e2]
abbrev entG (g : KP × Addr) : List L2.Key × V := (kk g.1, V.ref g.2)
theorem val_some {k : KP} {v : V} : ∀ {G : List (KP × Addr)}, valV (G.map entG) (kk k) = some v → ∃ g ∈ G, g.1 = k ∧ v = V.ref g.2
  | [], h => nomatch h
  | g :: G, h => by
    rw [List.map_cons] at h
    by_cases e : kk g.1 = kk k
    · rw [valV_pos (p := entG g) e] at h
      exact ⟨g, List.mem_cons_self, kk_inj e, (Option.some.inj h).symm⟩
    · rw [valV_neg (p := entG g) e] at h
      obtain ⟨x, hx, r⟩ := val_some h
      exact ⟨x, List.mem_cons_of_mem _ hx, r⟩
theorem val_none {k : KP} : ∀ {G : List (KP × Addr)}, valV (G.map entG) (kk k) = none → k ∉ G.map (·.1)
  | [], _ => fun h => nomatch h
  | g :: G, h => by
    rw [List.map_cons] at h
    by_cases e : kk g.1 = kk k
    · rw [valV_pos (p := entG g) e] at h
      cases h
    · rw [valV_neg (p := entG g) e] at h
      intro hm
      rw [List.map_cons] at hm
      rcases List.mem_cons.mp hm with rfl | hm
      · exact e rfl
      · exact val_none h hm
theorem val_at {g : KP × Addr} : ∀ {G : List (KP × Addr)}, (G.map (·.1)).Nodup → g ∈ G → valV (G.map entG) (kk g.1) = some (V.ref g.2)
  | [], _, h => nomatch h
  | x :: G, n, h => by
    rw [List.map_cons] at n ⊢
    rw [List.nodup_cons] at n
    rcases List.mem_cons.mp h with rfl | h
    · exact valV_pos (p := entG g) rfl
    · rw [valV_neg (p := entG x) (fun e => n.1 (by rw [kk_inj e]; exact List.mem_map.mpr ⟨g, h, rfl⟩))]
      exact val_at n.2 h
/-! ### the groups -/
structure Grp (H1 H' : Hp) (D : Addr) (t u : List R') (i : Nat) (G : List (KP × Addr)) : Prop where
  nk : (G.map (·.1)).Nodup
  na : (G.map (·.2)).Nodup
  at' : ∀ g ∈ G, H1 g.2 = none ∧ g.2 ≠ D ∧ H' g.2 = some (.lst ((memb t u i g.1).map fun h => V.int (h : Nat)))
  all : ∀ k, k ∈ G.map (·.1) ↔ memb t u i k ≠ []
theorem Grp.skip {H1 H2 H3 : Hp} {D : Addr} {t u : List R'} {i : Nat} {G : List (KP × Addr)} (g : Grp H1 H2 D t u i G) (s : Same H2 H3) (e : Vapktb.outcome t i = Vapktb.outcome u i) : Grp H1 H3 D t u (i + 1) G :=
  ⟨g.nk, g.na, fun x hx => let ⟨a, b, c⟩ := g.at' x hx; ⟨a, b, by rw [memb_same e]; exact s _ _ c⟩, fun k => by rw [memb_same e]; exact g.all k⟩
theorem fst_uniq {G : List (KP × Addr)} (n : (G.map (·.1)).Nodup) {x y : KP × Addr} (hx : x ∈ G) (hy : y ∈ G) (e : x.1 = y.1) : x = y := by
  induction G with
  | nil => cases hx
  | cons z G ih =>
    rw [List.map_cons, List.nodup_cons] at n
    rcases List.mem_cons.mp hx with rfl | hx'
    · rcases List.mem_cons.mp hy with rfl | hy'
      · rfl
      · exact absurd (List.mem_map.mpr ⟨y, hy', e.symm⟩) n.1
    · rcases List.mem_cons.mp hy with rfl | hy'
      · exact absurd (show y.1 ∈ G.map (·.1) from List.mem_map.mpr ⟨x, hx', e⟩) n.1
      · exact ih n.2 hx' hy'
theorem snd_uniq {G : List (KP × Addr)} (n : (G.map (·.2)).Nodup) {x y : KP × Addr} (hx : x ∈ G) (hy : y ∈ G) (e : x.2 = y.2) : x = y := by
  induction G with
  | nil => cases hx
  | cons z G ih =>
    rw [List.map_cons, List.nodup_cons] at n
    rcases List.mem_cons.mp hx with rfl | hx'
    · rcases List.mem_cons.mp hy with rfl | hy'
      · rfl
      · exact absurd (List.mem_map.mpr ⟨y, hy', e.symm⟩) n.1
    · rcases List.mem_cons.mp hy with rfl | hy'
      · exact absurd (show y.2 ∈ G.map (·.2) from List.mem_map.mpr ⟨x, hx', e⟩) n.1
      · exact ih n.2 hx' hy'
theorem Grp.push {H1 H2 H3 : Hp} {D : Addr} {t u : List R'} {i : Nat} {G : List (KP × Addr)} (g : Grp H1 H2 D t u i G) (s : Same H2 H3) (e : Vapktb.outcome t i ≠ Vapktb.outcome u i) {y : KP × Addr} (hy : y ∈ G) (ek : y.1 = keyOf t u i) :
    Grp H1 (upd H3 y.2 (.lst (((memb t u i y.1).map fun h => V.int (h : Nat)) ++ [V.int (i : Nat)]))) D t u (i + 1) G := by
  refine ⟨g.nk, g.na, fun x hx => ?_, fun k => ?_⟩
  · obtain ⟨a, b, c⟩ := g.at' x hx
    refine ⟨a, b, ?_⟩
    by_cases ex : x.1 = y.1
    · have exy := fst_uniq g.nk hx hy ex
      subst exy
      rw [upd_same, memb_more e, if_pos ek.symm, List.map_append]
      rfl
    · rw [upd_ne (fun z => ex (by rw [snd_uniq g.na hx hy z])), memb_more e, if_neg (fun z => ex (by rw [ek]; exact z.symm))]
      exact s _ _ c
  · rw [memb_more e, g.all]
    by_cases c : keyOf t u i = k
    · rw [if_pos c]
      have : memb t u i k ≠ [] := (g.all k).mp (List.mem_map.mpr ⟨y, hy, by rw [ek, c]⟩)
      simp [this]
    · rw [if_neg c]
theorem Grp.new {H1 H2 H3 : Hp} {D F : Addr} {o : HO} {t u : List R'} {i : Nat} {G : List (KP × Addr)} (g : Grp H1 H2 D t u i G) (s : Same H2 H3) (e : Vapktb.outcome t i ≠ Vapktb.outcome u i) (nk : keyOf t u i ∉ G.map (·.1)) (n1 : H1 F = none) (n2 : H2 F = none) (nD : F ≠ D) :
    Grp H1 (upd (upd H3 D o) F (.lst ([] ++ [V.int (i : Nat)]))) D t u (i + 1) (G ++ [(keyOf t u i, F)]) := by
  have e0 : memb t u i (keyOf t u i) = [] := by
    cases z : memb t u i (keyOf t u i) with
    | nil => rfl
    | cons a r => exact absurd ((g.all _).mpr (by rw [z]; exact List.cons_ne_nil _ _)) nk
  refine ⟨?_, ?_, fun x hx => ?_, fun k => ?_⟩
  · rw [List.map_append, List.map_cons, List.map_nil, List.nodup_append]
    refine ⟨g.nk, List.pairwise_singleton _ _, fun a ha b hb => ?_⟩
    have eb : b = keyOf t u i := List.mem_singleton.mp hb
    rw [eb]
    exact fun z => nk (by rw [← z]; exact ha)
  · rw [List.map_append, List.map_cons, List.map_nil, List.nodup_append]
    refine ⟨g.na, List.pairwise_singleton _ _, fun a ha b hb => ?_⟩
    rw [List.mem_singleton.mp hb]
    obtain ⟨x, hx, rfl⟩ := List.mem_map.mp ha
    exact ne_of_none (g.at' x hx).2.2 n2
  · rcases List.mem_append.mp hx with hx | hx
    · obtain ⟨a, b, c⟩ := g.at' x hx
      refine ⟨a, b, ?_⟩
      rw [upd_ne (ne_of_none c n2), upd_ne b, memb_more e, if_neg (fun z => nk (by rw [z]; exact List.mem_map.mpr ⟨x, hx, rfl⟩))]
      exact s _ _ c
    · rw [List.mem_singleton.mp hx]
      refine ⟨n1, nD, ?_⟩
      rw [upd_same, memb_more e, if_pos rfl, e0]
      rfl
  · rw [memb_more e, List.map_append, List.mem_append, g.all]
    by_cases c : keyOf t u i = k
    · rw [if_pos c]
      simp [c]
    · rw [if_neg c]
      simp
      exact fun z => absurd z.symm c
/-! ### fewer than 64 -/
theorem sub_len : ∀ {l m : List KP}, l.Nodup → (∀ x ∈ l, x ∈ m) → l.length ≤ m.length
  | [], _, _, _ => Nat.zero_le _
  | a :: l, m, n, h => by
    rw [List.nodup_cons] at n
    have h1 := h a List.mem_cons_self
    have := sub_len (l := l) (m := m.erase a) n.2 fun x hx => (List.mem_erase_of_ne (fun z => n.1 (by rw [← z]; exact hx))).mpr (h x (List.mem_cons_of_mem _ hx))
    rw [List.length_erase_of_mem h1] at this
    have h2 := List.length_pos_of_mem h1
    rw [List.length_cons]
    omega
theorem sort_zero {o : Vapktb.Outcome} (h : Vapktb.sortOf o = 0) : o = .hole := by
  cases o with
  | hole => rfl
  | dropped => cases h
  | sent p k => cases h
theorem key_ok {w : Nat} {t u : List R'} (ht : WfAll w t) (hu : WfAll w u) {n : Nat} (hn : n ≤ 2 ^ w) {k : KP} (h : memb t u n k ≠ []) : k ∈ allP.erase (0, 0) ∧ k.1 < 8 ∧ k.2 < 8 := by
  obtain ⟨x, hx⟩ := List.exists_mem_of_ne_nil _ h
  obtain ⟨hd, rfl⟩ := mem_memb.mp hx
  obtain ⟨hl, ne⟩ := mem_difs.mp hd
  have h1 := sort_lt ht (Nat.lt_of_lt_of_le hl hn)
  have h2 := sort_lt hu (Nat.lt_of_lt_of_le hl hn)
  refine ⟨(List.mem_erase_of_ne fun z => ne ?_).mpr (allP_mem h1 h2), h1, h2⟩
  have z1 : Vapktb.sortOf (Vapktb.outcome t x) = 0 := congrArg Prod.fst z
  have z2 : Vapktb.sortOf (Vapktb.outcome u x) = 0 := congrArg Prod.snd z
  rw [sort_zero z1, sort_zero z2]
theorem Grp.few {w : Nat} {H1 H2 : Hp} {D : Addr} {t u : List R'} (ht : WfAll w t) (hu : WfAll w u) {i : Nat} (hn : i ≤ 2 ^ w) {G : List (KP × Addr)} (g : Grp H1 H2 D t u i G) : G.length < 64 := by
  have h := sub_len (m := allP.erase (0, 0)) g.nk fun k hk => (key_ok ht hu hn ((g.all k).mp hk)).1
  have e : (allP.erase (0, 0)).length = 63 := by decide +kernel
  rw [e, List.length_map] at h
  omega
end RT
set_option Elab.async false
set_option linter.all false
set_option maxRecDepth 100000
set_option maxHeartbeats 4000000
/-! classes. -/
namespace RT
open PySem PySem.Spec PyProof.Rows L2
theorem room_un1 {k : Nat} {A : Around} (r : Room k A) : A.units + 1 < cLine := by have := r.units; omega
def ints2 (k : KP) : List Int := [(k.1 : Int), (k.2 : Int)]
theorem keys_of {L : List (Addr × List Int)} {G : List (KP × Addr)} (perm : (L.map (·.2)).Perm (G.map fun g => ints2 g.1)) : ∃ KL : List KP, KL.Perm (G.map (·.1)) ∧ KL.map ints2 = L.map (·.2) := by
  obtain ⟨zs, p1, p2⟩ := perm_lift ints2 perm (G.map (·.1)) (by rw [List.map_map]; rfl)
  exact ⟨zs, p1, p2⟩
theorem cls_len (t u : List R') (n : Nat) (KL : List KP) (j : Nat) : ((KL.take j).flatMap (clsRow t u n)).length ≤ 4 * KL.length := by
  have h : ∀ l : List KP, (l.flatMap (clsRow t u n)).length = 4 * l.length := by
    intro l
    induction l with
    | nil => rfl
    | cons k l ih =>
      rw [List.flatMap_cons, List.length_append, ih]
      show 4 + _ = 4 * (_ + 1)
      omega
  rw [h, List.length_take]
  omega
section
variable {P : Program} {w : World} {K : PySem.W.Frag} {mg : Str → Option Value} {base : Heap} {C CD : Addr}
theorem cal_classes (D : Def K mg "classes" sClasses n3) (me : mg "enumerate" = none) (ml : mg "len" = none) (ms : mg "sorted" = none) (mm : mg "min" = none) (cop : Cal P w K mg base 6 "outcome_pairs" (spOp C CD)) : Cal P w K mg base 7 "classes" (spCmd C CD (pre0 .classes)) := by
  refine cal_mk D scClasses spCmd_len (fun f cdv A outer s H vs Q E hr h => ?_)
  obtain ⟨d, b, c, D0, st, ns, row, call, rfl, hD, hb, hc, hrow, rfl, q⟩ := h
  refine ⟨_, pss_cons (ps_set (i := 3) scClasses.nd rfl (.inl rfl) pe_dnewT)
    (pss_cons (ps_for PassesOwn.never rfl (pi_enum (by rfl) me (pa_cons (pe_c cop hr (pa_cons (pv 0) pa_nil)) pa_nil)) (pg_tup rfl (pgs_cons (pg_name (i := 4) scClasses.nd rfl (.inl rfl)) (pgs_cons (pg_name (i := 5) scClasses.nd rfl (.inl rfl)) pgs_nil)))
      (pss_one (ps_if (pt_cmpR (op_neD hr.units) (pe_ix ix_tup (pv 5) pe_int (fun _ _ => rfl)) (pe_ix ix_tup (pv 5) pe_int (fun _ _ => rfl)) (nomark _))
        (pss_one (ps_expr (pe_bm PySem.F.plainAttrs_list PySem.F.slot_list_append PySem.F.type_list_append mt_append
          (pe_bm PySem.F.plainAttrs_dict PySem.F.slot_dict_setdefault PySem.F.type_dict_setdefault (mt_setdT (room_un1 hr)) (pv 3)
            (pa_cons (pe_tup (pa_cons (pe_ix ix_list (pe_ix ix_tup (pv 5) pe_int (fun _ _ => rfl)) pe_int (fun _ _ => rfl)) (pa_cons (pe_ix ix_list (pe_ix ix_tup (pv 5) pe_int (fun _ _ => rfl)) pe_int (fun _ _ => rfl)) pa_nil))) (pa_cons (pe_lst pa_nil) pa_nil)))
          (pa_cons (pv 4) pa_nil)))) pss_nil)))
    (pss_cons (ps_set (i := 6) scClasses.nd rfl (.inl rfl) (pe_lst (pa_cons (pe_callB call_len_dT (by rfl) ml (by decide +kernel) (pa_cons (pv 3) pa_nil)) pa_nil)))
    (pss_cons (ps_for PassesOwn.never rfl (pi_list (pe_callB (cr_sortDT rfl) (by rfl) ms (by decide +kernel) (pa_cons (pv 3) pa_nil))) (pg_name (i := 7) scClasses.nd rfl (.inl rfl))
      (pss_cons (ps_set (i := 8) scClasses.nd rfl (.inl rfl) (pe_dget (room_un1 hr) (pv 3) (pv 7) (fun _ _ => rfl)))
      (pss_one (ps_expr (pe_bm PySem.F.plainAttrs_list PySem.F.slot_list_extend PySem.F.type_list_extend mt_extend (pv 6) (pa_cons
        (pe_lst (pa_cons (pe_ix ix_tup (pv 7) pe_int (fun _ _ => rfl)) (pa_cons (pe_ix ix_tup (pv 7) pe_int (fun _ _ => rfl)) (pa_cons (pe_len ml (pv 8)) (pa_cons (pe_callB (cr_min rfl) (by rfl) mm (by decide +kernel) (pa_cons (pv 8) pa_nil)) pa_nil))))) pa_nil))))))
    (pss_one (ps_ret (pv 6)))))), ?_⟩
  have w7 := hD.w7
  have h7 := pow7 w7.2
  obtain ⟨_, _, _, _, tk0⟩ := hD.tab (k := 0) (by decide)
  obtain ⟨_, _, _, _, tk1⟩ := hD.tab (k := 1) (by decide)
  have wt := tk0.fw.2
  have wu := tk1.fw.2
  clear tk0 tk1
  have es : Vapktb.step st .classes = (st, Vapktb.int (Vapktb.classesOf st.wide (Vapktb.tableAt st 0) (Vapktb.tableAt st 1)).length :: (Vapktb.classesOf st.wide (Vapktb.tableAt st 0) (Vapktb.tableAt st 1)).flatMap fun c => [Vapktb.int c.was, Vapktb.int c.now, Vapktb.int c.count, Vapktb.int c.least]) := rfl
  intro F nF
  have s0 : Same H (upd H F (.dT [])) := same_upd nF
  have hF0 : (upd H F (.dT [])) F = some (.dT []) := upd_same
  generalize upd H F (.dT []) = H0 at s0 hF0
  refine ⟨_, rfl, d, D0, st, rfl, hD.same s0, fun H1 p s1 np ⟨ts, hp, hl, hts⟩ => ?_⟩
  generalize Vapktb.tableAt st 0 = t at wt es hts
  generalize Vapktb.tableAt st 1 = u at wu es hts
  have hF1 := s1 _ _ hF0
  have npF : p ≠ F := (ne_of_none hF0 np).symm
  refine ⟨p, _, rfl, .of hp, for_it (walk_enum (K := K) (a := p) (xs := ts.map V.ref)) (fun i σ H' => ∃ y4 y5 y6 y7 y8 G, σ = [some (.ref d), some (.ref b), some (.ref c), some (.ref F), y4, y5, y6, y7, y8] ∧ SameBut F H1 H' ∧ H' F = some (.dT (G.map entG)) ∧ Grp H1 H' F t u i G)
    ⟨none, none, none, none, none, [], rfl, SameBut.refl F H1, hF1, ⟨.nil, .nil, (fun _ h => nomatch h), fun k => by simp [memb, difs]⟩⟩ (fun i σ H' _ ⟨_, _, _, _, _, _, _, sb, _⟩ => .of (sb _ _ npF hp)) ?_ ?_⟩
  · rintro i x σ H2 H3 hi ⟨y4, y5, y6, y7, y8, G, rfl, sb, hF2, g⟩ ⟨U, a, v, rfl, nU, rfl, hu, hv⟩
    cases hu
    obtain ⟨T, hT, rfl⟩ := map_get hv
    have hlt : i < 2 ^ st.wide := by
      have := (List.getElem?_eq_some_iff.mp hT).1
      omega
    obtain ⟨x, y, k0, k1, k2⟩ := hts i T hT
    have k0 := sb _ _ (ne_of k0 hF1 (by intro z; cases z)) k0
    have k1 := sb _ _ (ne_of k1 hF1 (by intro z; cases z)) k1
    have k2 := sb _ _ (ne_of k2 hF1 (by intro z; cases z)) k2
    refine ⟨U, _, rfl, .of upd_same, rfl, _, _, rfl, _, _, rfl, rfl, ?_⟩
    have s3 : Same H2 (upd H2 U (.tup [.int (i : Nat), .ref T])) := same_upd nU
    generalize upd H2 U (.tup [.int (i : Nat), .ref T]) = H3 at s3
    have j0 := s3 _ _ k0
    have j1 := s3 _ _ k1
    have j2 := s3 _ _ k2
    refine ⟨_, rfl, T, _, 0, _, rfl, rfl, .of j0, atI_nat (j := 0) rfl, _, rfl, T, _, 1, _, rfl, rfl, .of j0, atI_nat (j := 1) rfl, .list _, .list _, .lst (.of j1) (dp_ints _), .lst (.of j2) (dp_ints _), shaped_ints _, shaped_ints _, _, rfl, ?_⟩
    rw [eqv_outs]
    by_cases e : Vapktb.outcome t i = Vapktb.outcome u i
    · rw [decide_eq_true e]
      exact iteF ⟨_, _, _, _, _, G, rfl, sb.same s3, s3 _ _ hF2, g.skip s3 e⟩
    rw [decide_eq_false e]
    refine iteT ?_
    refine ⟨_, rfl, .inr (.inr (.inl ⟨rfl, .inr ⟨_, s3 _ _ hF2⟩⟩)), ?_⟩
    refine ⟨_, rfl, T, _, 0, _, rfl, rfl, .of j0, atI_nat (j := 0) rfl, x, _, 0, _, rfl, rfl, .of j1, atI_nat (j := 0) (get_int (outL_head _)),
      _, rfl, T, _, 1, _, rfl, rfl, .of j0, atI_nat (j := 1) rfl, y, _, 0, _, rfl, rfl, .of j2, atI_nat (j := 0) (get_int (outL_head _)), by show 2 ≤ sizeLine; decide, fun W nW => ⟨Nat.zero_le _, fun L nL => ?_⟩⟩
    rw [code_sort, code_sort] at nL ⊢
    have s4 : Same H3 (upd H3 W (.tup [.int (Vapktb.sortOf (Vapktb.outcome t i) : Nat), .int (Vapktb.sortOf (Vapktb.outcome u i) : Nat)])) := same_upd nW
    have hW4 : (upd H3 W (.tup [.int (Vapktb.sortOf (Vapktb.outcome t i) : Nat), .int (Vapktb.sortOf (Vapktb.outcome u i) : Nat)])) W = some (.tup ((kk (keyOf t u i)).map kV)) := upd_same
    generalize upd H3 W (.tup [.int (Vapktb.sortOf (Vapktb.outcome t i) : Nat), .int (Vapktb.sortOf (Vapktb.outcome u i) : Nat)]) = H4 at s4 hW4 nL
    have s5 : Same H4 (upd H4 L (.lst [])) := same_upd nL
    have hL5 : (upd H4 L (.lst [])) L = some (.lst []) := upd_same
    generalize upd H4 L (.lst []) = H5 at s5 hL5
    have s25 : Same H2 H5 := (s3.trans s4).trans s5
    have nL2 : H2 L = none := (s3.trans s4).free nL
    have hFL : L ≠ F := (ne_of_none hF2 nL2).symm
    have nL1 : H1 L = none := by
      cases z : H1 L with
      | none => rfl
      | some o =>
        have := sb _ _ hFL z
        rw [nL2] at this
        cases this
    have hfew := g.few wt wu (Nat.le_of_lt hlt)
    refine ⟨F, G.map entG, kk (keyOf t u i), W, .ref L, rfl, rfl, s25 _ _ hF2, s5 _ _ hW4, by rw [List.length_map]; exact sizeLine_of (by omega), fun v hv => ?_, fun hv => ?_⟩
    · obtain ⟨y', hy, ek, rfl⟩ := val_some hv
      obtain ⟨g1, g2, g3⟩ := g.at' y' hy
      have ml := memb_len t u i y'.1
      refine ⟨.inl ⟨rfl, _, .of (s25 _ _ g3)⟩, _, rfl, y'.2, _, _, rfl, rfl, s25 _ _ g3, ?_, ?_⟩
      · rw [List.length_map]
        exact sizeLine_of (by omega)
      · exact ⟨_, _, _, _, _, G, rfl, fun b' o nb hb' => by rw [upd_ne (ne_of_none hb' g1)]; exact s25 _ _ (sb _ _ nb hb'), by rw [upd_ne (Ne.symm g2)]; exact s25 _ _ hF2, g.push s25 e hy ek⟩
    · have hn := val_none hv
      have hL6 : (upd H5 F (.dT (putK (G.map entG) (kk (keyOf t u i)) (.ref L)))) L = some (.lst []) := by rw [upd_ne hFL]; exact hL5
      refine ⟨.inl ⟨rfl, _, .of hL6⟩, _, rfl, L, _, _, rfl, rfl, hL6, by show 0 < sizeLine; decide, ?_⟩
      refine ⟨_, _, _, _, _, G ++ [(keyOf t u i, L)], rfl, fun b' o nb hb' => ?_, ?_, g.new s25 e hn nL1 nL2 hFL⟩
      · rw [upd_ne (ne_of_none hb' nL1), upd_ne nb]
        exact s25 _ _ (sb _ _ nb hb')
      · rw [upd_ne hFL.symm, upd_same, putK_new _ hv, List.map_append]
        rfl
  · rintro σ H2 ⟨y4, y5, y6, y7, y8, G, rfl, sb, hF2, g⟩
    rw [List.length_map, hl] at g
    have hfew := g.few wt wu (Nat.le_refl _)
    have s2 : Same H H2 := by
      intro b' o hb'
      exact sb _ _ (ne_of_none hb' nF) (s1 _ _ (s0 _ _ hb'))
    refine ⟨_, rfl, F, _, rfl, hF2, by show 1 ≤ sizeLine; decide, fun R nR => ?_⟩
    rw [List.length_map]
    have s3 : Same H2 (upd H2 R (.lst [.int (G.length : Nat)])) := same_upd nR
    have hR3 : (upd H2 R (.lst [.int (G.length : Nat)])) R = some (.lst [.int (G.length : Nat)]) := upd_same
    generalize upd H2 R (.lst [.int (G.length : Nat)]) = H3 at s3 hR3
    have nRF : R ≠ F := (ne_of_none hF2 nR).symm
    have hF3 := s3 _ _ hF2
    refine ⟨_, rfl, F, G.map entG, G.map (fun g => ints2 g.1), 2, 64, rfl, hF3, by rw [List.map_map, List.map_map]; rfl, by rw [List.length_map]; exact hfew, by decide, fun k hk => ?_, fun L p2 perm pw hk np2 => ?_⟩
    · obtain ⟨x, hx, rfl⟩ := List.mem_map.mp hk
      obtain ⟨_, b1, b2⟩ := key_ok wt wu (Nat.le_refl _) ((g.all x.1).mp (List.mem_map.mpr ⟨x, hx, rfl⟩))
      refine ⟨rfl, fun m hm => ?_⟩
      simp [ints2] at hm
      rcases hm with rfl | rfl
      · exact ⟨by omega, by omega⟩
      · exact ⟨by omega, by omega⟩
    obtain ⟨KL, kp, ke⟩ := keys_of (G := G) perm
    have hm : ∀ k, k ∈ KL ↔ memb t u (2 ^ st.wide) k ≠ [] := fun k => by rw [kp.mem_iff]; exact g.all k
    have hs : KL.Pairwise (fun a b => cN a < cN b) := by
      have e1 : (KL.map ints2).Pairwise (fun a b => TS.code 64 a ≤ TS.code 64 b) := by
        rw [ke, List.pairwise_map]
        exact pw
      rw [List.pairwise_map] at e1
      have e2 : KL.Nodup := kp.nodup_iff.mpr g.nk
      refine (e1.and e2).imp_of_mem fun {a b} ha hb ⟨h1, h2⟩ => ?_
      obtain ⟨_, a1, a2⟩ := key_ok wt wu (Nat.le_refl _) ((hm a).mp ha)
      obtain ⟨_, b1, b2⟩ := key_ok wt wu (Nat.le_refl _) ((hm b).mp hb)
      have h3 : (a.1 : Int) * 64 + (a.2 : Int) ≤ (b.1 : Int) * 64 + (b.2 : Int) := by
        rw [← code_pair, ← code_pair]
        exact h1
      unfold cN
      rcases Nat.lt_or_ge (a.1 * 64 + a.2) (b.1 * 64 + b.2) with z | z
      · exact z
      · exact absurd (Prod.ext (by omega) (by omega)) h2
    have ht := classes_told wt wu hs hm
    have lKL : KL.length = G.length := by rw [kp.length_eq, List.length_map]
    have lL : L.length = KL.length := by
      have := congrArg List.length ke
      rw [List.length_map, List.length_map] at this
      exact this.symm
    have s4 : Same H3 (upd H3 p2 (.lst (L.map fun y => V.ref y.1))) := same_upd np2
    have hp4 : (upd H3 p2 (.lst (L.map fun y => V.ref y.1))) p2 = some (.lst (L.map fun y => V.ref y.1)) := upd_same
    have np2R : p2 ≠ R := (ne_of_none hR3 np2).symm
    generalize upd H3 p2 (.lst (L.map fun y => V.ref y.1)) = H4 at s4 hp4
    refine ⟨p2, rfl, ⟨_, .of hp4⟩, for_list (K := K) (a := p2) (xs := L.map fun y => V.ref y.1) (fun j σ H' => ∃ y7 y8, σ = [some (.ref d), some (.ref b), some (.ref c), some (.ref F), y4, y5, some (.ref R), y7, y8] ∧ SameBut R H4 H' ∧ H' R = some (.lst (((G.length : Int) :: (KL.take j).flatMap (clsRow t u (2 ^ st.wide))).map V.int)))
      ⟨y7, y8, rfl, SameBut.refl R H4, s4 _ _ hR3⟩ (fun i σ H' _ ⟨_, _, _, sb', _⟩ => .of (sb' _ _ np2R hp4)) ?_ ?_⟩
    · rintro j x σ H5 hj ⟨z7, z8, rfl, sb5, hR5⟩
      obtain ⟨y, hy, rfl⟩ := map_get hj
      have hyL : y ∈ L := List.mem_of_getElem? hy
      obtain ⟨k, hk1⟩ : ∃ k, KL[j]? = some k := ⟨_, List.getElem?_eq_getElem (by rw [← lL]; exact (List.getElem?_eq_some_iff.mp hy).1)⟩
      have hk2 : y.2 = ints2 k := by
        have e1 : (KL.map ints2)[j]? = some (ints2 k) := by rw [List.getElem?_map, hk1]; rfl
        rw [ke, List.getElem?_map, hy] at e1
        exact Option.some.inj e1
      have hyT := hk y hyL
      rw [hk2] at hyT
      have hyT5 := sb5 _ _ (ne_of hyT hR3 (by intro z; cases z)) (s4 _ _ hyT)
      obtain ⟨x, hx, rfl⟩ := List.mem_map.mp (kp.mem_iff.mp (List.mem_of_getElem? hk1))
      obtain ⟨g1, g2, g3⟩ := g.at' x hx
      have nxR : x.2 ≠ R := ne_of_none g3 nR
      have g5 := sb5 _ _ nxR (s4 _ _ (s3 _ _ g3))
      have hF5 := sb5 _ _ nRF.symm (s4 _ _ hF3)
      have dg : DGet H5 F (.ref y.1) (some (.ref x.2)) := by
        have := DGet.t (k := kk x.1) hF5 (show H5 y.1 = some (.tup ((kk x.1).map kV)) from hyT5)
        rw [val_at g.nk hx] at this
        exact this
      have gi : H5 x.2 = some (.lst (((memb t u (2 ^ st.wide) x.1).map fun i => ((i : Nat) : Int)).map V.int)) := by rw [List.map_map]; exact g5
      have hne : memb t u (2 ^ st.wide) x.1 ≠ [] := (g.all x.1).mp (List.mem_map.mpr ⟨x, hx, rfl⟩)
      refine ⟨_, rfl, _, rfl, F, _, rfl, dg, ?_⟩
      refine ⟨_, rfl, .inl ⟨rfl, _, .of hR5⟩, _, rfl, y.1, _, 0, _, rfl, rfl, .of hyT5, atI_nat (j := 0) rfl, _, rfl, y.1, _, 1, _, rfl, rfl, .of hyT5, atI_nat (j := 1) rfl, _, rfl, x.2, _, rfl, .inl (.of g5), ?_⟩
      refine ⟨_, rfl, x.2, _, rfl, .of gi, by rw [List.length_map]; exact List.length_pos_iff.mpr hne, fun m h1 h2 => ⟨by show 4 ≤ sizeLine; decide, fun Z nZ => ?_⟩⟩
      have em := least_min h1 h2
      subst em
      have nZR : R ≠ Z := ne_of_none hR5 nZ
      have lb : ((KL.take j).flatMap (clsRow t u (2 ^ st.wide))).length ≤ 4 * KL.length := cls_len t u _ KL j
      refine ⟨R, Z, _, _, rfl, rfl, (upd_ne nZR).trans hR5, upd_same, ?_, ?_⟩
      · rw [List.length_map, List.length_cons]
        exact sizeLine_le (by show _ + 4 ≤ _; omega)
      · refine ⟨_, _, rfl, ?_, ?_⟩
        · intro b' o nb hb'
          have := sb5 _ _ nb hb'
          rw [upd_ne nb, upd_ne (ne_of_none this nZ)]
          exact this
        · rw [upd_same, take_more hk1, List.flatMap_append, List.flatMap_singleton, List.length_map]
          show some (HO.lst (_ ++ _)) = some (HO.lst ((_ :: (_ ++ _)).map V.int))
          rw [← List.cons_append, List.map_append]
          rfl
    · rintro σ H5 ⟨z7, z8, rfl, sb5, hR5⟩
      rw [List.length_map, lL, List.take_length, ← lKL, ← ht] at hR5
      refine ⟨_, rfl, q.look hD es (H' := H5) ?_ (s2.free nR) hR5⟩
      intro b' o hb'
      have h3 := s4 _ _ (s3 _ _ (s2 _ _ hb'))
      exact sb5 _ _ (ne_of_none (s2 _ _ hb') nR) h3
end
end RT
set_option Elab.async false
set_option linter.all false
set_option maxRecDepth 100000
set_option maxHeartbeats 4000000
/-! answer_to. -/
namespace RT
open PySem PySem.Spec PyProof.Rows L2
abbrev sAt : Stmt := topS 69
abbrev nAt : List Str := ["desk", "call", "numbers", "row"]
theorem scAt : FnScope nAt nAt (defScope sAt) := ⟨rfl, rfl, rfl, by decide +kernel, rfl, by decide +kernel, by decide +kernel⟩
/-- a call by its number, its numbers, its row -/
inductive CallIs : Int → List Int → List Int → Vapktb.Call → Prop
  | wide (n : Int) (row : List Int) : CallIs 0 [n] row (.wide n)
  | table (n : Int) (row : List Int) : CallIs 1 [n] row (.table n row)
  | put (n i : Int) (row : List Int) : CallIs 2 [n, i] row (.put n i row)
  | take (n i : Int) (row : List Int) : CallIs 3 [n, i] row (.take n i)
  | shown (n : Int) (row : List Int) : CallIs 4 [n] row (.shown n)
  | does (n i : Int) (row : List Int) : CallIs 5 [n, i] row (.does n i)
  | own (n i : Int) (row : List Int) : CallIs 6 [n, i] row (.own n i)
  | hole (n : Int) (row : List Int) : CallIs 7 [n] row (.hole n)
  | to (n i : Int) (row : List Int) : CallIs 8 [n, i] row (.to n i)
  | out (n i : Int) (row : List Int) : CallIs 9 [n, i] row (.out n i)
  | from_ (n i : Int) (row : List Int) : CallIs 10 [n, i] row (.from_ n i row)
  | idle (n : Int) (row : List Int) : CallIs 11 [n] row (.idle n)
  | spare (n : Int) (row : List Int) : CallIs 12 [n] row (.spare n)
  | turn (n i : Int) (row : List Int) : CallIs 13 [n, i] row (.turn n i)
  | small (n : Int) (row : List Int) : CallIs 14 [n] row (.small n)
  | apart (n : Int) (row : List Int) : CallIs 15 [n] row (.apart n)
  | why (n i : Int) (row : List Int) : CallIs 16 [n, i] row (.why n i)
  | counts (n : Int) (row : List Int) : CallIs 17 [n] row (.counts n)
  | other (row : List Int) : CallIs 18 [] row .other
  | classes (row : List Int) : CallIs 19 [] row .classes
def noTab (p : Int) : Bool := decide (p ∈ ([0, 18, 19] : List Int))
def twoTab (n : Int) : Bool := decide (n ∈ ([0, 1] : List Int))
theorem bad_tab {n : Int} (h : twoTab n = false) (st : Vapktb.State) (f : Nat → VapktBase.Table → Vapktb.State × Vapktb.Answer) : Vapktb.withTable st n f = (st, [-2]) := by
  unfold Vapktb.withTable
  have e : Vapktb.belowN n 2 = none := by
    refine below_none (fun z => ?_)
    have h1 := of_decide_eq_false h
    simp at h1
    have h2 : n < 2 := z.2
    omega
  rw [e]
theorem call_bad {p : Int} {ns row : List Int} {call : Vapktb.Call} (h : CallIs p ns row call) (hp : noTab p = false) : ∃ n r, ns = n :: r ∧ (twoTab n = false → ∀ st, Vapktb.step st call = (st, [-2])) := by
  cases h <;> first | (refine ⟨_, _, rfl, fun z st => ?_⟩; simp only [Vapktb.step, Vapktb.doPut, Vapktb.look, Vapktb.onHeader, Vapktb.onPort]; exact bad_tab z st _) | (exact absurd hp (by decide))
theorem two_nat {n : Int} (h : twoTab n = true) : ∃ k : Nat, k < 2 ∧ n = (k : Int) := by
  have h1 := of_decide_eq_true h
  simp at h1
  rcases h1 with rfl | rfl
  · exact ⟨0, by decide, rfl⟩
  · exact ⟨1, by decide, rfl⟩
theorem inV_ints (z : Int) : ∀ l : List Int, inV (.int z) (l.map V.int) = decide (z ∈ l)
  | [] => rfl
  | a :: l => by
    unfold inV
    rw [List.map_cons, List.any_cons]
    have := inV_ints z l
    unfold inV at this
    rw [this]
    show ((a == z) || _) = _
    rw [Bool.eq_iff_iff, Bool.or_eq_true, beq_iff_eq, decide_eq_true_iff, decide_eq_true_iff, List.mem_cons]
    exact ⟨fun h => h.imp Eq.symm id, fun h => h.imp Eq.symm id⟩
theorem flat_ints (l : List Int) : (l.map V.int).all flatV = true := by
  rw [List.all_map, List.all_eq_true]
  intro b _
  rfl
def cmdNames : List Str := ["wide", "table", "put", "take", "shown", "does", "own", "hole", "to", "out", "from_which", "idle", "spare", "turn", "small", "apart", "why", "counts", "other", "classes"]
/-- the table of the calls -/
structure Disp (K : PySem.W.Frag) (mg : Str → Option Value) (a : Addr) : Prop where
  tab : mg "CALLS" = some (.ref a)
  ex : ∃ kvs, KDI K a kvs ∧ ∀ (i : Nat) (x : Str), cmdNames[i]? = some x → ∃ f, mg x = some (.ref f) ∧ valI kvs (i : Int) = some (.ref f)
section
variable {P : Program} {w : World} {K : PySem.W.Frag} {mg : Str → Option Value} {base : Heap} {C CD : Addr}
theorem Cal.at {k : Nat} {x : Str} {sp : Sp} {f : Addr} (c : Cal P w K mg base k x sp) (h : mg x = some (.ref f)) : CalAt P w K mg base k f sp := by
  obtain ⟨g, fd, ps, F, hm, kp, b⟩ := c.ex
  rw [h] at hm
  have e : f = g := by
    have := Option.some.inj hm
    injection this
  subst e
  exact ⟨fd, ps, F, kp, b⟩
/-- each call has its function -/
def Cmds (P : Program) (w : World) (K : PySem.W.Frag) (mg : Str → Option Value) (base : Heap) (C CD : Addr) : Prop := ∀ (p : Int) (ns row : List Int) (call : Vapktb.Call), CallIs p ns row call → (noTab p = true ∨ ∃ n r, ns = n :: r ∧ twoTab n = true) →
  ∃ (i : Nat) (x : Str) (pre : List Int → List Int → Vapktb.Call → Prop), p = (i : Int) ∧ cmdNames[i]? = some x ∧ pre ns row call ∧ Cal P w K mg base 11 x (spCmd C CD pre)
theorem cmds_mk (c0 : Cal P w K mg base 11 "wide" (spCmd C CD preW)) (c1 : Cal P w K mg base 11 "table" (spCmd C CD (preR .table))) (c2 : Cal P w K mg base 11 "put" (spCmd C CD (preNR .put))) (c3 : Cal P w K mg base 11 "take" (spCmd C CD (preN .take)))
    (c4 : Cal P w K mg base 11 "shown" (spCmd C CD (preT .shown))) (c5 : Cal P w K mg base 11 "does" (spCmd C CD (preN .does))) (c6 : Cal P w K mg base 11 "own" (spCmd C CD (preN .own))) (c7 : Cal P w K mg base 11 "hole" (spCmd C CD (preT .hole)))
    (c8 : Cal P w K mg base 11 "to" (spCmd C CD (preN .to))) (c9 : Cal P w K mg base 11 "out" (spCmd C CD (preN .out))) (c10 : Cal P w K mg base 11 "from_which" (spCmd C CD (preNR .from_))) (c11 : Cal P w K mg base 11 "idle" (spCmd C CD (preT .idle)))
    (c12 : Cal P w K mg base 11 "spare" (spCmd C CD (preT .spare))) (c13 : Cal P w K mg base 11 "turn" (spCmd C CD (preN .turn))) (c14 : Cal P w K mg base 11 "small" (spCmd C CD (preT .small))) (c15 : Cal P w K mg base 11 "apart" (spCmd C CD (preT .apart)))
    (c16 : Cal P w K mg base 11 "why" (spCmd C CD (preN .why))) (c17 : Cal P w K mg base 11 "counts" (spCmd C CD (preT .counts))) (c18 : Cal P w K mg base 11 "other" (spCmd C CD (pre0 .other))) (c19 : Cal P w K mg base 11 "classes" (spCmd C CD (pre0 .classes))) :
    Cmds P w K mg base C CD := by
  intro p ns row call h hok
  have two : ∀ {q m : Int} {r : List Int}, noTab q = false → (noTab q = true ∨ ∃ n r', m :: r = n :: r' ∧ twoTab n = true) → ∃ k : Nat, k < 2 ∧ m = (k : Int) := by
    intro q m r hq hh
    rcases hh with hh | ⟨n, r', e, hh⟩
    · rw [hq] at hh
      cases hh
    · rw [(List.cons.inj e).1]
      exact two_nat hh
  cases h with
  | wide n row => exact ⟨0, "wide", _, rfl, rfl, ⟨n, rfl, rfl⟩, c0⟩
  | table n row => obtain ⟨k, hk, rfl⟩ := two (by decide) hok; exact ⟨1, "table", _, rfl, rfl, ⟨k, hk, rfl, rfl⟩, c1⟩
  | put n i row => obtain ⟨k, hk, rfl⟩ := two (by decide) hok; exact ⟨2, "put", _, rfl, rfl, ⟨k, i, hk, rfl, rfl⟩, c2⟩
  | take n i row => obtain ⟨k, hk, rfl⟩ := two (by decide) hok; exact ⟨3, "take", _, rfl, rfl, ⟨k, i, hk, rfl, rfl⟩, c3⟩
  | shown n row => obtain ⟨k, hk, rfl⟩ := two (by decide) hok; exact ⟨4, "shown", _, rfl, rfl, ⟨k, hk, rfl, rfl⟩, c4⟩
  | does n i row => obtain ⟨k, hk, rfl⟩ := two (by decide) hok; exact ⟨5, "does", _, rfl, rfl, ⟨k, i, hk, rfl, rfl⟩, c5⟩
  | own n i row => obtain ⟨k, hk, rfl⟩ := two (by decide) hok; exact ⟨6, "own", _, rfl, rfl, ⟨k, i, hk, rfl, rfl⟩, c6⟩
  | hole n row => obtain ⟨k, hk, rfl⟩ := two (by decide) hok; exact ⟨7, "hole", _, rfl, rfl, ⟨k, hk, rfl, rfl⟩, c7⟩
  | to n i row => obtain ⟨k, hk, rfl⟩ := two (by decide) hok; exact ⟨8, "to", _, rfl, rfl, ⟨k, i, hk, rfl, rfl⟩, c8⟩
  | out n i row => obtain ⟨k, hk, rfl⟩ := two (by decide) hok; exact ⟨9, "out", _, rfl, rfl, ⟨k, i, hk, rfl, rfl⟩, c9⟩
  | from_ n i row => obtain ⟨k, hk, rfl⟩ := two (by decide) hok; exact ⟨10, "from_which", _, rfl, rfl, ⟨k, i, hk, rfl, rfl⟩, c10⟩
  | idle n row => obtain ⟨k, hk, rfl⟩ := two (by decide) hok; exact ⟨11, "idle", _, rfl, rfl, ⟨k, hk, rfl, rfl⟩, c11⟩
  | spare n row => obtain ⟨k, hk, rfl⟩ := two (by decide) hok; exact ⟨12, "spare", _, rfl, rfl, ⟨k, hk, rfl, rfl⟩, c12⟩
  | turn n i row => obtain ⟨k, hk, rfl⟩ := two (by decide) hok; exact ⟨13, "turn", _, rfl, rfl, ⟨k, i, hk, rfl, rfl⟩, c13⟩
  | small n row => obtain ⟨k, hk, rfl⟩ := two (by decide) hok; exact ⟨14, "small", _, rfl, rfl, ⟨k, hk, rfl, rfl⟩, c14⟩
  | apart n row => obtain ⟨k, hk, rfl⟩ := two (by decide) hok; exact ⟨15, "apart", _, rfl, rfl, ⟨k, hk, rfl, rfl⟩, c15⟩
  | why n i row => obtain ⟨k, hk, rfl⟩ := two (by decide) hok; exact ⟨16, "why", _, rfl, rfl, ⟨k, i, hk, rfl, rfl⟩, c16⟩
  | counts n row => obtain ⟨k, hk, rfl⟩ := two (by decide) hok; exact ⟨17, "counts", _, rfl, rfl, ⟨k, hk, rfl, rfl⟩, c17⟩
  | other row => exact ⟨18, "other", _, rfl, rfl, rfl, c18⟩
  | classes row => exact ⟨19, "classes", _, rfl, rfl, rfl, c19⟩
def spAt (C CD : Addr) : Sp := fun vs H Q _ => ∃ (d b c : Addr) (D : List Addr) (st : Vapktb.State) (p : Int) (ns row : List Int) (call : Vapktb.Call), vs = [.ref d, .int p, .ref b, .ref c] ∧ DeskAt C CD H d D st ∧ H b = some (.lst (ns.map V.int)) ∧ H c = some (.lst (row.map V.int)) ∧ row.length ≤ 60 ∧ CallIs p ns row call ∧ RetCmd C CD H Q d D st call
theorem cal_at (D : Def K mg "answer_to" sAt nAt) {ca wa : Addr} (dt : Disp K mg ca) (gw : mg "WITHOUT_TABLE" = some (.ref wa)) (tw : ∀ H, SqT K H wa (([0, 18, 19] : List Int).map V.int)) (cs : Cmds P w K mg base C CD) : Cal P w K mg base 12 "answer_to" (spAt C CD) := by
  refine cal_mk D scAt (fun vs H Q E h => ?_) (fun f cdv A outer s H vs Q E hr h => ?_)
  · obtain ⟨d, b, c, D, st, p, ns, row, call, rfl, _⟩ := h
    rfl
  obtain ⟨d, b, c, D, st, p, ns, row, call, rfl, hD, hb, hc, hrow, hcall, q⟩ := h
  refine ⟨_, pss_cons (ps_if (PW.pt (pw_and (pt_cmpR op_notIn_seq (pv 1) (pe_glob (v := .ref wa) (by rfl) gw rfl) rfl) (pw_and1 (pt_cmpR op_notIn_seq (pe_ix ix_list (pv 2) pe_int (fun _ _ => rfl)) (pe_tup (pa_cons pe_int (pa_cons pe_int pa_nil))) rfl))))
      (pss_one (ps_ret (pe_lst (pa_cons (pe_un un_neg pe_int) pa_nil)))) pss_nil)
    (pss_one (ps_ret (pe_callE hr (pe_ix ix_kdi (pe_glob (v := .ref ca) (by rfl) dt.tab rfl) (pv 1) (fun _ _ => rfl)) (pa_cons (pv 0) (pa_cons (pv 2) (pa_cons (pv 3) pa_nil)))))), ?_⟩
  have rest : ∀ H' : Hp, Same H H' → (noTab p = true ∨ ∃ n r, ns = n :: r ∧ twoTab n = true) → tCallE P w K mg base 11 (tOp (rIxKI K) (tC (.ref ca)) (tVar 1)) (tCons (tVar 0) (tCons (tVar 2) (tCons (tVar 3) tNil))) (L2.start nAt [.ref d, .int p, .ref b, .ref c]) H' Q := by
    intro H' s1 hok
    obtain ⟨i, x, pre, rfl, hx, hpre, cx⟩ := cs p ns row call hcall hok
    obtain ⟨kvs, hk, hn⟩ := dt.ex
    obtain ⟨f, hf, hv⟩ := hn i x hx
    refine ⟨_, rfl, ca, (i : Int), kvs, _, rfl, rfl, hk, hv, f, _, rfl, cx.at hf, _, rfl, _, rfl, _, rfl, d, b, c, D, st, ns, row, call, rfl, hD.same s1, s1 _ _ hb, s1 _ _ hc, hrow, hpre, ?_⟩
    exact fun H2 r D' h0 h1 h2 h3 h4 => q H2 r D' (s1.free h0) h1 (fun y o ny hy => h2 y o ny (s1 _ _ hy)) (fun y hy => (h3 y hy).imp id fun z => s1.free z) h4
  refine ⟨_, rfl, wa, _, rfl, .inr (tw H), rfl, flat_ints _, _, rfl, ?_⟩
  rw [inV_ints]
  cases hp : noTab p with
  | true =>
    rw [show decide (p ∈ ([0, 18, 19] : List Int)) = true from hp]
    exact iteF (iteF (rest H (Same.refl H) (.inl hp)))
  | false =>
    rw [show decide (p ∈ ([0, 18, 19] : List Int)) = false from hp]
    obtain ⟨n, r, rfl, hbad⟩ := call_bad hcall hp
    refine iteT ⟨_, rfl, b, _, 0, _, rfl, rfl, .of hb, atI_nat (j := 0) rfl, by show 2 ≤ sizeLine; decide, fun z nz => ?_⟩
    refine ⟨z, [.int 0, .int 1], rfl, .inr (.of upd_same), rfl, rfl, _, rfl, ?_⟩
    rw [show inV (.int n) [.int 0, .int 1] = twoTab n from inV_ints n [0, 1]]
    have s1 := same_upd (o := .tup [V.int 0, V.int 1]) nz
    cases ht : twoTab n with
    | true => exact iteF (rest _ s1 (.inr ⟨n, r, rfl, ht⟩))
    | false =>
      refine iteT ⟨_, rfl, by show 1 ≤ sizeLine; decide, fun y ny => ?_⟩
      exact q.look hD (hbad ht st) (s1.trans (same_upd ny)) (s1.free ny) upd_same
end
end RT
set_option linter.all false
set_option maxRecDepth 100000
set_option maxHeartbeats 4000000
/-! The calls read off one list. -/
namespace RT
theorem len_two {A : Type} : ∀ {l : List A}, l.length = 2 → ∃ x y, l = [x, y]
  | [x, y], _ => ⟨x, y, rfl⟩
theorem shape_or {p : Int} {x : Nat × Nat} (h : PyVapktb.shape p = some x) : (p = 0 ∧ x = (1, 0)) ∨ (p = 1 ∧ x = (1, 1)) ∨ (p = 2 ∧ x = (2, 1)) ∨ (p = 3 ∧ x = (2, 0)) ∨ (p = 4 ∧ x = (1, 0)) ∨ (p = 5 ∧ x = (2, 0)) ∨ (p = 6 ∧ x = (2, 0)) ∨ (p = 7 ∧ x = (1, 0)) ∨ (p = 8 ∧ x = (2, 0)) ∨ (p = 9 ∧ x = (2, 0)) ∨ (p = 10 ∧ x = (2, 1)) ∨ (p = 11 ∧ x = (1, 0)) ∨ (p = 12 ∧ x = (1, 0)) ∨ (p = 13 ∧ x = (2, 0)) ∨ (p = 14 ∧ x = (1, 0)) ∨ (p = 15 ∧ x = (1, 0)) ∨ (p = 16 ∧ x = (2, 0)) ∨ (p = 17 ∧ x = (1, 0)) ∨ (p = 18 ∧ x = (0, 0)) ∨ (p = 19 ∧ x = (0, 0)) := by
  unfold PyVapktb.shape at h
  by_cases e : p = 0
  · rw [if_pos e] at h
    exact .inl ⟨e, (Option.some.inj h).symm⟩
  rw [if_neg e] at h
  clear e
  by_cases e : p = 1
  · rw [if_pos e] at h
    exact .inr (.inl ⟨e, (Option.some.inj h).symm⟩)
  rw [if_neg e] at h
  clear e
  by_cases e : p = 2
  · rw [if_pos e] at h
    exact .inr (.inr (.inl ⟨e, (Option.some.inj h).symm⟩))
  rw [if_neg e] at h
  clear e
  by_cases e : p = 3
  · rw [if_pos e] at h
    exact .inr (.inr (.inr (.inl ⟨e, (Option.some.inj h).symm⟩)))
  rw [if_neg e] at h
  clear e
  by_cases e : p = 4
  · rw [if_pos e] at h
    exact .inr (.inr (.inr (.inr (.inl ⟨e, (Option.some.inj h).symm⟩))))
  rw [if_neg e] at h
  clear e
  by_cases e : p = 5
  · rw [if_pos e] at h
    exact .inr (.inr (.inr (.inr (.inr (.inl ⟨e, (Option.some.inj h).symm⟩)))))
  rw [if_neg e] at h
  clear e
  by_cases e : p = 6
  · rw [if_pos e] at h
    exact .inr (.inr (.inr (.inr (.inr (.inr (.inl ⟨e, (Option.some.inj h).symm⟩))))))
  rw [if_neg e] at h
  clear e
  by_cases e : p = 7
  · rw [if_pos e] at h
    exact .inr (.inr (.inr (.inr (.inr (.inr (.inr (.inl ⟨e, (Option.some.inj h).symm⟩)))))))
  rw [if_neg e] at h
  clear e
  by_cases e : p = 8
  · rw [if_pos e] at h
    exact .inr (.inr (.inr (.inr (.inr (.inr (.inr (.inr (.inl ⟨e, (Option.some.inj h).symm⟩))))))))
  rw [if_neg e] at h
  clear e
  by_cases e : p = 9
  · rw [if_pos e] at h
    exact .inr (.inr (.inr (.inr (.inr (.inr (.inr (.inr (.inr (.inl ⟨e, (Option.some.inj h).symm⟩)))))))))
  rw [if_neg e] at h
  clear e
  by_cases e : p = 10
  · rw [if_pos e] at h
    exact .inr (.inr (.inr (.inr (.inr (.inr (.inr (.inr (.inr (.inr (.inl ⟨e, (Option.some.inj h).symm⟩))))))))))
  rw [if_neg e] at h
  clear e
  by_cases e : p = 11
  · rw [if_pos e] at h
    exact .inr (.inr (.inr (.inr (.inr (.inr (.inr (.inr (.inr (.inr (.inr (.inl ⟨e, (Option.some.inj h).symm⟩)))))))))))
  rw [if_neg e] at h
  clear e
  by_cases e : p = 12
  · rw [if_pos e] at h
    exact .inr (.inr (.inr (.inr (.inr (.inr (.inr (.inr (.inr (.inr (.inr (.inr (.inl ⟨e, (Option.some.inj h).symm⟩))))))))))))
  rw [if_neg e] at h
  clear e
  by_cases e : p = 13
  · rw [if_pos e] at h
    exact .inr (.inr (.inr (.inr (.inr (.inr (.inr (.inr (.inr (.inr (.inr (.inr (.inr (.inl ⟨e, (Option.some.inj h).symm⟩)))))))))))))
  rw [if_neg e] at h
  clear e
  by_cases e : p = 14
  · rw [if_pos e] at h
    exact .inr (.inr (.inr (.inr (.inr (.inr (.inr (.inr (.inr (.inr (.inr (.inr (.inr (.inr (.inl ⟨e, (Option.some.inj h).symm⟩))))))))))))))
  rw [if_neg e] at h
  clear e
  by_cases e : p = 15
  · rw [if_pos e] at h
    exact .inr (.inr (.inr (.inr (.inr (.inr (.inr (.inr (.inr (.inr (.inr (.inr (.inr (.inr (.inr (.inl ⟨e, (Option.some.inj h).symm⟩)))))))))))))))
  rw [if_neg e] at h
  clear e
  by_cases e : p = 16
  · rw [if_pos e] at h
    exact .inr (.inr (.inr (.inr (.inr (.inr (.inr (.inr (.inr (.inr (.inr (.inr (.inr (.inr (.inr (.inr (.inl ⟨e, (Option.some.inj h).symm⟩))))))))))))))))
  rw [if_neg e] at h
  clear e
  by_cases e : p = 17
  · rw [if_pos e] at h
    exact .inr (.inr (.inr (.inr (.inr (.inr (.inr (.inr (.inr (.inr (.inr (.inr (.inr (.inr (.inr (.inr (.inr (.inl ⟨e, (Option.some.inj h).symm⟩)))))))))))))))))
  rw [if_neg e] at h
  clear e
  by_cases e : p = 18
  · rw [if_pos e] at h
    exact .inr (.inr (.inr (.inr (.inr (.inr (.inr (.inr (.inr (.inr (.inr (.inr (.inr (.inr (.inr (.inr (.inr (.inr (.inl ⟨e, (Option.some.inj h).symm⟩))))))))))))))))))
  rw [if_neg e] at h
  clear e
  by_cases e : p = 19
  · rw [if_pos e] at h
    exact .inr (.inr (.inr (.inr (.inr (.inr (.inr (.inr (.inr (.inr (.inr (.inr (.inr (.inr (.inr (.inr (.inr (.inr (.inr (⟨e, (Option.some.inj h).symm⟩)))))))))))))))))))
  rw [if_neg e] at h
  clear e
  cases h
theorem calls0 {p : Int} {n : Nat} (h : PyVapktb.shape p = some (n, 0)) {xs : List Int} (hl : xs.length = n) : ∃ call, (∀ row, CallIs p xs row call) ∧ ∀ s, VapktbNeutral.step s (PyVapktb.whole [p :: xs]) = Vapktb.step s call := by
  rcases shape_or h with ⟨rfl, e⟩ | ⟨rfl, e⟩ | ⟨rfl, e⟩ | ⟨rfl, e⟩ | ⟨rfl, e⟩ | ⟨rfl, e⟩ | ⟨rfl, e⟩ | ⟨rfl, e⟩ | ⟨rfl, e⟩ | ⟨rfl, e⟩ | ⟨rfl, e⟩ | ⟨rfl, e⟩ | ⟨rfl, e⟩ | ⟨rfl, e⟩ | ⟨rfl, e⟩ | ⟨rfl, e⟩ | ⟨rfl, e⟩ | ⟨rfl, e⟩ | ⟨rfl, e⟩ | ⟨rfl, e⟩
  · cases e
    obtain ⟨x, rfl⟩ := List.length_eq_one_iff.mp hl
    exact ⟨_, fun row => .wide x row, fun s => rfl⟩
  · cases e
  · cases e
  · cases e
    obtain ⟨x, y, rfl⟩ := len_two hl
    exact ⟨_, fun row => .take x y row, fun s => rfl⟩
  · cases e
    obtain ⟨x, rfl⟩ := List.length_eq_one_iff.mp hl
    exact ⟨_, fun row => .shown x row, fun s => rfl⟩
  · cases e
    obtain ⟨x, y, rfl⟩ := len_two hl
    exact ⟨_, fun row => .does x y row, fun s => rfl⟩
  · cases e
    obtain ⟨x, y, rfl⟩ := len_two hl
    exact ⟨_, fun row => .own x y row, fun s => rfl⟩
  · cases e
    obtain ⟨x, rfl⟩ := List.length_eq_one_iff.mp hl
    exact ⟨_, fun row => .hole x row, fun s => rfl⟩
  · cases e
    obtain ⟨x, y, rfl⟩ := len_two hl
    exact ⟨_, fun row => .to x y row, fun s => rfl⟩
  · cases e
    obtain ⟨x, y, rfl⟩ := len_two hl
    exact ⟨_, fun row => .out x y row, fun s => rfl⟩
  · cases e
  · cases e
    obtain ⟨x, rfl⟩ := List.length_eq_one_iff.mp hl
    exact ⟨_, fun row => .idle x row, fun s => rfl⟩
  · cases e
    obtain ⟨x, rfl⟩ := List.length_eq_one_iff.mp hl
    exact ⟨_, fun row => .spare x row, fun s => rfl⟩
  · cases e
    obtain ⟨x, y, rfl⟩ := len_two hl
    exact ⟨_, fun row => .turn x y row, fun s => rfl⟩
  · cases e
    obtain ⟨x, rfl⟩ := List.length_eq_one_iff.mp hl
    exact ⟨_, fun row => .small x row, fun s => rfl⟩
  · cases e
    obtain ⟨x, rfl⟩ := List.length_eq_one_iff.mp hl
    exact ⟨_, fun row => .apart x row, fun s => rfl⟩
  · cases e
    obtain ⟨x, y, rfl⟩ := len_two hl
    exact ⟨_, fun row => .why x y row, fun s => rfl⟩
  · cases e
    obtain ⟨x, rfl⟩ := List.length_eq_one_iff.mp hl
    exact ⟨_, fun row => .counts x row, fun s => rfl⟩
  · cases e
    obtain rfl := List.length_eq_zero_iff.mp hl
    exact ⟨_, fun row => .other row, fun s => rfl⟩
  · cases e
    obtain rfl := List.length_eq_zero_iff.mp hl
    exact ⟨_, fun row => .classes row, fun s => rfl⟩
theorem row_bound {p : Int} {xs row : List Int} {lo hi : Int} {most : Nat} (hb : (PyVapktb.bound p).2 = [(lo, hi, 0, most)]) (hm : most ≤ 60) (h : PyInside.call PyVapktb.bound [p :: xs, row] = true) : row.length ≤ 60 := by
  have h1 : (PyInside.each (PyVapktb.bound p).1 xs && PyInside.lists (PyVapktb.bound p).2 [row]) = true := h
  rw [hb, Bool.and_eq_true] at h1
  have h2 : ((decide (0 ≤ row.length) && decide (row.length ≤ most)) && row.all (PyInside.within lo hi) && PyInside.lists [] []) = true := h1.2
  simp only [Bool.and_eq_true, decide_eq_true_eq] at h2
  have := h2.1.1.2
  omega
theorem calls1 {p : Int} {n : Nat} (h : PyVapktb.shape p = some (n, 1)) {xs : List Int} (hl : xs.length = n) (row : List Int) : ∃ call, CallIs p xs row call ∧ (∀ s, VapktbNeutral.step s (PyVapktb.whole [p :: xs, row]) = Vapktb.step s call) ∧ p ∈ ([1, 2, 10] : List Int) ∧ (PyInside.call PyVapktb.bound [p :: xs, row] = true → row.length ≤ 60) := by
  rcases shape_or h with ⟨rfl, e⟩ | ⟨rfl, e⟩ | ⟨rfl, e⟩ | ⟨rfl, e⟩ | ⟨rfl, e⟩ | ⟨rfl, e⟩ | ⟨rfl, e⟩ | ⟨rfl, e⟩ | ⟨rfl, e⟩ | ⟨rfl, e⟩ | ⟨rfl, e⟩ | ⟨rfl, e⟩ | ⟨rfl, e⟩ | ⟨rfl, e⟩ | ⟨rfl, e⟩ | ⟨rfl, e⟩ | ⟨rfl, e⟩ | ⟨rfl, e⟩ | ⟨rfl, e⟩ | ⟨rfl, e⟩
  · cases e
  · cases e
    obtain ⟨x, rfl⟩ := List.length_eq_one_iff.mp hl
    exact ⟨_, .table x row, fun s => rfl, by decide, row_bound (by rfl) (by decide)⟩
  · cases e
    obtain ⟨x, y, rfl⟩ := len_two hl
    exact ⟨_, .put x y row, fun s => rfl, by decide, row_bound (by rfl) (by decide)⟩
  · cases e
  · cases e
  · cases e
  · cases e
  · cases e
  · cases e
  · cases e
  · cases e
    obtain ⟨x, y, rfl⟩ := len_two hl
    exact ⟨_, .from_ x y row, fun s => rfl, by decide, row_bound (by rfl) (by decide)⟩
  · cases e
  · cases e
  · cases e
  · cases e
  · cases e
  · cases e
  · cases e
  · cases e
  · cases e
theorem not_row {p : Int} {n : Nat} (h : PyVapktb.shape p = some (n, 0)) : ¬ p ∈ ([1, 2, 10] : List Int) := by
  rcases shape_or h with ⟨rfl, e⟩ | ⟨rfl, e⟩ | ⟨rfl, e⟩ | ⟨rfl, e⟩ | ⟨rfl, e⟩ | ⟨rfl, e⟩ | ⟨rfl, e⟩ | ⟨rfl, e⟩ | ⟨rfl, e⟩ | ⟨rfl, e⟩ | ⟨rfl, e⟩ | ⟨rfl, e⟩ | ⟨rfl, e⟩ | ⟨rfl, e⟩ | ⟨rfl, e⟩ | ⟨rfl, e⟩ | ⟨rfl, e⟩ | ⟨rfl, e⟩ | ⟨rfl, e⟩ | ⟨rfl, e⟩ <;> first | decide | cases e
theorem shape_k {p : Int} {n k : Nat} (h : PyVapktb.shape p = some (n, k)) : k = 0 ∨ k = 1 := by
  rcases shape_or h with ⟨rfl, e⟩ | ⟨rfl, e⟩ | ⟨rfl, e⟩ | ⟨rfl, e⟩ | ⟨rfl, e⟩ | ⟨rfl, e⟩ | ⟨rfl, e⟩ | ⟨rfl, e⟩ | ⟨rfl, e⟩ | ⟨rfl, e⟩ | ⟨rfl, e⟩ | ⟨rfl, e⟩ | ⟨rfl, e⟩ | ⟨rfl, e⟩ | ⟨rfl, e⟩ | ⟨rfl, e⟩ | ⟨rfl, e⟩ | ⟨rfl, e⟩ | ⟨rfl, e⟩ | ⟨rfl, e⟩ <;> cases e <;> first | exact .inl rfl | exact .inr rfl
theorem step_calls {f : Nat} {p : Int} {r : List Int} {cs : List (List (List Int))} (h : PyFlat.calls PyVapktb.shape f (p :: r) = some cs) (hb : PyInside.calls PyVapktb.bound cs = true) :
    ∃ (n k : Nat) (c : List (List Int)) (cs' : List (List (List Int))) (f' : Nat), PyVapktb.shape p = some (n, k) ∧ cs = c :: cs' ∧ n ≤ r.length ∧ PyInside.calls PyVapktb.bound cs' = true ∧
      ((k = 0 ∧ (¬ p ∈ ([1, 2, 10] : List Int)) ∧ ∃ call, (∀ row, CallIs p (r.take n) row call) ∧ (∀ s, VapktbNeutral.step s (PyVapktb.whole c) = Vapktb.step s call) ∧ PyFlat.calls PyVapktb.shape f' (r.drop n) = some cs') ∨
       (k = 1 ∧ p ∈ ([1, 2, 10] : List Int) ∧ ∃ (m : Nat) (r2 : List Int) (call : Vapktb.Call), r.drop n = (m : Int) :: r2 ∧ m ≤ r2.length ∧ m ≤ 60 ∧ CallIs p (r.take n) (r2.take m) call ∧ (∀ s, VapktbNeutral.step s (PyVapktb.whole c) = Vapktb.step s call) ∧ PyFlat.calls PyVapktb.shape f' (r2.drop m) = some cs')) := by
  cases f with
  | zero => cases h
  | succ f =>
    unfold PyFlat.calls at h
    cases hc : PyFlat.call PyVapktb.shape (p :: r) with
    | none =>
      rw [hc] at h
      cases h
    | some ct =>
      obtain ⟨c, t⟩ := ct
      rw [hc] at h
      cases hr : PyFlat.calls PyVapktb.shape f t with
      | none =>
        simp only [hr] at h
        cases h
      | some cs' =>
        simp only [hr] at h
        obtain rfl := (Option.some.inj h).symm
        have hb2 : (PyInside.call PyVapktb.bound c && PyInside.calls PyVapktb.bound cs') = true := hb
        rw [Bool.and_eq_true] at hb2
        unfold PyFlat.call at hc
        cases hs : PyVapktb.shape p with
        | none =>
          simp only [hs] at hc
          cases hc
        | some nk =>
          obtain ⟨n, k⟩ := nk
          simp only [hs] at hc
          by_cases hn : r.length < n
          · rw [if_pos hn] at hc
            cases hc
          rw [if_neg hn] at hc
          have hn2 : n ≤ r.length := by omega
          have hl : (r.take n).length = n := by rw [List.length_take]; omega
          refine ⟨n, k, c, cs', f, rfl, rfl, hn2, hb2.2, ?_⟩
          rcases shape_k hs with rfl | rfl
          · have hc2 : some ([p :: r.take n], r.drop n) = some (c, t) := hc
            obtain ⟨rfl, rfl⟩ := Prod.mk.inj (Option.some.inj hc2)
            obtain ⟨call, h1, h2⟩ := calls0 hs hl
            exact .inl ⟨rfl, not_row hs, call, h1, h2, hr⟩
          · cases hd : r.drop n with
            | nil =>
              rw [hd] at hc
              cases hc
            | cons m r2 =>
              rw [hd] at hc
              by_cases hm : 0 ≤ m ∧ m.toNat ≤ r2.length
              · have hw : PyFlat.row (m :: r2) = some (r2.take m.toNat, r2.drop m.toNat) := if_pos hm
                have hc2 : some ([p :: r.take n, r2.take m.toNat], r2.drop m.toNat) = some (c, t) := by
                  rw [← hc]
                  unfold PyFlat.rows
                  rw [hw]
                  rfl
                obtain ⟨rfl, rfl⟩ := Prod.mk.inj (Option.some.inj hc2)
                obtain ⟨call, h1, h2, h3, h4⟩ := calls1 hs hl (r2.take m.toNat)
                have h5 := h4 hb2.1
                rw [List.length_take] at h5
                obtain ⟨j, rfl⟩ := Int.eq_ofNat_of_zero_le hm.1
                rw [Int.toNat_natCast] at *
                exact .inr ⟨rfl, h3, j, r2, call, rfl, by omega, by omega, h1, h2, hr⟩
              · have hw : PyFlat.row (m :: r2) = none := if_neg hm
                unfold PyFlat.rows at hc
                rw [hw] at hc
                cases hc
end RT
set_option Elab.async false
set_option linter.all false
set_option maxRecDepth 100000
set_option maxHeartbeats 4000000
/-! answers. -/
namespace RT
open PySem PySem.Spec PyProof.Rows L2
abbrev sAns : Stmt := topS 70
abbrev nAns : List Str := ["calls", "desk", "told", "start", "call", "end", "numbers", "row", "first", "answer"]
theorem scAns : FnScope nAns ["calls"] (defScope sAns) := ⟨rfl, rfl, rfl, by decide +kernel, rfl, by decide +kernel, by decide +kernel⟩
/-- a statement, then the rest, with a word between them -/
def tMid (t u : TS) : TS := fun D σ H => ∃ Mid : L2.St → Hp → Prop, t { D with nx := Mid } σ H ∧ ∀ σ' H', Mid σ' H' → u D σ' H'
theorem pss_mid {X : Cx} {st : Stmt} {rest : List Stmt} {t u : TS} (h1 : PS X st t) (h2 : PSs X rest u) : PSs X (st :: rest) (tMid t u) := by
  refine ⟨fun pins s σ H D I h => ?_⟩
  obtain ⟨Mid, hm, hu⟩ := h
  refine wpAny_execs_cons (thn (h1.run pins s σ H { D with nx := Mid } I hm) fun f s1 q => ?_)
  cases f with
  | next =>
    obtain ⟨σ', H', I', q'⟩ := q
    exact thn (h2.run pins s1 σ' H' D I' (hu σ' H' q')) fun _ _ z => z
  | brk => exact q
  | cont => exact q
  | ret v => exact q
/-! a list that is laid aside for the time of an expression -/
def hidO (R : Addr) (xs : List V) : HO := .ext fun h => xs.length ≤ sizeLine ∧ ∃ (its : List Value) (n : Nat), Vals xs its ∧ h.get? R = some { cls := .type "list", data := .seq its.toArray n }
def tHide (t : TE) : TE := fun σ H Q => ∃ (R : Addr) (xs : List V), H R = some (.lst xs) ∧ t σ (upd H R (hidO R xs)) fun v H1 => H1 R = some (hidO R xs) ∧ Q v (upd H1 R (.lst xs))
theorem pe_hide {X : Cx} {e : Expr} {t : TE} (h : PE X e t) : PE X e (tHide t) := by
  refine ⟨fun pins s σ H Q I hq => ?_⟩
  obtain ⟨R, xs, hR, hq⟩ := hq
  obtain ⟨z, its, n, rv, hg⟩ := (show ObjOk X.prog X.w H s.heap R (.lst xs) from I.hok R _ hR)
  have I1 : Inv X pins σ (upd H R (hidO R xs)) s := I.write (h' := s.heap) (t' := s.toks) (x := R) (e := R) (by rw [hR]; exact True.intro) (.inl rfl) (fun b u _ e => e) ⟨_, hg⟩
    ⟨⟨z, its, n, rv, hg⟩, ⟨_, hg⟩, fun h1 h2 ⟨z, its, n, rv, hg⟩ k => ⟨z, its, n, rv, k _ hg⟩⟩
  refine thn (h.run pins s σ _ _ I1 hq) fun u s1 ⟨v, H1, I2, r, hR1, q⟩ => ?_
  obtain ⟨⟨z, its, n, rv, hg⟩, _, _⟩ := (show ObjOk X.prog X.w H1 s1.heap R (hidO R xs) from I2.hok R _ hR1)
  have I3 : Inv X pins σ (upd H1 R (.lst xs)) s1 := I2.write (h' := s1.heap) (t' := s1.toks) (x := R) (e := R) (by rw [hR1]; exact True.intro) (.inl rfl) (fun b u _ e => e) ⟨_, hg⟩ ⟨z, its, n, rv, hg⟩
  exact ⟨v, _, I3, r, q⟩
theorem DeskAt.but {C CD : Addr} {H H' : Hp} {R : Addr} {φ : Heap → Prop} (hR : H R = some (.ext φ)) (sb : SameBut R H H') {d : Addr} {D : List Addr} {st : Vapktb.State} (h : DeskAt C CD H d D st) : DeskAt C CD H' d D st := by
  obtain ⟨dx, a, p, q, t0, t1, e, h1, h2, n1, n2, n3, h3, h4, h5, r⟩ := h.ex
  have go : ∀ {x : Addr} {o : HO}, H x = some o → o ≠ .ext φ → H' x = some o := fun hx ne => sb _ _ (ne_of hx hR ne) hx
  have tab : ∀ {x : Addr} {t : List R'}, TableAt C H x t → TableAt C H' x t := fun {x t} hx => by
    obtain ⟨qs, k1, k2⟩ := hx.ex
    refine ⟨qs, go k1 (by intro z; cases z), k2.mono fun q' r' ⟨b, e, kk⟩ => ⟨b, e, ?_⟩⟩
    obtain ⟨dx, ac, j1, j2⟩ := kk.ex
    exact ⟨dx, ac, go j1 (by intro z; cases z), go j2 (by intro z; cases z)⟩
  exact ⟨dx, a, p, q, t0, t1, e, go h1 (by intro z; cases z), go h2 (by intro z; cases z), n1, n2, n3, h3, tab h4, tab h5, r⟩
/-- how many numbers each call has -/
structure NumT (K : PySem.W.Frag) (mg : Str → Option Value) (na : Addr) : Prop where
  tab : mg "NUMBERS" = some (.ref na)
  ex : ∃ kvs, KDI K na kvs ∧ ∀ (p : Int) (n k : Nat), PyVapktb.shape p = some (n, k) → valI kvs p = some (.int (n : Nat))
def restOf (st : Vapktb.State) (cs : List (List (List Int))) : List Int := PyFlat.told (PyFlat.played VapktbNeutral.step st (cs.map PyVapktb.whole))
theorem restOf_cons (st : Vapktb.State) (c : List (List Int)) (cs : List (List (List Int))) {call : Vapktb.Call} (h : ∀ s, VapktbNeutral.step s (PyVapktb.whole c) = Vapktb.step s call) :
    restOf st (c :: cs) = ((Vapktb.step st call).2.length : Int) :: (Vapktb.step st call).2 ++ restOf (Vapktb.step st call).1 cs := by
  unfold restOf
  rw [List.map_cons]
  show PyFlat.told ((VapktbNeutral.step st (PyVapktb.whole c)).2 :: PyFlat.played VapktbNeutral.step (VapktbNeutral.step st (PyVapktb.whole c)).1 (cs.map PyVapktb.whole)) = _
  rw [h st]
  unfold PyFlat.told
  rw [List.flatMap_cons]
theorem asked_calls {l : List Int} (h : PyVapktb.answers_asked l = true) : ∃ cs, PyFlat.calls PyVapktb.shape l.length l = some cs ∧ PyInside.calls PyVapktb.bound cs = true ∧ PyVapktb.answers l = restOf Vapktb.start cs ∧ (PyVapktb.answers l).length ≤ 10000000 := by
  unfold PyVapktb.answers_asked at h
  cases hc : PyFlat.calls PyVapktb.shape l.length l with
  | none =>
    rw [hc] at h
    cases h
  | some cs =>
    rw [hc] at h
    simp only [Bool.and_eq_true] at h
    refine ⟨cs, rfl, h.1.1.2, ?_, of_decide_eq_true h.2⟩
    unfold PyVapktb.answers PyVapktb.calls
    rw [hc]
    rfl
def spTop (K : PySem.W.Frag) : Sp := fun vs H Q _ => ∃ (a : Addr) (l : List Int), vs = [.ref a] ∧ SqL K H a (l.map V.int) ∧ PyVapktb.answers_asked l = true ∧
  ∀ (H' : Hp) (p : Addr), H' p = some (.lst ((PyVapktb.answers l).map V.int)) → Q (.ref p) H'
def Turn1 (C CD : Addr) (H : Hp) (l : List Int) (a d R : Addr) (i : Nat) (σ : L2.St) (H' : Hp) : Prop := ∃ (st : Vapktb.State) (D : List Addr) (cs : List (List (List Int))) (f : Nat) (acc : List Int) (y4 y5 y6 y7 y8 y9 : Option V),
  σ = [some (.ref a), some (.ref d), some (.ref R), some (.int (i : Nat)), y4, y5, y6, y7, y8, y9] ∧ Same H H' ∧ DeskAt C CD (upd H' R (hidO R (acc.map V.int))) d D st ∧ (∀ x ∈ D, H x = none) ∧ R ∉ D ∧ H R = none ∧ H' R = some (.lst (acc.map V.int)) ∧
  PyFlat.calls PyVapktb.shape f (l.drop i) = some cs ∧ PyInside.calls PyVapktb.bound cs = true ∧ acc ++ restOf st cs = PyVapktb.answers l
theorem DeskAt.in' {C CD : Addr} {H : Hp} {d : Addr} {D : List Addr} {st : Vapktb.State} (h : DeskAt C CD H d D st) : ∀ x ∈ D, ∃ o, H x = some o := by
  obtain ⟨dx, a, p, q, t0, t1, rfl, h1, h2, n1, n2, n3, h3, h4, h5, r⟩ := h.ex
  obtain ⟨qs4, k4, _⟩ := h4.ex
  obtain ⟨qs5, k5, _⟩ := h5.ex
  intro x hx
  simp at hx
  rcases hx with rfl | rfl | rfl | rfl
  · exact ⟨_, h1⟩
  · exact ⟨_, h2⟩
  · exact ⟨_, k4⟩
  · exact ⟨_, k5⟩
section
variable {P : Program} {w : World} {K : PySem.W.Frag} {mg : Str → Option Value} {base : Heap} {C CD : Addr}
theorem ok_ans {fA : Addr} {fd : FuncData} (Fn : Fun K "answers" "answers" sAns fA fd) (ml : mg "len" = none) {na wr : Addr} (nt : NumT K mg na) (gr : mg "WITH_ROW" = some (.ref wr)) (tr : ∀ H, SqT K H wr (([1, 2, 10] : List Int).map V.int))
    (ck : Mak P w K mg base 1 "Desk" CD (spDInit C CD)) (ca : Cal P w K mg base 12 "answer_to" (spAt C CD)) : FnOk P w K mg base CX0 13 fA fd ["calls"] (spTop K) := by
  refine Fn.ok scAns (fun vs H Q E h => ?_) (fun cdv A outer s H vs Q E hr h => ?_)
  · obtain ⟨a, l, rfl, _⟩ := h
    rfl
  obtain ⟨a, l, rfl, hs, hask, q⟩ := h
  refine ⟨_, pss_cons (ps_set (i := 1) scAns.nd rfl (.inl rfl) (pe_mk0 ck hr))
    (pss_cons (ps_set (i := 2) scAns.nd rfl (.inl rfl) (pe_lst pa_nil))
    (pss_cons (ps_set (i := 3) scAns.nd rfl (.inl rfl) pe_int)
    (pss_cons (ps_while PassesOwn.never (pt_cmpR op_lt (pv 3) (pe_len ml (pv 0)) (nomark _))
      (pss_cons (ps_set (i := 4) scAns.nd rfl (.inl rfl) (pe_ix ix_list (pv 0) (pv 3) (fun _ _ => rfl)))
      (pss_cons (ps_set (i := 5) scAns.nd rfl (.inl rfl) (pe_op op_add (pe_op op_add (pv 3) pe_int) (pe_ix ix_kdi (pe_glob (v := .ref na) (by rfl) nt.tab rfl) (pv 4) (fun _ _ => rfl))))
      (pss_cons (ps_set (i := 6) scAns.nd rfl (.inl rfl) (pe_slice sl_list (pv 0) (po_some (pe_op op_add (pv 3) pe_int)) (po_some (pv 5))))
      (pss_cons (ps_set (i := 7) scAns.nd rfl (.inl rfl) (pe_lst pa_nil))
      (pss_mid (ps_if (pt_cmpR op_in_seq (pv 4) (pe_glob (v := .ref wr) (by rfl) gr rfl) rfl)
        (pss_cons (ps_set (i := 8) scAns.nd rfl (.inl rfl) (pe_op op_add (pv 5) pe_int))
        (pss_cons (ps_set (i := 5) scAns.nd rfl (.inl rfl) (pe_op op_add (pv 8) (pe_ix ix_list (pv 0) (pv 5) (fun _ _ => rfl))))
        (pss_one (ps_set (i := 7) scAns.nd rfl (.inl rfl) (pe_slice sl_list (pv 0) (po_some (pv 8)) (po_some (pv 5))))))) pss_nil)
      (pss_cons (ps_set (i := 9) scAns.nd rfl (.inl rfl) (pe_hide (pe_c ca hr (pa_cons (pv 1) (pa_cons (pv 4) (pa_cons (pv 6) (pa_cons (pv 7) pa_nil)))))))
      (pss_cons (ps_expr (pe_bm PySem.F.plainAttrs_list PySem.F.slot_list_append PySem.F.type_list_append mt_append (pv 2) (pa_cons (pe_len ml (pv 9)) pa_nil)))
      (pss_cons (ps_expr (pe_bm PySem.F.plainAttrs_list PySem.F.slot_list_extend PySem.F.type_list_extend mt_extend (pv 2) (pa_cons (pv 9) pa_nil)))
      (pss_one (ps_set (i := 3) scAns.nd rfl (.inl rfl) (pv 5))))))))))))
    (pss_one (ps_ret (pv 2)))))), ?_⟩
  obtain ⟨cs0, hcs0, hin0, eans, hlen⟩ := asked_calls hask
  obtain ⟨kvs, hkd, hnum⟩ := nt.ex
  intro d dx nd ndx ndd
  refine ⟨d, dx, rfl, upd_same, fun H1 D1 hD1 kp hn => ⟨rfl, ?_⟩⟩
  have s1 : Same H H1 := fun b o hb => kp b o (by rw [upd_ne (ne_of_none hb nd), upd_ne (ne_of_none hb ndx)]; exact hb) (ne_of_none hb nd)
  have hnew1 : ∀ x ∈ D1, H x = none := fun x hx => (hn x hx).elim (fun z => by rw [z]; exact nd) fun z => free_upd (free_upd z)
  refine ⟨Nat.zero_le _, fun R nR => ?_⟩
  have nRD : R ∉ D1 := fun hx => by
    obtain ⟨o, ho⟩ := hD1.in' R hx
    rw [nR] at ho
    cases ho
  refine ⟨fun m σ H' => ∃ i, m = l.length - i ∧ i ≤ l.length ∧ Turn1 C CD H l a d R i σ H', ⟨_, 0, rfl, Nat.zero_le _, Vapktb.start, D1, cs0, _, [], none, none, none, none, none, none, rfl, s1.trans (same_upd nR), by rw [upd_upd]; exact hD1.same (same_upd nR), hnew1, nRD, s1.free nR, upd_same, hcs0, hin0, eans.symm⟩, ?_⟩
  rintro m σ H2 ⟨i, rfl, hi, st, D, cs, fu, acc, y4, y5, y6, y7, y8, y9, rfl, s2, hD, hnew, hRD, nRH, hR, hcs, hin, heq⟩
  refine ⟨_, rfl, _, rfl, a, _, rfl, .inl (s2.seq hs), _, _, rfl, rfl, _, rfl, ?_⟩
  rw [List.length_map]
  refine ite2 (fun lt => ?_) (fun lt => ?_)
  case refine_2 =>
    have h0 : ¬ ((i : Int) < (l.length : Int)) := fun z => lt (decide_eq_true z)
    have ei : i = l.length := by omega
    subst ei
    rw [List.drop_length] at hcs
    have ecs : cs = [] := by
      cases fu <;> (cases hcs; rfl)
    subst ecs
    have e0 : restOf st [] = [] := rfl
    rw [e0, List.append_nil] at heq
    exact ⟨_, rfl, q H2 R (by rw [← heq]; exact hR)⟩
  have hlt : i < l.length := by
    have := of_decide_eq_true lt
    omega
  obtain ⟨p, r, hdr⟩ : ∃ p r, l.drop i = p :: r := by
    cases h : l.drop i with
    | nil =>
      have := congrArg List.length h
      rw [List.length_drop] at this
      simp at this
      omega
    | cons p r => exact ⟨p, r, rfl⟩
  rw [hdr] at hcs
  obtain ⟨n, k, c, cs', f', hsh, rfl, hn, hin', hk⟩ := step_calls hcs hin
  obtain ⟨g0, g1⟩ := drop_at hdr
  have hv := hnum p n k hsh
  have hlr : r.length = l.length - (i + 1) := by rw [← g1, List.length_drop]
  refine ⟨fun σ' H' => ∃ i', i < i' ∧ i' ≤ l.length ∧ Turn1 C CD H l a d R i' σ' H', fun σ' H' ⟨i', h1, h2, h3⟩ => ⟨l.length - i', by omega, i', rfl, h2, h3⟩, ?_⟩
  refine ⟨_, rfl, _, rfl, a, _, _, _, rfl, rfl, s2.seq hs, atI_nat (get_int g0), _, rfl, _, _, rfl, rfl, _, rfl, na, _, kvs, _, rfl, rfl, hkd, hv, _, _, rfl, rfl, ?_⟩
  refine ⟨_, rfl, _, rfl, _, _, rfl, rfl, _, rfl, _, rfl, _, rfl, a, _, rfl, s2.seq hs, fun z nz => ?_⟩
  have ez : cutV (l.map V.int) (some ((i : Int) + 1)) (some ((i : Int) + 1 + (n : Int))) = (r.take n).map V.int := by
    have := slice_ints l (i + 1) n
    rw [g1] at this
    exact this
  rw [ez]
  have s3 : Same H2 (upd H2 z (.lst ((r.take n).map V.int))) := same_upd nz
  have hz : (upd H2 z (.lst ((r.take n).map V.int))) z = some (.lst ((r.take n).map V.int)) := upd_same
  generalize upd H2 z (.lst ((r.take n).map V.int)) = H3 at s3 hz
  refine ⟨Nat.zero_le _, fun c0 nc0 => ?_⟩
  have s4 : Same H3 (upd H3 c0 (.lst [])) := same_upd nc0
  have hc0 : (upd H3 c0 (.lst [])) c0 = some (.lst []) := upd_same
  generalize upd H3 c0 (.lst []) = H4 at s4 hc0
  have s24 := (s2.trans s3).trans s4
  have gn : l.drop (i + 1 + n) = r.drop n := by rw [← List.drop_drop, g1]
  refine ⟨fun σ' H' => ∃ (e : Nat) (c1 : Addr) (row : List Int) (call : Vapktb.Call) (f2 : Nat) (y8 y9 : Option V), σ' = [some (.ref a), some (.ref d), some (.ref R), some (.int (i : Nat)), some (.int p), some (.int (e : Nat)), some (.ref z), some (.ref c1), y8, y9] ∧ Same H4 H' ∧ c1 ≠ R ∧ H' c1 = some (.lst (row.map V.int)) ∧ row.length ≤ 60 ∧
    CallIs p (r.take n) row call ∧ (∀ s, VapktbNeutral.step s (PyVapktb.whole c) = Vapktb.step s call) ∧ i < e ∧ e ≤ l.length ∧ PyFlat.calls PyVapktb.shape f2 (l.drop e) = some cs', ?_, ?_⟩
  · refine ⟨_, rfl, wr, _, rfl, .inr (tr _), rfl, flat_ints _, _, rfl, ?_⟩
    rw [show (if false = true then !inV (V.int p) (([1, 2, 10] : List Int).map V.int) else inV (V.int p) (([1, 2, 10] : List Int).map V.int)) = inV (V.int p) (([1, 2, 10] : List Int).map V.int) from rfl, inV_ints]
    rcases hk with ⟨rfl, hp, call, h1, h2, h3⟩ | ⟨rfl, hp, m, r2, call, h0, h1, h2, h3, h4, h5⟩
    · rw [decide_eq_false hp]
      exact iteF ⟨i + 1 + n, c0, [], call, f', _, _, rfl, Same.refl _, (ne_of_none (s3 _ _ hR) nc0).symm, hc0, Nat.zero_le _, h1 [], h2, by omega, by omega, by rw [gn]; exact h3⟩
    · rw [decide_eq_true hp]
      rw [h0] at gn
      obtain ⟨g2, g3⟩ := drop_at gn
      have hl2 : r2.length = l.length - (i + 1 + n + 1) := by rw [← g3, List.length_drop]
      have hl3 : i + 1 + n < l.length := (List.getElem?_eq_some_iff.mp g2).1
      refine iteT ⟨_, rfl, _, _, rfl, rfl, _, rfl, _, rfl, _, rfl, a, _, _, _, rfl, rfl, s24.seq hs, atI_nat (j := i + 1 + n) (get_int g2), _, _, rfl, rfl, _, rfl, _, rfl, _, rfl, _, rfl, _, rfl, a, _, rfl, s24.seq hs, fun c2 nc2 => ?_⟩
      have ec : cutV (l.map V.int) (some ((i : Int) + 1 + (n : Int) + 1)) (some ((i : Int) + 1 + (n : Int) + 1 + (m : Int))) = (r2.take m).map V.int := by
        have := slice_ints l (i + 1 + n + 1) m
        rw [g3] at this
        exact this
      rw [ec]
      refine ⟨i + 1 + n + 1 + m, c2, r2.take m, call, f', _, _, rfl, same_upd nc2, (ne_of_none (s4 _ _ (s3 _ _ hR)) nc2).symm, upd_same, ?_, h3, h4, by omega, by omega, ?_⟩
      · rw [List.length_take]
        omega
      · rw [← List.drop_drop, g3]
        exact h5
  · rintro σ' H5 ⟨e, c1, row, call, f2, y8', y9', rfl, s5, ncR, hc1, hrow, hcall, hst, h6, h7, h8⟩
    have s25 : Same H2 H5 := (s3.trans s4).trans s5
    have hz5 := s5 _ _ (s4 _ _ hz)
    have hR5 := s25 _ _ hR
    have nzR : z ≠ R := (ne_of_none hR nz).symm
    have hD5 : DeskAt C CD (upd H5 R (hidO R (acc.map V.int))) d D st := hD.same fun b o hb => by
      by_cases e : b = R
      · subst e
        rw [upd_same] at hb ⊢
        exact hb
      · rw [upd_ne e] at hb ⊢
        exact s25 _ _ hb
    refine ⟨R, _, hR5, _, rfl, _, rfl, _, rfl, _, rfl, d, z, c1, D, st, p, r.take n, row, call, rfl, hD5, (upd_ne nzR).trans hz5, (upd_ne ncR).trans hc1, hrow, hcall, fun H6 t D' nt6 hD6 out hn6 ht => ?_⟩
    have hR6 : H6 R = some (hidO R (acc.map V.int)) := out R _ hRD upd_same
    have ntR : t ≠ R := ne_of ht hR6 (by intro z; cases z)
    have hRD' : R ∉ D' := fun hx => by
      rcases hn6 R hx with z | z
      · exact hRD z
      · rw [upd_same] at z
        cases z
    have hnew' : ∀ x ∈ D', H x = none := fun x hx => by
      rcases hn6 x hx with z | z
      · exact hnew x z
      · exact (s2.trans s25).free (free_upd z)
    have s6 : ∀ b o, H b = some o → H6 b = some o := fun b o hb => by
      have nb : b ≠ R := ne_of_none hb nRH
      refine out b o (fun hx => ?_) ?_
      · rw [hnew b hx] at hb
        cases hb
      · rw [upd_ne nb]
        exact s25 _ _ (s2 _ _ hb)
    rw [restOf_cons st c cs' hst] at heq
    generalize hans : (Vapktb.step st call).2 = ans at heq ht
    generalize (Vapktb.step st call).1 = st' at heq hD6
    have hsz := congrArg List.length heq
    rw [List.length_append, List.cons_append, List.length_cons, List.length_append] at hsz
    refine ⟨hR6, _, rfl, .inl ⟨rfl, _, .of upd_same⟩, _, rfl, t, _, rfl, .inl (.of ((upd_ne ntR).trans ht)), R, _, _, rfl, rfl, upd_same, ?_, ?_⟩
    · rw [List.length_map, sizeLine_eq]
      omega
    rw [upd_upd, List.length_map]
    refine ⟨_, rfl, .inl ⟨rfl, _, .of upd_same⟩, _, rfl, R, t, _, _, rfl, rfl, upd_same, (upd_ne ntR).trans ht, ?_, ?_⟩
    · rw [List.length_append, List.length_map, List.length_map, sizeLine_eq]
      show acc.length + 1 + ans.length ≤ _
      omega
    rw [upd_upd]
    have eacc : (acc.map V.int ++ [V.int (ans.length : Nat)]) ++ ans.map V.int = (acc ++ (ans.length : Int) :: ans).map V.int := by
      rw [List.map_append, List.append_assoc]
      rfl
    rw [eacc]
    refine ⟨_, rfl, e, h6, h7, st', D', cs', f2, acc ++ (ans.length : Int) :: ans, _, _, _, _, _, _, rfl, fun b o hb => ?_, ?_, hnew', hRD', nRH, upd_same, h8, hin', ?_⟩
    · rw [upd_ne (ne_of_none hb nRH)]
      exact s6 _ _ hb
    · rw [upd_upd]
      exact hD6.but hR6 ((SameBut.refl R H6).upd)
    · rw [← heq, List.append_assoc]
end
end RT
set_option Elab.async false
set_option linter.all false
set_option maxRecDepth 100000
set_option maxHeartbeats 4000000
/-! What the top has written, and what follows for answers. -/
namespace RT
open PySem PySem.Spec PyProof.Rows L2
/-- a def of the top as it stands in the heap -/
def DefF (K : PySem.W.Frag) (x : Str) (st : Stmt) : Prop := ∃ (f : Addr) (oc : Value) (od an : Option Addr) (sl : Array (Option Value)) (kV dc pm cd ct : Value), PySem.W.nsIn K mainGlobals x = some (some (.ref f)) ∧
  K.lookup f = some ⟨oc, od, .func (PySem.W.fnOf x x (defArgs st) (defBody st) (defScope st) .none kV dc pm an cd ct), sl⟩ ∧ PySem.W.codeIn K cd x = true ∧ PySem.W.keepIn K (.ref f) = true
theorem deff_mk {K : PySem.W.Frag} {x : Str} {st : Stmt} {f : Addr} {oc : Value} {od an : Option Addr} {sl : Array (Option Value)} {kV dc pm cd ct : Value} (a : PySem.W.nsIn K mainGlobals x = some (some (.ref f)))
    (l : K.lookup f = some ⟨oc, od, .func (PySem.W.fnOf x x (defArgs st) (defBody st) (defScope st) .none kV dc pm an cd ct), sl⟩) (c : PySem.W.codeIn K cd x = true) (k : PySem.W.keepIn K (.ref f) = true) : DefF K x st :=
  ⟨f, oc, od, an, sl, kV, dc, pm, cd, ct, a, l, c, k⟩
def BindAll (x qual : Str) (st : Stmt) (ps : List Str) : Prop := ∀ (kV doc pm : Value) (an : Option Addr) (cdv ct : Value) (us : List Value), us.length = ps.length → bindArgs (PySem.W.fnOf x qual (defArgs st) (defBody st) (defScope st) .none kV doc pm an cdv ct) ⟨us, []⟩ = pure (ps.zip us)
theorem DefF.def {K : PySem.W.Frag} {h : Heap} {mg : Str → Option Value} {x : Str} {st : Stmt} {ps : List Str} (F : DefF K x st) (X : K.In h) (G : h.Ns mainGlobals mg) (b : BindAll x x st ps) : Def K mg x st ps := by
  obtain ⟨f, oc, od, an, sl, kV, dc, pm, cd, ct, a, l, c, k⟩ := F
  have F1 := fun_mk l c k
  exact ⟨f, _, F1, PySem.W.mg_of X G a, F1.binds b⟩
/-- a method -/
def MetF (K : PySem.W.Frag) (C : Addr) (m qual : Str) (st : Stmt) : Prop := ∃ (f : Addr) (oc : Value) (od an : Option Addr) (sl : Array (Option Value)) (kV dc pm cd ct : Value), PySem.W.findIn K (.ref C) m = some (some (.ref f)) ∧ PySem.W.isFn K (.ref f) = true ∧
  K.lookup f = some ⟨oc, od, .func (PySem.W.fnOf m qual (defArgs st) (defBody st) (defScope st) .none kV dc pm an cd ct), sl⟩ ∧ PySem.W.codeIn K cd qual = true ∧ PySem.W.keepIn K (.ref f) = true
theorem metf_mk {K : PySem.W.Frag} {C : Addr} {m qual : Str} {st : Stmt} {f : Addr} {oc : Value} {od an : Option Addr} {sl : Array (Option Value)} {kV dc pm cd ct : Value} (a : PySem.W.findIn K (.ref C) m = some (some (.ref f))) (i : PySem.W.isFn K (.ref f) = true)
    (l : K.lookup f = some ⟨oc, od, .func (PySem.W.fnOf m qual (defArgs st) (defBody st) (defScope st) .none kV dc pm an cd ct), sl⟩) (c : PySem.W.codeIn K cd qual = true) (k : PySem.W.keepIn K (.ref f) = true) : MetF K C m qual st :=
  ⟨f, oc, od, an, sl, kV, dc, pm, cd, ct, a, i, l, c, k⟩
theorem MetF.mdef {K : PySem.W.Frag} {C : Addr} {m qual : Str} {st : Stmt} {ps : List Str} (F : MetF K C m qual st) (b : BindAll m qual st ps) : MDef K C m qual st ps := by
  obtain ⟨f, oc, od, an, sl, kV, dc, pm, cd, ct, a, i, l, c, k⟩ := F
  have F1 := fun_mk l c k
  exact ⟨f, _, ⟨a, i, k⟩, F1, F1.binds b⟩
/-- a class -/
structure ClsF (K : PySem.W.Frag) (C : Addr) (x : Str) : Prop where
  aC : PySem.W.nsIn K mainGlobals x = some (some (.ref C))
  pg : PySem.W.plainGet K C Str.empty = true
  hd : PySem.W.hasDictIn K C = true
  po : PySem.W.plainOver K C = true
  sa : PySem.W.findIn K (.ref C) "__setattr__" = some (some (.builtin "object.__setattr__"))
  mks : PySem.W.makesIn K C = true
  kc : PySem.W.keepIn K (.ref C) = true
theorem ClsF.idef {K : PySem.W.Frag} {h : Heap} {mg : Str → Option Value} {C : Addr} {x qual : Str} {st : Stmt} {ps : List Str} (c0 : ClsF K C x) (F : MetF K C "__init__" qual st) (X : K.In h) (G : h.Ns mainGlobals mg) (b : BindAll "__init__" qual st ps) : IDef K mg x C qual st ps := by
  obtain ⟨f, oc, od, an, sl, kV, dc, pm, cd, ct, a, i, l, c, k⟩ := F
  have F1 := fun_mk l c k
  exact ⟨f, _, ⟨c0.mks, a, i, c0.kc⟩, F1, PySem.W.mg_of X G c0.aC, F1.binds b⟩
def RuleF (K : PySem.W.Frag) : Prop := ∃ C : Addr, ClsF K C "Rule" ∧ PySem.W.findIn K (.ref C) "told" = some none ∧ PySem.W.findIn K (.ref C) "ones" = some none ∧ PySem.W.findIn K (.ref C) "action" = some none ∧
  MetF K C "__init__" "Rule.__init__" sInit ∧ MetF K C "matches" "Rule.matches" sMat ∧ MetF K C "highest_unlike" "Rule.highest_unlike" sHi ∧ MetF K C "outcome" "Rule.outcome" sOutc ∧ MetF K C "as_numbers" "Rule.as_numbers" sAsn
theorem rulef_mk {K : PySem.W.Frag} {C : Addr} (aC : PySem.W.nsIn K mainGlobals "Rule" = some (some (.ref C))) (pg : PySem.W.plainGet K C Str.empty = true) (hd : PySem.W.hasDictIn K C = true) (po : PySem.W.plainOver K C = true)
    (sa : PySem.W.findIn K (.ref C) "__setattr__" = some (some (.builtin "object.__setattr__"))) (mk : PySem.W.makesIn K C = true) (kc : PySem.W.keepIn K (.ref C) = true)
    (n1 : PySem.W.findIn K (.ref C) "told" = some none) (n2 : PySem.W.findIn K (.ref C) "ones" = some none) (n3 : PySem.W.findIn K (.ref C) "action" = some none)
    (m0 : MetF K C "__init__" "Rule.__init__" sInit) (m1 : MetF K C "matches" "Rule.matches" sMat) (m2 : MetF K C "highest_unlike" "Rule.highest_unlike" sHi) (m3 : MetF K C "outcome" "Rule.outcome" sOutc) (m4 : MetF K C "as_numbers" "Rule.as_numbers" sAsn) : RuleF K :=
  ⟨C, ⟨aC, pg, hd, po, sa, mk, kc⟩, n1, n2, n3, m0, m1, m2, m3, m4⟩
def DeskF (K : PySem.W.Frag) : Prop := ∃ C : Addr, ClsF K C "Desk" ∧ PySem.W.findIn K (.ref C) "width" = some none ∧ PySem.W.findIn K (.ref C) "tables" = some none ∧ MetF K C "__init__" "Desk.__init__" sDInit
theorem deskf_mk {K : PySem.W.Frag} {C : Addr} (aC : PySem.W.nsIn K mainGlobals "Desk" = some (some (.ref C))) (pg : PySem.W.plainGet K C Str.empty = true) (hd : PySem.W.hasDictIn K C = true) (po : PySem.W.plainOver K C = true)
    (sa : PySem.W.findIn K (.ref C) "__setattr__" = some (some (.builtin "object.__setattr__"))) (mk : PySem.W.makesIn K C = true) (kc : PySem.W.keepIn K (.ref C) = true)
    (n1 : PySem.W.findIn K (.ref C) "width" = some none) (n2 : PySem.W.findIn K (.ref C) "tables" = some none) (m0 : MetF K C "__init__" "Desk.__init__" sDInit) : DeskF K :=
  ⟨C, ⟨aC, pg, hd, po, sa, mk, kc⟩, n1, n2, m0⟩
/-- a number of the top; a built-in name that stands -/
def IntF (K : PySem.W.Frag) (x : Str) (i : Int) : Prop := ∃ t, PySem.W.nsIn K mainGlobals x = some (some (.int i t))
def BltF (K : PySem.W.Frag) (x : Str) : Prop := PySem.W.nsIn K mainGlobals x = some none
theorem IntF.mg {K : PySem.W.Frag} {h : Heap} {mg : Str → Option Value} {x : Str} {i : Int} (F : IntF K x i) (X : K.In h) (G : h.Ns mainGlobals mg) : ∃ t, mg x = some (.int i t) := let ⟨t, a⟩ := F; ⟨t, PySem.W.mg_of X G a⟩
theorem intf_mk {K : PySem.W.Frag} {x : Str} {i : Int} {t : Tok} (a : PySem.W.nsIn K mainGlobals x = some (some (.int i t))) : IntF K x i := ⟨t, a⟩
theorem BltF.mg {K : PySem.W.Frag} {h : Heap} {mg : Str → Option Value} {x : Str} (F : BltF K x) (X : K.In h) (G : h.Ns mainGlobals mg) : mg x = none := PySem.W.mg_none_of X G F
/-- a tuple of three numbers -/
def TupF (K : PySem.W.Frag) (x : Str) (i j k : Int) : Prop := ∃ (a : Addr) (dd : Option Addr) (n : Nat) (sl : Array (Option Value)) (t1 t2 t3 : Tok), PySem.W.nsIn K mainGlobals x = some (some (.ref a)) ∧ K.lookup a = some ⟨.type "tuple", dd, .seq #[.int i t1, .int j t2, .int k t3] n, sl⟩
theorem tupf_mk {K : PySem.W.Frag} {x : Str} {i j k : Int} {a : Addr} {dd : Option Addr} {n : Nat} {sl : Array (Option Value)} {t1 t2 t3 : Tok} (h : PySem.W.nsIn K mainGlobals x = some (some (.ref a))) (l : K.lookup a = some ⟨.type "tuple", dd, .seq #[.int i t1, .int j t2, .int k t3] n, sl⟩) : TupF K x i j k :=
  ⟨a, dd, n, sl, t1, t2, t3, h, l⟩
theorem TupF.mg {K : PySem.W.Frag} {h : Heap} {mg : Str → Option Value} {x : Str} {i j k : Int} (F : TupF K x i j k) (X : K.In h) (G : h.Ns mainGlobals mg) : ∃ a, mg x = some (.ref a) ∧ ∀ H, SqT K H a (([i, j, k] : List Int).map V.int) := by
  obtain ⟨a, dd, n, sl, t1, t2, t3, h1, l⟩ := F
  exact ⟨a, PySem.W.mg_of X G h1, fun H => .inr ⟨_, _, n, l, rfl, rfl, by show 3 ≤ sizeLine; decide, .cons ⟨t1, rfl⟩ (.cons ⟨t2, rfl⟩ (.cons ⟨t3, rfl⟩ .nil))⟩⟩
/-- the written dict of the calls' numbers -/
def NumF (K : PySem.W.Frag) : Prop := ∃ (a : Addr) (es : Array DictEntry) (n : Nat), PySem.W.nsIn K mainGlobals "NUMBERS" = some (some (.ref a)) ∧ K.lookup a = some ⟨.type "dict", none, .dict es n, #[]⟩ ∧ es.toList.map entV = ([(0, .int 1), (1, .int 1), (2, .int 2), (3, .int 2), (4, .int 1), (5, .int 2), (6, .int 2), (7, .int 1), (8, .int 2), (9, .int 2), (10, .int 2), (11, .int 1), (12, .int 1), (13, .int 2), (14, .int 1), (15, .int 1), (16, .int 2), (17, .int 1), (18, .int 0), (19, .int 0)] : List (Int × V)).map some
theorem numf_mk {K : PySem.W.Frag} {a : Addr} {es : Array DictEntry} {n : Nat} (h : PySem.W.nsIn K mainGlobals "NUMBERS" = some (some (.ref a))) (l : K.lookup a = some ⟨.type "dict", none, .dict es n, #[]⟩) (e : es.toList.map entV = ([(0, .int 1), (1, .int 1), (2, .int 2), (3, .int 2), (4, .int 1), (5, .int 2), (6, .int 2), (7, .int 1), (8, .int 2), (9, .int 2), (10, .int 2), (11, .int 1), (12, .int 1), (13, .int 2), (14, .int 1), (15, .int 1), (16, .int 2), (17, .int 1), (18, .int 0), (19, .int 0)] : List (Int × V)).map some) : NumF K := ⟨a, es, n, h, l, e⟩
theorem NumF.mg {K : PySem.W.Frag} {h : Heap} {mg : Str → Option Value} (F : NumF K) (X : K.In h) (G : h.Ns mainGlobals mg) : ∃ a, NumT K mg a := by
  obtain ⟨a, es, n, h1, l, e⟩ := F
  refine ⟨a, PySem.W.mg_of X G h1, _, ⟨es, n, l, e⟩, fun p n k hs => ?_⟩
  rcases shape_or hs with ⟨rfl, e⟩ | ⟨rfl, e⟩ | ⟨rfl, e⟩ | ⟨rfl, e⟩ | ⟨rfl, e⟩ | ⟨rfl, e⟩ | ⟨rfl, e⟩ | ⟨rfl, e⟩ | ⟨rfl, e⟩ | ⟨rfl, e⟩ | ⟨rfl, e⟩ | ⟨rfl, e⟩ | ⟨rfl, e⟩ | ⟨rfl, e⟩ | ⟨rfl, e⟩ | ⟨rfl, e⟩ | ⟨rfl, e⟩ | ⟨rfl, e⟩ | ⟨rfl, e⟩ | ⟨rfl, e⟩ <;> cases e <;> rfl

/-- the written dict of the calls -/
def DispF (K : PySem.W.Frag) : Prop := ∃ (a : Addr) (es : Array DictEntry) (n : Nat) (f0 f1 f2 f3 f4 f5 f6 f7 f8 f9 f10 f11 f12 f13 f14 f15 f16 f17 f18 f19 : Addr), PySem.W.nsIn K mainGlobals "CALLS" = some (some (.ref a)) ∧ K.lookup a = some ⟨.type "dict", none, .dict es n, #[]⟩ ∧ PySem.W.nsIn K mainGlobals "wide" = some (some (.ref f0)) ∧ PySem.W.nsIn K mainGlobals "table" = some (some (.ref f1)) ∧ PySem.W.nsIn K mainGlobals "put" = some (some (.ref f2)) ∧ PySem.W.nsIn K mainGlobals "take" = some (some (.ref f3)) ∧ PySem.W.nsIn K mainGlobals "shown" = some (some (.ref f4)) ∧ PySem.W.nsIn K mainGlobals "does" = some (some (.ref f5)) ∧ PySem.W.nsIn K mainGlobals "own" = some (some (.ref f6)) ∧ PySem.W.nsIn K mainGlobals "hole" = some (some (.ref f7)) ∧ PySem.W.nsIn K mainGlobals "to" = some (some (.ref f8)) ∧ PySem.W.nsIn K mainGlobals "out" = some (some (.ref f9)) ∧ PySem.W.nsIn K mainGlobals "from_which" = some (some (.ref f10)) ∧ PySem.W.nsIn K mainGlobals "idle" = some (some (.ref f11)) ∧ PySem.W.nsIn K mainGlobals "spare" = some (some (.ref f12)) ∧ PySem.W.nsIn K mainGlobals "turn" = some (some (.ref f13)) ∧ PySem.W.nsIn K mainGlobals "small" = some (some (.ref f14)) ∧ PySem.W.nsIn K mainGlobals "apart" = some (some (.ref f15)) ∧ PySem.W.nsIn K mainGlobals "why" = some (some (.ref f16)) ∧ PySem.W.nsIn K mainGlobals "counts" = some (some (.ref f17)) ∧ PySem.W.nsIn K mainGlobals "other" = some (some (.ref f18)) ∧ PySem.W.nsIn K mainGlobals "classes" = some (some (.ref f19)) ∧
  es.toList.map entV = ([(0, .ref f0), (1, .ref f1), (2, .ref f2), (3, .ref f3), (4, .ref f4), (5, .ref f5), (6, .ref f6), (7, .ref f7), (8, .ref f8), (9, .ref f9), (10, .ref f10), (11, .ref f11), (12, .ref f12), (13, .ref f13), (14, .ref f14), (15, .ref f15), (16, .ref f16), (17, .ref f17), (18, .ref f18), (19, .ref f19)] : List (Int × V)).map some
theorem dispf_mk {K : PySem.W.Frag} {a : Addr} {es : Array DictEntry} {n : Nat} {f0 f1 f2 f3 f4 f5 f6 f7 f8 f9 f10 f11 f12 f13 f14 f15 f16 f17 f18 f19 : Addr} (h : PySem.W.nsIn K mainGlobals "CALLS" = some (some (.ref a))) (l : K.lookup a = some ⟨.type "dict", none, .dict es n, #[]⟩) (a0 : PySem.W.nsIn K mainGlobals "wide" = some (some (.ref f0))) (a1 : PySem.W.nsIn K mainGlobals "table" = some (some (.ref f1))) (a2 : PySem.W.nsIn K mainGlobals "put" = some (some (.ref f2))) (a3 : PySem.W.nsIn K mainGlobals "take" = some (some (.ref f3))) (a4 : PySem.W.nsIn K mainGlobals "shown" = some (some (.ref f4))) (a5 : PySem.W.nsIn K mainGlobals "does" = some (some (.ref f5))) (a6 : PySem.W.nsIn K mainGlobals "own" = some (some (.ref f6))) (a7 : PySem.W.nsIn K mainGlobals "hole" = some (some (.ref f7))) (a8 : PySem.W.nsIn K mainGlobals "to" = some (some (.ref f8))) (a9 : PySem.W.nsIn K mainGlobals "out" = some (some (.ref f9))) (a10 : PySem.W.nsIn K mainGlobals "from_which" = some (some (.ref f10))) (a11 : PySem.W.nsIn K mainGlobals "idle" = some (some (.ref f11))) (a12 : PySem.W.nsIn K mainGlobals "spare" = some (some (.ref f12))) (a13 : PySem.W.nsIn K mainGlobals "turn" = some (some (.ref f13))) (a14 : PySem.W.nsIn K mainGlobals "small" = some (some (.ref f14))) (a15 : PySem.W.nsIn K mainGlobals "apart" = some (some (.ref f15))) (a16 : PySem.W.nsIn K mainGlobals "why" = some (some (.ref f16))) (a17 : PySem.W.nsIn K mainGlobals "counts" = some (some (.ref f17))) (a18 : PySem.W.nsIn K mainGlobals "other" = some (some (.ref f18))) (a19 : PySem.W.nsIn K mainGlobals "classes" = some (some (.ref f19)))
    (e : es.toList.map entV = ([(0, .ref f0), (1, .ref f1), (2, .ref f2), (3, .ref f3), (4, .ref f4), (5, .ref f5), (6, .ref f6), (7, .ref f7), (8, .ref f8), (9, .ref f9), (10, .ref f10), (11, .ref f11), (12, .ref f12), (13, .ref f13), (14, .ref f14), (15, .ref f15), (16, .ref f16), (17, .ref f17), (18, .ref f18), (19, .ref f19)] : List (Int × V)).map some) : DispF K := ⟨a, es, n, f0, f1, f2, f3, f4, f5, f6, f7, f8, f9, f10, f11, f12, f13, f14, f15, f16, f17, f18, f19, h, l, a0, a1, a2, a3, a4, a5, a6, a7, a8, a9, a10, a11, a12, a13, a14, a15, a16, a17, a18, a19, e⟩
theorem DispF.mg {K : PySem.W.Frag} {h : Heap} {mg : Str → Option Value} (F : DispF K) (X : K.In h) (G : h.Ns mainGlobals mg) : ∃ a, Disp K mg a := by
  obtain ⟨a, es, n, f0, f1, f2, f3, f4, f5, f6, f7, f8, f9, f10, f11, f12, f13, f14, f15, f16, f17, f18, f19, h1, l, a0, a1, a2, a3, a4, a5, a6, a7, a8, a9, a10, a11, a12, a13, a14, a15, a16, a17, a18, a19, e⟩ := F
  refine ⟨a, PySem.W.mg_of X G h1, _, ⟨es, n, l, e⟩, fun i x hx => ?_⟩
  match i, hx with

  | 0, hx =>
    cases hx
    exact ⟨f0, PySem.W.mg_of X G a0, rfl⟩
  | 1, hx =>
    cases hx
    exact ⟨f1, PySem.W.mg_of X G a1, rfl⟩
  | 2, hx =>
    cases hx
    exact ⟨f2, PySem.W.mg_of X G a2, rfl⟩
  | 3, hx =>
    cases hx
    exact ⟨f3, PySem.W.mg_of X G a3, rfl⟩
  | 4, hx =>
    cases hx
    exact ⟨f4, PySem.W.mg_of X G a4, rfl⟩
  | 5, hx =>
    cases hx
    exact ⟨f5, PySem.W.mg_of X G a5, rfl⟩
  | 6, hx =>
    cases hx
    exact ⟨f6, PySem.W.mg_of X G a6, rfl⟩
  | 7, hx =>
    cases hx
    exact ⟨f7, PySem.W.mg_of X G a7, rfl⟩
  | 8, hx =>
    cases hx
    exact ⟨f8, PySem.W.mg_of X G a8, rfl⟩
  | 9, hx =>
    cases hx
    exact ⟨f9, PySem.W.mg_of X G a9, rfl⟩
  | 10, hx =>
    cases hx
    exact ⟨f10, PySem.W.mg_of X G a10, rfl⟩
  | 11, hx =>
    cases hx
    exact ⟨f11, PySem.W.mg_of X G a11, rfl⟩
  | 12, hx =>
    cases hx
    exact ⟨f12, PySem.W.mg_of X G a12, rfl⟩
  | 13, hx =>
    cases hx
    exact ⟨f13, PySem.W.mg_of X G a13, rfl⟩
  | 14, hx =>
    cases hx
    exact ⟨f14, PySem.W.mg_of X G a14, rfl⟩
  | 15, hx =>
    cases hx
    exact ⟨f15, PySem.W.mg_of X G a15, rfl⟩
  | 16, hx =>
    cases hx
    exact ⟨f16, PySem.W.mg_of X G a16, rfl⟩
  | 17, hx =>
    cases hx
    exact ⟨f17, PySem.W.mg_of X G a17, rfl⟩
  | 18, hx =>
    cases hx
    exact ⟨f18, PySem.W.mg_of X G a18, rfl⟩
  | 19, hx =>
    cases hx
    exact ⟨f19, PySem.W.mg_of X G a19, rfl⟩
  | k + 20, hx =>
    have := (List.getElem?_eq_some_iff.mp hx).1
    exact absurd this (by show ¬ (k + 20 < 20); omega)
theorem all_mk {P : Program} {w : World} {K : PySem.W.Frag} {h : Heap} {mg : Str → Option Value} {fa : Addr} (X : K.In h) (G : h.Ns mainGlobals mg) (hfa : mg "answers" = some (.ref fa))
    (e_patterns_of : DefF K "patterns_of" sPats)
    (e_set_as_numbers : DefF K "set_as_numbers" sSet)
    (e_matches_pattern : DefF K "matches_pattern" sMp)
    (e_is_port : DefF K "is_port" sPort)
    (e_within_bits : DefF K "within_bits" sWithin)
    (e_has_rule : DefF K "has_rule" sHas)
    (e_pattern_stands : DefF K "pattern_stands" sPst)
    (e_read_patterns : DefF K "read_patterns" sRps)
    (e_rule_size : DefF K "rule_size" sRsz)
    (e_read_rules : DefF K "read_rules" sRds)
    (e_read_rule : DefF K "read_rule" sRd1)
    (e_rules_as_numbers : DefF K "rules_as_numbers" sRan)
    (e_counting_rule : DefF K "counting_rule" sCr)
    (e_counting_rules : DefF K "counting_rules" sCrs)
    (e_own_headers : DefF K "own_headers" sOwh)
    (e_outcome_at : DefF K "outcome_at" sOat)
    (e_outcomes_at : DefF K "outcomes_at" sOas)
    (e_do_the_same : DefF K "do_the_same" sSam)
    (e_without_rule : DefF K "without_rule" sWo)
    (e_turned : DefF K "turned" sTur)
    (e_made_one : DefF K "made_one" sMo)
    (e_idle_rules : DefF K "idle_rules" sIdl)
    (e_spare_rules : DefF K "spare_rules" sSpr)
    (e_can_change_places : DefF K "can_change_places" sCcp)
    (e_differ_in_one_bit : DefF K "differ_in_one_bit" sDif)
    (e_can_be_made_one : DefF K "can_be_made_one" sCbm)
    (e_smaller_step : DefF K "smaller_step" sSms)
    (e_behind_step : DefF K "behind_step" sBhs)
    (e_rules_apart : DefF K "rules_apart" sRap)
    (e_behind_count : DefF K "behind_count" sBc)
    (e_wide : DefF K "wide" sWide)
    (e_table : DefF K "table" sTable)
    (e_put : DefF K "put" sPut)
    (e_take : DefF K "take" sTake)
    (e_shown : DefF K "shown" sShown)
    (e_does : DefF K "does" sDoes)
    (e_own : DefF K "own" sOwn)
    (e_hole : DefF K "hole" sHole)
    (e_to : DefF K "to" sTo)
    (e_out : DefF K "out" sOut)
    (e_from_which : DefF K "from_which" sFrom)
    (e_idle : DefF K "idle" sIdle)
    (e_spare : DefF K "spare" sSpare)
    (e_turn : DefF K "turn" sTurn)
    (e_small : DefF K "small" sSmall)
    (e_apart : DefF K "apart" sApart)
    (e_why : DefF K "why" sWhy)
    (e_counts : DefF K "counts" sCounts)
    (e_other : DefF K "other" sOther)
    (e_classes : DefF K "classes" sClasses)
    (e_outcome_pairs : DefF K "outcome_pairs" sOp)
    (e_answer_to : DefF K "answer_to" sAt)
    (e_answers : DefF K "answers" sAns)
    (e_rule : RuleF K) (e_desk : DeskF K) (e_num : NumF K) (e_disp : DispF K)
    (e_wr : TupF K "WITH_ROW" 1 2 10) (e_wt : TupF K "WITHOUT_TABLE" 0 18 19)
    (e_cMOST_RULES : IntF K "MOST_RULES" 8)
    (e_cMOST_PATTERNS : IntF K "MOST_PATTERNS" 8)
    (e_cPORTS : IntF K "PORTS" 6)
    (e_cHOLE : IntF K "HOLE" 0)
    (e_cDROPPED : IntF K "DROPPED" 1)
    (e_cSENT : IntF K "SENT" 2)
    (e_cTAKEN_OUT : IntF K "TAKEN_OUT" 0)
    (e_cMADE_ONE : IntF K "MADE_ONE" 1)
    (e_bany : BltF K "any")
    (e_blen : BltF K "len")
    (e_brange : BltF K "range")
    (e_benumerate : BltF K "enumerate")
    (e_bint : BltF K "int")
    (e_blist : BltF K "list")
    (e_bzip : BltF K "zip")
    (e_bsorted : BltF K "sorted")
    (e_bmin : BltF K "min")
    : ∃ fd : FuncData, (∀ (s : Shared) (us : List Value), us.length = (["calls"] : List Str).length → BindsTo s fd ⟨us, []⟩ ((["calls"] : List Str).zip us)) ∧ ∀ base : Heap, K.In base → base.Ns mainGlobals mg → FnOk P w K mg base CX0 13 fa fd ["calls"] (spTop K) := by
  obtain ⟨fA, oc, od, an, sl, kV, dc, pm, cd, ct, aA, lA, cA, kA⟩ := e_answers
  have e0 := hfa.symm.trans (PySem.W.mg_of X G aA)
  cases e0
  refine ⟨PySem.W.fnOf "answers" "answers" (defArgs sAns) (defBody sAns) (defScope sAns) .none kV dc pm an cd ct, fun s us hu => match us, hu with | [_], _ => .of_eq rfl, fun base _ _ => ?_⟩
  have FA := fun_mk (st := sAns) lA cA kA
  have d_patterns_of := e_patterns_of.def X G (ps := ["flags"]) fun _ _ _ _ _ _ us hl => match us, hl with | [_], _ => rfl
  have d_set_as_numbers := e_set_as_numbers.def X G (ps := ["flags"]) fun _ _ _ _ _ _ us hl => match us, hl with | [_], _ => rfl
  have d_matches_pattern := e_matches_pattern.def X G (ps := ["header", "told", "ones"]) fun _ _ _ _ _ _ us hl => match us, hl with | [_, _, _], _ => rfl
  have d_is_port := e_is_port.def X G (ps := ["number"]) fun _ _ _ _ _ _ us hl => match us, hl with | [_], _ => rfl
  have d_within_bits := e_within_bits.def X G (ps := ["number", "width"]) fun _ _ _ _ _ _ us hl => match us, hl with | [_, _], _ => rfl
  have d_has_rule := e_has_rule.def X G (ps := ["rules", "number"]) fun _ _ _ _ _ _ us hl => match us, hl with | [_, _], _ => rfl
  have d_pattern_stands := e_pattern_stands.def X G (ps := ["numbers", "start", "width"]) fun _ _ _ _ _ _ us hl => match us, hl with | [_, _, _], _ => rfl
  have d_read_patterns := e_read_patterns.def X G (ps := ["numbers", "width"]) fun _ _ _ _ _ _ us hl => match us, hl with | [_, _], _ => rfl
  have d_rule_size := e_rule_size.def X G (ps := ["numbers", "start", "width"]) fun _ _ _ _ _ _ us hl => match us, hl with | [_, _, _], _ => rfl
  have d_read_rules := e_read_rules.def X G (ps := ["numbers", "width"]) fun _ _ _ _ _ _ us hl => match us, hl with | [_, _], _ => rfl
  have d_read_rule := e_read_rule.def X G (ps := ["numbers", "width"]) fun _ _ _ _ _ _ us hl => match us, hl with | [_, _], _ => rfl
  have d_rules_as_numbers := e_rules_as_numbers.def X G (ps := ["rules"]) fun _ _ _ _ _ _ us hl => match us, hl with | [_], _ => rfl
  have d_counting_rule := e_counting_rule.def X G (ps := ["rules", "header"]) fun _ _ _ _ _ _ us hl => match us, hl with | [_, _], _ => rfl
  have d_counting_rules := e_counting_rules.def X G (ps := ["rules", "width"]) fun _ _ _ _ _ _ us hl => match us, hl with | [_, _], _ => rfl
  have d_own_headers := e_own_headers.def X G (ps := ["rules", "number", "width"]) fun _ _ _ _ _ _ us hl => match us, hl with | [_, _, _], _ => rfl
  have d_outcome_at := e_outcome_at.def X G (ps := ["rules", "header"]) fun _ _ _ _ _ _ us hl => match us, hl with | [_, _], _ => rfl
  have d_outcomes_at := e_outcomes_at.def X G (ps := ["rules", "width"]) fun _ _ _ _ _ _ us hl => match us, hl with | [_, _], _ => rfl
  have d_do_the_same := e_do_the_same.def X G (ps := ["first", "second", "width"]) fun _ _ _ _ _ _ us hl => match us, hl with | [_, _, _], _ => rfl
  have d_without_rule := e_without_rule.def X G (ps := ["rules", "number"]) fun _ _ _ _ _ _ us hl => match us, hl with | [_, _], _ => rfl
  have d_turned := e_turned.def X G (ps := ["rules", "number"]) fun _ _ _ _ _ _ us hl => match us, hl with | [_, _], _ => rfl
  have d_made_one := e_made_one.def X G (ps := ["rules", "i", "j"]) fun _ _ _ _ _ _ us hl => match us, hl with | [_, _, _], _ => rfl
  have d_idle_rules := e_idle_rules.def X G (ps := ["rules", "width"]) fun _ _ _ _ _ _ us hl => match us, hl with | [_, _], _ => rfl
  have d_spare_rules := e_spare_rules.def X G (ps := ["rules", "width"]) fun _ _ _ _ _ _ us hl => match us, hl with | [_, _], _ => rfl
  have d_can_change_places := e_can_change_places.def X G (ps := ["rules", "number", "width"]) fun _ _ _ _ _ _ us hl => match us, hl with | [_, _, _], _ => rfl
  have d_differ_in_one_bit := e_differ_in_one_bit.def X G (ps := ["first", "second"]) fun _ _ _ _ _ _ us hl => match us, hl with | [_, _], _ => rfl
  have d_can_be_made_one := e_can_be_made_one.def X G (ps := ["rules", "i", "j", "width"]) fun _ _ _ _ _ _ us hl => match us, hl with | [_, _, _, _], _ => rfl
  have d_smaller_step := e_smaller_step.def X G (ps := ["rules", "width"]) fun _ _ _ _ _ _ us hl => match us, hl with | [_, _], _ => rfl
  have d_behind_step := e_behind_step.def X G (ps := ["rules", "step"]) fun _ _ _ _ _ _ us hl => match us, hl with | [_, _], _ => rfl
  have d_rules_apart := e_rules_apart.def X G (ps := ["rules", "width"]) fun _ _ _ _ _ _ us hl => match us, hl with | [_, _], _ => rfl
  have d_behind_count := e_behind_count.def X G (ps := ["found"]) fun _ _ _ _ _ _ us hl => match us, hl with | [_], _ => rfl
  have d_wide := e_wide.def X G (ps := ["desk", "numbers", "row"]) fun _ _ _ _ _ _ us hl => match us, hl with | [_, _, _], _ => rfl
  have d_table := e_table.def X G (ps := ["desk", "numbers", "row"]) fun _ _ _ _ _ _ us hl => match us, hl with | [_, _, _], _ => rfl
  have d_put := e_put.def X G (ps := ["desk", "numbers", "row"]) fun _ _ _ _ _ _ us hl => match us, hl with | [_, _, _], _ => rfl
  have d_take := e_take.def X G (ps := ["desk", "numbers", "row"]) fun _ _ _ _ _ _ us hl => match us, hl with | [_, _, _], _ => rfl
  have d_shown := e_shown.def X G (ps := ["desk", "numbers", "row"]) fun _ _ _ _ _ _ us hl => match us, hl with | [_, _, _], _ => rfl
  have d_does := e_does.def X G (ps := ["desk", "numbers", "row"]) fun _ _ _ _ _ _ us hl => match us, hl with | [_, _, _], _ => rfl
  have d_own := e_own.def X G (ps := ["desk", "numbers", "row"]) fun _ _ _ _ _ _ us hl => match us, hl with | [_, _, _], _ => rfl
  have d_hole := e_hole.def X G (ps := ["desk", "numbers", "row"]) fun _ _ _ _ _ _ us hl => match us, hl with | [_, _, _], _ => rfl
  have d_to := e_to.def X G (ps := ["desk", "numbers", "row"]) fun _ _ _ _ _ _ us hl => match us, hl with | [_, _, _], _ => rfl
  have d_out := e_out.def X G (ps := ["desk", "numbers", "row"]) fun _ _ _ _ _ _ us hl => match us, hl with | [_, _, _], _ => rfl
  have d_from_which := e_from_which.def X G (ps := ["desk", "numbers", "row"]) fun _ _ _ _ _ _ us hl => match us, hl with | [_, _, _], _ => rfl
  have d_idle := e_idle.def X G (ps := ["desk", "numbers", "row"]) fun _ _ _ _ _ _ us hl => match us, hl with | [_, _, _], _ => rfl
  have d_spare := e_spare.def X G (ps := ["desk", "numbers", "row"]) fun _ _ _ _ _ _ us hl => match us, hl with | [_, _, _], _ => rfl
  have d_turn := e_turn.def X G (ps := ["desk", "numbers", "row"]) fun _ _ _ _ _ _ us hl => match us, hl with | [_, _, _], _ => rfl
  have d_small := e_small.def X G (ps := ["desk", "numbers", "row"]) fun _ _ _ _ _ _ us hl => match us, hl with | [_, _, _], _ => rfl
  have d_apart := e_apart.def X G (ps := ["desk", "numbers", "row"]) fun _ _ _ _ _ _ us hl => match us, hl with | [_, _, _], _ => rfl
  have d_why := e_why.def X G (ps := ["desk", "numbers", "row"]) fun _ _ _ _ _ _ us hl => match us, hl with | [_, _, _], _ => rfl
  have d_counts := e_counts.def X G (ps := ["desk", "numbers", "row"]) fun _ _ _ _ _ _ us hl => match us, hl with | [_, _, _], _ => rfl
  have d_other := e_other.def X G (ps := ["desk", "numbers", "row"]) fun _ _ _ _ _ _ us hl => match us, hl with | [_, _, _], _ => rfl
  have d_classes := e_classes.def X G (ps := ["desk", "numbers", "row"]) fun _ _ _ _ _ _ us hl => match us, hl with | [_, _, _], _ => rfl
  have d_outcome_pairs := e_outcome_pairs.def X G (ps := ["desk"]) fun _ _ _ _ _ _ us hl => match us, hl with | [_], _ => rfl
  have d_answer_to := e_answer_to.def X G (ps := ["desk", "call", "numbers", "row"]) fun _ _ _ _ _ _ us hl => match us, hl with | [_, _, _, _], _ => rfl
  obtain ⟨C, cR, n1, n2, n3', m0, m1, m2, m3, m4⟩ := e_rule
  obtain ⟨CD, cD, w1, w2, i0⟩ := e_desk
  obtain ⟨tMOST_RULES, gMOST_RULES⟩ := e_cMOST_RULES.mg X G
  obtain ⟨tMOST_PATTERNS, gMOST_PATTERNS⟩ := e_cMOST_PATTERNS.mg X G
  obtain ⟨tPORTS, gPORTS⟩ := e_cPORTS.mg X G
  obtain ⟨tHOLE, gHOLE⟩ := e_cHOLE.mg X G
  obtain ⟨tDROPPED, gDROPPED⟩ := e_cDROPPED.mg X G
  obtain ⟨tSENT, gSENT⟩ := e_cSENT.mg X G
  obtain ⟨tTAKEN_OUT, gTAKEN_OUT⟩ := e_cTAKEN_OUT.mg X G
  obtain ⟨tMADE_ONE, gMADE_ONE⟩ := e_cMADE_ONE.mg X G
  have bany := e_bany.mg X G
  have blen := e_blen.mg X G
  have brange := e_brange.mg X G
  have benumerate := e_benumerate.mg X G
  have bint := e_bint.mg X G
  have blist := e_blist.mg X G
  have bzip := e_bzip.mg X G
  have bsorted := e_bsorted.mg X G
  have bmin := e_bmin.mg X G
  obtain ⟨na, nt⟩ := e_num.mg X G
  obtain ⟨ca, dt⟩ := e_disp.mg X G
  obtain ⟨wr, gwr, twr⟩ := e_wr.mg X G
  obtain ⟨wt, gwt, twt⟩ := e_wt.mg X G
  have TR : RuleTxt K mg C := ⟨⟨cR.pg, cR.hd, cR.po, cR.sa⟩, n1, n2, n3', PySem.W.mg_of X G cR.aC⟩
  have TD : DeskTxt K CD := ⟨⟨cD.pg, cD.hd, cD.po, cD.sa⟩, w1, w2⟩
  have kR : Mak P w K mg base 1 "Rule" C (spRInit K C) := mak_rule (cR.idef m0 X G fun _ _ _ _ _ _ us hl => match us, hl with | [_, _], _ => rfl) TR
  have kD : Mak P w K mg base 1 "Desk" CD (spDInit C CD) := mak_desk (cD.idef i0 X G fun _ _ _ _ _ _ us hl => match us, hl with | [_], _ => rfl) TD
  have c_mp : Cal P w K mg base 1 "matches_pattern" spMp := cal_mp d_matches_pattern
  have M_mat : Met P w K mg base 2 C "matches" (spMat C) := met_mat (m1.mdef fun _ _ _ _ _ _ us hl => match us, hl with | [_, _], _ => rfl) TR c_mp
  have M_hi : Met P w K mg base 1 C "highest_unlike" (spHi C) := met_hi (m2.mdef fun _ _ _ _ _ _ us hl => match us, hl with | [_, _], _ => rfl) TR
  have M_outc : Met P w K mg base 1 C "outcome" (spOutc C) := met_outc (m3.mdef fun _ _ _ _ _ _ us hl => match us, hl with | [_, _], _ => rfl) TR gDROPPED gSENT
  have M_asn : Met P w K mg base 1 C "as_numbers" (spAsn C) := met_asn (m4.mdef fun _ _ _ _ _ _ us hl => match us, hl with | [_], _ => rfl) TR
  have c_pats : Cal P w K mg base 9 "patterns_of" (spPatsA K) := cal_pats d_patterns_of bany blen
  have c_set : Cal P w K mg base 10 "set_as_numbers" (spSet K) := cal_set d_set_as_numbers c_pats blen
  have c_port : Cal P w K mg base 1 "is_port" spPort := cal_port d_is_port gPORTS
  have c_within : Cal P w K mg base 1 "within_bits" spWithin := cal_within d_within_bits
  have c_has : Cal P w K mg base 1 "has_rule" (spHas K) := cal_has d_has_rule blen
  have c_pst : Cal P w K mg base 2 "pattern_stands" (spPst K) := cal_pst d_pattern_stands blen c_within
  have c_rps : Cal P w K mg base 3 "read_patterns" (spRps K) := cal_rps d_read_patterns blen brange c_pst gMOST_PATTERNS
  have c_rsz : Cal P w K mg base 3 "rule_size" (spRsz K) := cal_rsz d_rule_size blen c_pst c_port
  have c_rds : Cal P w K mg base 4 "read_rules" (spRds K C) := cal_rds d_read_rules blen c_rsz kR gMOST_RULES
  have c_rd1 : Cal P w K mg base 5 "read_rule" (spRd1 C) := cal_rd1 d_read_rule c_rds
  have c_ran : Cal P w K mg base 2 "rules_as_numbers" (spRan C) := cal_ran d_rules_as_numbers blen TR M_asn
  have c_cr : Cal P w K mg base 3 "counting_rule" (spCr C) := cal_cr d_counting_rule benumerate TR M_mat
  have c_crs : Cal P w K mg base 4 "counting_rules" (spCrs C) := cal_crs d_counting_rules brange c_cr
  have c_owh : Cal P w K mg base 5 "own_headers" (spOwh C) := cal_owh d_own_headers c_crs
  have c_oat : Cal P w K mg base 4 "outcome_at" (spOat C) := cal_oat d_outcome_at c_cr TR M_outc gHOLE
  have c_oas : Cal P w K mg base 5 "outcomes_at" (spOas C) := cal_oas d_outcomes_at brange c_oat
  have c_sam : Cal P w K mg base 6 "do_the_same" (spSam C) := cal_sam d_do_the_same c_oas
  have c_wo : Cal P w K mg base 1 "without_rule" (spWo C) := cal_wo d_without_rule
  have c_tur : Cal P w K mg base 1 "turned" (spTur C) := cal_tur d_turned
  have c_mo : Cal P w K mg base 3 "made_one" (spMo C) := cal_mo d_made_one TR kR
  have c_idl : Cal P w K mg base 5 "idle_rules" (spIdl C) := cal_idl d_idle_rules blen brange c_crs
  have c_spr : Cal P w K mg base 7 "spare_rules" (spSpr C) := cal_spr d_spare_rules blen brange c_sam c_wo
  have c_ccp : Cal P w K mg base 7 "can_change_places" (spCcp C) := cal_ccp d_can_change_places c_sam c_tur fun wd i t h => WfAll.turned h i
  have c_dif : Cal P w K mg base 1 "differ_in_one_bit" (spDif C) := cal_dif d_differ_in_one_bit TR
  have c_cbm : Cal P w K mg base 7 "can_be_made_one" (spCbm C) := cal_cbm d_can_be_made_one c_dif c_sam c_mo
  have c_sms : Cal P w K mg base 8 "smaller_step" (spSms C) := cal_sms d_smaller_step blen brange gTAKEN_OUT gMADE_ONE c_spr c_cbm
  have c_bhs : Cal P w K mg base 4 "behind_step" (spBhs K C) := cal_bhs d_behind_step gTAKEN_OUT c_wo c_mo
  have c_rap : Cal P w K mg base 10 "rules_apart" (spRap C) := cal_rap d_rules_apart benumerate TR kR c_pats c_owh
  have c_bc : Cal P w K mg base 1 "behind_count" spBc := cal_bc d_behind_count blen
  have c_op : Cal P w K mg base 6 "outcome_pairs" (spOp C CD) := cal_op d_outcome_pairs TD blist bzip c_oas
  have cs : Cmds P w K mg base C CD := cmds_mk
    ((cal_wide d_wide TD).mono (by decide)) ((cal_table d_table TD blen c_rds).mono (by decide)) ((cal_put d_put TD blen c_rd1 gMOST_RULES).mono (by decide)) ((cal_take d_take TD blen c_has).mono (by decide))
    ((cal_shown d_shown TD c_ran).mono (by decide)) ((cal_does d_does TD TR c_within c_cr M_outc gDROPPED gSENT).mono (by decide)) (cal_own d_own TD c_has c_owh c_set) (cal_hole d_hole TD c_oas c_set gHOLE)
    (cal_to d_to TD c_port c_oas c_set gSENT) (cal_out d_out TD c_port c_oas c_set gSENT) (cal_from d_from_which TD bany c_port c_rps c_mp c_oas c_set gSENT) ((cal_idle d_idle TD c_bc c_idl).mono (by decide))
    ((cal_spare d_spare TD c_bc c_spr).mono (by decide)) ((cal_turn d_turn TD bint c_has c_ccp).mono (by decide)) ((cal_small d_small TD c_sms c_bhs).mono (by decide)) (cal_apart d_apart TD c_ran c_rap)
    ((cal_why d_why TD TR c_within c_bc M_mat M_hi).mono (by decide)) ((cal_counts d_counts TD blen brange c_bc c_crs).mono (by decide)) (cal_other d_other c_op c_set) ((cal_classes d_classes benumerate blen bsorted bmin c_op).mono (by decide))
  have c_at : Cal P w K mg base 12 "answer_to" (spAt C CD) := cal_at d_answer_to dt gwt twt cs
  exact ok_ans FA blen nt gwr twr kD c_at
end RT
set_option Elab.async false
set_option linter.all false
set_option maxRecDepth 100000
set_option maxHeartbeats 0
open PySem PySem.W PyProof.Rows
theorem PySem.Challenge.cw_ruletablesdesk_s01_answers_holds : PySem.Challenge.rw_ruletablesdesk_s01_answers.Holds := by
  w_on; k_headS; (case hw => exact ⟨[.list [.int 4, .int 0]], by decide +kernel, by decide +kernel⟩)
  k_fillS
  refine L2.walk_specK (r := PySem.Challenge.rw_ruletablesdesk_s01_answers) (k := 13) (CX := L2.CX0) (ps := ["calls"]) (sp := RT.spTop) (by decide +kernel) rfl rfl ⟨rfl, by decide, by decide⟩ (fun w h Y => PySem.W.kIn_of Y) ?F ?S (fun _ _ _ _ z => z)
  case F =>
    intro w mg fa h Y KX G hmg
    refine' RT.all_mk KX G hmg ?e_patterns_of ?e_set_as_numbers ?e_matches_pattern ?e_is_port ?e_within_bits ?e_has_rule ?e_pattern_stands ?e_read_patterns ?e_rule_size ?e_read_rules ?e_read_rule ?e_rules_as_numbers ?e_counting_rule ?e_counting_rules ?e_own_headers ?e_outcome_at ?e_outcomes_at ?e_do_the_same ?e_without_rule ?e_turned ?e_made_one ?e_idle_rules ?e_spare_rules ?e_can_change_places ?e_differ_in_one_bit ?e_can_be_made_one ?e_smaller_step ?e_behind_step ?e_rules_apart ?e_behind_count ?e_wide ?e_table ?e_put ?e_take ?e_shown ?e_does ?e_own ?e_hole ?e_to ?e_out ?e_from_which ?e_idle ?e_spare ?e_turn ?e_small ?e_apart ?e_why ?e_counts ?e_other ?e_classes ?e_outcome_pairs ?e_answer_to ?e_answers ?e_rule ?e_desk ?e_num ?e_disp ?e_wr ?e_wt ?e_cMOST_RULES ?e_cMOST_PATTERNS ?e_cPORTS ?e_cHOLE ?e_cDROPPED ?e_cSENT ?e_cTAKEN_OUT ?e_cMADE_ONE ?e_bany ?e_blen ?e_brange ?e_benumerate ?e_bint ?e_blist ?e_bzip ?e_bsorted ?e_bmin
    (case e_patterns_of => refine' RT.deff_mk ?a ?l ?c ?k; (case a => k_is); (case l => k_is); (case c => k_is); (case k => k_is))
    (case e_set_as_numbers => refine' RT.deff_mk ?a ?l ?c ?k; (case a => k_is); (case l => k_is); (case c => k_is); (case k => k_is))
    (case e_matches_pattern => refine' RT.deff_mk ?a ?l ?c ?k; (case a => k_is); (case l => k_is); (case c => k_is); (case k => k_is))
    (case e_is_port => refine' RT.deff_mk ?a ?l ?c ?k; (case a => k_is); (case l => k_is); (case c => k_is); (case k => k_is))
    (case e_within_bits => refine' RT.deff_mk ?a ?l ?c ?k; (case a => k_is); (case l => k_is); (case c => k_is); (case k => k_is))
    (case e_has_rule => refine' RT.deff_mk ?a ?l ?c ?k; (case a => k_is); (case l => k_is); (case c => k_is); (case k => k_is))
    (case e_pattern_stands => refine' RT.deff_mk ?a ?l ?c ?k; (case a => k_is); (case l => k_is); (case c => k_is); (case k => k_is))
    (case e_read_patterns => refine' RT.deff_mk ?a ?l ?c ?k; (case a => k_is); (case l => k_is); (case c => k_is); (case k => k_is))
    (case e_rule_size => refine' RT.deff_mk ?a ?l ?c ?k; (case a => k_is); (case l => k_is); (case c => k_is); (case k => k_is))
    (case e_read_rules => refine' RT.deff_mk ?a ?l ?c ?k; (case a => k_is); (case l => k_is); (case c => k_is); (case k => k_is))
    (case e_read_rule => refine' RT.deff_mk ?a ?l ?c ?k; (case a => k_is); (case l => k_is); (case c => k_is); (case k => k_is))
    (case e_rules_as_numbers => refine' RT.deff_mk ?a ?l ?c ?k; (case a => k_is); (case l => k_is); (case c => k_is); (case k => k_is))
    (case e_counting_rule => refine' RT.deff_mk ?a ?l ?c ?k; (case a => k_is); (case l => k_is); (case c => k_is); (case k => k_is))
    (case e_counting_rules => refine' RT.deff_mk ?a ?l ?c ?k; (case a => k_is); (case l => k_is); (case c => k_is); (case k => k_is))
    (case e_own_headers => refine' RT.deff_mk ?a ?l ?c ?k; (case a => k_is); (case l => k_is); (case c => k_is); (case k => k_is))
    (case e_outcome_at => refine' RT.deff_mk ?a ?l ?c ?k; (case a => k_is); (case l => k_is); (case c => k_is); (case k => k_is))
    (case e_outcomes_at => refine' RT.deff_mk ?a ?l ?c ?k; (case a => k_is); (case l => k_is); (case c => k_is); (case k => k_is))
    (case e_do_the_same => refine' RT.deff_mk ?a ?l ?c ?k; (case a => k_is); (case l => k_is); (case c => k_is); (case k => k_is))
    (case e_without_rule => refine' RT.deff_mk ?a ?l ?c ?k; (case a => k_is); (case l => k_is); (case c => k_is); (case k => k_is))
    (case e_turned => refine' RT.deff_mk ?a ?l ?c ?k; (case a => k_is); (case l => k_is); (case c => k_is); (case k => k_is))
    (case e_made_one => refine' RT.deff_mk ?a ?l ?c ?k; (case a => k_is); (case l => k_is); (case c => k_is); (case k => k_is))
    (case e_idle_rules => refine' RT.deff_mk ?a ?l ?c ?k; (case a => k_is); (case l => k_is); (case c => k_is); (case k => k_is))
    (case e_spare_rules => refine' RT.deff_mk ?a ?l ?c ?k; (case a => k_is); (case l => k_is); (case c => k_is); (case k => k_is))
    (case e_can_change_places => refine' RT.deff_mk ?a ?l ?c ?k; (case a => k_is); (case l => k_is); (case c => k_is); (case k => k_is))
    (case e_differ_in_one_bit => refine' RT.deff_mk ?a ?l ?c ?k; (case a => k_is); (case l => k_is); (case c => k_is); (case k => k_is))
    (case e_can_be_made_one => refine' RT.deff_mk ?a ?l ?c ?k; (case a => k_is); (case l => k_is); (case c => k_is); (case k => k_is))
    (case e_smaller_step => refine' RT.deff_mk ?a ?l ?c ?k; (case a => k_is); (case l => k_is); (case c => k_is); (case k => k_is))
    (case e_behind_step => refine' RT.deff_mk ?a ?l ?c ?k; (case a => k_is); (case l => k_is); (case c => k_is); (case k => k_is))
    (case e_rules_apart => refine' RT.deff_mk ?a ?l ?c ?k; (case a => k_is); (case l => k_is); (case c => k_is); (case k => k_is))
    (case e_behind_count => refine' RT.deff_mk ?a ?l ?c ?k; (case a => k_is); (case l => k_is); (case c => k_is); (case k => k_is))
    (case e_wide => refine' RT.deff_mk ?a ?l ?c ?k; (case a => k_is); (case l => k_is); (case c => k_is); (case k => k_is))
    (case e_table => refine' RT.deff_mk ?a ?l ?c ?k; (case a => k_is); (case l => k_is); (case c => k_is); (case k => k_is))
    (case e_put => refine' RT.deff_mk ?a ?l ?c ?k; (case a => k_is); (case l => k_is); (case c => k_is); (case k => k_is))
    (case e_take => refine' RT.deff_mk ?a ?l ?c ?k; (case a => k_is); (case l => k_is); (case c => k_is); (case k => k_is))
    (case e_shown => refine' RT.deff_mk ?a ?l ?c ?k; (case a => k_is); (case l => k_is); (case c => k_is); (case k => k_is))
    (case e_does => refine' RT.deff_mk ?a ?l ?c ?k; (case a => k_is); (case l => k_is); (case c => k_is); (case k => k_is))
    (case e_own => refine' RT.deff_mk ?a ?l ?c ?k; (case a => k_is); (case l => k_is); (case c => k_is); (case k => k_is))
    (case e_hole => refine' RT.deff_mk ?a ?l ?c ?k; (case a => k_is); (case l => k_is); (case c => k_is); (case k => k_is))
    (case e_to => refine' RT.deff_mk ?a ?l ?c ?k; (case a => k_is); (case l => k_is); (case c => k_is); (case k => k_is))
    (case e_out => refine' RT.deff_mk ?a ?l ?c ?k; (case a => k_is); (case l => k_is); (case c => k_is); (case k => k_is))
    (case e_from_which => refine' RT.deff_mk ?a ?l ?c ?k; (case a => k_is); (case l => k_is); (case c => k_is); (case k => k_is))
    (case e_idle => refine' RT.deff_mk ?a ?l ?c ?k; (case a => k_is); (case l => k_is); (case c => k_is); (case k => k_is))
    (case e_spare => refine' RT.deff_mk ?a ?l ?c ?k; (case a => k_is); (case l => k_is); (case c => k_is); (case k => k_is))
    (case e_turn => refine' RT.deff_mk ?a ?l ?c ?k; (case a => k_is); (case l => k_is); (case c => k_is); (case k => k_is))
    (case e_small => refine' RT.deff_mk ?a ?l ?c ?k; (case a => k_is); (case l => k_is); (case c => k_is); (case k => k_is))
    (case e_apart => refine' RT.deff_mk ?a ?l ?c ?k; (case a => k_is); (case l => k_is); (case c => k_is); (case k => k_is))
    (case e_why => refine' RT.deff_mk ?a ?l ?c ?k; (case a => k_is); (case l => k_is); (case c => k_is); (case k => k_is))
    (case e_counts => refine' RT.deff_mk ?a ?l ?c ?k; (case a => k_is); (case l => k_is); (case c => k_is); (case k => k_is))
    (case e_other => refine' RT.deff_mk ?a ?l ?c ?k; (case a => k_is); (case l => k_is); (case c => k_is); (case k => k_is))
    (case e_classes => refine' RT.deff_mk ?a ?l ?c ?k; (case a => k_is); (case l => k_is); (case c => k_is); (case k => k_is))
    (case e_outcome_pairs => refine' RT.deff_mk ?a ?l ?c ?k; (case a => k_is); (case l => k_is); (case c => k_is); (case k => k_is))
    (case e_answer_to => refine' RT.deff_mk ?a ?l ?c ?k; (case a => k_is); (case l => k_is); (case c => k_is); (case k => k_is))
    (case e_answers => refine' RT.deff_mk ?a ?l ?c ?k; (case a => k_is); (case l => k_is); (case c => k_is); (case k => k_is))
    (case e_rule => refine' RT.rulef_mk ?aC ?pg ?hd ?po ?sa ?mk ?kc ?n1 ?n2 ?n3 ?m0 ?m1 ?m2 ?m3 ?m4; (case aC => k_is); (case pg => k_is); (case hd => k_is); (case po => k_is); (case sa => k_is); (case mk => k_is); (case kc => k_is); (case n1 => k_is); (case n2 => k_is); (case n3 => k_is); (case m0 => refine' RT.metf_mk ?a ?i ?l ?c ?k; (case a => k_is); (case i => k_is); (case l => k_is); (case c => k_is); (case k => k_is)); (case m1 => refine' RT.metf_mk ?a ?i ?l ?c ?k; (case a => k_is); (case i => k_is); (case l => k_is); (case c => k_is); (case k => k_is)); (case m2 => refine' RT.metf_mk ?a ?i ?l ?c ?k; (case a => k_is); (case i => k_is); (case l => k_is); (case c => k_is); (case k => k_is)); (case m3 => refine' RT.metf_mk ?a ?i ?l ?c ?k; (case a => k_is); (case i => k_is); (case l => k_is); (case c => k_is); (case k => k_is)); (case m4 => refine' RT.metf_mk ?a ?i ?l ?c ?k; (case a => k_is); (case i => k_is); (case l => k_is); (case c => k_is); (case k => k_is)))
    (case e_desk => refine' RT.deskf_mk ?aC ?pg ?hd ?po ?sa ?mk ?kc ?n1 ?n2 ?m0; (case aC => k_is); (case pg => k_is); (case hd => k_is); (case po => k_is); (case sa => k_is); (case mk => k_is); (case kc => k_is); (case n1 => k_is); (case n2 => k_is); (case m0 => refine' RT.metf_mk ?a ?i ?l ?c ?k; (case a => k_is); (case i => k_is); (case l => k_is); (case c => k_is); (case k => k_is)))
    (case e_num => refine' RT.numf_mk ?h ?l ?e; (case h => k_is); (case l => k_is); (case e => rfl))
    (case e_disp => refine' RT.dispf_mk ?h ?l ?a0 ?a1 ?a2 ?a3 ?a4 ?a5 ?a6 ?a7 ?a8 ?a9 ?a10 ?a11 ?a12 ?a13 ?a14 ?a15 ?a16 ?a17 ?a18 ?a19 ?e; (case h => k_is); (case l => k_is); (case a0 => k_is); (case a1 => k_is); (case a2 => k_is); (case a3 => k_is); (case a4 => k_is); (case a5 => k_is); (case a6 => k_is); (case a7 => k_is); (case a8 => k_is); (case a9 => k_is); (case a10 => k_is); (case a11 => k_is); (case a12 => k_is); (case a13 => k_is); (case a14 => k_is); (case a15 => k_is); (case a16 => k_is); (case a17 => k_is); (case a18 => k_is); (case a19 => k_is); (case e => rfl))
    (case e_wr => refine' RT.tupf_mk ?h ?l; (case h => k_is); (case l => k_is))
    (case e_wt => refine' RT.tupf_mk ?h ?l; (case h => k_is); (case l => k_is))
    (case e_cMOST_RULES => refine' RT.intf_mk ?a; (case a => k_is))
    (case e_cMOST_PATTERNS => refine' RT.intf_mk ?a; (case a => k_is))
    (case e_cPORTS => refine' RT.intf_mk ?a; (case a => k_is))
    (case e_cHOLE => refine' RT.intf_mk ?a; (case a => k_is))
    (case e_cDROPPED => refine' RT.intf_mk ?a; (case a => k_is))
    (case e_cSENT => refine' RT.intf_mk ?a; (case a => k_is))
    (case e_cTAKEN_OUT => refine' RT.intf_mk ?a; (case a => k_is))
    (case e_cMADE_ONE => refine' RT.intf_mk ?a; (case a => k_is))
    (case e_bany => (show PySem.W.nsIn _ mainGlobals "any" = some none); k_is)
    (case e_blen => (show PySem.W.nsIn _ mainGlobals "len" = some none); k_is)
    (case e_brange => (show PySem.W.nsIn _ mainGlobals "range" = some none); k_is)
    (case e_benumerate => (show PySem.W.nsIn _ mainGlobals "enumerate" = some none); k_is)
    (case e_bint => (show PySem.W.nsIn _ mainGlobals "int" = some none); k_is)
    (case e_blist => (show PySem.W.nsIn _ mainGlobals "list" = some none); k_is)
    (case e_bzip => (show PySem.W.nsIn _ mainGlobals "zip" = some none); k_is)
    (case e_bsorted => (show PySem.W.nsIn _ mainGlobals "sorted" = some none); k_is)
    (case e_bmin => (show PySem.W.nsIn _ mainGlobals "min" = some none); k_is)
  case S =>
    intro K H xs a hO hwi hask hx
    cases hx with
    | cons h1 h2 =>
      cases h2
      cases h1 with
      | lst hs ha =>
        have e := L2.ints_dw a.1 _ ha
        subst e
        exact ⟨_, a.1, rfl, hs, hask, fun H' p hp => .lst (L2.SqL.of hp) (L2.dw_ints _)⟩
