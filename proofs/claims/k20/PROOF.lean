import PyProof.Rows.All
import Wide.All
import OpenK.AllK
import Wide.FinOn
import HandS.Base
import HandS.Call
import HandS.List
import HandS.Comp
import HandS.Iter
import HandS.Ends
import HandS.Words
import HandS.Evl
import HandS.WordsList
import HandS.Zip
import HandS.Wide
import HandS.Gcd
import HandS.IsInst
import HandS.TupMul
import HandS.ClsMeth
import HandS.Text
import HandS.RaiseMore
import HandS.ListEq
import HandS.TupLe
import HandS.Flow
import HandS.Codes
import HandS.TupAny
import HandS.Style
import KE.GoesMore
import HandS.ExcInit
import KE.KExcIs
import HandS.Exc
import HandS.TryMany
import HandS.ExcField
import HandS.WordsExc
import KE.GoesEnum
import KE.KUnpack
import KE.KMathG
import HandS.Conv
import HandS.Deep
import KE.DataEq
import HandS.ForMost
import PySem.Challenge.RW_noughtcut_k20_whole_none_better
set_option Elab.async false
set_option linter.all false
section
/-! Walks from corner to corner end (Bland's rule): the mathematics alone. -/
namespace Nc
/-- a statement that holds at one place and not at another of a closed way changes both ways round on it -/
theorem way_down {P : Nat → Prop} {i j : Nat} (hP : P i ↔ P j) (h1 : ∃ k, i ≤ k ∧ k ≤ j ∧ P k) (h2 : ∃ k, i ≤ k ∧ k ≤ j ∧ ¬ P k) : ∃ k, i ≤ k ∧ k < j ∧ P k ∧ ¬ P (k + 1) := by
  apply Classical.byContradiction
  intro hn
  have step : ∀ k, i ≤ k → k < j → P k → P (k + 1) := fun k h1 h2 h3 => Classical.byContradiction fun h4 => hn ⟨k, h1, h2, h3, h4⟩
  have up : ∀ n k, i ≤ k → k + n ≤ j → P k → P (k + n) := by
    intro n
    induction n with
    | zero => exact fun k _ _ h => h
    | succ n ih => exact fun k a b c => step (k + n) (by omega) (by omega) (ih k a (by omega) c)
  obtain ⟨k, a, b, c⟩ := h1
  obtain ⟨k', a', b', c'⟩ := h2
  have hj : P j := by
    have := up (j - k) k a (by omega) c
    rwa [show k + (j - k) = j by omega] at this
  have hi := hP.mpr hj
  have := up (k' - i) i (Nat.le_refl _) (by omega) hi
  rw [show i + (k' - i) = k' by omega] at this
  exact c' this
theorem max_of {P : Nat → Prop} {n : Nat} (hb : ∀ v, P v → v < n) (h : ∃ v, P v) : ∃ t, P t ∧ ∀ v, P v → v ≤ t := by
  induction n with
  | zero =>
    obtain ⟨v, hv⟩ := h
    exact absurd (hb v hv) (by omega)
  | succ n ih =>
    by_cases hn : P n
    · exact ⟨n, hn, fun v hv => by have := hb v hv; omega⟩
    · refine ih fun v hv => ?_
      have := hb v hv
      have : v ≠ n := fun z => hn (z ▸ hv)
      omega
/-- what one turn of the walk from state k to the next one is -/
structure TurnsBl (n : Nat) (B : Nat → Fin 3 → Nat) (D : Nat → Int) (d : Nat → Nat → Int) (s y : Nat → Fin 3 → Int) (z : Nat → Rat) (e : Nat → Nat) (r : Nat → Fin 3) (i j : Nat) : Prop where
  dpos : ∀ k, i ≤ k → k ≤ j → 0 < D k
  inj : ∀ k p q, i ≤ k → k ≤ j → B k p = B k q → p = q
  lt : ∀ k p, i ≤ k → k ≤ j → B k p < n
  tight : ∀ k p, i ≤ k → k ≤ j → d k (B k p) = 0
  broken : ∀ k, i ≤ k → k < j → d k (e k) < 0
  first : ∀ k v, i ≤ k → k < j → v < e k → 0 ≤ d k v
  key : ∀ k k', i ≤ k → k < j → i ≤ k' → k' ≤ j → D k * d k' (e k) - (s k 0 * d k' (B k 0) + s k 1 * d k' (B k 1) + s k 2 * d k' (B k 2)) = D k' * d k (e k)
  rpos : ∀ k, i ≤ k → k < j → 0 < s k (r k)
  soon : ∀ k p, i ≤ k → k < j → 0 < s k p → y k (r k) * s k p = y k p * s k (r k) → B k (r k) ≤ B k p
  next : ∀ k p, i ≤ k → k < j → B (k + 1) p = if p = r k then e k else B k p
  ynew : ∀ k, i ≤ k → k < j → y (k + 1) (r k) = y k (r k)
  yold : ∀ k p, i ≤ k → k < j → p ≠ r k → D k * y (k + 1) p = y k p * s k (r k) - y k (r k) * s k p
  zdown : ∀ k, i ≤ k → k < j → z (k + 1) ≤ z k
  zsame : ∀ k, i ≤ k → k < j → z (k + 1) = z k → y k (r k) = 0
theorem no_cycle {n : Nat} {B : Nat → Fin 3 → Nat} {D : Nat → Int} {d : Nat → Nat → Int} {s y : Nat → Fin 3 → Int} {z : Nat → Rat} {e : Nat → Nat} {r : Nat → Fin 3} {i j : Nat}
    (T : TurnsBl n B D d s y z e r i j) (hij : i < j) (hz : z i = z j) (hB : B i = B j) : False := by
  -- the walk stays where it is
  have zdn : ∀ m k, i ≤ k → k + m ≤ j → z (k + m) ≤ z k := by
    intro m
    induction m with
    | zero => exact fun k _ _ => Rat.le_refl
    | succ m ih => exact fun k a b => Rat.le_trans (T.zdown (k + m) (by omega) (by omega)) (ih k a (by omega))
  have y0 : ∀ k, i ≤ k → k < j → y k (r k) = 0 := by
    intro k a b
    refine T.zsame k a b (Rat.le_antisymm (T.zdown k a b) ?_)
    have h1 := zdn (k - i) i (Nat.le_refl _) (by omega)
    rw [show i + (k - i) = k by omega] at h1
    have h2 := zdn (j - (k + 1)) (k + 1) (by omega) (by omega)
    rw [show k + 1 + (j - (k + 1)) = j by omega] at h2
    exact Rat.le_trans h1 (hz ▸ h2)
  -- loads that are nought stay so, and only they
  have zstep : ∀ k v, i ≤ k → k < j → ((∀ p, B k p = v → y k p = 0) ↔ (∀ p, B (k + 1) p = v → y (k + 1) p = 0)) := by
    intro k v a b
    have yr := y0 k a b
    constructor
    · intro h p hp
      by_cases hpr : p = r k
      · rw [hpr, T.ynew k a b, yr]
      · have hb := T.next k p a b
        rw [if_neg hpr] at hb
        have := T.yold k p a b hpr
        rw [h p (by rw [← hb]; exact hp), yr, Int.zero_mul, Int.zero_mul, Int.sub_zero] at this
        rcases Int.mul_eq_zero.mp this with h0 | h0
        · have := T.dpos k a (by omega)
          omega
        · exact h0
    · intro h p hp
      by_cases hpr : p = r k
      · rw [hpr, yr]
      · have hb := T.next k p a b
        rw [if_neg hpr] at hb
        have := T.yold k p a b hpr
        rw [h p (by rw [hb]; exact hp), yr, Int.mul_zero, Int.zero_mul, Int.sub_zero] at this
        rcases Int.mul_eq_zero.mp this.symm with h0 | h0
        · exact h0
        · have := T.rpos k a b
          omega
  have zall : ∀ m k v, i ≤ k → k + m ≤ j → ((∀ p, B k p = v → y k p = 0) ↔ (∀ p, B (k + m) p = v → y (k + m) p = 0)) := by
    intro m
    induction m with
    | zero => exact fun k v _ _ => Iff.rfl
    | succ m ih => exact fun k v a b => (ih k v a (by omega)).trans (zstep (k + m) v (by omega) (by omega))
  have In : ∀ k v, Prop := fun k v => ∃ p, B k p = v
  -- fickle ones
  let Fi : Nat → Prop := fun v => (∃ k, i ≤ k ∧ k ≤ j ∧ ∃ p, B k p = v) ∧ ∃ k, i ≤ k ∧ k ≤ j ∧ ¬ ∃ p, B k p = v
  have eout : ∀ k, i ≤ k → k < j → ¬ ∃ p, B k p = e k := by
    rintro k a b ⟨p, hp⟩
    have h1 := T.tight k p a (by omega)
    rw [hp] at h1
    have := T.broken k a b
    omega
  have ein : ∀ k, i ≤ k → k < j → ∃ p, B (k + 1) p = e k := fun k a b => ⟨r k, by rw [T.next k _ a b, if_pos rfl]⟩
  have efi : ∀ k, i ≤ k → k < j → Fi (e k) := fun k a b => ⟨⟨k + 1, by omega, by omega, ein k a b⟩, k, a, by omega, eout k a b⟩
  have fi0 : ∀ v, Fi v → ∀ k p, i ≤ k → k ≤ j → B k p = v → y k p = 0 := by
    rintro v ⟨_, k0, a0, b0, h0⟩ k p a b hp
    have z0 : ∀ p, B k0 p = v → y k0 p = 0 := fun p hp => absurd ⟨p, hp⟩ h0
    rcases Nat.le_total k0 k with hk | hk
    · have := (zall (k - k0) k0 v a0 (by omega)).mp z0
      rw [show k0 + (k - k0) = k by omega] at this
      exact this p hp
    · have h := zall (k0 - k) k v a (by omega)
      rw [show k + (k0 - k) = k0 by omega] at h
      exact h.mpr z0 p hp
  obtain ⟨t, ht, tmax⟩ := max_of (P := Fi) (n := n) (by
    rintro v ⟨⟨k, a, b, p, hp⟩, _⟩
    rw [← hp]
    exact T.lt k p a b) ⟨e i, efi i (Nat.le_refl _) hij⟩
  have same : (∃ p, B i p = t) ↔ (∃ p, B j p = t) := by rw [hB]
  obtain ⟨k1, a1, b1, ⟨p1, hp1⟩, out1⟩ := way_down (P := fun k => ∃ p, B k p = t) same ht.1 ht.2
  obtain ⟨k2, a2, b2, out2, in2⟩ := way_down (P := fun k => ¬ ∃ p, B k p = t) (by rw [hB]) ht.2 (by
    obtain ⟨k, a, b, h⟩ := ht.1
    exact ⟨k, a, b, fun z => z h⟩)
  have in2 : ∃ p, B (k2 + 1) p = t := Classical.byContradiction in2
  have hr1 : B k1 (r k1) = t := by
    by_cases h : p1 = r k1
    · rw [← h, hp1]
    · exact absurd ⟨p1, by rw [T.next k1 p1 a1 b1, if_neg h, hp1]⟩ out1
  have he2 : e k2 = t := by
    obtain ⟨p, hp⟩ := in2
    rw [T.next k2 p a2 b2] at hp
    split at hp
    · exact hp
    · exact absurd ⟨p, hp⟩ out2
  have e1 : e k1 < t := by
    have h1 := tmax _ (efi k1 a1 b1)
    have h2 : e k1 ≠ t := fun h => eout k1 a1 b1 ⟨r k1, by rw [hr1, h]⟩
    omega
  have dt := T.broken k2 a2 b2
  rw [he2] at dt
  have dlt : ∀ v, v < t → 0 ≤ d k2 v := fun v hv => T.first k2 v a2 b2 (by rw [he2]; exact hv)
  have key := T.key k1 k2 a1 b1 a2 (by omega)
  have term : ∀ p, s k1 p * d k2 (B k1 p) ≤ 0 := by
    intro p
    by_cases hp : p = r k1
    · rw [hp, hr1]
      have h1 := T.rpos k1 a1 b1
      exact Int.mul_nonpos_of_nonneg_of_nonpos (by omega) (by omega)
    · apply Classical.byContradiction
      intro hn
      have hpos : 0 < s k1 p * d k2 (B k1 p) := by omega
      have dne : d k2 (B k1 p) ≠ 0 := fun h0 => by
        rw [h0, Int.mul_zero] at hpos
        omega
      have fi : Fi (B k1 p) := ⟨⟨k1, a1, by omega, p, rfl⟩, k2, a2, by omega, fun ⟨q, hq⟩ => dne (by rw [← hq]; exact T.tight k2 q a2 (by omega))⟩
      have hle := tmax _ fi
      have hne : B k1 p ≠ t := fun h => hp (T.inj k1 p (r k1) a1 (by omega) (by rw [h, hr1]))
      have dp := dlt _ (show B k1 p < t by omega)
      have sp : 0 < s k1 p := by
        apply Classical.byContradiction
        intro h
        have := Int.mul_nonpos_of_nonpos_of_nonneg (show s k1 p ≤ 0 by omega) dp
        omega
      have := T.soon k1 p a1 b1 sp (by rw [fi0 _ fi k1 p a1 (by omega) rfl, fi0 _ ht k1 (r k1) a1 (by omega) hr1, Int.zero_mul, Int.zero_mul])
      omega
  have t0 := term 0
  have t1 := term 1
  have t2 := term 2
  have lhs : 0 ≤ D k1 * d k2 (e k1) := Int.mul_nonneg (by have := T.dpos k1 a1 (by omega); omega) (dlt _ e1)
  have rhs : D k2 * d k1 (e k1) < 0 := Int.mul_neg_of_pos_of_neg (T.dpos k2 a2 (by omega)) (T.broken k1 a1 b1)
  omega
end Nc
end
section
/-! Three rows of whole numbers: columns, corners, the walk's turns. -/
namespace Nc
abbrev I3 := Int × Int × Int
abbrev F3 (α : Type) := Fin 3 → α
def dt (u v : I3) : Int := u.1 * v.1 + u.2.1 * v.2.1 + u.2.2 * v.2.2
def xr (u v : I3) : I3 := (u.2.1 * v.2.2 - u.2.2 * v.2.1, u.2.2 * v.1 - u.1 * v.2.2, u.1 * v.2.1 - u.2.1 * v.1)
def ng (u : I3) : I3 := (-u.1, -u.2.1, -u.2.2)
def det3 (r : F3 I3) : Int := dt (r 0) (xr (r 1) (r 2))
def mk3 {α : Type} (a b c : α) : F3 α := fun p => if p = 0 then a else if p = 1 then b else c
theorem mk3_0 {α : Type} {a b c : α} : mk3 a b c 0 = a := rfl
theorem mk3_1 {α : Type} {a b c : α} : mk3 a b c 1 = b := rfl
theorem mk3_2 {α : Type} {a b c : α} : mk3 a b c 2 = c := rfl
theorem all3 {P : Fin 3 → Prop} (h0 : P 0) (h1 : P 1) (h2 : P 2) : ∀ p, P p := fun p => match p with
  | 0 => h0 | 1 => h1 | 2 => h2
def colU (r : F3 I3) : F3 I3 := mk3 (xr (r 1) (r 2)) (xr (r 2) (r 0)) (xr (r 0) (r 1))
/-- the columns and the bottom, as the program reckons them -/
def cols (r : F3 I3) : F3 I3 := if det3 r < 0 then fun p => ng (colU r p) else colU r
def bot (r : F3 I3) : Int := if det3 r < 0 then - det3 r else det3 r
theorem bot_nonneg (r : F3 I3) : 0 ≤ bot r := by unfold bot; split <;> omega
theorem dt_ng {u v : I3} : dt u (ng v) = - dt u v := by simp only [dt, ng]; grind
/-- a sign, and what it does -/
theorem sgn_of (r : F3 I3) : ∃ ε : Int, (ε = 1 ∨ ε = -1) ∧ bot r = ε * det3 r ∧ ∀ u p, dt u (cols r p) = ε * dt u (colU r p) := by
  unfold bot cols
  by_cases h : det3 r < 0
  · refine ⟨-1, .inr rfl, by rw [if_pos h]; omega, fun u p => ?_⟩
    rw [if_pos h, dt_ng]
    omega
  · refine ⟨1, .inl rfl, by rw [if_neg h]; omega, fun u p => ?_⟩
    rw [if_neg h]
    omega
theorem dual_u (r : F3 I3) : ∀ p q, dt (r q) (colU r p) = if p = q then det3 r else 0 :=
  all3 (all3 rfl (by show dt (r 1) (xr (r 1) (r 2)) = 0; simp only [dt, xr]; grind) (by show dt (r 2) (xr (r 1) (r 2)) = 0; simp only [dt, xr]; grind))
    (all3 (by show dt (r 0) (xr (r 2) (r 0)) = 0; simp only [dt, xr]; grind) (by show dt (r 1) (xr (r 2) (r 0)) = det3 r; simp only [det3, dt, xr]; grind) (by show dt (r 2) (xr (r 2) (r 0)) = 0; simp only [dt, xr]; grind))
    (all3 (by show dt (r 0) (xr (r 0) (r 1)) = 0; simp only [dt, xr]; grind) (by show dt (r 1) (xr (r 0) (r 1)) = 0; simp only [dt, xr]; grind) (by show dt (r 2) (xr (r 0) (r 1)) = det3 r; simp only [det3, dt, xr]; grind))
theorem full_u (r : F3 I3) (u v : I3) : det3 r * dt u v = dt u (colU r 0) * dt (r 0) v + dt u (colU r 1) * dt (r 1) v + dt u (colU r 2) * dt (r 2) v := by
  show det3 r * dt u v = dt u (xr (r 1) (r 2)) * dt (r 0) v + dt u (xr (r 2) (r 0)) * dt (r 1) v + dt u (xr (r 0) (r 1)) * dt (r 2) v
  simp only [det3, dt, xr]
  generalize r 0 = a, r 1 = b, r 2 = c
  obtain ⟨a1, a2, a3⟩ := a
  obtain ⟨b1, b2, b3⟩ := b
  obtain ⟨c1, c2, c3⟩ := c
  obtain ⟨u1, u2, u3⟩ := u
  obtain ⟨v1, v2, v3⟩ := v
  grind
theorem dual (r : F3 I3) (p q : Fin 3) : dt (r q) (cols r p) = if p = q then bot r else 0 := by
  obtain ⟨ε, _, h1, h2⟩ := sgn_of r
  rw [h2, dual_u]
  split
  · exact h1.symm
  · exact Int.mul_zero _
theorem full (r : F3 I3) (u v : I3) : bot r * dt u v = dt u (cols r 0) * dt (r 0) v + dt u (cols r 1) * dt (r 1) v + dt u (cols r 2) * dt (r 2) v := by
  obtain ⟨ε, _, h1, h2⟩ := sgn_of r
  rw [h1, h2, h2, h2, Int.mul_assoc, full_u r u v]
  grind
/-- a row put in the place of another one -/
def put {α : Type} (r : F3 α) (k : Fin 3) (x : α) : F3 α := fun p => if p = k then x else r p
theorem put_same {α : Type} {r : F3 α} {k : Fin 3} {x : α} : put r k x k = x := if_pos rfl
theorem put_ne {α : Type} {r : F3 α} {k p : Fin 3} {x : α} (h : p ≠ k) : put r k x p = r p := if_neg h
theorem put_comp {α β : Type} {f : α → β} {r : F3 α} {k : Fin 3} {x : α} : (fun p => f (put r k x p)) = put (fun p => f (r p)) k (f x) := by
  funext p
  unfold put
  split <;> rfl
theorem det_put (r : F3 I3) (x : I3) : ∀ k, det3 (put r k x) = dt x (colU r k) :=
  all3 rfl (by show dt (r 0) (xr x (r 2)) = dt x (xr (r 2) (r 0)); simp only [dt, xr]; grind) (by show dt (r 0) (xr (r 1) x) = dt x (xr (r 0) (r 1)); simp only [dt, xr]; grind)
theorem col_put_same (r : F3 I3) (x : I3) : ∀ k, colU (put r k x) k = colU r k := all3 rfl rfl rfl
/-- the old row weighs a new column what the new one's share was, turned -/
theorem col_put_old (r : F3 I3) (x : I3) : ∀ k p, p ≠ k → dt (r k) (colU (put r k x) p) = - dt x (colU r p) :=
  all3 (all3 (fun h => absurd rfl h) (fun _ => by show dt (r 0) (xr (r 2) x) = - dt x (xr (r 2) (r 0)); simp only [dt, xr]; grind) (fun _ => by show dt (r 0) (xr x (r 1)) = - dt x (xr (r 0) (r 1)); simp only [dt, xr]; grind))
    (all3 (fun _ => by show dt (r 1) (xr x (r 2)) = - dt x (xr (r 1) (r 2)); simp only [dt, xr]; grind) (fun h => absurd rfl h) (fun _ => by show dt (r 1) (xr (r 0) x) = - dt x (xr (r 0) (r 1)); simp only [dt, xr]; grind))
    (all3 (fun _ => by show dt (r 2) (xr (r 1) x) = - dt x (xr (r 1) (r 2)); simp only [dt, xr]; grind) (fun _ => by show dt (r 2) (xr x (r 0)) = - dt x (xr (r 2) (r 0)); simp only [dt, xr]; grind) (fun h => absurd rfl h))
theorem sgn_put {r : F3 I3} {x : I3} {k : Fin 3} (h : 0 < dt x (cols r k)) : bot (put r k x) = dt x (cols r k) ∧ (∀ u, dt u (cols (put r k x) k) = dt u (cols r k)) ∧ ∀ p, p ≠ k → dt (r k) (cols (put r k x) p) = - dt x (cols r p) := by
  unfold bot cols at *
  by_cases hd : det3 r < 0
  · simp only [if_pos hd, dt_ng] at h ⊢
    have hn : det3 (put r k x) < 0 := by rw [det_put]; omega
    simp only [if_pos hn]
    simp only [dt_ng, det_put, col_put_same]
    refine ⟨by trivial, fun _ => by trivial, fun p hp => ?_⟩
    rw [col_put_old r x k p hp]
  · simp only [if_neg hd] at h ⊢
    have hn : ¬ det3 (put r k x) < 0 := by rw [det_put]; omega
    simp only [if_neg hn]
    simp only [det_put, col_put_same]
    refine ⟨by trivial, fun _ => by trivial, fun p hp => ?_⟩
    rw [col_put_old r x k p hp]
theorem y_old {r : F3 I3} {x c : I3} {k : Fin 3} (h : 0 < dt x (cols r k)) (p : Fin 3) (hp : p ≠ k) :
    bot r * dt c (cols (put r k x) p) = dt c (cols r p) * dt x (cols r k) - dt c (cols r k) * dt x (cols r p) := by
  obtain ⟨h1, _, h3⟩ := sgn_put h
  have h3 := h3 p hp
  have hq : ∀ q, q ≠ k → dt (r q) (cols (put r k x) p) = if p = q then dt x (cols r k) else 0 := by
    intro q hq
    have := dual (put r k x) p q
    rwa [put_ne hq, h1] at this
  rw [full r c]
  generalize cols (put r k x) = N at h3 hq ⊢
  have go : ∀ k p : Fin 3, p ≠ k → (∀ q, q ≠ k → dt (r q) (N p) = if p = q then dt x (cols r k) else 0) → dt (r k) (N p) = - dt x (cols r p) →
      dt c (cols r 0) * dt (r 0) (N p) + dt c (cols r 1) * dt (r 1) (N p) + dt c (cols r 2) * dt (r 2) (N p) = dt c (cols r p) * dt x (cols r k) - dt c (cols r k) * dt x (cols r p) :=
    all3 (all3 (fun h => absurd rfl h) (fun _ hq h3 => by rw [h3, hq 1 (by decide), hq 2 (by decide), if_pos rfl, if_neg (by decide)]; grind) (fun _ hq h3 => by rw [h3, hq 1 (by decide), hq 2 (by decide), if_pos rfl, if_neg (by decide)]; grind))
      (all3 (fun _ hq h3 => by rw [h3, hq 0 (by decide), hq 2 (by decide), if_pos rfl, if_neg (by decide)]; grind) (fun h => absurd rfl h) (fun _ hq h3 => by rw [h3, hq 0 (by decide), hq 2 (by decide), if_pos rfl, if_neg (by decide)]; grind))
      (all3 (fun _ hq h3 => by rw [h3, hq 0 (by decide), hq 1 (by decide), if_pos rfl, if_neg (by decide)]; grind) (fun _ hq h3 => by rw [h3, hq 0 (by decide), hq 1 (by decide), if_pos rfl, if_neg (by decide)]; grind) (fun h => absurd rfl h))
  exact go k p hp hq h3
/-- the spot's tops -/
def spotT (b : F3 Int) (C : F3 I3) : I3 := (b 0 * (C 0).1 + b 1 * (C 1).1 + b 2 * (C 2).1, b 0 * (C 0).2.1 + b 1 * (C 1).2.1 + b 2 * (C 2).2.1, b 0 * (C 0).2.2 + b 1 * (C 1).2.2 + b 2 * (C 2).2.2)
theorem dt_spot (u : I3) (b : F3 Int) (C : F3 I3) : dt u (spotT b C) = b 0 * dt u (C 0) + b 1 * dt u (C 1) + b 2 * dt u (C 2) := by
  simp only [dt, spotT]
  grind
end Nc
end
section
/-! The walk ends: turns, and no three wishes are held again. -/
namespace Nc
abbrev W4 := I3 × Int
def wAt (ws : List W4) (i : Nat) : W4 := ws.getD i ((0, 0, 0), 0)
def rowsOf (ws : List W4) (h : F3 Nat) : F3 I3 := fun p => (wAt ws (h p)).1
def numsOf (ws : List W4) (h : F3 Nat) : F3 Int := fun p => (wAt ws (h p)).2
def colsOf (ws : List W4) (h : F3 Nat) : F3 I3 := cols (rowsOf ws h)
def botOf (ws : List W4) (h : F3 Nat) : Int := bot (rowsOf ws h)
def spotOf (ws : List W4) (h : F3 Nat) : I3 := spotT (numsOf ws h) (colsOf ws h)
def isBroken (S : I3) (D : Int) (w : W4) : Bool := decide (w.2 * D < dt w.1 S)
def firstB (ws : List W4) (h : F3 Nat) : Option Nat := ws.findIdx? (isBroken (spotOf ws h) (botOf ws h))
def sharesOf (ws : List W4) (h : F3 Nat) (e : Nat) : F3 Int := fun p => dt (wAt ws e).1 (colsOf ws h p)
def loadsOf (ws : List W4) (aim : I3) (h : F3 Nat) : F3 Int := fun p => dt aim (colsOf ws h p)
def isSooner (h : F3 Nat) (s y : F3 Int) (a b : Fin 3) : Bool := decide (y a * s b < y b * s a) || (decide (y a * s b = y b * s a) && decide (h a < h b))
def pick (h : F3 Nat) (s y : F3 Int) (best : Option (Fin 3)) (a : Fin 3) : Option (Fin 3) :=
  if (decide (0 < s a) && (match best with | none => true | some b => isSooner h s y a b)) = true then some a else best
def leave (h : F3 Nat) (s y : F3 Int) : Option (Fin 3) := pick h s y (pick h s y (pick h s y none 0) 1) 2
def Soon (h : F3 Nat) (s y : F3 Int) (b p : Fin 3) : Prop := y b * s p < y p * s b ∨ (y b * s p = y p * s b ∧ h b ≤ h p)
theorem soon_refl {h : F3 Nat} {s y : F3 Int} {a : Fin 3} : Soon h s y a a := .inr ⟨rfl, Nat.le_refl _⟩
theorem cross_le {A B C a b c : Int} (ha : 0 < a) (hb : 0 < b) (hc : 0 < c) (h1 : A * b ≤ B * a) (h2 : B * c ≤ C * b) : A * c ≤ C * a ∧ (A * c = C * a → A * b = B * a ∧ B * c = C * b) := by
  have e1 : A * b * c ≤ B * a * c := Int.mul_le_mul_of_nonneg_right h1 (by omega)
  have e2 : B * c * a ≤ C * b * a := Int.mul_le_mul_of_nonneg_right h2 (by omega)
  have r1 : A * b * c = A * c * b := by grind
  have r2 : B * a * c = B * c * a := by grind
  have r3 : C * b * a = C * a * b := by grind
  have le : A * c * b ≤ C * a * b := by omega
  refine ⟨Int.le_of_mul_le_mul_right le hb, fun e => ?_⟩
  have q : A * c * b = C * a * b := by rw [e]
  have q1 : A * b * c = B * a * c := by omega
  have q2 : B * c * a = C * b * a := by omega
  exact ⟨Int.eq_of_mul_eq_mul_right (by omega) q1, Int.eq_of_mul_eq_mul_right (by omega) q2⟩
theorem soon_trans {h : F3 Nat} {s y : F3 Int} {a b c : Fin 3} (ha : 0 < s a) (hb : 0 < s b) (hc : 0 < s c) (h1 : Soon h s y a b) (h2 : Soon h s y b c) : Soon h s y a c := by
  have l1 : y a * s b ≤ y b * s a := by rcases h1 with z | ⟨z, _⟩ <;> omega
  have l2 : y b * s c ≤ y c * s b := by rcases h2 with z | ⟨z, _⟩ <;> omega
  obtain ⟨q1, q2⟩ := cross_le ha hb hc l1 l2
  by_cases e : y a * s c = y c * s a
  · obtain ⟨e1, e2⟩ := q2 e
    refine .inr ⟨e, ?_⟩
    rcases h1 with z | ⟨_, z1⟩
    · omega
    · rcases h2 with z | ⟨_, z2⟩
      · omega
      · omega
  · exact .inl (by omega)
def PickOk (h : F3 Nat) (s y : F3 Int) (done : Fin 3 → Prop) : Option (Fin 3) → Prop
  | none => ∀ p, done p → s p ≤ 0
  | some b => 0 < s b ∧ ∀ p, done p → 0 < s p → Soon h s y b p
theorem pick_ok {h : F3 Nat} {s y : F3 Int} {done : Fin 3 → Prop} {best : Option (Fin 3)} (a : Fin 3) (o : PickOk h s y done best) : PickOk h s y (fun p => done p ∨ p = a) (pick h s y best a) := by
  unfold pick
  by_cases sa : 0 < s a
  · rw [decide_eq_true sa, Bool.true_and]
    match best, o with
    | none, o =>
      rw [if_pos rfl]
      refine ⟨sa, fun p hp sp => ?_⟩
      rcases hp with hp | rfl
      · have := o p hp
        omega
      · exact soon_refl
    | some b, o =>
      obtain ⟨sb, o⟩ := o
      show PickOk h s y _ (if isSooner h s y a b = true then some a else some b)
      by_cases hs : isSooner h s y a b = true
      · rw [if_pos hs]
        have ab : Soon h s y a b := by
          unfold isSooner at hs
          rw [Bool.or_eq_true, Bool.and_eq_true] at hs
          rcases hs with z | ⟨z1, z2⟩
          · exact .inl (of_decide_eq_true z)
          · have := of_decide_eq_true z2
            exact .inr ⟨of_decide_eq_true z1, by omega⟩
        refine ⟨sa, fun p hp sp => ?_⟩
        rcases hp with hp | rfl
        · exact soon_trans sa sb sp ab (o p hp sp)
        · exact soon_refl
      · rw [if_neg hs]
        refine ⟨sb, fun p hp sp => ?_⟩
        rcases hp with hp | rfl
        · exact o p hp sp
        · unfold isSooner at hs
          rw [Bool.or_eq_true, Bool.and_eq_true, decide_eq_true_eq, decide_eq_true_eq, decide_eq_true_eq] at hs
          by_cases h1 : y b * s p < y p * s b
          · exact .inl h1
          · have h2 : ¬ y p * s b < y b * s p := fun z => hs (.inl z)
            have h3 : y p * s b = y b * s p := by omega
            have h4 : ¬ h p < h b := fun z => hs (.inr ⟨h3, z⟩)
            exact .inr ⟨h3.symm, by omega⟩
  · rw [decide_eq_false sa, Bool.false_and, if_neg (by decide)]
    match best, o with
    | none, o =>
      intro p hp
      rcases hp with hp | rfl
      · exact o p hp
      · omega
    | some b, o =>
      refine ⟨o.1, fun p hp sp => ?_⟩
      rcases hp with hp | rfl
      · exact o.2 p hp sp
      · exact absurd sp sa
theorem leave_ok (h : F3 Nat) (s y : F3 Int) : PickOk h s y (fun _ => True) (leave h s y) := by
  have h0 : PickOk h s y (fun _ => False) none := fun p hp => hp.elim
  have h3 := pick_ok 2 (pick_ok 1 (pick_ok 0 h0))
  unfold leave
  generalize pick h s y (pick h s y (pick h s y none 0) 1) 2 = best at h3 ⊢
  have every : ∀ p : Fin 3, ((False ∨ p = 0) ∨ p = 1) ∨ p = 2 := all3 (.inl (.inl (.inr rfl))) (.inl (.inr rfl)) (.inr rfl)
  cases best with
  | none => exact fun p _ => h3 p (every p)
  | some b => exact ⟨h3.1, fun p _ => h3.2 p (every p)⟩
def stepB (ws : List W4) (aim : I3) (h : F3 Nat) : Option (F3 Nat) :=
  match firstB ws h with
  | none => none
  | some e => match leave h (sharesOf ws h e) (loadsOf ws aim h) with
    | none => none
    | some r => some (put h r e)
structure GoodB (ws : List W4) (aim : I3) (h : F3 Nat) : Prop where
  pos : 0 < botOf ws h
  load : ∀ p, 0 ≤ loadsOf ws aim h p
  lt : ∀ p, h p < ws.length
theorem GoodB.inj {ws : List W4} {aim : I3} {h : F3 Nat} (g : GoodB ws aim h) (p q : Fin 3) (e : h p = h q) : p = q := by
  apply Classical.byContradiction
  intro hn
  have h1 := dual (rowsOf ws h) p p
  have h2 := dual (rowsOf ws h) p q
  have : rowsOf ws h p = rowsOf ws h q := by unfold rowsOf; rw [e]
  rw [if_pos rfl, this] at h1
  rw [if_neg hn, h1] at h2
  have := g.pos
  unfold botOf at this
  omega
/-- what a turn tells -/
theorem first_some {ws : List W4} {h : F3 Nat} {e : Nat} (he : firstB ws h = some e) : e < ws.length ∧ (wAt ws e).2 * botOf ws h < dt (wAt ws e).1 (spotOf ws h) ∧ ∀ v, v < e → dt (wAt ws v).1 (spotOf ws h) ≤ (wAt ws v).2 * botOf ws h := by
  unfold firstB at he
  rw [List.findIdx?_eq_some_iff_getElem] at he
  obtain ⟨hl, h1, h2⟩ := he
  have at_ : ∀ v, (hv : v < ws.length) → wAt ws v = ws[v] := fun v hv => by
    unfold wAt
    rw [List.getD_eq_getElem?_getD, List.getElem?_eq_getElem hv]
    rfl
  refine ⟨hl, ?_, fun v hv => ?_⟩
  · rw [at_ e hl]
    exact of_decide_eq_true h1
  · have := h2 v hv
    rw [← at_ v (by omega)] at this
    have := of_decide_eq_false (eq_false_of_ne_true this)
    omega
theorem first_none {ws : List W4} {h : F3 Nat} (he : firstB ws h = none) : ∀ w ∈ ws, dt w.1 (spotOf ws h) ≤ w.2 * botOf ws h := by
  unfold firstB at he
  rw [List.findIdx?_eq_none_iff] at he
  intro w hw
  have := of_decide_eq_false (he w hw)
  omega
theorem step_some {ws : List W4} {aim : I3} {h h' : F3 Nat} (hs : stepB ws aim h = some h') : ∃ e r, firstB ws h = some e ∧ leave h (sharesOf ws h e) (loadsOf ws aim h) = some r ∧ h' = put h r e := by
  unfold stepB at hs
  cases he : firstB ws h with
  | none => rw [he] at hs; cases hs
  | some e =>
    rw [he] at hs
    show ∃ e' r, some e = some e' ∧ _
    cases hl : leave h (sharesOf ws h e) (loadsOf ws aim h) with
    | none => simp only [hl] at hs; cases hs
    | some r =>
      simp only [hl] at hs
      cases hs
      exact ⟨e, r, rfl, hl, rfl⟩
theorem rows_put {ws : List W4} {h : F3 Nat} {r : Fin 3} {e : Nat} : rowsOf ws (put h r e) = put (rowsOf ws h) r (wAt ws e).1 := put_comp (f := fun i => (wAt ws i).1)
/-- what a turn does -/
structure TurnB (ws : List W4) (aim : I3) (h : F3 Nat) (e : Nat) (r : Fin 3) : Prop where
  bot : botOf ws (put h r e) = sharesOf ws h e r
  ynew : loadsOf ws aim (put h r e) r = loadsOf ws aim h r
  yold : ∀ p, p ≠ r → botOf ws h * loadsOf ws aim (put h r e) p = loadsOf ws aim h p * sharesOf ws h e r - loadsOf ws aim h r * sharesOf ws h e p
theorem turn_b {ws : List W4} {aim : I3} {h : F3 Nat} {e : Nat} {r : Fin 3} (hr : 0 < sharesOf ws h e r) : TurnB ws aim h e r := by
  obtain ⟨h1, h2, h3⟩ := sgn_put hr
  have h1 : bot (put (rowsOf ws h) r (wAt ws e).1) = sharesOf ws h e r := h1
  refine ⟨?_, ?_, fun p hp => ?_⟩
  · unfold botOf
    rw [rows_put]
    exact h1
  · unfold loadsOf colsOf
    rw [rows_put]
    exact h2 aim
  · have := y_old (c := aim) hr p hp
    unfold loadsOf colsOf botOf
    rw [rows_put]
    exact this
theorem good_put {ws : List W4} {aim : I3} {h : F3 Nat} {e : Nat} {r : Fin 3} (g : GoodB ws aim h) (he : e < ws.length) (hr : leave h (sharesOf ws h e) (loadsOf ws aim h) = some r) : GoodB ws aim (put h r e) := by
  have ok := leave_ok h (sharesOf ws h e) (loadsOf ws aim h)
  rw [hr] at ok
  obtain ⟨sr, ok⟩ := ok
  have t := turn_b (aim := aim) sr
  refine ⟨by rw [t.bot]; exact sr, fun p => ?_, fun p => ?_⟩
  · by_cases hp : p = r
    · rw [hp, t.ynew]
      exact g.load r
    · have h1 := t.yold p hp
      have h2 : 0 ≤ botOf ws h * loadsOf ws aim (put h r e) p := by
        rw [h1]
        by_cases sp : 0 < sharesOf ws h e p
        · have := ok p trivial sp
          rcases this with z | ⟨z, _⟩ <;> omega
        · have z1 := Int.mul_nonneg (g.load p) (show 0 ≤ sharesOf ws h e r by omega)
          have z2 := Int.mul_nonpos_of_nonneg_of_nonpos (g.load r) (show sharesOf ws h e p ≤ 0 by omega)
          omega
      apply Classical.byContradiction
      intro hn
      have := Int.mul_neg_of_pos_of_neg g.pos (show loadsOf ws aim (put h r e) p < 0 by omega)
      omega
  · unfold put
    split
    · exact he
    · exact g.lt p
theorem tight_b {ws : List W4} {h : F3 Nat} (p : Fin 3) : dt (wAt ws (h p)).1 (spotOf ws h) = (wAt ws (h p)).2 * botOf ws h := by
  have hd : ∀ q, dt (wAt ws (h p)).1 (colsOf ws h q) = if q = p then botOf ws h else 0 := fun q => dual (rowsOf ws h) q p
  unfold spotOf
  rw [dt_spot, hd, hd, hd]
  revert hd
  revert p
  refine all3 ?_ ?_ ?_ <;> intro _
  · rw [if_pos rfl, if_neg (by decide), if_neg (by decide)]
    show numsOf ws h 0 * _ + _ + _ = numsOf ws h 0 * _
    omega
  · rw [if_neg (by decide), if_pos rfl, if_neg (by decide)]
    show _ + numsOf ws h 1 * _ + _ = numsOf ws h 1 * _
    omega
  · rw [if_neg (by decide), if_neg (by decide), if_pos rfl]
    show _ + _ + numsOf ws h 2 * _ = numsOf ws h 2 * _
    omega
theorem dt_spotOf {ws : List W4} {h : F3 Nat} (u : I3) : dt u (spotOf ws h) = (wAt ws (h 0)).2 * dt u (colsOf ws h 0) + (wAt ws (h 1)).2 * dt u (colsOf ws h 1) + (wAt ws (h 2)).2 * dt u (colsOf ws h 2) := dt_spot ..
theorem z_down {ws : List W4} {aim : I3} {h : F3 Nat} {e : Nat} {r : Fin 3} (hr : 0 < sharesOf ws h e r) :
    botOf ws h * dt aim (spotOf ws (put h r e)) = dt aim (spotOf ws h) * botOf ws (put h r e) + loadsOf ws aim h r * ((wAt ws e).2 * botOf ws h - dt (wAt ws e).1 (spotOf ws h)) := by
  have t := turn_b (aim := aim) hr
  have hy : ∀ p, dt aim (colsOf ws (put h r e) p) = loadsOf ws aim (put h r e) p := fun _ => rfl
  have hy' : ∀ p, dt aim (colsOf ws h p) = loadsOf ws aim h p := fun _ => rfl
  have hs : ∀ p, dt (wAt ws e).1 (colsOf ws h p) = sharesOf ws h e p := fun _ => rfl
  rw [dt_spotOf, dt_spotOf, dt_spotOf, t.bot]
  have pb : ∀ p, (wAt ws (put h r e p)).2 = put (fun p => (wAt ws (h p)).2) r (wAt ws e).2 p := fun p => congrFun (put_comp (f := fun i => (wAt ws i).2)) p
  simp only [hy, hy', hs, pb]
  have n1 := t.ynew
  have n2 := t.yold
  clear t hr hy hy' hs
  generalize loadsOf ws aim (put h r e) = Y at n1 n2 ⊢
  generalize loadsOf ws aim h = y at n1 n2 ⊢
  generalize sharesOf ws h e = s at n1 n2 ⊢
  generalize botOf ws h = D at n2 ⊢
  generalize (wAt ws e).2 = be
  have goal : ∀ r : Fin 3, Y r = y r → (∀ p, p ≠ r → D * Y p = y p * s r - y r * s p) → ∀ b : F3 Int,
      D * (put b r be 0 * Y 0 + put b r be 1 * Y 1 + put b r be 2 * Y 2) = (b 0 * y 0 + b 1 * y 1 + b 2 * y 2) * s r + y r * (be * D - (b 0 * s 0 + b 1 * s 1 + b 2 * s 2)) := by
    refine all3 ?_ ?_ ?_
    · intro n1 n2 b
      have m1 := n2 1 (by decide)
      have m2 := n2 2 (by decide)
      rw [put_same, put_ne (by decide), put_ne (by decide), n1]
      have : D * (be * y 0 + b 1 * Y 1 + b 2 * Y 2) = D * be * y 0 + b 1 * (D * Y 1) + b 2 * (D * Y 2) := by grind
      rw [this, m1, m2]
      grind
    · intro n1 n2 b
      have m1 := n2 0 (by decide)
      have m2 := n2 2 (by decide)
      rw [put_same, put_ne (by decide), put_ne (by decide), n1]
      have : D * (b 0 * Y 0 + be * y 1 + b 2 * Y 2) = D * be * y 1 + b 0 * (D * Y 0) + b 2 * (D * Y 2) := by grind
      rw [this, m1, m2]
      grind
    · intro n1 n2 b
      have m1 := n2 0 (by decide)
      have m2 := n2 1 (by decide)
      rw [put_same, put_ne (by decide), put_ne (by decide), n1]
      have : D * (b 0 * Y 0 + b 1 * Y 1 + be * y 2) = D * be * y 2 + b 0 * (D * Y 0) + b 1 * (D * Y 1) := by grind
      rw [this, m1, m2]
      grind
  exact goal r n1 n2 (fun p => (wAt ws (h p)).2)
/-- more states than numbers: two are the same -/
theorem pigeon : ∀ (N : Nat) (f : Nat → Nat), (∀ k, k ≤ N → f k < N) → ∃ i j, i < j ∧ j ≤ N ∧ f i = f j
  | 0, f, h => absurd (h 0 (Nat.le_refl _)) (by omega)
  | N + 1, f, h => by
    by_cases hx : ∃ k, k ≤ N ∧ f k = f (N + 1)
    · obtain ⟨k, hk, e⟩ := hx
      exact ⟨k, N + 1, by omega, Nat.le_refl _, e⟩
    · have hne : ∀ k, k ≤ N → f k ≠ f (N + 1) := fun k hk e => hx ⟨k, hk, e⟩
      obtain ⟨i, j, hij, hj, e⟩ := pigeon N (fun k => if f (N + 1) < f k then f k - 1 else f k) (fun k hk => by
        have h1 := h k (by omega)
        have h2 := h (N + 1) (Nat.le_refl _)
        have h3 := hne k hk
        show (if f (N + 1) < f k then f k - 1 else f k) < N
        split
        · omega
        · omega)
      have e : (if f (N + 1) < f i then f i - 1 else f i) = (if f (N + 1) < f j then f j - 1 else f j) := e
      have h1 := hne i (by omega)
      have h2 := hne j hj
      refine ⟨i, j, hij, by omega, ?_⟩
      split at e <;> split at e <;> omega
def codeB (n : Nat) (h : F3 Nat) : Nat := h 0 + n * (h 1 + n * h 2)
theorem code_lt {n : Nat} {h : F3 Nat} (hl : ∀ p, h p < n) : codeB n h < n * (n * n) := by
  have h0 := hl 0
  have h1 := hl 1
  have h2 := hl 2
  unfold codeB
  have a : h 1 + n * h 2 < n * n := calc
    h 1 + n * h 2 < n + n * h 2 := by omega
    _ = n * (h 2 + 1) := by rw [Nat.mul_succ]; omega
    _ ≤ n * n := Nat.mul_le_mul_left n h2
  calc
    h 0 + n * (h 1 + n * h 2) < n + n * (h 1 + n * h 2) := by omega
    _ = n * (h 1 + n * h 2 + 1) := by rw [Nat.mul_succ]; omega
    _ ≤ n * (n * n) := Nat.mul_le_mul_left n a
theorem code_inj {n : Nat} {h g : F3 Nat} (hl : ∀ p, h p < n) (gl : ∀ p, g p < n) (e : codeB n h = codeB n g) : h = g := by
  unfold codeB at e
  have dm : ∀ {a b c d : Nat}, a < n → c < n → a + n * b = c + n * d → a = c ∧ b = d := by
    intro a b c d ha hc e
    have e1 : a = c := by
      have := congrArg (· % n) e
      simpa [Nat.add_mul_mod_self_left, Nat.mod_eq_of_lt ha, Nat.mod_eq_of_lt hc] using this
    refine ⟨e1, ?_⟩
    subst e1
    have : n * b = n * d := by omega
    exact Nat.eq_of_mul_eq_mul_left (by omega) this
  obtain ⟨e0, e'⟩ := dm (hl 0) (gl 0) e
  obtain ⟨e1, e2⟩ := dm (hl 1) (gl 1) e'
  exact funext (all3 e0 e1 e2)
def stB (ws : List W4) (aim : I3) (h0 : F3 Nat) : Nat → F3 Nat
  | 0 => h0
  | k + 1 => (stepB ws aim (stB ws aim h0 k)).getD (stB ws aim h0 k)
theorem least_of_ex {P : Nat → Prop} : ∀ {n : Nat}, P n → ∃ k, k ≤ n ∧ P k ∧ ∀ v, v < k → ¬ P v := by
  intro n
  induction n using Nat.strongRecOn with
  | ind n ih =>
    intro hn
    by_cases h : ∃ v, v < n ∧ P v
    · obtain ⟨v, hv, pv⟩ := h
      obtain ⟨k, hk, pk, hl⟩ := ih v hv pv
      exact ⟨k, by omega, pk, hl⟩
    · exact ⟨n, Nat.le_refl _, hn, fun v hv pv => h ⟨v, hv, pv⟩⟩
theorem divInt_le {a b c d : Int} (hb : 0 < b) (hd : 0 < d) : Rat.divInt a b ≤ Rat.divInt c d ↔ a * d ≤ c * b := by
  have b0 : (0 : Rat) < (b : Rat) := by exact_mod_cast hb
  have d0 : (0 : Rat) < (d : Rat) := by exact_mod_cast hd
  have hx : Rat.divInt a b * (b : Rat) = a := by
    rw [Rat.divInt_eq_div]
    exact Rat.div_mul_cancel (by grind)
  have hy : Rat.divInt c d * (d : Rat) = c := by
    rw [Rat.divInt_eq_div]
    exact Rat.div_mul_cancel (by grind)
  generalize Rat.divInt a b = x at hx ⊢
  generalize Rat.divInt c d = y at hy ⊢
  have e1 : ((a * d : Int) : Rat) = x * ((b : Rat) * d) := by rw [Rat.intCast_mul, ← hx]; grind
  have e2 : ((c * b : Int) : Rat) = y * ((b : Rat) * d) := by rw [Rat.intCast_mul, ← hy]; grind
  have bd : (0 : Rat) < (b : Rat) * d := Rat.mul_pos b0 d0
  rw [← Rat.intCast_le_intCast, e1, e2]
  exact ⟨fun h => Rat.mul_le_mul_of_nonneg_right h (Rat.le_of_lt bd), fun h => Rat.le_of_mul_le_mul_right h bd⟩
theorem walk_ends {ws : List W4} {aim : I3} {h0 : F3 Nat} (g : GoodB ws aim h0) : ∃ K : Nat, (∀ k, k < K → stepB ws aim (stB ws aim h0 k) = some (stB ws aim h0 (k + 1))) ∧ stepB ws aim (stB ws aim h0 K) = none ∧ ∀ k, k ≤ K → GoodB ws aim (stB ws aim h0 k) := by
  have nx : ∀ k, stepB ws aim (stB ws aim h0 k) ≠ none → stepB ws aim (stB ws aim h0 k) = some (stB ws aim h0 (k + 1)) := by
    intro k hk
    cases hs : stepB ws aim (stB ws aim h0 k) with
    | none => exact absurd hs hk
    | some h' =>
      show some h' = some ((stepB ws aim (stB ws aim h0 k)).getD _)
      rw [hs]
      rfl
  have good : ∀ K, (∀ k, k < K → stepB ws aim (stB ws aim h0 k) ≠ none) → ∀ k, k ≤ K → GoodB ws aim (stB ws aim h0 k) := by
    intro K hK k
    induction k with
    | zero => exact fun _ => g
    | succ k ih =>
      intro hk
      have gk := ih (by omega)
      obtain ⟨e, r, he, hr, hh⟩ := step_some (nx k (hK k (by omega)))
      rw [hh]
      exact good_put gk (first_some he).1 hr
  by_cases hx : ∃ k, k ≤ ws.length * (ws.length * ws.length) ∧ stepB ws aim (stB ws aim h0 k) = none
  · obtain ⟨k, _, hk⟩ := hx
    obtain ⟨K, _, hK, hl⟩ := least_of_ex (P := fun k => stepB ws aim (stB ws aim h0 k) = none) hk
    exact ⟨K, fun k hk => nx k (hl k hk), hK, good K hl⟩
  · exfalso
    have all : ∀ k, k ≤ ws.length * (ws.length * ws.length) → stepB ws aim (stB ws aim h0 k) ≠ none := fun k hk e => hx ⟨k, hk, e⟩
    have gd := good (ws.length * (ws.length * ws.length)) (fun k hk => all k (by omega))
    obtain ⟨i, j, hij, hj, e⟩ := pigeon _ (fun k => codeB ws.length (stB ws aim h0 k)) (fun k hk => code_lt (gd k hk).lt)
    have same := code_inj (gd i (by omega)).lt (gd j hj).lt e
    let st := stB ws aim h0
    have tn : ∀ k, i ≤ k → k < j → ∃ e r, firstB ws (st k) = some e ∧ leave (st k) (sharesOf ws (st k) e) (loadsOf ws aim (st k)) = some r ∧ st (k + 1) = put (st k) r e := fun k _ b => step_some (nx k (all k (by omega)))
    let ee : Nat → Nat := fun k => (firstB ws (st k)).getD 0
    let rr : Nat → Fin 3 := fun k => (leave (st k) (sharesOf ws (st k) (ee k)) (loadsOf ws aim (st k))).getD 0
    have tn' : ∀ k, i ≤ k → k < j → firstB ws (st k) = some (ee k) ∧ leave (st k) (sharesOf ws (st k) (ee k)) (loadsOf ws aim (st k)) = some (rr k) ∧ st (k + 1) = put (st k) (rr k) (ee k) := by
      intro k a b
      obtain ⟨e, r, he, hr, hh⟩ := tn k a b
      have e1 : ee k = e := by show (firstB ws (st k)).getD 0 = e; rw [he]; rfl
      have r1 : rr k = r := by
        show (leave (st k) (sharesOf ws (st k) (ee k)) (loadsOf ws aim (st k))).getD 0 = r
        rw [e1, hr]
        rfl
      rw [r1, e1]
      exact ⟨he, hr, hh⟩
    have rp : ∀ k, i ≤ k → k < j → 0 < sharesOf ws (st k) (ee k) (rr k) ∧ ∀ p, 0 < sharesOf ws (st k) (ee k) p → Soon (st k) (sharesOf ws (st k) (ee k)) (loadsOf ws aim (st k)) (rr k) p := by
      intro k a b
      have ok := leave_ok (st k) (sharesOf ws (st k) (ee k)) (loadsOf ws aim (st k))
      rw [(tn' k a b).2.1] at ok
      exact ⟨ok.1, fun p => ok.2 p trivial⟩
    have gst : ∀ k, k ≤ j → GoodB ws aim (st k) := fun k hk => gd k (by omega)
    have zz : ∀ k, i ≤ k → k < j → Rat.divInt (dt aim (spotOf ws (st (k + 1)))) (botOf ws (st (k + 1))) ≤ Rat.divInt (dt aim (spotOf ws (st k))) (botOf ws (st k)) ∧
        (Rat.divInt (dt aim (spotOf ws (st (k + 1)))) (botOf ws (st (k + 1))) = Rat.divInt (dt aim (spotOf ws (st k))) (botOf ws (st k)) → loadsOf ws aim (st k) (rr k) = 0) := by
      intro k a b
      obtain ⟨he, hr, hh⟩ := tn' k a b
      have D0 := (gst k (by omega)).pos
      have D1 := (gst (k + 1) (by omega)).pos
      have z := z_down (aim := aim) (rp k a b).1
      rw [← hh] at z
      have fs := (first_some he).2.1
      have yl := (gst k (by omega)).load (rr k)
      have neg : loadsOf ws aim (st k) (rr k) * ((wAt ws (ee k)).2 * botOf ws (st k) - dt (wAt ws (ee k)).1 (spotOf ws (st k))) ≤ 0 := Int.mul_nonpos_of_nonneg_of_nonpos yl (by omega)
      constructor
      · rw [divInt_le D1 D0, Int.mul_comm _ (botOf ws (st k))]
        omega
      · intro eq
        rw [Rat.divInt_eq_divInt_iff (by omega) (by omega), Int.mul_comm _ (botOf ws (st k))] at eq
        rcases Int.mul_eq_zero.mp (show loadsOf ws aim (st k) (rr k) * ((wAt ws (ee k)).2 * botOf ws (st k) - dt (wAt ws (ee k)).1 (spotOf ws (st k))) = 0 by omega) with h | h
        · exact h
        · omega
    refine no_cycle (n := ws.length) (B := st) (D := fun k => botOf ws (st k)) (d := fun k v => (wAt ws v).2 * botOf ws (st k) - dt (wAt ws v).1 (spotOf ws (st k)))
      (s := fun k => sharesOf ws (st k) (ee k)) (y := fun k => loadsOf ws aim (st k)) (z := fun k => Rat.divInt (dt aim (spotOf ws (st k))) (botOf ws (st k))) (e := ee) (r := rr) (i := i) (j := j) ?_ hij (by show Rat.divInt (dt aim (spotOf ws (stB ws aim h0 i))) (botOf ws (stB ws aim h0 i)) = Rat.divInt (dt aim (spotOf ws (stB ws aim h0 j))) (botOf ws (stB ws aim h0 j)); rw [same]) same
    exact {
      dpos := fun k _ b => (gst k b).pos
      inj := fun k p q _ b e => (gst k b).inj p q e
      lt := fun k p _ b => (gst k b).lt p
      tight := fun k p _ b => by
        show (wAt ws (st k p)).2 * botOf ws (st k) - dt (wAt ws (st k p)).1 (spotOf ws (st k)) = 0
        rw [tight_b]
        omega
      broken := fun k a b => by
        have := (first_some (tn' k a b).1).2.1
        show (wAt ws (ee k)).2 * botOf ws (st k) - dt (wAt ws (ee k)).1 (spotOf ws (st k)) < 0
        omega
      first := fun k v a b hv => by
        have := (first_some (tn' k a b).1).2.2 v hv
        show 0 ≤ (wAt ws v).2 * botOf ws (st k) - dt (wAt ws v).1 (spotOf ws (st k))
        omega
      key := fun k k' a b a' b' => by
        have f := full (rowsOf ws (st k)) (wAt ws (ee k)).1 (spotOf ws (st k'))
        have g := dt_spotOf (ws := ws) (h := st k) (wAt ws (ee k)).1
        have hs : ∀ p, dt (wAt ws (ee k)).1 (colsOf ws (st k) p) = sharesOf ws (st k) (ee k) p := fun _ => rfl
        have hs' : ∀ p, dt (wAt ws (ee k)).1 (cols (rowsOf ws (st k)) p) = sharesOf ws (st k) (ee k) p := fun _ => rfl
        have hr : ∀ p, dt (rowsOf ws (st k) p) (spotOf ws (st k')) = dt (wAt ws (st k p)).1 (spotOf ws (st k')) := fun _ => rfl
        have hb : bot (rowsOf ws (st k)) = botOf ws (st k) := rfl
        rw [hs', hs', hs', hr, hr, hr, hb] at f
        rw [hs, hs, hs] at g
        show botOf ws (st k) * ((wAt ws (ee k)).2 * botOf ws (st k') - dt (wAt ws (ee k)).1 (spotOf ws (st k'))) - (sharesOf ws (st k) (ee k) 0 * ((wAt ws (st k 0)).2 * botOf ws (st k') - dt (wAt ws (st k 0)).1 (spotOf ws (st k'))) + sharesOf ws (st k) (ee k) 1 * ((wAt ws (st k 1)).2 * botOf ws (st k') - dt (wAt ws (st k 1)).1 (spotOf ws (st k'))) + sharesOf ws (st k) (ee k) 2 * ((wAt ws (st k 2)).2 * botOf ws (st k') - dt (wAt ws (st k 2)).1 (spotOf ws (st k'))))
          = botOf ws (st k') * ((wAt ws (ee k)).2 * botOf ws (st k) - dt (wAt ws (ee k)).1 (spotOf ws (st k)))
        rw [g]
        clear g hs hs' hr hb
        generalize botOf ws (st k) = D at f ⊢
        generalize botOf ws (st k') = D'
        generalize dt (wAt ws (ee k)).1 (spotOf ws (st k')) = E at f ⊢
        generalize dt (wAt ws (st k 0)).1 (spotOf ws (st k')) = x0 at f ⊢
        generalize dt (wAt ws (st k 1)).1 (spotOf ws (st k')) = x1 at f ⊢
        generalize dt (wAt ws (st k 2)).1 (spotOf ws (st k')) = x2 at f ⊢
        generalize sharesOf ws (st k) (ee k) = s at f ⊢
        grind
      rpos := fun k a b => (rp k a b).1
      soon := fun k p a b sp e => by
        rcases (rp k a b).2 p sp with z | ⟨_, z⟩
        · have e : loadsOf ws aim (st k) (rr k) * sharesOf ws (st k) (ee k) p = loadsOf ws aim (st k) p * sharesOf ws (st k) (ee k) (rr k) := e
          omega
        · exact z
      next := fun k p a b => by rw [(tn' k a b).2.2]; rfl
      ynew := fun k a b => by
        show loadsOf ws aim (st (k + 1)) (rr k) = loadsOf ws aim (st k) (rr k)
        rw [(tn' k a b).2.2]
        exact (turn_b (rp k a b).1).ynew
      yold := fun k p a b hp => by
        show botOf ws (st k) * loadsOf ws aim (st (k + 1)) p = _
        rw [(tn' k a b).2.2]
        exact (turn_b (rp k a b).1).yold p hp
      zdown := fun k a b => (zz k a b).1
      zsame := fun k a b => (zz k a b).2 }
end Nc
end
section
namespace Nc
/-! ### fractions: Rat's own top and bottom -/
def Sz (n d : Nat) (r : Rat) : Prop := r.num.natAbs < 2 ^ n ∧ r.den < 2 ^ d
theorem den_pos (r : Rat) : (0 : Int) < (r.den : Int) := by
  have := r.den_nz
  omega
theorem num_div {t b : Int} (hb : 0 < b) : t / ((Nat.gcd t.natAbs b.natAbs : Nat) : Int) = (Rat.divInt t b).num := by
  rw [Rat.num_divInt, Int.sign_eq_one_of_pos hb, Int.one_mul, Int.gcd_comm]
  rfl
theorem den_div {t b : Int} (hb : 0 < b) : b / ((Nat.gcd t.natAbs b.natAbs : Nat) : Int) = ((Rat.divInt t b).den : Int) := by
  rw [Rat.den_divInt, if_neg (by omega), Int.gcd_comm]
  have e : b = ((b.natAbs : Nat) : Int) := by omega
  conv => lhs; rw [e]
  rfl
theorem gcd_pos {t b : Int} (hb : 0 < b) : (0 : Int) < ((Nat.gcd t.natAbs b.natAbs : Nat) : Int) := by
  have := Nat.gcd_pos_of_pos_right t.natAbs (n := b.natAbs) (by omega)
  omega
theorem gcd_le {t b : Int} (hb : 0 < b) : ((Nat.gcd t.natAbs b.natAbs : Nat) : Int) ≤ b := by
  have := Nat.gcd_le_right t.natAbs (n := b.natAbs) (by omega)
  omega
theorem add_is (r s : Rat) : Rat.divInt (r.num * (s.den : Int) + s.num * (r.den : Int)) ((r.den : Int) * (s.den : Int)) = r + s := by
  have h1 := den_pos r
  have h2 := den_pos s
  rw [← Rat.divInt_add_divInt r.num s.num (by omega) (by omega), Rat.num_divInt_den, Rat.num_divInt_den]
theorem mul_is (r s : Rat) : Rat.divInt (r.num * s.num) ((r.den : Int) * (s.den : Int)) = r * s := by
  rw [← Rat.divInt_mul_divInt r.num s.num, Rat.num_divInt_den, Rat.num_divInt_den]
theorem natAbs_ediv_le (a b : Int) : (a / b).natAbs ≤ a.natAbs := Int.natAbs_ediv_le_natAbs a b
/-- the size of a quotient by the shared part -/
theorem sz_div {t b : Int} {n d : Nat} (hb : 0 < b) (ht : t.natAbs < 2 ^ n) (hz : b.natAbs < 2 ^ d) : Sz n d (Rat.divInt t b) := by
  constructor
  · rw [← num_div hb]
    exact Nat.lt_of_le_of_lt (natAbs_ediv_le _ _) ht
  · have h := den_div (t := t) hb
    have h2 := natAbs_ediv_le b ((Nat.gcd t.natAbs b.natAbs : Nat) : Int)
    rw [h] at h2
    have : ((Rat.divInt t b).den : Int).natAbs = (Rat.divInt t b).den := Int.natAbs_natCast _
    omega
theorem lt_mul {a b : Nat} {i j : Int} (ha : i.natAbs < 2 ^ a) (hb : j.natAbs < 2 ^ b) : (i * j).natAbs < 2 ^ (a + b) := by
  rw [Int.natAbs_mul, Nat.pow_add]
  exact Nat.mul_lt_mul'' ha hb
theorem lt_add {n : Nat} {i j : Int} (ha : i.natAbs < 2 ^ n) (hb : j.natAbs < 2 ^ n) : (i + j).natAbs < 2 ^ (n + 1) := by
  have := Int.natAbs_add_le i j
  rw [Nat.pow_succ]
  omega
theorem lt_mono {n m : Nat} {i : Nat} (h : i < 2 ^ n) (hm : n ≤ m) : i < 2 ^ m := Nat.lt_of_lt_of_le h (Nat.pow_le_pow_right (by decide) hm)
theorem Sz.mono {n m d e : Nat} {r : Rat} (h : Sz n d r) (hm : n ≤ m) (he : d ≤ e) : Sz m e r := ⟨lt_mono h.1 hm, lt_mono h.2 he⟩
theorem Sz.den {n d : Nat} {r : Rat} (h : Sz n d r) : ((r.den : Int)).natAbs < 2 ^ d := by
  rw [Int.natAbs_natCast]
  exact h.2
theorem sz_add {n d m e N : Nat} {r s : Rat} (hr : Sz n d r) (hs : Sz m e s) (h1 : n + e ≤ N := by omega) (h2 : m + d ≤ N := by omega) : Sz (N + 1) (d + e) (r + s) := by
  rw [← add_is]
  have k1 := lt_mono (lt_mul hr.1 hs.den) h1
  have k2 := lt_mono (lt_mul hs.1 hr.den) h2
  have k3 := lt_mul hr.den hs.den
  exact sz_div (Int.mul_pos (den_pos r) (den_pos s)) (lt_add k1 k2) k3
theorem sz_mul {n d m e : Nat} {r s : Rat} (hr : Sz n d r) (hs : Sz m e s) : Sz (n + m) (d + e) (r * s) := by
  rw [← mul_is]
  exact sz_div (Int.mul_pos (den_pos r) (den_pos s)) (lt_mul hr.1 hs.1) (lt_mul hr.den hs.den)
theorem sz_zero : Sz 1 1 (0 : Rat) := ⟨by decide, by decide⟩
theorem sz_one : Sz 1 1 (1 : Rat) := ⟨by decide, by decide⟩
/-! ### rows -/
/-- what a row weighs another one -/
def weighs (l : List (Rat × Rat)) : Rat := l.foldl (fun t p => t + p.1 * p.2) 0
theorem foldl_weigh : ∀ (l : List (Rat × Rat)) (t : Rat), l.foldl (fun t p => t + p.1 * p.2) t = t + weighs l
  | [], t => by simp [weighs, Rat.add_zero]
  | p :: r, t => by
    unfold weighs
    simp only [List.foldl_cons]
    rw [foldl_weigh r, foldl_weigh r (0 + p.1 * p.2)]
    grind
theorem weighs_cons (p : Rat × Rat) (r : List (Rat × Rat)) : weighs (p :: r) = p.1 * p.2 + weighs r := by
  unfold weighs
  simp only [List.foldl_cons]
  rw [foldl_weigh r]
  unfold weighs
  grind
theorem weighs_take {l : List (Rat × Rat)} {i : Nat} {p : Rat × Rat} (h : l[i]? = some p) : weighs (l.take (i + 1)) = weighs (l.take i) + p.1 * p.2 := by
  unfold weighs
  rw [List.take_add_one, h, List.foldl_append]
  rfl
theorem weighs_add : ∀ (a b c : List Rat), a.length = b.length → weighs (((a.zip b).map fun p => p.1 + p.2).zip c) = weighs (a.zip c) + weighs (b.zip c)
  | [], [], c, _ => by simp [weighs, Rat.add_zero]
  | x :: a, y :: b, [], _ => by simp [weighs, Rat.add_zero]
  | x :: a, y :: b, z :: c, h => by
    have ih := weighs_add a b c (by simpa using h)
    simp only [List.zip_cons_cons, List.map_cons, weighs_cons]
    rw [ih]
    grind
theorem weighs_mul (by_ : Rat) : ∀ (a c : List Rat), weighs ((a.map fun x => by_ * x).zip c) = by_ * weighs (a.zip c)
  | [], c => by simp [weighs, Rat.mul_zero]
  | x :: a, [] => by simp [weighs, Rat.mul_zero]
  | x :: a, z :: c => by
    have ih := weighs_mul by_ a c
    simp only [List.zip_cons_cons, List.map_cons, weighs_cons]
    rw [ih]
    grind
/-! ### sums: a row and a number -/
abbrev Sum2 := List Rat × Rat
def tells (s : Sum2) (row : List Rat) : Rat := weighs (s.1.zip row) + s.2
def splus (s t : Sum2) : Sum2 := ((s.1.zip t.1).map fun p => p.1 + p.2, s.2 + t.2)
def stimes (q : Rat) (s : Sum2) : Sum2 := (s.1.map fun x => q * x, q * s.2)
theorem tells_splus (s t : Sum2) (row : List Rat) (h : s.1.length = t.1.length) : tells (splus s t) row = tells s row + tells t row := by
  unfold tells splus
  simp only
  rw [weighs_add _ _ _ h]
  grind
theorem tells_stimes (q : Rat) (s : Sum2) (row : List Rat) : tells (stimes q s) row = q * tells s row := by
  unfold tells stimes
  simp only
  rw [weighs_mul]
  grind
theorem splus_comm (s t : Sum2) : splus s t = splus t s := by
  unfold splus
  have : (s.1.zip t.1).map (fun p => p.1 + p.2) = (t.1.zip s.1).map fun p => p.1 + p.2 := by
    apply List.ext_getElem
    · simp [Nat.min_comm]
    · intro i h1 h2
      simp only [List.getElem_map, List.getElem_zip]
      exact Rat.add_comm _ _
  rw [this, Rat.add_comm]
/-- all of a row below a size -/
def SzL (n d : Nat) (l : List Rat) : Prop := ∀ r ∈ l, Sz n d r
theorem sz_weighs {n d m e : Nat} (hn : d ≤ n) (hm : e ≤ m) : ∀ (i : Nat) (l : List (Rat × Rat)), i ≤ l.length → (∀ p ∈ l, Sz n d p.1 ∧ Sz m e p.2) → Sz (1 + i * (n + m + 1)) (1 + i * (d + e)) (weighs (l.take i))
  | 0, l, _, _ => by simpa [weighs] using sz_zero
  | i + 1, l, h, hl => by
    have ih := sz_weighs hn hm i l (by omega) hl
    have e1 : l[i]? = some l[i] := List.getElem?_eq_getElem (by omega)
    rw [weighs_take e1]
    have hp := hl l[i] (List.getElem_mem _)
    have le : i * (d + e) ≤ i * (n + m + 1) := Nat.mul_le_mul_left i (by omega)
    have := sz_add (N := i * (n + m + 1) + (n + m + 1)) ih (sz_mul hp.1 hp.2) (by omega) (by omega)
    exact this.mono (by rw [Nat.add_mul]; omega) (by rw [Nat.add_mul]; omega)
theorem sz_of_weighs {n d m e : Nat} {a b : List Rat} (hn : d ≤ n) (hm : e ≤ m) (ha : SzL n d a) (hb : SzL m e b) (hl : a.length = b.length) : Sz (1 + a.length * (n + m + 1)) (1 + a.length * (d + e)) (weighs (a.zip b)) := by
  have h := sz_weighs hn hm a.length (a.zip b) (by rw [List.length_zip]; omega) (fun p hp => ⟨ha _ (List.of_mem_zip hp).1, hb _ (List.of_mem_zip hp).2⟩)
  rwa [List.take_of_length_le (by rw [List.length_zip]; omega)] at h
/-! ### the greatest shared divisor, step by step -/
theorem gcd_step {a b : Int} (ha : 0 ≤ a) (hb : 0 < b) : Nat.gcd b.natAbs (a % b).natAbs = Nat.gcd a.natAbs b.natAbs := by
  have e : (a % b).natAbs = a.natAbs % b.natAbs := by
    rw [Int.natAbs_emod_of_nonneg ha]
  rw [e, Nat.gcd_comm a.natAbs, Nat.gcd_rec b.natAbs a.natAbs, Nat.gcd_comm]
end Nc
end
section
set_option maxRecDepth 100000
set_option maxHeartbeats 4000000
namespace Nc
open PySem L2 Evl PyProof.Rows
/-! ### what stands for a fraction, a row, a sum -/
def FrV (K : PySem.W.Frag) (H : Hp) (v : V) (r : Rat) : Prop := ∃ t, v = .ref t ∧ SqT K H t [.int r.num, .int (r.den : Int)]
abbrev FrL (K : PySem.W.Frag) (H : Hp) : List V → List Rat → Prop := Paired (FrV K H)
def RowV (K : PySem.W.Frag) (H : Hp) (v : V) (rs : List Rat) : Prop := ∃ t xs, v = .ref t ∧ SqT K H t xs ∧ FrL K H xs rs
def SumV (K : PySem.W.Frag) (H : Hp) (v : V) (s : Sum2) : Prop := ∃ t a b, v = .ref t ∧ SqT K H t [a, b] ∧ RowV K H a s.1 ∧ FrV K H b s.2
variable {K : PySem.W.Frag} {H H' : Hp}
theorem FrV.ex {v : V} {r : Rat} (e : Ex H H') (h : FrV K H v r) : FrV K H' v r := by
  obtain ⟨t, rfl, q⟩ := h
  exact ⟨t, rfl, ex_t e q⟩
theorem pmono {α β : Type} {F G : α → β → Prop} (h : ∀ a b, F a b → G a b) : ∀ {xs : List α} {ys : List β}, Paired F xs ys → Paired G xs ys
  | _, _, .nil => .nil
  | _, _, .cons a t => .cons (h _ _ a) (pmono h t)
theorem FrL.ex {xs : List V} {rs : List Rat} (e : Ex H H') (h : FrL K H xs rs) : FrL K H' xs rs := pmono (fun _ _ => FrV.ex e) h
theorem RowV.ex {v : V} {rs : List Rat} (e : Ex H H') (h : RowV K H v rs) : RowV K H' v rs := by
  obtain ⟨t, xs, rfl, q, l⟩ := h
  exact ⟨t, xs, rfl, ex_t e q, FrL.ex e l⟩
theorem SumV.ex {v : V} {s : Sum2} (e : Ex H H') (h : SumV K H v s) : SumV K H' v s := by
  obtain ⟨t, a, b, rfl, q, l, n⟩ := h
  exact ⟨t, a, b, rfl, ex_t e q, l.ex e, n.ex e⟩
theorem pget {α β : Type} {F : α → β → Prop} : ∀ {xs : List α} {ys : List β} {i : Nat} {x : α}, Paired F xs ys → xs[i]? = some x → ∃ y, ys[i]? = some y ∧ F x y
  | _, _, _, _, .nil, e => by simp at e
  | _, _, 0, _, .cons r _, e => by simp at e; subst e; exact ⟨_, rfl, r⟩
  | _, _, i + 1, x, .cons _ t, e => by
    obtain ⟨u, h1, h2⟩ := pget (i := i) (x := x) t (by simpa using e)
    exact ⟨u, by simpa using h1, h2⟩
theorem pget' {α β : Type} {F : α → β → Prop} : ∀ {xs : List α} {ys : List β} {i : Nat} {y : β}, Paired F xs ys → ys[i]? = some y → ∃ x, xs[i]? = some x ∧ F x y
  | _, _, _, _, .nil, e => by simp at e
  | _, _, 0, _, .cons r _, e => by simp at e; subst e; exact ⟨_, rfl, r⟩
  | _, _, i + 1, y, .cons _ t, e => by
    obtain ⟨u, h1, h2⟩ := pget' (i := i) (y := y) t (by simpa using e)
    exact ⟨u, by simpa using h1, h2⟩
/-! ### data -/
def fd (r : Rat) : PyData := .tuple [.int r.num, .int (r.den : Int)]
def sd (s : Sum2) : PyData := .tuple [.tuple (s.1.map fd), fd s.2]
theorem FrV.dp {v : V} {r : Rat} (h : FrV K H v r) : Dp K H v (fd r) := by
  obtain ⟨t, rfl, q⟩ := h
  exact .tup q (.cons (.int _) (.cons (.int _) .nil))
theorem FrL.dp : ∀ {xs : List V} {rs : List Rat}, FrL K H xs rs → DpAll K H xs (rs.map fd)
  | _, _, .nil => .nil
  | _, _, .cons a t => .cons a.dp (FrL.dp t)
theorem RowV.dp {v : V} {rs : List Rat} (h : RowV K H v rs) : Dp K H v (.tuple (rs.map fd)) := by
  obtain ⟨t, xs, rfl, q, l⟩ := h
  exact .tup q (FrL.dp l)
theorem SumV.dp {v : V} {s : Sum2} (h : SumV K H v s) : Dp K H v (sd s) := by
  obtain ⟨t, a, b, rfl, q, l, n⟩ := h
  exact .tup q (.cons l.dp (.cons n.dp .nil))
/-! ### shapes -/
theorem lay_fd (r : Rat) : (fd r).canLay0 = true := rfl
theorem layAll_fd : ∀ rs : List Rat, PyData.canLayAll0 (rs.map fd) = true
  | [] => rfl
  | r :: rs => by
    show ((fd r).canLay0 && PyData.canLayAll0 (rs.map fd)) = true
    rw [layAll_fd rs]
    rfl
end Nc
end
section
set_option maxRecDepth 100000
set_option maxHeartbeats 4000000
namespace Nc
open PySem L2 Evl PyProof.Rows
/-! ### a def of the top, with and without its promise -/
structure Df (K : PySem.W.Frag) (mg : Str → Option Value) (x : Str) (st : Stmt) (ps : List Str) : Prop where
  ex : ∃ f fd, mg x = some (.ref f) ∧ Fun K x x st f fd ∧ Binds K fd ps []
structure Ok (P : Program) (w : World) (K : PySem.W.Frag) (mg : Str → Option Value) (base : Heap) (k : Nat) (x : Str) (ps : List Str) (sp : Sp) : Prop where
  ex : ∃ f fd, mg x = some (.ref f) ∧ PySem.W.keepIn K (.ref f) = true ∧ FnOk P w K mg base CX0 k f fd ps sp ∧ Binds K fd ps []
theorem Df.ok {P : Program} {w : World} {K : PySem.W.Frag} {mg : Str → Option Value} {base : Heap} {k : Nat} {x : Str} {st : Stmt} {ps : List Str} {sp : Sp} (D : Df K mg x st ps)
    (h : ∀ f fd, Fun K x x st f fd → FnOk P w K mg base CX0 k f fd ps sp) : Ok P w K mg base k x ps sp := by
  obtain ⟨f, fd, g, F, b⟩ := D.ex
  exact ⟨f, fd, g, F.kp, h f fd F, b⟩
theorem Ok.mono {P : Program} {w : World} {K : PySem.W.Frag} {mg : Str → Option Value} {base : Heap} {j k : Nat} {x : Str} {ps : List Str} {sp : Sp} (D : Ok P w K mg base j x ps sp) (h : j ≤ k) : Ok P w K mg base k x ps sp := by
  obtain ⟨f, fd, g, kp, F, b⟩ := D.ex
  exact ⟨f, fd, g, kp, F.mono h, b⟩
theorem Df.of {K : PySem.W.Frag} {h : Heap} {mg : Str → Option Value} (X : K.In h) (G : h.Ns mainGlobals mg) {x : Str} {st : Stmt} {ps : List Str} {f : Addr} {oc : Value} {od an : Option Addr} {osl : Array (Option Value)} {kV doc pm cdv ct : Value}
    (a : PySem.W.nsIn K mainGlobals x = some (some (.ref f))) (l : K.lookup f = some ⟨oc, od, .func (PySem.W.fnOf x x (defArgs st) (defBody st) (defScope st) .none kV doc pm an cdv ct), osl⟩)
    (c : PySem.W.codeIn K cdv x = true) (k : PySem.W.keepIn K (.ref f) = true)
    (hb : ∀ (kV doc pm : Value) (an : Option Addr) (cdv ct : Value) (us : List Value), us.length = ps.length → bindArgs (PySem.W.fnOf x x (defArgs st) (defBody st) (defScope st) .none kV doc pm an cdv ct) ⟨us, []⟩ = pure (ps.zip us)) : Df K mg x st ps :=
  have F := fun_mk (st := st) l c k
  ⟨f, _, PySem.W.mg_of X G a, F, F.binds hb⟩
section
variable {X : Cx} {k : Nat} {x : Str} {ps : List Str} {sp : Sp} {e : Expr} {es : List Expr} {t : TA} {p pos : Pos}
/-- a call of such a def -/
theorem cl (D : Ok X.prog X.w X.K X.mg X.base k x ps sp) (hr : Room k X.A) (ha : PA X (e :: es) t) (hg : Gl X x := by rfl) (hdb : (x == ("__debug__" : Str)) = false := by decide)
    (he : starEach (e :: es) X.env = (false, eval e X.env) :: starEach es X.env := by rfl) (hpl : (backTo pos (starEach es X.env)).any (·.1) = false := by rfl) : PE X (.Call (.Name x p) (e :: es) [] pos) (tCall sp [] E0 t) := by
  obtain ⟨f, fd, g, kp, F, b⟩ := D.ex
  exact pe_call F hr hg g kp b .nil pass0 ha hdb he hpl
end
/-! ### small facts -/
theorem at0 {a : V} {l : List V} : atI (a :: l) 0 = some a := atI_nat (j := 0) rfl
theorem at1 {a b : V} {l : List V} : atI (a :: b :: l) 1 = some b := atI_nat (j := 1) rfl
theorem at2 {a b c : V} {l : List V} : atI (a :: b :: c :: l) 2 = some c := atI_nat (j := 2) rfl
theorem at3 {a b c d : V} {l : List V} : atI (a :: b :: c :: d :: l) 3 = some d := atI_nat (j := 3) rfl
theorem at_mem {xs : List V} {d : Int} (h0 : 0 ≤ d) (h1 : d < xs.length) : ∃ v, atI xs d = some v ∧ v ∈ xs := by
  have h : d.toNat < xs.length := by omega
  refine ⟨xs[d.toNat], ?_, List.getElem_mem _⟩
  have e : d = (d.toNat : Int) := by omega
  have q : atI xs (d.toNat : Int) = some xs[d.toNat] := atI_nat (List.getElem?_eq_getElem h)
  rw [← e] at q
  exact q
/-- * of two factors of together less than a hundred million bits -/
def CMulBig (i j : Int) : Prop := i.natAbs.log2 + j.natAbs.log2 < 100000000
theorem CMulBig.ok {i j : Int} (h : CMulBig i j) : IntMulOk i j := by
  have b : ∀ x : Int, Builtin.Int.intBits x ≤ x.natAbs.log2 + 1 := fun x => by
    unfold Builtin.Int.intBits
    split <;> omega
  have h1 := b i
  have h2 := b j
  have h3 : i.natAbs.log2 + j.natAbs.log2 < 100000000 := h
  have e : bitsLine = 134217728 := by decide
  unfold IntMulOk
  intro z
  rw [Bool.and_eq_true] at z
  have z2 := z.2
  unfold Builtin.Int.intTooBig at z2
  have z3 := of_decide_eq_true z2
  rw [e] at z3
  omega
theorem op_mulBig {X : Cx} : OpR X (binaryOp .Mult) (rI CMulBig fun i j => .int (i * j)) := opI fun _ _ _ _ _ _ _ hc q => mul_int q hc.ok
theorem wide_mulX {i j : Int} {a b : Nat} (ha : i.natAbs < 2 ^ a) (hb : j.natAbs < 2 ^ b) (h0 : 0 < a) (h1 : 0 < b) (h : a + b ≤ 100000000) : CMulBig i j := by
  have x := PySem.Flt.log2_lt_of h0 ha
  have y := PySem.Flt.log2_lt_of h1 hb
  unfold CMulBig
  omega
theorem noPylongX {x y : Int} (h : y.natAbs.log2 < 9000 ∨ x.natAbs.log2 < 13500) : Builtin.divisionGoesByPylong x y = false := by
  rcases h with h | h
  · exact PyProof.noPylong_of_log2 h
  · have hx : (if x == 0 then 0 else x.natAbs.log2 / 30 + 1) ≤ 450 := by
      split
      · exact Nat.zero_le _
      · omega
    have e : Builtin.divisionGoesByPylong x y = (decide ((if y == 0 then 0 else y.natAbs.log2 / 30 + 1) > 300) && decide ((if x == 0 then 0 else x.natAbs.log2 / 30 + 1) > (if y == 0 then 0 else y.natAbs.log2 / 30 + 1) + 150)) := rfl
    rw [e]
    generalize (if x == 0 then 0 else x.natAbs.log2 / 30 + 1) = a at hx
    generalize (if y == 0 then 0 else y.natAbs.log2 / 30 + 1) = b
    by_cases hb : b > 300
    · rw [decide_eq_false (show ¬ a > b + 150 by omega), Bool.and_false]
    · rw [decide_eq_false hb, Bool.false_and]
/-- // by a positive divisor, the divisor below 2 ^ 9000 or what is divided below 2 ^ 13500 -/
def CDivX (i j : Int) : Prop := 0 < j ∧ (j.natAbs.log2 < 9000 ∨ i.natAbs.log2 < 13500)
theorem op_fdivX {X : Cx} : OpR X (binaryOp .FloorDiv) (rI CDivX fun i j => .int (i / j)) := opI fun i j _ _ _ _ _ hc q => by
  have h1 : (0 : Int) < j := hc.1
  exact floordiv_int (by omega) (by rw [Int.fdiv_eq_ediv_of_nonneg i (by omega)]; exact q) (.inl (noPylongX hc.2))
theorem wide_divX {i j : Int} {n : Nat} (h : 0 < j) (hb : j.natAbs < 2 ^ n) (h0 : 0 < n) (hi : n ≤ 9000 ∨ i.natAbs < 2 ^ 13500) : CDivX i j :=
  ⟨h, hi.imp (fun z => Nat.lt_of_lt_of_le (PySem.Flt.log2_lt_of h0 hb) z) fun z => PySem.Flt.log2_lt_of (by decide) z⟩
/-- ** of any base, of few bits together -/
def CPowX (i j : Int) : Prop := 0 ≤ j ∧ (Builtin.Int.intBits i : Int) * j ≤ 2 ^ 27
theorem op_powX {X : Cx} : OpR X (binaryOp .Pow) (rI CPowX fun i j => .int (i ^ j.toNat)) := opI fun _ _ _ _ _ _ _ hc q => pow_int hc.1 hc.2 q
theorem mulOk {i j : Int} {a b : Nat} (ha : i.natAbs < 2 ^ a) (hb : j.natAbs < 2 ^ b) (h0 : 0 < a := by omega) (h1 : 0 < b := by omega) (h : a + b ≤ 100000000 := by omega) : CMulBig i j := wide_mulX ha hb h0 h1 h
section
variable {K : PySem.W.Frag} {σ : L2.St} {H : Hp}
/-- an item of a tuple that stands in a slot -/
theorem ix0 {i : Nat} {t : Addr} {a : V} {l : List V} (hs : σ[i]? = some (some (.ref t))) (q : SqT K H t (a :: l)) : Ev (tOp (rIxT K) (tVar i) (tC (.int 0))) σ H a := ev_op (ev_var hs) ev_c (rv_ixT q at0)
theorem ix1 {i : Nat} {t : Addr} {a b : V} {l : List V} (hs : σ[i]? = some (some (.ref t))) (q : SqT K H t (a :: b :: l)) : Ev (tOp (rIxT K) (tVar i) (tC (.int 1))) σ H b := ev_op (ev_var hs) ev_c (rv_ixT q at1)
end
theorem ix_tK {X : Cx} (K : PySem.W.Frag) (h : X.K = K := by rfl) : IxR X (rIxT K) := by
  subst h
  exact ix_tup
theorem ix_lK {X : Cx} (K : PySem.W.Frag) (h : X.K = K := by rfl) : IxR X (rIxL K) := by
  subst h
  exact ix_list
/-! ### promises of the fractions' defs -/
/-- a fraction of two whole numbers, the bottom above nought -/
def spPart (K : PySem.W.Frag) : Sp := fun vs H Q _ => ∃ (t b : Int) (n : Nat), vs = [.int t, .int b] ∧ 0 < b ∧ b.natAbs < 2 ^ n ∧ 0 < n ∧ (n ≤ 9000 ∨ (n ≤ 13500 ∧ t.natAbs < 2 ^ 13500)) ∧ ∀ v H', Ex H H' → FrV K H' v (Rat.divInt t b) → Q v H'
/-- two fractions, a third one of them -/
def sp2 (g : Rat → Rat → Rat) (K : PySem.W.Frag) : Sp := fun vs H Q _ => ∃ (x y : V) (r s : Rat) (n d m e : Nat), vs = [x, y] ∧ FrV K H x r ∧ FrV K H y s ∧ Sz n d r ∧ Sz m e s ∧ (0 < n ∧ 0 < d ∧ 0 < m ∧ 0 < e ∧ (d + e ≤ 8900 ∨ (d + e ≤ 13490 ∧ n + e ≤ 13490 ∧ m + d ≤ 13490 ∧ n + m ≤ 13490)) ∧ n + m + d + e ≤ 90000000) ∧ ∀ v H', Ex H H' → FrV K H' v (g r s) → Q v H'
abbrev spPlus := sp2 (· + ·)
abbrev spTimes := sp2 (· * ·)
theorem big_add {r s : Rat} {n d m e : Nat} (ha : Sz n d r) (hb : Sz m e s) (h : d + e ≤ 8900 ∨ (d + e ≤ 13490 ∧ n + e ≤ 13490 ∧ m + d ≤ 13490 ∧ n + m ≤ 13490)) : d + e ≤ 9000 ∨ (d + e ≤ 13500 ∧ (r.num * (s.den : Int) + s.num * (r.den : Int)).natAbs < 2 ^ 13500) := by
  refine h.imp (fun z => by omega) fun ⟨h1, h2, h3, _⟩ => ⟨by omega, ?_⟩
  have a := lt_mul ha.1 hb.den
  have b := lt_mul hb.1 ha.den
  have a' := lt_mono a h2
  have b' := lt_mono b h3
  refine Nat.lt_of_lt_of_le (m := 2 ^ 13491) ?_ (Nat.pow_le_pow_right (by decide) (by decide))
  have e : (2 : Nat) ^ 13491 = 2 ^ 13490 * 2 := Nat.pow_succ ..
  rw [e]
  generalize (2 : Nat) ^ 13490 = P at a' b'
  omega
theorem big_sub {r s : Rat} {n d m e : Nat} (ha : Sz n d r) (hb : Sz m e s) (h : d + e ≤ 8900 ∨ (d + e ≤ 13490 ∧ n + e ≤ 13490 ∧ m + d ≤ 13490 ∧ n + m ≤ 13490)) : d + e ≤ 9000 ∨ (d + e ≤ 13500 ∧ (r.num * (s.den : Int) - s.num * (r.den : Int)).natAbs < 2 ^ 13500) := by
  refine h.imp (fun z => by omega) fun ⟨h1, h2, h3, _⟩ => ⟨by omega, ?_⟩
  have a := lt_mul ha.1 hb.den
  have b := lt_mul hb.1 ha.den
  have a' := lt_mono a h2
  have b' := lt_mono b h3
  refine Nat.lt_of_lt_of_le (m := 2 ^ 13491) ?_ (Nat.pow_le_pow_right (by decide) (by decide))
  have e : (2 : Nat) ^ 13491 = 2 ^ 13490 * 2 := Nat.pow_succ ..
  rw [e]
  generalize (2 : Nat) ^ 13490 = P at a' b'
  omega
theorem big_mul {r s : Rat} {n d m e : Nat} (ha : Sz n d r) (hb : Sz m e s) (h : d + e ≤ 8900 ∨ (d + e ≤ 13490 ∧ n + e ≤ 13490 ∧ m + d ≤ 13490 ∧ n + m ≤ 13490)) : d + e ≤ 9000 ∨ (d + e ≤ 13500 ∧ (r.num * s.num).natAbs < 2 ^ 13500) :=
  h.imp (fun z => by omega) fun ⟨h1, _, _, h4⟩ => ⟨by omega, lt_mono (lt_mul ha.1 hb.1) (by omega)⟩
/-- a made pair is a fraction -/
theorem made {K : PySem.W.Frag} {H : Hp} {p : Addr} {a b : Int} {r : Rat} (e1 : a = r.num) (e2 : b = (r.den : Int)) : FrV K (upd H p (.tup [.int a, .int b])) (.ref p) r := ⟨p, rfl, by rw [e1, e2]; exact st_of upd_same⟩
/-- what one row weighs another -/
def spWeigh (K : PySem.W.Frag) : Sp := fun vs H Q _ => ∃ (x y : V) (rs ss : List Rat) (n d m e : Nat), vs = [x, y] ∧ RowV K H x rs ∧ RowV K H y ss ∧ rs.length = ss.length ∧ SzL n d rs ∧ SzL m e ss ∧
  (0 < d ∧ 0 < e ∧ d ≤ n ∧ e ≤ m ∧ 1 + rs.length * (d + e) ≤ 8900 ∧ 1 + rs.length * (n + m + 1) ≤ 400000) ∧ ∀ v H', Ex H H' → FrV K H' v (weighs (rs.zip ss)) → Q v H'
/-- what a sum tells at a row -/
def spTells (K : PySem.W.Frag) : Sp := fun vs H Q _ => ∃ (x y : V) (s : Sum2) (ss : List Rat) (n d m e : Nat), vs = [x, y] ∧ SumV K H x s ∧ RowV K H y ss ∧ s.1.length = ss.length ∧ SzL n d s.1 ∧ Sz n d s.2 ∧ SzL m e ss ∧
  (0 < d ∧ 0 < e ∧ d ≤ n ∧ e ≤ m ∧ 1 + s.1.length * (d + e) + d ≤ 8900 ∧ 1 + s.1.length * (n + m + 1) ≤ 400000 ∧ n ≤ 400000) ∧ ∀ v H', Ex H H' → FrV K H' v (tells s ss) → Q v H'
/-- a module's constant that is a fraction -/
structure Cst (K : PySem.W.Frag) (mg : Str → Option Value) (x : Str) (r : Rat) : Prop where
  ex : ∃ a, mg x = some (.ref a) ∧ ∀ H, FrV K H (.ref a) r
end Nc
end
section
set_option maxRecDepth 100000
set_option maxHeartbeats 4000000
namespace Nc
open PySem PySem.Spec PyProof.Rows L2
theorem tuple_mul1 (l : Addr) (items : Array Value) (n : Nat) (dd : Option Addr) (sl : Array (Option Value)) (u : Tok) :
    Meets (Builtin.«tuple.__mul__» ⟨[.ref l, .int 1 u], []⟩) (fun _ R s => s.heap.get? l = some { cls := .type "tuple", dict := dd, data := .seq items n, slots := sl } ∧
      R (.ok (.ret (Value.ref l))) s) :=
  .of_wp fun prog w A R s h => by
    obtain ⟨hp, g, d, tk, os⟩ := s
    obtain ⟨hl, h⟩ := h
    have f1 := AutoSeq1.idx_int
    wp_walk using wpAny_loadPart' hl
    repeat (first
      | (refine wpAny_ite_true (by simp) ?_; wp_walk using wpAny_loadPart' hl)
      | (refine wpAny_ite_false (by simp) ?_; wp_walk using wpAny_loadPart' hl))
    exact ⟨_, rfl, h⟩
theorem tuple_mul0 (l : Addr) (items : Array Value) (n : Nat) (dd : Option Addr) (sl : Array (Option Value)) (u : Tok) (c1 : items.isEmpty = false) :
    Meets (Builtin.«tuple.__mul__» ⟨[.ref l, .int 0 u], []⟩) (fun _ R s => s.heap.get? l = some { cls := .type "tuple", dict := dd, data := .seq items n, slots := sl } ∧
      R (.ok (.ret (Value.ref s.heap.objs.size))) { s with heap := s.heap.push { cls := Value.type "tuple", data := Data.seq #[] }, toks := s.toks }) :=
  .of_wp fun prog w A R s h => by
    obtain ⟨hp, g, d, tk, os⟩ := s
    obtain ⟨hl, h⟩ := h
    have f1 := AutoSeq1.idx_int
    wp_walk using wpAny_loadPart' hl
    repeat (first
      | (refine wpAny_ite_true (by simp) ?_; wp_walk using wpAny_loadPart' hl)
      | (refine wpAny_ite_false (by simp [c1]) ?_; wp_walk using wpAny_loadPart' hl))
    exact ⟨_, rfl, h⟩
def rRepA (K : PySem.W.Frag) : R2 := fun x y H Q => ∃ l k xs, x = .ref l ∧ y = .int k ∧ SqT K H l xs ∧ xs ≠ [] ∧ 0 ≤ k ∧ k ≤ 1000 ∧ xs.length ≤ 1000 ∧ ∀ p H', Evl.Ex H H' → SqT K H' p (List.replicate k.toNat xs).flatten → Q (.ref p) H'
theorem op_repA {X : Cx} : OpR X (binaryOp .Mult) (rRepA X.K) := by
  intro pins s σ H x y v u Q I rx ry h
  obtain ⟨l, k, xs, rfl, rfl, hT, hne, h1, h2, hz, q⟩ := h
  by_cases h3 : 2 ≤ k
  · exact op_repT pins s σ H _ _ v u Q I rx ry ⟨l, k, xs, rfl, rfl, hT, hne, h3, h2, hz, fun p hp => q p _ (Evl.Ex.new hp) (Evl.st_of upd_same)⟩
  cases rx
  obtain ⟨t, rfl⟩ := ry
  obtain ⟨its, r, ⟨⟨cls, dd, data, sl⟩, ho, hc, n, hd⟩, hs⟩ := I.tuple hT
  simp only at hc hd
  subst hc hd
  have hle : its.length = xs.length := r.length.symm
  have hn : its ≠ [] := fun e => hne (by
    rw [e] at hle
    exact List.eq_nil_of_length_eq_zero hle.symm)
  have hi : its.toArray.isEmpty = false := by
    cases its with
    | nil => exact absurd rfl hn
    | cons a b => rfl
  by_cases h4 : k = 1
  · subst h4
    refine wpAny_binaryOp_repeat_ref (T := "tuple") (U := "int") (by decide) ⟨_, ho, rfl⟩ (fun s' => typeIs_int s' 1 t) noFill_tuple_mul F.fills_int_mul F.slot_int_rmul repeat_tuple F.slot_int_index.lookup
      (call_meets F.slot_int_rmul (typeIs_int s 1 t) F.entry_int_rmul (F.args_int_rmul_2 _ _) (int_rmul_tuple 1 t l its.toArray n dd sl)
        ⟨ho, rfl, ⟨_, ho, rfl⟩, call_meets F.slot_tuple_mul ⟨_, ho, rfl⟩ F.entry_tuple_mul (F.args_tuple_mul_2 _ _) (tuple_mul1 l its.toArray n dd sl t) ⟨ho, ?_⟩⟩)
    refine ⟨.ref l, H, I, rfl, q l H (Evl.Ex.refl H) ?_⟩
    have e : (List.replicate (1 : Int).toNat xs).flatten = xs := by simp
    rw [e]
    exact hT
  · have h5 : k = 0 := by omega
    subst h5
    refine wpAny_binaryOp_repeat_ref (T := "tuple") (U := "int") (by decide) ⟨_, ho, rfl⟩ (fun s' => typeIs_int s' 0 t) noFill_tuple_mul F.fills_int_mul F.slot_int_rmul repeat_tuple F.slot_int_index.lookup
      (call_meets F.slot_int_rmul (typeIs_int s 0 t) F.entry_int_rmul (F.args_int_rmul_2 _ _) (int_rmul_tuple 0 t l its.toArray n dd sl)
        ⟨ho, rfl, ⟨_, ho, rfl⟩, call_meets F.slot_tuple_mul ⟨_, ho, rfl⟩ F.entry_tuple_mul (F.args_tuple_mul_2 _ _) (tuple_mul0 l its.toArray n dd sl t hi) ⟨ho, ?_⟩⟩)
    refine ⟨.ref s.heap.objs.size, _, I.laid (t' := s.toks) (o := .tup []) (fun b ob q => Heap.get?_push_of_some _ q) (Nat.le_refl _) ?_, rfl, q _ _ (Evl.Ex.new (I.hok.fresh (Nat.le_refl _))) (Evl.st_of upd_same)⟩
    exact ⟨Nat.zero_le _, [], .nil, IsTup.new _ _⟩
end Nc
end
section
set_option maxRecDepth 100000
set_option maxHeartbeats 4000000
namespace Nc
open PySem PySem.Spec PyProof.Rows L2 Evl
/-- a comprehension over zip of two tuples of one length -/
theorem lc_zipT {K : PySem.W.Frag} {a b : Addr} {xs ys : List V} {g : TG} {tt : TT} {te : TE} {vs : List Nat} {σ : L2.St} {H1 : Hp} {D : Addr} {Qd : Hp → Prop} (hl : xs.length = ys.length) (Pv : Nat → Hp → Prop) (h0 : Pv 0 (upd H1 D (.lst []))) (hq : ∀ i H, Pv i H → SqT K H a xs ∧ SqT K H b ys)
    (hs : ∀ (i : Nat) (x y : V) (T : Addr) (H : Hp), xs[i]? = some x → ys[i]? = some y → Pv i H → H T = none → g (.ref T) (wipe σ vs) (upd H T (.tup [x, y])) fun σ2 H2 => wipe σ2 vs = wipe σ vs ∧ tt σ2 H2 fun b H3 =>
      if b = true then te σ2 H3 fun y H4 => ∃ acc, H4 D = some (.lst acc) ∧ acc.length < sizeLine ∧ Pv (i + 1) (upd H4 D (.lst (acc ++ [y]))) else Pv (i + 1) H3) (hd : ∀ H, Pv xs.length H → Qd H) :
    ∃ W : Nat → Nat → Hp → Prop, (∃ m, W 0 m (upd H1 D (.lst []))) ∧ ∀ i m H, W i m H →
      ((RZ.ItzT K a b).stop i H ∧ Qd H) ∨ ((RZ.ItzT K a b).go i H ∧ ∃ Nx : Hp → Prop, (∀ H', Nx H' → ∃ m', m' < m ∧ W (i + 1) m' H') ∧ ∀ x H', (RZ.ItzT K a b).yld i H x H' → g x (wipe σ vs) H' fun σ2 H2 => wipe σ2 vs = wipe σ vs ∧ tt σ2 H2 fun b H3 =>
        if b = true then te σ2 H3 fun y H4 => ∃ acc, H4 D = some (.lst acc) ∧ acc.length < sizeLine ∧ Nx (upd H4 D (.lst (acc ++ [y]))) else Nx H3) := by
  refine ⟨fun i m H => m = xs.length - i ∧ i ≤ xs.length ∧ Pv i H, ⟨xs.length, rfl, Nat.zero_le _, h0⟩, ?_⟩
  rintro i m H ⟨rfl, hi, p⟩
  obtain ⟨qx, qy⟩ := hq i H p
  by_cases hlt : i < xs.length
  · have hx : xs[i]? = some xs[i] := List.getElem?_eq_getElem hlt
    have hlt2 : i < ys.length := by omega
    have hy : ys[i]? = some ys[i] := List.getElem?_eq_getElem hlt2
    refine .inr ⟨⟨xs, ys, _, _, qx, qy, hx, hy⟩, Pv (i + 1), fun H' p' => ⟨xs.length - (i + 1), by omega, rfl, hlt, p'⟩, fun v H' y => ?_⟩
    obtain ⟨T, x', y', rfl, hT, rfl, f1, f2⟩ := y
    exact hs i x' y' T H (f1 xs qx) (f2 ys qy) p hT
  · have e : i = xs.length := by omega
    subst e
    exact .inl ⟨⟨xs, ys, qx, qy, Or.inl (Nat.le_refl _)⟩, hd H p⟩
section
variable {K : PySem.W.Frag} {H H' H1 H4 : Hp} {D : Addr}
/-- a tuple stands as it stood where a list changes -/
theorem sqt_mut {t : Addr} {xs ys : List V} {o : HO} (hD : H D = some (.lst xs)) (h : SqT K H t ys) : SqT K (upd H D o) t ys := by
  rcases h with (h | ⟨ob, h⟩) | h
  · exact .inl (.inl (by rw [upd_ne (ne_of h hD (by intro z; cases z))]; exact h))
  · exact .inl (.inr ⟨ob, by rw [upd_ne (ne_of h hD (by intro z; cases z))]; exact h⟩)
  · exact .inr h
theorem FrV.mut {xs : List V} {o : HO} {v : V} {r : Rat} (hD : H D = some (.lst xs)) (h : FrV K H v r) : FrV K (upd H D o) v r := by
  obtain ⟨t, rfl, q⟩ := h
  exact ⟨t, rfl, sqt_mut hD q⟩
theorem RowV.mut {xs : List V} {o : HO} {v : V} {r : List Rat} (hD : H D = some (.lst xs)) (h : RowV K H v r) : RowV K (upd H D o) v r := by
  obtain ⟨t, ys, rfl, q, l⟩ := h
  exact ⟨t, ys, rfl, sqt_mut hD q, pmono (fun _ _ => FrV.mut hD) l⟩
theorem SumV.mut {xs : List V} {o : HO} {v : V} {s : Sum2} (hD : H D = some (.lst xs)) (h : SumV K H v s) : SumV K (upd H D o) v s := by
  obtain ⟨t, a, b, rfl, q, l, n⟩ := h
  exact ⟨t, a, b, rfl, sqt_mut hD q, l.mut hD, n.mut hD⟩
/-- what a comprehension has built of things of a kind R behind i turns -/
def Bld {α : Type} (R : Hp → V → α → Prop) (H1 : Hp) (D : Addr) (L : List α) (i : Nat) (H' : Hp) : Prop := Ex H1 H' ∧ ∃ xs, H' D = some (.lst xs) ∧ xs.length = i ∧ Paired (R H') xs (L.take i)
/-- a kind of things that stay as they are where the heap grows, where a list changes -/
structure Stays {α : Type} (R : Hp → V → α → Prop) : Prop where
  ex : ∀ {H H' v a}, Ex H H' → R H v a → R H' v a
  mt : ∀ {H D xs o v a}, H D = some (.lst xs) → R H v a → R (upd H D o) v a
theorem stF : Stays (FrV K) := ⟨FrV.ex, FrV.mut⟩
theorem stR : Stays (RowV K) := ⟨RowV.ex, RowV.mut⟩
theorem stS : Stays (SumV K) := ⟨SumV.ex, SumV.mut⟩
theorem bld0 {α : Type} {R : Hp → V → α → Prop} {L : List α} (hD : H1 D = none) : Bld R H1 D L 0 (upd H1 D (.lst [])) := ⟨Ex.new hD, [], upd_same, rfl, .nil⟩
theorem bld_step {α : Type} {R : Hp → V → α → Prop} (S : Stays R) {L : List α} {i : Nat} {v : V} {a : α} (hD : H1 D = none) (b : Bld R H1 D L i H') (e : Ex H' H4) (hi : L[i]? = some a) (hz : i < 100000) (hv : R H4 v a) :
    ∃ acc, H4 D = some (.lst acc) ∧ acc.length < sizeLine ∧ Bld R H1 D L (i + 1) (upd H4 D (.lst (acc ++ [v]))) := by
  obtain ⟨e1, xs, hx, hl, p⟩ := b
  have h4 := e D _ hx
  refine ⟨xs, h4, sz_lt (by omega), Ex.mut (e1.trans e) hD, xs ++ [v], upd_same, by simp [hl], ?_⟩
  rw [List.take_add_one, hi]
  exact Paired.snoc (pmono (fun _ _ q => S.mt h4 (S.ex e q)) p) (S.mt h4 hv)
theorem bld_end {α : Type} {R : Hp → V → α → Prop} {L : List α} {n : Nat} (hn : n = L.length) (b : Bld R H1 D L n H') : Ex H1 H' ∧ ∃ xs, H' D = some (.lst xs) ∧ Paired (R H') xs L := by
  obtain ⟨e1, xs, hx, hl, p⟩ := b
  refine ⟨e1, xs, hx, ?_⟩
  rwa [hn, List.take_length] at p
/-- the tuple made of what was built -/
theorem bld_row {L : List Rat} {n : Nat} {l : Addr} {xs : List V} (hx : H' D = some (.lst xs)) (p : FrL K H' xs L) (hl : H' l = none) : RowV K (upd H' l (.tup xs)) (.ref l) L :=
  ⟨l, xs, rfl, st_of upd_same, FrL.ex (Ex.new hl) p⟩
end
/-! ### promises of the sums' defs -/
def spSumP (K : PySem.W.Frag) : Sp := fun vs H Q _ => ∃ (x y : V) (s t : Sum2) (n d m e : Nat), vs = [x, y] ∧ SumV K H x s ∧ SumV K H y t ∧ s.1.length = t.1.length ∧ s.1.length ≤ 100 ∧ SzL n d s.1 ∧ Sz n d s.2 ∧ SzL m e t.1 ∧ Sz m e t.2 ∧
  (0 < n ∧ 0 < d ∧ 0 < m ∧ 0 < e ∧ (d + e ≤ 8900 ∨ (d + e ≤ 13490 ∧ n + e ≤ 13490 ∧ m + d ≤ 13490 ∧ n + m ≤ 13490)) ∧ n + m + d + e ≤ 90000000) ∧ ∀ v H', Ex H H' → SumV K H' v (splus s t) → Q v H'
def spSumT (K : PySem.W.Frag) : Sp := fun vs H Q _ => ∃ (x y : V) (r : Rat) (t : Sum2) (n d m e : Nat), vs = [x, y] ∧ FrV K H x r ∧ SumV K H y t ∧ t.1.length ≤ 100 ∧ Sz n d r ∧ SzL m e t.1 ∧ Sz m e t.2 ∧
  (0 < n ∧ 0 < d ∧ 0 < m ∧ 0 < e ∧ (d + e ≤ 8900 ∨ (d + e ≤ 13490 ∧ n + e ≤ 13490 ∧ m + d ≤ 13490 ∧ n + m ≤ 13490)) ∧ n + m + d + e ≤ 90000000) ∧ ∀ v H', Ex H H' → SumV K H' v (stimes r t) → Q v H'
def spFlat (K : PySem.W.Frag) : Sp := fun vs H Q _ => ∃ (k : Nat) (y : V) (r : Rat), vs = [.int (k : Int), y] ∧ FrV K H y r ∧ k ≤ 100 ∧ ∀ v H', Ex H H' → SumV K H' v (List.replicate k 0, r) → Q v H'
/-- the row with 1 at a place -/
def unit (k p : Nat) : List Rat := (List.range k).map fun i => if i = p then 1 else 0
def spPlace (K : PySem.W.Frag) : Sp := fun vs H Q _ => ∃ (k p : Nat), vs = [.int (k : Int), .int (p : Int)] ∧ k ≤ 100 ∧ ∀ v H', Ex H H' → SumV K H' v (unit k p, 0) → Q v H'
end Nc
end
section
set_option maxRecDepth 100000
set_option maxHeartbeats 4000000
namespace Nc
open PySem PySem.Spec PyProof.Rows L2 Evl
/-! ### the stream: a list of three whole numbers at s, that alone changes -/
def Stm (s : Addr) (H : Hp) : Prop := ∃ a b c : Int, H s = some (.lst [.int a, .int b, .int c])
structure Dr (s : Addr) (H H' : Hp) : Prop where
  keep : ∀ a o, a ≠ s → H a = some o → H' a = some o
  st : Stm s H'
section
variable {K : PySem.W.Frag} {s p : Addr} {H H' H2 : Hp}
theorem Dr.refl (h : Stm s H) : Dr s H H := ⟨fun _ _ _ q => q, h⟩
theorem Dr.trans (a : Dr s H H') (b : Dr s H' H2) : Dr s H H2 := ⟨fun x o hx q => b.keep x o hx (a.keep x o hx q), b.st⟩
theorem Stm.ne (h : Stm s H) (hp : H p = none) : s ≠ p := by
  obtain ⟨a, b, c, e⟩ := h
  exact ne_of_none e hp
theorem Dr.new {o : HO} (h : Stm s H) (hp : H p = none) : Dr s H (upd H p o) := ⟨fun a u ha q => by rw [upd_ne (ne_of_none q hp)]; exact q, by
  obtain ⟨a, b, c, e⟩ := id h
  exact ⟨a, b, c, by rw [upd_ne (h.ne hp)]; exact e⟩⟩
/-- another list changes -/
theorem Dr.mut {o : HO} (d : Dr s H H') (hp : H p = none) (hs : s ≠ p) : Dr s H (upd H' p o) := ⟨fun a u ha q => by rw [upd_ne (ne_of_none q hp)]; exact d.keep a u ha q, by
  obtain ⟨a, b, c, e⟩ := d.st
  exact ⟨a, b, c, by rw [upd_ne hs]; exact e⟩⟩
theorem Dr.ex (h : Stm s H) (e : Ex H H') : Dr s H H' := ⟨fun a o _ q => e a o q, by
  obtain ⟨a, b, c, q⟩ := h
  exact ⟨a, b, c, e _ _ q⟩⟩
theorem sqt_dr {t : Addr} {xs : List V} (h : Stm s H) (d : Dr s H H') (q : SqT K H t xs) : SqT K H' t xs := by
  obtain ⟨a, b, c, e⟩ := h
  rcases q with (q | ⟨o, q⟩) | q
  · exact .inl (.inl (d.keep _ _ (ne_of q e (by intro z; cases z)) q))
  · exact .inl (.inr ⟨o, d.keep _ _ (ne_of q e (by intro z; cases z)) q⟩)
  · exact .inr q
theorem FrV.dr {v : V} {r : Rat} (h : Stm s H) (d : Dr s H H') (q : FrV K H v r) : FrV K H' v r := by
  obtain ⟨t, rfl, q⟩ := q
  exact ⟨t, rfl, sqt_dr h d q⟩
theorem FrL.dr {xs : List V} {rs : List Rat} (h : Stm s H) (d : Dr s H H') (q : FrL K H xs rs) : FrL K H' xs rs := pmono (fun _ _ => FrV.dr h d) q
theorem RowV.dr {v : V} {rs : List Rat} (h : Stm s H) (d : Dr s H H') (q : RowV K H v rs) : RowV K H' v rs := by
  obtain ⟨t, xs, rfl, q, l⟩ := q
  exact ⟨t, xs, rfl, sqt_dr h d q, FrL.dr h d l⟩
theorem SumV.dr {v : V} {z : Sum2} (h : Stm s H) (d : Dr s H H') (q : SumV K H v z) : SumV K H' v z := by
  obtain ⟨t, a, b, rfl, q, l, n⟩ := q
  exact ⟨t, a, b, rfl, sqt_dr h d q, l.dr h d, n.dr h d⟩
/-- the stream's list changes -/
theorem Dr.put {xs : List V} {a b c : Int} (h : H s = some (.lst xs)) : Dr s H (upd H s (.lst [.int a, .int b, .int c])) := ⟨fun x o hx q => by rw [upd_ne hx]; exact q, ⟨a, b, c, upd_same⟩⟩
end
theorem b01 (k : Bool) : -(2 ^ 64) < (if k = true then (1 : Int) else 0) ∧ (if k = true then (1 : Int) else 0) < 2 ^ 64 := by
  cases k <;> decide
theorem modb (x : Int) {m : Int} (h : 0 < m) (hm : m ≤ 2 ^ 64) : -(2 ^ 64) < x % m ∧ x % m < 2 ^ 64 := by
  have h1 := Int.emod_nonneg x (b := m) (by omega)
  have h2 := Int.emod_lt_of_pos x h
  omega
theorem cdivT {i m : Int} (h : 0 < m) (hm : m < 2 ^ 200) : CDivW i m := wide_div (b := 200) h (by omega) (by decide) (by decide)
/-! ### promises of what is drawn -/
def spCell (K : PySem.W.Frag) : Sp := fun vs H Q _ => ∃ (a : Addr) (ns : List Int) (k : Nat), vs = [.ref a, .int (k : Int)] ∧ SqL K H a (ns.map V.int) ∧ k ≤ 100 ∧ ∀ c : Int, Q (.int c) H
def spStream : Sp := fun vs H Q _ => ∃ c : Int, vs = [.int c] ∧ ∀ s a b d, H s = none → Q (.ref s) (upd H s (.lst [.int a, .int b, .int d]))
def spTake : Sp := fun vs H Q _ => ∃ (s : Addr) (m : Int), vs = [.ref s, .int m] ∧ Stm s H ∧ 0 < m ∧ m < 2 ^ 200 ∧ ∀ d H', 0 ≤ d → d < m → Dr s H H' → Q (.int d) H'
/-- a whole number above nought, below a bound -/
def spDraw (n : Nat) : Sp := fun vs H Q _ => ∃ s : Addr, vs = [.ref s] ∧ Stm s H ∧ ∀ d H', 0 < d → d.natAbs < 2 ^ n → Dr s H H' → Q (.int d) H'
/-- a fraction of that size -/
def spNum (K : PySem.W.Frag) (n d : Nat) : Sp := fun vs H Q _ => ∃ s : Addr, vs = [.ref s] ∧ Stm s H ∧ ∀ v r H', Dr s H H' → FrV K H' v r → Sz n d r → Q v H'
/-- a row of so many -/
def spRow (K : PySem.W.Frag) (n d : Nat) : Sp := fun vs H Q _ => ∃ (s : Addr) (k : Nat), vs = [.ref s, .int (k : Int)] ∧ Stm s H ∧ k ≤ 100 ∧ ∀ v L H', Dr s H H' → RowV K H' v L → L.length = k → SzL n d L → Q v H'
end Nc
end
section
set_option maxRecDepth 100000
set_option maxHeartbeats 4000000
namespace Nc
open PySem PySem.Spec PyProof.Rows L2 Evl
theorem depthAll_fd : ∀ rs : List Rat, PyData.depthAll (rs.map fd) ≤ 1
  | [] => Nat.zero_le _
  | r :: rs => by
    have ih := depthAll_fd rs
    show max (PyData.depth (fd r)) (PyData.depthAll (rs.map fd)) ≤ 1
    have : PyData.depth (fd r) = 1 := rfl
    omega
theorem lay_row (rs : List Rat) : (PyData.tuple (rs.map fd)).canLay0 = true := layAll_fd rs
theorem shaped_row (rs : List Rat) : SeqAt.shaped (.tuple (rs.map fd)) = true := by
  unfold SeqAt.shaped
  rw [lay_row, Bool.true_and]
  refine decide_eq_true ?_
  have := depthAll_fd rs
  show PyData.depthAll (rs.map fd) + 1 ≤ 64
  omega
theorem shaped_list (rs : List Rat) : SeqAt.shaped (.list (rs.map fd)) = true := by
  unfold SeqAt.shaped
  have h : (PyData.list (rs.map fd)).canLay0 = true := layAll_fd rs
  rw [h, Bool.true_and]
  refine decide_eq_true ?_
  have := depthAll_fd rs
  show PyData.depthAll (rs.map fd) + 1 ≤ 64
  omega
theorem shaped_fd (r : Rat) : SeqAt.shaped (fd r) = true := rfl
theorem lay_sd (s : Sum2) : (sd s).canLay0 = true := by
  show ((PyData.tuple (s.1.map fd)).canLay0 && ((fd s.2).canLay0 && true)) = true
  rw [lay_row]
  rfl
theorem shaped_sd (s : Sum2) : SeqAt.shaped (sd s) = true := by
  unfold SeqAt.shaped
  rw [lay_sd, Bool.true_and]
  refine decide_eq_true ?_
  have h1 := depthAll_fd s.1
  have h2 : PyData.depth (fd s.2) = 1 := rfl
  show max (PyData.depthAll (s.1.map fd) + 1) (max (PyData.depth (fd s.2)) 0) + 1 ≤ 64
  omega
theorem eqv_sd (s : Sum2) : PyData.eqv (sd s) (sd s) = true := SeqAt.eqv_refl _ (lay_sd s)
theorem eqv_fd (r : Rat) : PyData.eqv (fd r) (fd r) = true := SeqAt.eqv_refl _ rfl
theorem eqv_row (rs : List Rat) : PyData.eqv (.tuple (rs.map fd)) (.tuple (rs.map fd)) = true := SeqAt.eqv_refl _ (lay_row rs)
theorem eqv_list (rs : List Rat) : PyData.eqv (.list (rs.map fd)) (.list (rs.map fd)) = true := SeqAt.eqv_refl _ (layAll_fd rs)
/-- a tuple's type -/
theorem tyT {K : PySem.W.Frag} {H : Hp} {t : Addr} {xs : List V} (q : SqT K H t xs) : TyX K H (.ref t) (.type "tuple") := by
  rcases q with (q | ⟨o, q⟩) | ⟨o, its, n, h, hc, _⟩
  · exact .base (.tup q)
  · exact .fTuple q
  · exact .kTuple h hc
theorem tyI {K : PySem.W.Frag} {H : Hp} (i : Int) : TyX K H (.int i) (.type "int") := .base (.int i)
theorem sz_tells {n d m e : Nat} {s : Sum2} {row : List Rat} (hn : d ≤ n) (hm : e ≤ m) (ha : SzL n d s.1) (hb : SzL m e row) (hc : Sz n d s.2) (hl : s.1.length = row.length) : Sz (1 + s.1.length * (n + m + 1) + n + 1) (1 + s.1.length * (d + e) + d) (tells s row) := by
  have h := sz_of_weighs hn hm ha hb hl
  have le : s.1.length * (d + e) ≤ s.1.length * (n + m + 1) := Nat.mul_le_mul_left _ (by omega)
  exact sz_add (N := 1 + s.1.length * (n + m + 1) + n) h hc (by omega) (by omega)
theorem len_splus (s t : Sum2) (h : s.1.length = t.1.length) : (splus s t).1.length = s.1.length := by
  unfold splus
  simp
  omega
theorem len_stimes (q : Rat) (s : Sum2) : (stimes q s).1.length = s.1.length := by
  unfold stimes
  simp
theorem szl_splus {n d m e N : Nat} {s t : Sum2} (h1 : SzL n d s.1) (h2 : SzL m e t.1) (k1 : n + e ≤ N := by omega) (k2 : m + d ≤ N := by omega) : SzL (N + 1) (d + e) (splus s t).1 := by
  intro r hr
  unfold splus at hr
  obtain ⟨p, hp, rfl⟩ := List.mem_map.mp hr
  have := List.of_mem_zip hp
  exact sz_add (h1 _ this.1) (h2 _ this.2)
theorem szl_stimes {n d m e : Nat} {q : Rat} {s : Sum2} (h1 : Sz n d q) (h2 : SzL m e s.1) : SzL (n + m) (d + e) (stimes q s).1 := by
  intro r hr
  unfold stimes at hr
  obtain ⟨p, hp, rfl⟩ := List.mem_map.mp hr
  exact sz_mul h1 (h2 _ hp)
/-- the found sum is the due one, by its own kinds -/
def spWhole (K : PySem.W.Frag) : Sp := fun vs H Q _ => ∃ (x y : V) (s : Sum2), vs = [x, y] ∧ SumV K H x s ∧ SumV K H y s ∧ s.1.length ≤ 100 ∧ ∀ H', Ex H H' → Q (.bl true) H'
def spPlaces : Sp := fun vs H Q _ => ∃ k : Nat, vs = [.int (k : Int)] ∧ k ≤ 100 ∧ ∀ H', Ex H H' → Q (.bl true) H'
/-- all goes well, the stream alone changes -/
def spRight : Sp := fun vs H Q _ => ∃ s : Addr, vs = [.ref s] ∧ Stm s H ∧ ∀ H', (∀ a o, a ≠ s → H a = some o → H' a = some o) → Q (.bl true) H'
def spLaw (K : PySem.W.Frag) : Sp := fun vs H Q _ => ∃ (a : Addr) (ns : List Int), vs = [.ref a] ∧ SqL K H a (ns.map V.int) ∧ ns.length ≤ 63 ∧ ∀ H', Q (.bl true) H'
end Nc
end
section
set_option maxRecDepth 100000
set_option maxHeartbeats 4000000
namespace Nc
open PySem PySem.Spec PyProof.Rows L2 Evl
/-! ### a def's promise where no repr is under way around it -/
structure GOk (P : Program) (w : World) (K : PySem.W.Frag) (mg : Str → Option Value) (base : Heap) (k : Nat) (f : Addr) (fd : FuncData) (ps : List Str) (sp : Sp) : Prop where
  many : ∀ vs H Q E, sp vs H Q E → vs.length = ps.length
  go : ∀ (A : Around) (stack : List Env) (s : Shared) (H : Hp) (us : List Value) (vs : List V) (Q : VK), A.guards = some [] → Room k A → Env0 P w K mg base A stack s H →
    BindsTo s fd ⟨us, []⟩ (ps.zip us) → Vals vs us → sp vs H Q E0 → codeAny (model P w) A (.call (.ref f) ⟨us, []⟩) (CR CX0 stack P w H s Q E0) s
section
variable {P : Program} {w : World} {K : PySem.W.Frag} {mg : Str → Option Value} {base : Heap} {k : Nat} {f : Addr} {fd : FuncData} {x qual : Str} {st : Stmt} {N ps : List Str} {sp : Sp}
/-- by its body's term, which may say repr -/
theorem gok (F : Fun K x qual st f fd) (S : FnScope N ps (defScope st)) (many : ∀ vs H Q E, sp vs H Q E → vs.length = ps.length)
    (body : ∀ (cdv : Value) (A : Around) (stack : List Env) (s : Shared) (H : Hp) (vs : List V) (Q : VK) (_ : A.guards = some []) (_ : Room k (A.deeper (envOfC qual (defScope st) s.heap.objs.size f cdv))), sp vs H Q E0 →
      ∃ t, PSs (cxOf CX0 P w K mg base N qual (defScope st) f cdv A stack s H E0).nox (defBody st) t ∧ t ⟨fun _ H' => Q .non H', Q, fun _ _ => False, fun _ _ => False⟩ (start N vs) H) : GOk P w K mg base (k + 1) f fd ps sp := by
  obtain ⟨oc, od, kV, doc, pm, an, cdv, ct, osl, rfl, lk, hcd⟩ := F.ex
  constructor
  · exact many
  intro A stack s H us vs Q hG hR e0 hb rv hsp
  have sz := many _ _ _ _ hsp
  have inK : K.In s.heap := e0.mod.kin.keeps fun b o e => And.left (e0.bs b o e)
  have kinds : ∀ y ∈ ps.zip us, (defScope st).names.lookup y.1 = some .local ∨ ((defScope st).names.lookup y.1 = some .cell ∧ ((cellsFrom (s.heap.objs.size + 1) (defScope st).names []).lookup y.1).isSome = true) := by
    rintro ⟨n, v⟩ hy
    have hn := S.par n (List.of_mem_zip hy).1
    exact hn.imp id fun c => ⟨c, PySem.W.cellsFrom_some _ _ _ (.inl c)⟩
  obtain ⟨t, ht, hq⟩ := body cdv A stack s H vs Q hG (hR.deeper _) hsp
  apply codeAny_call_function (ho := inK _ _ lk) (hd' := rfl) (hco := S.co) (hgen := S.gen) (hbody := rfl) (hcd := PySem.W.codeRec_of inK hcd) hR.depth
  apply hb
  apply wpAny_newFunctionEnv_cells S.kind kinds
  rintro env rfl s1 x1
  constructor
  · exact (e0.mod.nolimit.keeps fun b o e => And.left (e0.bs b o e)).keeps x1.toInCall.keep
  apply codeAny_func
  have I := inv_start (CX := CX0) (E := E0) S hR.hd e0 sz rv x1
  refine wpAny_mono (ht.nox.run [] s1 _ H _ I hq) ?_ fun _ _ z => z
  have leave : ∀ {σ' : L2.St} {H' : Hp} {v : V} {u : Value} {s'' : Shared}, Inv (cxOf CX0 P w K mg base N qual (defScope st) f cdv A stack s H E0) [] σ' H' s'' → RelV v u → Q v H' → CE stack P w H s Q u s'' := fun J r z => ⟨_, _, J.os, J.bare, J.base, J.hok, r, z⟩
  rintro (_ | _ | _ | u) s2 hs
  all_goals first
    | (obtain ⟨_, _, J, z⟩ := hs; exact leave (v := .non) (u := .none) J rfl z)
    | (obtain ⟨_, _, _, J, r, z⟩ := hs; exact leave J r z)
    | (obtain ⟨_, _, _, z⟩ := hs; exact z.elim)
end
section
variable {X : Cx} {k : Nat} {f : Addr} {fd : FuncData} {ps : List Str} {sp : Sp} {x : Str} {e : Expr} {es : List Expr} {ta : TA} {p pos : Pos}
/-- a call of such a def, from where no repr is under way -/
theorem clG (F : GOk X.prog X.w X.K X.mg X.base k f fd ps sp) (hG : X.A.guards = some []) (hR : Room k X.A) (hm : X.mg x = some (.ref f)) (hk : PySem.W.keepIn X.K (.ref f) = true) (hb : Binds X.K fd ps []) (ha : PA X (e :: es) ta)
    (hg : Gl X x := by rfl) (hdb : (x == ("__debug__" : Str)) = false := by decide) (he : starEach (e :: es) X.env = (false, eval e X.env) :: starEach es X.env := by rfl) (hpl : (backTo pos (starEach es X.env)).any (·.1) = false := by rfl) :
    PE X (.Call (.Name x p) (e :: es) [] pos) (tCall sp [] E0 ta) := by
  constructor
  intro pins s σ H Q I h
  apply wpAny_Call_Name_kw
  apply ld_glob I hg hm (hd := hdb)
  apply PySem.W.callWith_K (h₀ := X.base) I.ok.mod.kin hk (he := he) (hplain := hpl)
  refine thn (ha.run pos pins s σ H _ I h) ?_
  rintro us s1 ⟨vs, H1, J, rv, z⟩
  refine ⟨J.kIn, ?_⟩
  have z' : sp vs H1 Q E0 := by simpa using z
  have sz : us.length = ps.length := by rw [← rv.length]; exact F.many _ _ _ _ z'
  have hb' := hb s1 us J.kIn (by simpa using sz)
  simp only [List.append_nil] at hb'
  apply wpAny_call
  refine codeAny_mono (F.go X.A X.stack s1 H1 us vs Q hG hR J.env0 hb' rv z') ?_
  rintro (_ | (_ | _ | _ | u)) s2 hr
  all_goals first
    | exact J.after hr
    | exact hr.elim
/-- repr of data -/
def rRepr (K : PySem.W.Frag) : List V → Hp → VK → Prop := fun vs H Q => ∃ v d, vs = [v] ∧ Dp K H v d ∧ (∃ a, v = .ref a) ∧ d.showable = true ∧ d.hasDict = false ∧ d.depth ≤ 60 ∧ d.shown.length ≤ sizeLine ∧ Q (.str d.shown) H
theorem call_reprD (hG : X.A.guards = some []) (hu : X.A.units + 64 < cLine) : CallR X (.builtin "repr") (rRepr X.K) := by
  intro pins s σ H vs us Q I rv h
  obtain ⟨v, d, rfl, hd, ⟨a, rfl⟩, h1, h2, h3, h4, q⟩ := h
  cases rv with
  | cons r rr =>
    cases rr
    cases r
    obtain ⟨as, R⟩ := Dp.reads I d _ _ hd rfl
    exact repr_of_reads' R h1 (fun z => by rw [h2] at z; cases z) hG (by omega) (fun _ _ z => z) (fun h' u tk kp => ⟨.str d.shown, H, I.kept (t' := tk) kp, ⟨u, rfl⟩, q⟩) h4
end
/-! ### the law's own call -/
/-- the script alone is tracked, and it only where the module doesn't write it -/
noncomputable def onlyA (K : PySem.W.Frag) (a : Addr) (ob : Obj) (xs : List V) : Hp := open Classical in fun b => if b = a ∧ K.lookup a = none then some (.frz ob (.lst xs)) else none
theorem onlyA_some {K : PySem.W.Frag} {a b : Addr} {ob : Obj} {xs : List V} {u : HO} (h : onlyA K a ob xs b = some u) : b = a ∧ K.lookup a = none ∧ u = .frz ob (.lst xs) := by
  unfold onlyA at h
  split at h
  · rename_i c
    exact ⟨c.1, c.2, (Option.some.inj h).symm⟩
  · cases h
theorem gcall {P : Program} {w : World} {K : PySem.W.Frag} {mg mb : Str → Option Value} {k : Nat} {fa a : Addr} {fd : FuncData} {x : Str} {sp : Sp} {s1 : Shared} {us : List Value} {ns : List Int} (inK : K.In s1.heap) (gl : s1.heap.Ns mainGlobals mg) (bl : s1.heap.Ns builtinsNs mb)
    (bb : ∀ y : Str, y ≠ "__name__" → mb y = bootBuiltins y) (nl : s1.heap.NoLimit) (ng : s1.gens = #[]) (at_ : s1.heap.get? a = some { cls := .type "list", data := .seq us.toArray }) (hints : IntsAre us ns) (sz : ns.length ≤ sizeLine) (hR : Room k callerA)
    (F : ∀ base : Heap, K.In base → base.Ns mainGlobals mg → GOk P w K mg base k fa fd [x] sp) (binds : ∀ (s : Shared) (u : Value), BindsTo s fd ⟨[u], []⟩ [(x, u)]) (hsp : ∀ H : Hp, SqL K H a (ns.map V.int) → sp [.ref a] H (fun v _ => v = .bl true) E0) :
    codeAny (model P w) callerA (.call (.ref fa) ⟨[.ref a], []⟩) (fun r s' => r = .ok (.ret (.bool true)) ∧ OldK s1.heap s'.heap ∧ s'.os = s1.os ∧ AllBare s'.gens) s1 := by
  have rv := vals_ints hints
  have ln := hints.length
  have okA : ObjOk P w (onlyA K a { cls := .type "list", data := .seq us.toArray } (ns.map V.int)) s1.heap a (.frz { cls := .type "list", data := .seq us.toArray } (.lst (ns.map V.int))) := ⟨at_, by simpa using sz, us, _, rv, at_⟩
  generalize hobj : ({ cls := .type "list", data := .seq us.toArray } : Obj) = ob at at_ okA
  generalize hH : onlyA K a ob (ns.map V.int) = H0 at okA
  have only : ∀ {b u}, H0 b = some u → b = a ∧ K.lookup a = none ∧ u = .frz ob (.lst (ns.map V.int)) := by
    subst hH
    exact onlyA_some
  have seq : SqL K H0 a (ns.map V.int) := by
    cases hk : K.lookup a with
    | none =>
      refine .inl (.inr ⟨ob, ?_⟩)
      rw [← hH]
      unfold onlyA
      rw [if_pos ⟨rfl, hk⟩]
    | some o =>
      have e := inK a o hk
      rw [at_] at e
      cases e
      subst hobj
      exact .inr ⟨_, us.toArray, _, hk, rfl, rfl, rfl, by rw [List.size_toArray, ln]; exact sz, by simpa using rv⟩
  have unseen : ∀ {b : Addr} {o : Obj}, s1.heap.get? b = some o → (b = a → False) → H0 b = none := by
    intro b o hb hn
    cases q : H0 b with
    | none => rfl
    | some u => exact (hn (only q).1).elim
  have kept : ∀ {b : Addr} {m : Str → Option Value}, s1.heap.Ns b m → (hidT s1.heap H0).Ns b m := by
    rintro b m ⟨o, es, ep, hb, hd, r⟩
    refine ⟨o, es, ep, hidT_get hb (unseen hb fun z => ?_), hd, r⟩
    rw [z, at_] at hb
    cases hb
    rw [← hobj] at hd
    cases hd
  have kIn : K.In (hidT s1.heap H0) := fun b o hb => hidT_get (inK b o hb) (by
    cases q : H0 b with
    | none => rfl
    | some u =>
      obtain ⟨rfl, n, _⟩ := only q
      rw [n] at hb
      cases hb)
  have limit : (hidT s1.heap H0).NoLimit := by
    obtain ⟨mc, h1, h2⟩ := nl
    exact ⟨mc, kept h1, h2⟩
  have hok : HOk P w H0 s1.heap := by
    intro b u hb
    obtain ⟨rfl, _, rfl⟩ := only hb
    exact okA
  have e0 : Env0 P w K mg (hidT s1.heap H0) callerA [] s1 H0 := by
    refine ⟨rfl, ⟨kIn, kept gl, ⟨mb, kept bl, bb⟩, limit⟩, fun b o e => of_hidT e, Nat.le_of_eq (hidT_size _ _), trivial, fun b hb => ?_, hok, .of_eq ng⟩
    cases hb
  refine codeAny_mono ((F _ kIn (kept gl)).go callerA [] s1 H0 [.ref a] [.ref a] _ rfl hR e0 (binds s1 (.ref a)) (.cons rfl .nil) (hsp H0 seq)) ?_
  rintro (_ | (_ | _ | _ | u)) s2 hr
  all_goals first
    | (obtain ⟨v, H2, os, bare, un, ok2, r2, rfl⟩ := hr
       obtain rfl : u = Value.bool true := r2
       refine ⟨rfl, OldK.of_keep fun b o hb => ?_, os, bare⟩
       cases q : H0 b with
       | none => exact un.keep b o hb q (fun z => by cases z) (by simp)
       | some y =>
         obtain ⟨rfl, _, rfl⟩ := only q
         have h3 := ok2 b _ (un.frzs b _ _ q)
         rw [at_] at hb
         cases hb
         exact h3.1)
    | exact hr.elim
theorem gwalk {l : PySem.W.OpenLaw} {n k : Nat} {q : Program} {loose : List Str} {XP : (Str → Option Value) → Heap → Prop} {YP : World → Heap → Prop} {d : DefRec} {K : Params → PySem.W.Frag} {sp : PySem.W.Frag → Sp} {x : Str} (most : l.most = some n) (sz : n ≤ sizeLine) (nodef : d.params.defaults = []) (hR : Room k callerA)
    (inK : ∀ (w : World) (h : Heap), YP w h → (K w.params).In h)
    (F : ∀ (w : World) (mg : Str → Option Value) (fa : Addr) (h : Heap), (K w.params).In h → h.Ns mainGlobals mg → mg d.name = some (.ref fa) →
      ∃ fd : FuncData, (∀ (s : Shared) (u : Value), BindsTo s fd ⟨[u], []⟩ [(x, u)]) ∧ ∀ base : Heap, (K w.params).In base → base.Ns mainGlobals mg → GOk l.prog w (K w.params) mg base k fa fd [x] (sp (K w.params)))
    (hsp : ∀ (K : PySem.W.Frag) (H : Hp) (a : Addr) (ns : List Int), ns.length ≤ n → SqL K H a (ns.map V.int) → sp K [.ref a] H (fun v _ => v = .bl true) E0) : PySem.W.WalkO q loose XP YP l.row.toRowW d [] (fun f vs => PySem.call f vs) := by
  apply Att.attach_call most nodef
  intro w s0 s1 mg mb fa o pm cd doc a us ns G Y ho hd hcd hmg hobj hints hl hg
  obtain ⟨fd, hb, hF⟩ := F w mg fa _ (inK w _ Y) G.T.g hmg
  exact gcall (inK w _ Y) G.T.g G.T.b G.T.builtins G.T.nolimit hg hobj hints (Nat.le_trans hl sz) hR hF hb fun H hS => hsp _ H a ns hl hS
end Nc
end
section
set_option maxRecDepth 100000
set_option maxHeartbeats 4000000
namespace Nc
open PySem PySem.Spec PyProof.Rows L2 Evl
/-! ### bottoms of either sign -/
theorem gcdI_dvd_left (t b : Int) : ((Nat.gcd t.natAbs b.natAbs : Nat) : Int) ∣ t := Int.ofNat_dvd_left.mpr (Nat.gcd_dvd_left _ _)
theorem gcdI_dvd_right (t b : Int) : ((Nat.gcd t.natAbs b.natAbs : Nat) : Int) ∣ b := Int.ofNat_dvd_left.mpr (Nat.gcd_dvd_right _ _)
theorem gcd_posZ {t b : Int} (hb : b ≠ 0) : (0 : Int) < ((Nat.gcd t.natAbs b.natAbs : Nat) : Int) := by
  have := Nat.gcd_pos_of_pos_right t.natAbs (n := b.natAbs) (by omega)
  omega
theorem gcd_leZ {t b : Int} (hb : b ≠ 0) : ((Nat.gcd t.natAbs b.natAbs : Nat) : Int).natAbs ≤ b.natAbs := by
  rw [Int.natAbs_natCast]
  exact Nat.gcd_le_right t.natAbs (n := b.natAbs) (by omega)
theorem num_neg {t b : Int} (hb : b < 0) : t.fdiv (-((Nat.gcd t.natAbs b.natAbs : Nat) : Int)) = (Rat.divInt t b).num := by
  rw [Int.fdiv_eq_ediv_of_dvd (Int.neg_dvd.mpr (gcdI_dvd_left t b)), Int.ediv_neg, Rat.num_divInt, Int.sign_eq_neg_one_of_neg hb, Int.gcd_comm]
  have : -1 * t = -t := by omega
  rw [this]
  exact (Int.neg_ediv_of_dvd (gcdI_dvd_left t b)).symm
theorem den_neg {t b : Int} (hb : b < 0) : b.fdiv (-((Nat.gcd t.natAbs b.natAbs : Nat) : Int)) = ((Rat.divInt t b).den : Int) := by
  rw [Int.fdiv_eq_ediv_of_dvd (Int.neg_dvd.mpr (gcdI_dvd_right t b)), Int.ediv_neg, Rat.den_divInt, if_neg (by omega), Int.gcd_comm]
  have e : ((b.natAbs : Nat) : Int) = -b := by omega
  rw [Int.natCast_ediv, e]
  exact (Int.neg_ediv_of_dvd (gcdI_dvd_right t b)).symm
theorem num_pos {t b : Int} (hb : 0 < b) : t.fdiv ((Nat.gcd t.natAbs b.natAbs : Nat) : Int) = (Rat.divInt t b).num := by
  rw [Int.fdiv_eq_ediv_of_dvd (gcdI_dvd_left t b)]
  exact num_div hb
theorem den_posI {t b : Int} (hb : 0 < b) : b.fdiv ((Nat.gcd t.natAbs b.natAbs : Nat) : Int) = ((Rat.divInt t b).den : Int) := by
  rw [Int.fdiv_eq_ediv_of_dvd (gcdI_dvd_right t b)]
  exact den_div hb
theorem sz_divZ {t b : Int} {n d : Nat} (hb : b ≠ 0) (ht : t.natAbs < 2 ^ n) (hz : b.natAbs < 2 ^ d) : Sz n d (Rat.divInt t b) := by
  by_cases h : 0 < b
  · exact sz_div h ht hz
  · have h2 : (0 : Int) < -b := by omega
    have e : Rat.divInt t b = Rat.divInt (-t) (-b) := by
      rw [Rat.divInt_eq_divInt_iff hb (by omega)]
      rw [Int.mul_neg, Int.neg_mul]
    rw [e]
    exact sz_div h2 (by omega) (by omega)
theorem cross {t b : Int} (hb : b ≠ 0) : (Rat.divInt t b).num * b = t * ((Rat.divInt t b).den : Int) := by
  have h := Rat.num_divInt_den (Rat.divInt t b)
  have hd := den_pos (Rat.divInt t b)
  rwa [Rat.divInt_eq_divInt_iff (by omega) hb] at h
theorem sub_is (r s : Rat) : Rat.divInt (r.num * (s.den : Int) - s.num * (r.den : Int)) ((r.den : Int) * (s.den : Int)) = r - s := by
  have h1 := den_pos r
  have h2 := den_pos s
  rw [← Rat.divInt_sub_divInt r.num s.num (by omega) (by omega), Rat.num_divInt_den, Rat.num_divInt_den]
theorem lt_sub {n : Nat} {i j : Int} (ha : i.natAbs < 2 ^ n) (hb : j.natAbs < 2 ^ n) : (i - j).natAbs < 2 ^ (n + 1) := by
  rw [Nat.pow_succ]
  omega
theorem weighs_comm : ∀ (a b : List Rat), weighs (a.zip b) = weighs (b.zip a)
  | [], b => by cases b <;> rfl
  | x :: a, [] => rfl
  | x :: a, y :: b => by
    simp only [List.zip_cons_cons, weighs_cons]
    rw [weighs_comm a b, Rat.mul_comm]
/-! ### // by any divisor below 2 ^ 9000; a text so many times -/
def CDivZ (_ j : Int) : Prop := j ≠ 0 ∧ j.natAbs.log2 < 9000
theorem op_fdivZ {X : Cx} : OpR X (binaryOp .FloorDiv) (rI CDivZ fun i j => .int (i.fdiv j)) := opI fun i j _ _ _ _ _ hc q => floordiv_int hc.1 q (.inl (PyProof.noPylong_of_log2 hc.2))
theorem cdivZ {i j : Int} {b : Nat} (h : j ≠ 0) (hb : j.natAbs < 2 ^ b) (h0 : 0 < b) (h9 : b ≤ 9000) : CDivZ i j := ⟨h, Nat.lt_of_lt_of_le (PySem.Flt.log2_lt_of h0 hb) h9⟩
theorem op_mulStr {X : Cx} {x : Str} {n : Int} (hr : (decide (n < -(2 ^ 63 : Int)) || decide (n ≥ 2 ^ 63)) = false) (h1 : ¬ n < 1) (h2 : (n == 1 || x.length == 0) = false)
    (hb : ¬ ((x.length : Int) > (2 ^ 63 - 1) / n)) (hl : Builtin.Str.tooLong (x.length * n.toNat) = false) :
    OpR X (binaryOp .Mult) (fun a b H Q => a = .str x ∧ b = .int n ∧ (⟨(List.replicate n.toNat x.cps).foldl (· ++ ·) #[]⟩ : Str).length ≤ sizeLine ∧ Q (.str ⟨(List.replicate n.toNat x.cps).foldl (· ++ ·) #[]⟩) H) := by
  intro pins s σ H a b v u Q I ra rb h
  obtain ⟨rfl, rfl, hz, q⟩ := h
  obtain ⟨t, rfl⟩ := ra
  obtain ⟨t2, rfl⟩ := rb
  refine PySem.P.mul_str hr (fun _ _ => hb) (fun _ _ => hl) ?_
  rw [if_neg h1, if_neg (by rw [h2]; decide)]
  exact ⟨hz, ⟨.str _, H, I.tok _, ⟨_, rfl⟩, q⟩⟩
end Nc
end
section
set_option maxRecDepth 100000
set_option maxHeartbeats 4000000
namespace Nc
open PySem PySem.Spec PyProof.Rows L2 Evl
/-! ### promises of k02's defs -/
def spPartZ (K : PySem.W.Frag) : Sp := fun vs H Q _ => ∃ (t b : Int) (n : Nat), vs = [.int t, .int b] ∧ b ≠ 0 ∧ b.natAbs < 2 ^ n ∧ 0 < n ∧ (n ≤ 9000 ∨ (n ≤ 13500 ∧ t.natAbs < 2 ^ 13500)) ∧ ∀ v H', Ex H H' → FrV K H' v (Rat.divInt t b) → Q v H'
theorem Ok.imp {P : Program} {w : World} {K : PySem.W.Frag} {mg : Str → Option Value} {base : Heap} {k : Nat} {x : Str} {ps : List Str} {sp sp' : Sp} (D : Ok P w K mg base k x ps sp) (h : ∀ vs H Q E, sp' vs H Q E → sp vs H Q E) : Ok P w K mg base k x ps sp' := by
  obtain ⟨f, fd, g, kp, F, b⟩ := D.ex
  exact ⟨f, fd, g, kp, F.imp h, b⟩
theorem part_imp {K : PySem.W.Frag} : ∀ vs H Q E, spPart K vs H Q E → spPartZ K vs H Q E := by
  rintro vs H Q E ⟨t, b, n, h1, h2, h3, h4, h5, q⟩
  exact ⟨t, b, n, h1, by omega, h3, h4, h5, q⟩
abbrev spMinus := sp2 (· - ·)
def spRatio (K : PySem.W.Frag) : Sp := fun vs H Q _ => ∃ (x y : V) (r s : Rat) (n d m e : Nat), vs = [x, y] ∧ FrV K H x r ∧ FrV K H y s ∧ Sz n d r ∧ Sz m e s ∧ s.num ≠ 0 ∧ (0 < n ∧ 0 < d ∧ 0 < m ∧ 0 < e ∧ d + m ≤ 8900 ∧ n + m + d + e ≤ 90000000) ∧
  ∀ v H', Ex H H' → FrV K H' v (Rat.divInt (r.num * (s.den : Int)) ((r.den : Int) * s.num)) → Q v H'
def spLess (K : PySem.W.Frag) : Sp := fun vs H Q _ => ∃ (x y : V) (r s : Rat) (n d m e : Nat), vs = [x, y] ∧ FrV K H x r ∧ FrV K H y s ∧ Sz n d r ∧ Sz m e s ∧ (0 < n ∧ 0 < d ∧ 0 < m ∧ 0 < e ∧ n + m + d + e ≤ 90000000) ∧ Q (.bl (decide (r.num * (s.den : Int) < s.num * (r.den : Int)))) H
/-- the greatest shared divisor -/
def spCommon : Sp := fun vs H Q _ => ∃ a b : Int, vs = [.int a, .int b] ∧ 0 ≤ a ∧ 0 < b ∧ Q (.int ((Nat.gcd a.natAbs b.natAbs : Nat) : Int)) H
/-- a whole number of so many bits at most -/
def spInt (n : Nat) : Sp := fun vs H Q _ => ∃ s : Addr, vs = [.ref s] ∧ Stm s H ∧ ∀ d H', d.natAbs < 2 ^ n → Dr s H H' → Q (.int d) H'
/-- the found fraction is that of a top and a bottom -/
def spIs (K : PySem.W.Frag) : Sp := fun vs H Q _ => ∃ (x : V) (t b : Int) (n : Nat), vs = [x, .int t, .int b] ∧ b ≠ 0 ∧ FrV K H x (Rat.divInt t b) ∧ t.natAbs < 2 ^ n ∧ b.natAbs < 2 ^ n ∧ 0 < n ∧ n ≤ 400000 ∧ ∀ H', Ex H H' → Q (.bl true) H'
def spPair (K : PySem.W.Frag) : Sp := fun vs H Q _ => ∃ (x y : V) (r s : Rat), vs = [x, y] ∧ FrV K H x r ∧ FrV K H y s ∧ Sz 2700 200 r ∧ Sz 2700 200 s ∧ ∀ H', Ex H H' → Q (.bl true) H'
/-- a row of at most six long ones, or of at most thirty-one short ones -/
def SzR (L : List Rat) : Prop := (L.length ≤ 6 ∧ SzL 1330 100 L) ∨ (L.length ≤ 31 ∧ SzL 4 4 L)
def spRow2 (K : PySem.W.Frag) : Sp := fun vs H Q _ => ∃ (s : Addr) (k : Nat), vs = [.ref s, .int (k : Int)] ∧ Stm s H ∧ k ≤ 31 ∧ ∀ v L H', Dr s H H' → RowV K H' v L → L.length = k → SzR L → (6 < k → SzL 4 4 L) → Q v H'
/-- what two rows come to, not divided -/
def spDue (K : PySem.W.Frag) : Sp := fun vs H Q _ => ∃ (x y : V) (a b : List Rat), vs = [x, y] ∧ RowV K H x a ∧ RowV K H y b ∧ a.length = b.length ∧ SzR a ∧ SzR b ∧ a.length ≤ 31 ∧
  ∀ (p : Addr) (t u : Int) H', Ex H H' → SqT K H' p [.int t, .int u] → 0 < u → weighs (a.zip b) = Rat.divInt t u → t.natAbs < 2 ^ 90000 → u.natAbs < 2 ^ 90000 → Q (.ref p) H'
end Nc
end
section
set_option maxRecDepth 100000
set_option maxHeartbeats 4000000
namespace Nc
open PySem PySem.Spec PyProof.Rows L2 Evl
/-! ### coarser rules: a new object by what it holds -/
def tTupE (t : TA) : TE := fun σ H Q => t σ H fun xs H1 => xs.length ≤ sizeLine ∧ ∀ p H2, H1 p = none → Ex H1 H2 → H2 p = some (.tup xs) → Q (.ref p) H2
def tLstE (t : TA) : TE := fun σ H Q => t σ H fun xs H1 => xs.length ≤ sizeLine ∧ ∀ p H2, H1 p = none → Ex H1 H2 → H2 p = some (.lst xs) → Q (.ref p) H2
def tDicE : TE := fun _ H Q => ∀ p H2, H p = none → Ex H H2 → H2 p = some (.dK []) → Q (.ref p) H2
section
variable {X : Cx} {es : List Expr} {t : TA} {pos : Pos}
theorem pe_tupE {x1} (h : PA X es t) : PE X (.Tuple es x1 pos) (tTupE t) := by
  constructor
  intro pins s σ H Q I hq
  refine wpAny_Tuple_spliced (thn (h.run _ pins s σ H _ I hq) ?_)
  rintro us s2 ⟨vs, H2, J, rv, sz, k⟩
  have fr := J.fresh
  refine ⟨rv.length ▸ sz, .ref _, _, J.laid (o := .tup vs) (t' := s2.toks) (fun _ _ => Heap.get?_push_of_some _) (Nat.le_refl _) ⟨sz, us, rv, _, Heap.get?_push_size _ rfl, rfl, _, rfl⟩, rfl, k _ _ fr (Ex.new fr) upd_same⟩
theorem pe_lstE (h : PA X es t) : PE X (.List es pos) (tLstE t) := by
  constructor
  intro pins s σ H Q I hq
  refine wpAny_List_spliced (thn (h.run _ pins s σ H _ I hq) ?_)
  rintro us s2 ⟨vs, H2, J, rv, sz, k⟩
  have fr := J.fresh
  refine ⟨rv.length ▸ sz, .ref _, _, J.laid (o := .lst vs) (t' := s2.toks) (fun _ _ => Heap.get?_push_of_some _) (Nat.le_refl _) ⟨sz, us, 0, rv, Heap.get?_push_size _ rfl⟩, rfl, k _ _ fr (Ex.new fr) upd_same⟩
theorem pe_dicE : PE X (.Dict [] [] pos) tDicE := ⟨fun pins s σ H Q I h => pe_dnewK.run pins s σ H Q I fun p hp => h p _ hp (Ex.new hp) upd_same⟩
def rCatE : R2 := fun x y H Q => ∃ l b xs zs, x = .ref l ∧ y = .ref b ∧ H l = some (.lst xs) ∧ H b = some (.lst zs) ∧ xs.length + zs.length ≤ sizeLine ∧ ∀ p H2, H p = none → Ex H H2 → H2 p = some (.lst (xs ++ zs)) → Q (.ref p) H2
theorem op_catE : OpR X (binaryOp .Add) rCatE := by
  intro pins s σ H x y v u Q I rx ry h
  obtain ⟨l, b, xs, zs, e1, e2, hH, hB, hz, q⟩ := h
  exact op_cat pins s σ H x y v u Q I rx ry ⟨l, b, xs, zs, e1, e2, hH, hB, hz, fun p hp => q p _ hp (Ex.new hp) upd_same⟩
def rSlE (K : PySem.W.Frag) : V → Option Int → Option Int → Hp → VK → Prop := fun x lo hi H Q => ∃ a xs, x = .ref a ∧ SqL K H a xs ∧ ∀ p H2, H p = none → Ex H H2 → H2 p = some (.lst (cutV xs lo hi)) → Q (.ref p) H2
theorem sl_listE : SlR X (rSlE X.K) := by
  intro pins s σ H x v vl vu lo hi sl Q I rx hs pl pu h
  obtain ⟨a, xs, e, hx, q⟩ := h
  exact sl_list pins s σ H x v vl vu lo hi sl Q I rx hs pl pu ⟨a, xs, e, hx, fun p hp => q p _ hp (Ex.new hp) upd_same⟩
def rTupE (K : PySem.W.Frag) : List V → Hp → VK → Prop := fun vs H Q => ∃ p ys, vs = [.ref p] ∧ SqL K H p ys ∧ ∀ l H2, H l = none → Ex H H2 → H2 l = some (.tup ys) → Q (.ref l) H2
theorem call_tupE : CallR X (.type "tuple") (rTupE X.K) := by
  intro pins s σ H vs us Q I r h
  obtain ⟨p, ys, e, hq, q⟩ := h
  exact call_tuple_of pins s σ H vs us Q I r ⟨p, ys, e, .inl ⟨hq, fun p hp => q p _ hp (Ex.new hp) upd_same⟩⟩
def rLstE (K : PySem.W.Frag) : List V → Hp → VK → Prop := fun vs H Q => ∃ p ys, vs = [.ref p] ∧ SqL K H p ys ∧ ∀ l H2, H l = none → Ex H H2 → H2 l = some (.lst ys) → Q (.ref l) H2
theorem call_lstE : CallR X (.type "list") (rLstE X.K) := by
  intro pins s σ H vs us Q I r h
  obtain ⟨p, ys, e, hq, q⟩ := h
  exact call_list_of pins s σ H vs us Q I r ⟨p, ys, e, .inl hq, fun p hp => q p _ hp (Ex.new hp) upd_same⟩
/-! ### a list == [] -/
def rEqNil (K : PySem.W.Frag) : R2 := fun x y H Q => ∃ a b xs, x = .ref a ∧ y = .ref b ∧ SqL K H a xs ∧ SqL K H b [] ∧ Q (.bl xs.isEmpty) H
theorem op_eqNil (hu : X.A.units + 64 < cLine) : OpR X (compareOp .Eq) (rEqNil X.K) := by
  intro pins s σ H x y v u Q I rx ry h
  obtain ⟨a, b, xs, rfl, rfl, ha, hb, q⟩ := h
  cases rx
  cases ry
  obtain ⟨its, r1, p1, _⟩ := I.list ha
  obtain ⟨its2, r2, p2, _⟩ := I.list hb
  cases r2
  cases r1 with
  | nil =>
    refine SeqAt.eq_listAt (e := fun _ => true) p1.isList p2.isList rfl (by omega) (fun j h1 _ => absurd h1 (Nat.not_lt_zero j)) ?_
    exact ⟨.bl true, H, I, rfl, q⟩
  | cons h1 h2 =>
    refine SeqAt.eq_list_lengthsAt p1.isList p2.isList (by simp) (by omega) ?_
    exact ⟨.bl false, H, I, rfl, q⟩
end
/-! ### a def of the top whose promise holds where no repr is under way -/
structure GO (P : Program) (w : World) (K : PySem.W.Frag) (mg : Str → Option Value) (base : Heap) (k : Nat) (x : Str) (ps : List Str) (sp : Sp) : Prop where
  ex : ∃ f fd, mg x = some (.ref f) ∧ PySem.W.keepIn K (.ref f) = true ∧ GOk P w K mg base k f fd ps sp ∧ Binds K fd ps []
theorem Df.go {P : Program} {w : World} {K : PySem.W.Frag} {mg : Str → Option Value} {base : Heap} {k : Nat} {x : Str} {st : Stmt} {ps : List Str} {sp : Sp} (D : Df K mg x st ps)
    (h : ∀ f fd, Fun K x x st f fd → GOk P w K mg base k f fd ps sp) : GO P w K mg base k x ps sp := by
  obtain ⟨f, fd, g, F, b⟩ := D.ex
  exact ⟨f, fd, g, F.kp, h f fd F, b⟩
section
variable {X : Cx} {k : Nat} {x : Str} {ps : List Str} {sp : Sp} {e : Expr} {es : List Expr} {t : TA} {p pos : Pos}
theorem clg (D : GO X.prog X.w X.K X.mg X.base k x ps sp) (hG : X.A.guards = some []) (hr : Room k X.A) (ha : PA X (e :: es) t) (hg : Gl X x := by rfl) (hdb : (x == ("__debug__" : Str)) = false := by decide)
    (he : starEach (e :: es) X.env = (false, eval e X.env) :: starEach es X.env := by rfl) (hpl : (backTo pos (starEach es X.env)).any (·.1) = false := by rfl) : PE X (.Call (.Name x p) (e :: es) [] pos) (tCall sp [] E0 t) := by
  obtain ⟨f, fd, g, kp, F, b⟩ := D.ex
  exact clG F hG hr g kp b ha hg hdb he hpl
end
/-! ### kinds -/
inductive Kn where
  | non | bl | int | str | tup | lst | dic
  deriving DecidableEq
def Kn.nm : Kn → String
  | .non => "NoneType" | .bl => "bool" | .int => "int" | .str => "str" | .tup => "tuple" | .lst => "list" | .dic => "dict"
def KdV (K : PySem.W.Frag) (H : Hp) (v : V) (k : Kn) : Prop := TyX K H v (.type k.nm) ∧ (k = .int → ∃ i, v = .int i)
theorem kd_int (k : Kn) : kitB k.nm "int" = some (decide (k = .int) || decide (k = .bl)) := by cases k <;> decide +kernel
theorem kd_bool (k : Kn) : kitB k.nm "bool" = some (decide (k = .bl)) := by cases k <;> decide +kernel
theorem kd_tup (k : Kn) : kitB k.nm "tuple" = some (decide (k = .tup)) := by cases k <;> decide +kernel
section
variable {K : PySem.W.Frag} {H H' : Hp} {s : Addr}
theorem tyL {t : Addr} {xs : List V} (q : SqL K H t xs) : TyX K H (.ref t) (.type "list") := by
  rcases q with (q | ⟨o, q⟩) | ⟨o, us, n, hk, hc, _⟩
  · exact .base (.lst q)
  · exact .base (.frz q)
  · exact .kList hk (by assumption)
/-- a small thing -/
inductive Lf : V → Prop
  | non : Lf .non
  | bl (b : Bool) : Lf (.bl b)
  | int (i : Int) (h : i.natAbs < 2 ^ 250) : Lf (.int i)
  | str (x : Str) (h : x ∈ [("1" : Str), "1/2", "", "a", "a b", "late", "b", "c"]) : Lf (.str x)
theorem Lf.kd {v : V} (h : Lf v) : ∃ k, KdV K H v k ∧ k ≠ .tup := by
  cases h with
  | non => exact ⟨.non, ⟨.base .non, fun z => by cases z⟩, by decide⟩
  | bl b => exact ⟨.bl, ⟨.base (.bl b), fun z => by cases z⟩, by decide⟩
  | int i h => exact ⟨.int, ⟨.base (.int i), fun _ => ⟨i, rfl⟩⟩, by decide⟩
  | str x h => exact ⟨.str, ⟨.base (.str x), fun z => by cases z⟩, by decide⟩
/-- a thing as the law draws it: s is the stream -/
inductive Bt (K : PySem.W.Frag) (s : Addr) (H : Hp) : V → Prop
  | leaf {v} (h : Lf v) : Bt K s H v
  | tup {t xs} (q : SqT K H t xs) (h : ∀ x ∈ xs, Lf x) (n : xs.length ≤ 3) : Bt K s H (.ref t)
  | lst {a xs} (q : H a = some (.lst xs)) (e : a ≠ s) (h : ∀ x ∈ xs, Lf x) (n : xs.length ≤ 3) : Bt K s H (.ref a)
  | dic {a} (q : H a = some (.dK [])) : Bt K s H (.ref a)
  | two {t u xs} (q : SqT K H t [.ref u, .ref u]) (p : SqT K H u xs) (h : ∀ x ∈ xs, Lf x) (n : xs.length ≤ 3) : Bt K s H (.ref t)
theorem Bt.ex {v : V} (e : Ex H H') (h : Bt K s H v) : Bt K s H' v := by
  cases h with
  | leaf h => exact .leaf h
  | tup q h n => exact .tup (ex_t e q) h n
  | lst q d h n => exact .lst (e _ _ q) d h n
  | dic q => exact .dic (e _ _ q)
  | two q p h n => exact .two (ex_t e q) (ex_t e p) h n
theorem Bt.dr {v : V} (hs : Stm s H) (d : Dr s H H') (h : Bt K s H v) : Bt K s H' v := by
  cases h with
  | leaf h => exact .leaf h
  | tup q h n => exact .tup (sqt_dr hs d q) h n
  | lst q e h n => exact .lst (d.keep _ _ e q) e h n
  | dic q =>
    obtain ⟨a, b, c, e⟩ := id hs
    exact .dic (d.keep _ _ (ne_of q e (by intro z; cases z)) q)
  | two q p h n => exact .two (sqt_dr hs d q) (sqt_dr hs d p) h n
theorem FrV.bt {v : V} {r : Rat} (h : FrV K H v r) (z : Sz 250 250 r) : Bt K s H v := by
  obtain ⟨t, rfl, q⟩ := h
  refine .tup q (fun x hx => ?_) (by show 2 ≤ 3; decide)
  simp only [List.mem_cons, List.not_mem_nil, or_false] at hx
  rcases hx with rfl | rfl
  · exact .int _ z.1
  · exact .int _ z.den
/-- whether a thing is a fraction -/
inductive Th (K : PySem.W.Frag) (H : Hp) : V → Bool → Prop
  | oth {v k} (h : KdV K H v k) (n : k ≠ .tup) : Th K H v false
  | tupN {t xs} (q : SqT K H t xs) (n : xs.length ≠ 2) : Th K H (.ref t) false
  | two {t x y kx ky} (q : SqT K H t [x, y]) (hx : KdV K H x kx) (hy : KdV K H y ky) (n : ¬ (kx = .int ∧ ky = .int)) : Th K H (.ref t) false
  | nums {t a b} (q : SqT K H t [.int a, .int b]) : Th K H (.ref t) (decide (0 < b) && decide (Nat.gcd a.natAbs b.natAbs = 1))
theorem th_tup {t : Addr} {xs : List V} (q : SqT K H t xs) (h : ∀ x ∈ xs, ∃ k, KdV K H x k) : ∃ b, Th K H (.ref t) b := by
  match xs, q, h with
  | [], q, _ => exact ⟨_, .tupN q (by simp)⟩
  | [_], q, _ => exact ⟨_, .tupN q (by simp)⟩
  | _ :: _ :: _ :: _, q, _ => exact ⟨_, .tupN q (by simp)⟩
  | [x, y], q, h =>
    obtain ⟨kx, hx⟩ := h x (by simp)
    obtain ⟨ky, hy⟩ := h y (by simp)
    by_cases e : kx = .int ∧ ky = .int
    · obtain ⟨a, rfl⟩ := hx.2 e.1
      obtain ⟨b, rfl⟩ := hy.2 e.2
      exact ⟨_, .nums q⟩
    · exact ⟨_, .two q hx hy e⟩
theorem Bt.th {v : V} (h : Bt K s H v) : ∃ b, Th K H v b := by
  cases h with
  | leaf h =>
    obtain ⟨k, hk, n⟩ := h.kd (K := K) (H := H)
    exact ⟨_, .oth hk n⟩
  | tup q h n => exact th_tup q fun x hx => (h x hx).kd.imp fun _ => And.left
  | lst q e h n => exact ⟨_, .oth (k := .lst) ⟨tyL (sq_of q), fun z => by cases z⟩ (by decide)⟩
  | dic q => exact ⟨_, .oth (k := .dic) ⟨.base (.dK q), fun z => by cases z⟩ (by decide)⟩
  | two q p h n =>
    refine th_tup q fun x hx => ?_
    simp only [List.mem_cons, List.not_mem_nil, or_false, or_self] at hx
    subst hx
    exact ⟨.tup, tyT p, fun z => by cases z⟩
theorem Bt.kd {v : V} (h : Bt K s H v) : ∃ k, KdV K H v k := by
  cases h with
  | leaf h => exact h.kd.imp fun _ => And.left
  | tup q h n => exact ⟨.tup, tyT q, fun z => by cases z⟩
  | lst q e h n => exact ⟨.lst, tyL (sq_of q), fun z => by cases z⟩
  | dic q => exact ⟨.dic, .base (.dK q), fun z => by cases z⟩
  | two q p h n => exact ⟨.tup, tyT q, fun z => by cases z⟩
end
/-! ### repr of such things -/
/-- what repr of v tells here -/
inductive Rp (K : PySem.W.Frag) (H : Hp) : V → Str → Prop
  | non : Rp K H .non "None"
  | bl (b : Bool) : Rp K H (.bl b) (if b then "True" else "False")
  | int (i : Int) (h : i.natAbs.log2 < 1920) : Rp K H (.int i) (toString i)
  | str (x : Str) (h : (reprText x).length ≤ sizeLine) : Rp K H (.str x) (reprText x)
  | dat {a d} (h : Dp K H (.ref a) d) (h1 : d.showable = true) (h2 : d.hasDict = false) (h3 : d.depth ≤ 60) (h4 : d.shown.length ≤ sizeLine) : Rp K H (.ref a) d.shown
  | dic {a} (q : H a = some (.dK [])) : Rp K H (.ref a) (PyData.dict []).shown
def rRp (K : PySem.W.Frag) : List V → Hp → VK → Prop := fun vs H Q => ∃ v x, vs = [v] ∧ Rp K H v x ∧ Q (.str x) H
theorem room {u : Nat} (hu : u + 64 < cLine) : u + ((PyData.dict []).depth + 1) < cLine := by
  have : (PyData.dict []).depth ≤ 2 := by decide
  omega
theorem call_rp {X : Cx} (hG : X.A.guards = some []) (hu : X.A.units + 64 < cLine) : CallR X (.builtin "repr") (rRp X.K) := by
  intro pins s σ H xs us Q I r h
  obtain ⟨v, x, rfl, h, q⟩ := h
  cases h with
  | non =>
    obtain ⟨u, rfl, rx⟩ := vals1 r
    cases (show u = Value.none from rx)
    exact PySem.P.repr_of_none ⟨.str _, H, I.tok _, ⟨_, rfl⟩, q⟩
  | bl b =>
    obtain ⟨u, rfl, rx⟩ := vals1 r
    cases (show u = Value.bool b from rx)
    exact PySem.P.repr_of_bool ⟨.str _, H, I.tok _, ⟨_, rfl⟩, q⟩
  | int i hz =>
    obtain ⟨u, rfl, t, rfl⟩ := vals1 r
    exact PySem.P.repr_of_int hz ⟨.str _, H, I.tok _, ⟨_, rfl⟩, q⟩
  | str x hz =>
    obtain ⟨u, rfl, t, rfl⟩ := vals1 r
    exact PySem.P.repr_of_str ⟨.str _, H, I.tok _, ⟨_, rfl⟩, q⟩ hz
  | dat h h1 h2 h3 h4 => exact call_reprD hG hu pins s σ H _ us Q I r ⟨_, _, rfl, h, ⟨_, rfl⟩, h1, h2, h3, h4, q⟩
  | @dic a hq =>
    obtain ⟨u, rfl, rx⟩ := vals1 r
    cases (show u = Value.ref a from rx)
    obtain ⟨_, ya, va, ra, o, es, ep, g1, g2, g3, g4⟩ := (show ObjOk X.prog X.w H s.heap a (.dK []) from I.hok a _ hq)
    cases ra
    have he : es.toList = [] := by
      have hp := g4.2.1
      generalize es.toList = l at hp
      cases hp
      rfl
    have R : Reads s.heap (.ref a) (.dict []) ([a] ++ [] ++ []) := by
      refine Reads.dict g1 g2.1 g3 ?_ ?_
      · rw [he]
        exact .nil
      · rw [he]
        exact .nil
    refine repr_of_reads' R rfl (fun _ hm => ?_) hG (room hu) (fun _ _ z => z) (fun h' u tk kp => ⟨.str _, H, I.kept (t' := tk) kp, ⟨u, rfl⟩, q⟩) (by decide)
    simp only [List.append_nil, List.mem_singleton] at hm
    subst hm
    simp at ya
/-! ### data of such things -/
def lfD : V → PyData
  | .bl b => .bool b
  | .int i => .int i
  | .str x => .str x
  | _ => .none
section
variable {K : PySem.W.Frag} {H : Hp} {s : Addr}
theorem Lf.dp {v : V} (h : Lf v) : Dp K H v (lfD v) := by
  cases h with
  | non => exact .non
  | bl b => exact .bl b
  | int i h => exact .int i
  | str x h => exact .str x
theorem lfs_dp : ∀ {xs : List V}, (∀ x ∈ xs, Lf x) → DpAll K H xs (xs.map lfD)
  | [], _ => .nil
  | x :: xs, h => .cons (h x (by simp)).dp (lfs_dp fun y hy => h y (by simp [hy]))
theorem log2_lt {i : Int} (h : i.natAbs < 2 ^ 250) : i.natAbs.log2 < 1920 := Nat.lt_of_lt_of_le (PySem.Flt.log2_lt_of (by decide) h) (by decide)
theorem Lf.sh {v : V} (h : Lf v) : (lfD v).showable = true ∧ (lfD v).hasDict = false ∧ (lfD v).depth = 0 ∧ (lfD v).leavesShort 92 = true ∧ (lfD v).bulk ≤ 4 := by
  cases h with
  | non => exact ⟨rfl, rfl, rfl, rfl, by decide⟩
  | bl b => exact ⟨rfl, rfl, rfl, rfl, by show 0 ≤ 4; decide⟩
  | int i h =>
    refine ⟨decide_eq_true (log2_lt h), rfl, rfl, decide_eq_true ?_, by show 0 ≤ 4; decide⟩
    have h10 : i.natAbs < 10 ^ 91 := Nat.lt_of_lt_of_le h (by decide +kernel)
    have := int_text_length_le10 (k := 91) (by decide) h10
    show (Str.ofString (toString i)).length ≤ 92
    rw [PySem.ofString_length]
    exact this
  | str x h =>
    simp only [List.mem_cons, List.not_mem_nil, or_false] at h
    rcases h with rfl | rfl | rfl | rfl | rfl | rfl | rfl | rfl <;> exact ⟨rfl, rfl, rfl, by decide, by decide⟩
theorem lfs_sh : ∀ {xs : List V}, (∀ x ∈ xs, Lf x) → PyData.showableAll (xs.map lfD) = true ∧ PyData.hasDictAll (xs.map lfD) = false ∧ PyData.depthAll (xs.map lfD) = 0 ∧ PyData.leavesShortAll 92 (xs.map lfD) = true ∧ PyData.bulkAll (xs.map lfD) ≤ 5 * xs.length
  | [], _ => ⟨rfl, rfl, rfl, rfl, Nat.le_refl _⟩
  | x :: xs, h => by
    obtain ⟨a1, a2, a3, a4, a5⟩ := (h x (by simp)).sh
    obtain ⟨b1, b2, b3, b4, b5⟩ := lfs_sh (xs := xs) fun y hy => h y (by simp [hy])
    simp only [List.map_cons, PyData.showableAll, PyData.hasDictAll, PyData.depthAll, PyData.leavesShortAll, PyData.bulkAll, a1, a2, a3, a4, b1, b2, b3, b4, Bool.and_self, Bool.or_self, List.length_cons, Nat.max_self, true_and]
    omega
theorem shown_fits {d : PyData} (h : d.leavesShort 92 = true) (hb : d.bulk ≤ 60) : d.shown.length ≤ sizeLine := by
  have h1 := PyData.shown_le_bulk 92 (by decide) d h
  have h2 : (92 + 2) * d.bulk + 92 ≤ 10000 := by omega
  have h3 : 10000 ≤ sizeLine := by decide
  omega
theorem Bt.rp {v : V} (h : Bt K s H v) : ∃ x, Rp K H v x := by
  cases h with
  | leaf h =>
    cases h with
    | non => exact ⟨_, .non⟩
    | bl b => exact ⟨_, .bl b⟩
    | int i h => exact ⟨_, .int i (log2_lt h)⟩
    | str x h =>
      refine ⟨_, .str x ?_⟩
      obtain ⟨_, _, _, a4, a5⟩ := (Lf.str x h).sh
      have z := shown_fits a4 (by omega)
      simpa only [lfD, PyData.shown] using z
  | tup q h n =>
    obtain ⟨b1, b2, b3, b4, b5⟩ := lfs_sh h
    refine ⟨_, .dat (.tup q (lfs_dp h)) b1 b2 ?_ (shown_fits b4 ?_)⟩
    · show PyData.depthAll _ + 1 ≤ 60
      omega
    · show PyData.bulkAll _ ≤ 60
      omega
  | lst q e h n =>
    obtain ⟨b1, b2, b3, b4, b5⟩ := lfs_sh h
    refine ⟨_, .dat (.lst (sq_of q) (lfs_dp h)) b1 b2 ?_ (shown_fits b4 ?_)⟩
    · show PyData.depthAll _ + 1 ≤ 60
      omega
    · show PyData.bulkAll _ ≤ 60
      omega
  | dic q => exact ⟨_, .dic q⟩
  | @two t u xs q p h n =>
    obtain ⟨b1, b2, b3, b4, b5⟩ := lfs_sh h
    have hd : Dp K H (.ref u) (.tuple (xs.map lfD)) := .tup p (lfs_dp h)
    refine ⟨_, .dat (d := .tuple [.tuple (xs.map lfD), .tuple (xs.map lfD)]) (.tup q (.cons hd (.cons hd .nil))) ?_ ?_ ?_ (shown_fits ?_ ?_)⟩
    · simp only [PyData.showable, PyData.showableAll, b1, Bool.and_self]
    · simp only [PyData.hasDict, PyData.hasDictAll, b2, Bool.or_self]
    · simp only [PyData.depth, PyData.depthAll, b3]
      decide
    · simp only [PyData.leavesShort, PyData.leavesShortAll, b4, Bool.and_self]
    · simp only [PyData.bulk, PyData.bulkAll]
      omega
end
end Nc
end
set_option maxRecDepth 100000
set_option maxHeartbeats 4000000
namespace Nc
open PySem PySem.Spec PyProof.Rows L2 Evl
section
variable {K : PySem.W.Frag} {H H' : Hp}
/-! ### nodes, layers -/
def NodesV (K : PySem.W.Frag) (H : Hp) (v : V) (zs : List Sum2) : Prop := ∃ t xs, v = .ref t ∧ SqT K H t xs ∧ Paired (SumV K H) xs zs
theorem NodesV.ex {v : V} {zs : List Sum2} (e : Ex H H') (h : NodesV K H v zs) : NodesV K H' v zs := by
  obtain ⟨t, xs, rfl, q, l⟩ := h
  exact ⟨t, xs, rfl, ex_t e q, pmono (fun _ _ => SumV.ex e) l⟩
def NodeOk (n : Nat) (zs : List Sum2) : Prop := ∀ z ∈ zs, z.1.length = n ∧ SzL 100 100 z.1 ∧ Sz 100 100 z.2
def LayerAt (C : Addr) (H : Hp) (p : Addr) (v : V) : Prop := ∃ dx, H p = some (.ins C dx [(("_nodes" : Str), v)])
theorem LayerAt.ex {C p : Addr} {v : V} (e : Ex H H') (h : LayerAt C H p v) : LayerAt C H' p v := by
  obtain ⟨dx, h⟩ := h
  exact ⟨dx, e _ _ h⟩
def cutR (r : Rat) : Rat := if r.num < 0 then 0 else r
def passR (c : Bool) (l : List Rat) : List Rat := if c = true then l.map cutR else l
/-! ### methods -/
structure Md (K : PySem.W.Frag) (C : Addr) (m qual : Str) (st : Stmt) (ps : List Str) : Prop where
  ex : ∃ f fd, Meth K C m f ∧ Fun K m qual st f fd ∧ Binds K fd ps []
structure MOk (P : Program) (w : World) (K : PySem.W.Frag) (mg : Str → Option Value) (base : Heap) (k : Nat) (C : Addr) (m : Str) (ps : List Str) (sp : Sp) : Prop where
  ex : ∃ f fd, Meth K C m f ∧ FnOk P w K mg base CX0 k f fd ps sp ∧ Binds K fd ps []
theorem Md.ok {P : Program} {w : World} {mg : Str → Option Value} {base : Heap} {k : Nat} {C : Addr} {m qual : Str} {st : Stmt} {ps : List Str} {sp : Sp} (D : Md K C m qual st ps)
    (h : ∀ f fd, Fun K m qual st f fd → FnOk P w K mg base CX0 k f fd ps sp) : MOk P w K mg base k C m ps sp := by
  obtain ⟨f, fd, g, F, b⟩ := D.ex
  exact ⟨f, fd, g, h f fd F, b⟩
/-! ### promises -/
def spReck (K : PySem.W.Frag) : Sp := fun vs H Q _ => ∃ (x y : V) (zs : List Sum2) (L : List Rat), vs = [x, y] ∧ NodesV K H x zs ∧ RowV K H y L ∧ NodeOk L.length zs ∧ L.length ≤ 20 ∧ zs.length ≤ 50 ∧ SzL 100 100 L ∧ ∀ v H', Ex H H' → RowV K H' v (zs.map fun z => tells z L) → Q v H'
def spCutN (K : PySem.W.Frag) : Sp := fun vs H Q _ => ∃ (x : V) (r : Rat), vs = [x] ∧ FrV K H x r ∧ ∀ v, FrV K H v (cutR r) → Q v H
def spInitL (K : PySem.W.Frag) (C : Addr) : Sp := fun vs H Q _ => ∃ (p dx a : Addr) (xs : List V) (zs : List Sum2), vs = [.ref p, .ref a] ∧ H p = some (.ins C dx []) ∧ (SqL K H a xs ∨ SqT K H a xs) ∧ Paired (SumV K H) xs zs ∧
  ∀ H' v, (∀ b o, b ≠ p → H b = some o → H' b = some o) → LayerAt C H' p v → NodesV K H' v zs → Q .non H'
def spToldL (C : Addr) : Sp := fun vs H Q _ => ∃ (p : Addr) (v : V), vs = [.ref p] ∧ LayerAt C H p v ∧ Q v H
def spPass (K : PySem.W.Frag) (C : Addr) (c : Bool) : Sp := fun vs H Q _ => ∃ (p : Addr) (v y : V) (zs : List Sum2) (L : List Rat), vs = [.ref p, y] ∧ LayerAt C H p v ∧ NodesV K H v zs ∧ RowV K H y L ∧ NodeOk L.length zs ∧ L.length ≤ 20 ∧ zs.length ≤ 50 ∧ SzL 100 100 L ∧
  ∀ v H', Ex H H' → RowV K H' v (passR c (zs.map fun z => tells z L)) → Q v H'
def spIsRow (K : PySem.W.Frag) : Sp := fun vs H Q _ => ∃ (x y : V) (L : List Rat), vs = [x, y] ∧ RowV K H x L ∧ RowV K H y L ∧ L.length ≤ 100 ∧ ∀ H', Ex H H' → Q (.bl true) H'
def spNode (K : PySem.W.Frag) : Sp := fun vs H Q _ => ∃ (s : Addr) (k : Nat), vs = [.ref s, .int (k : Int)] ∧ Stm s H ∧ k ≤ 20 ∧ ∀ v z H', Dr s H H' → SumV K H' v z → z.1.length = k → SzL 100 100 z.1 → Sz 100 100 z.2 → Q v H'
def spOne (K : PySem.W.Frag) (C : Addr) (c : Bool) : Sp := fun vs H Q _ => ∃ (p an ar : Addr) (v : V) (xs ys : List V) (zs : List Sum2) (Ls : List (List Rat)) (n : Nat), vs = [.ref p, .bl c, .ref an, .ref ar] ∧ LayerAt C H p v ∧ NodesV K H v zs ∧ SqL K H an xs ∧ Paired (SumV K H) xs zs ∧
  SqL K H ar ys ∧ Paired (RowV K H) ys Ls ∧ NodeOk n zs ∧ (∀ L ∈ Ls, L.length = n ∧ SzL 100 100 L) ∧ n ≤ 20 ∧ zs.length ≤ 50 ∧ ∀ H', Ex H H' → Q (.bl true) H'
/-! ### data of nodes -/
theorem sums_dp : ∀ {xs : List V} {zs : List Sum2}, Paired (SumV K H) xs zs → DpAll K H xs (zs.map sd)
  | _, _, .nil => .nil
  | _, _, .cons a t => .cons a.dp (sums_dp t)
end
theorem lay_sds : ∀ zs : List Sum2, PyData.canLayAll0 (zs.map sd) = true
  | [] => rfl
  | z :: zs => by
    show ((sd z).canLay0 && PyData.canLayAll0 (zs.map sd)) = true
    rw [lay_sd, lay_sds zs]
    rfl
theorem depth_sds : ∀ zs : List Sum2, PyData.depthAll (zs.map sd) ≤ 4
  | [] => Nat.zero_le _
  | z :: zs => by
    have ih := depth_sds zs
    have h1 := depthAll_fd z.1
    have h2 : PyData.depth (fd z.2) = 1 := rfl
    show max (max (PyData.depthAll (z.1.map fd) + 1) (max (PyData.depth (fd z.2)) 0) + 1) (PyData.depthAll (zs.map sd)) ≤ 4
    omega
theorem shaped_sds (zs : List Sum2) : SeqAt.shaped (.tuple (zs.map sd)) = true := by
  unfold SeqAt.shaped
  have h : (PyData.tuple (zs.map sd)).canLay0 = true := lay_sds zs
  rw [h, Bool.true_and]
  refine decide_eq_true ?_
  have := depth_sds zs
  show PyData.depthAll (zs.map sd) + 1 ≤ 64
  omega
theorem eqv_sds (zs : List Sum2) : PyData.eqv (.tuple (zs.map sd)) (.tuple (zs.map sd)) = true := SeqAt.eqv_refl _ (lay_sds zs)
theorem sz_cut {r : Rat} : cutR r = 0 ∨ cutR r = r := by
  unfold cutR
  split
  · exact .inl rfl
  · exact .inr rfl
end Nc
section
namespace Nc
/-! ### bottoms that divide a shared number -/
theorem den_of_div {k : Int} {D : Nat} (hD : 0 < D) : (Rat.divInt k (D : Int)).den ∣ D := by
  rw [Rat.den_divInt, if_neg (by omega)]
  exact Nat.div_dvd_of_dvd (Nat.gcd_dvd_left _ _)
theorem div_of_den {r : Rat} {D : Nat} (hD : 0 < D) (h : r.den ∣ D) : ∃ k : Int, r = Rat.divInt k (D : Int) := by
  obtain ⟨c, rfl⟩ := h
  have hc : 0 < c := Nat.pos_of_ne_zero fun z => by
    rw [z, Nat.mul_zero] at hD
    omega
  refine ⟨r.num * (c : Int), ?_⟩
  rw [Int.natCast_mul, Rat.divInt_mul_right (by omega), Rat.num_divInt_den]
/-- a top below 2 ^ n, a bottom that divides D -/
def Sv (n D : Nat) (r : Rat) : Prop := r.num.natAbs < 2 ^ n ∧ r.den ∣ D
def SvL (n D : Nat) (l : List Rat) : Prop := ∀ r ∈ l, Sv n D r
theorem Sv.mono {n m D E : Nat} {r : Rat} (h : Sv n D r) (hn : n ≤ m) (hD : D ∣ E) : Sv m E r := ⟨lt_mono h.1 hn, Nat.dvd_trans h.2 hD⟩
theorem SvL.mono {n m D E : Nat} {l : List Rat} (h : SvL n D l) (hn : n ≤ m) (hD : D ∣ E) : SvL m E l := fun r hr => (h r hr).mono hn hD
theorem Sv.sz {n D d : Nat} {r : Rat} (h : Sv n D r) (hD : 0 < D) (hd : D < 2 ^ d) : Sz n d r := ⟨h.1, Nat.lt_of_le_of_lt (Nat.le_of_dvd hD h.2) hd⟩
theorem den_add {r s : Rat} {D : Nat} (hD : 0 < D) (hr : r.den ∣ D) (hs : s.den ∣ D) : (r + s).den ∣ D := by
  obtain ⟨a, rfl⟩ := div_of_den hD hr
  obtain ⟨b, rfl⟩ := div_of_den hD hs
  have e : Rat.divInt a (D : Int) + Rat.divInt b (D : Int) = Rat.divInt (a + b) (D : Int) := by
    rw [Rat.divInt_add_divInt _ _ (by omega) (by omega), ← Int.add_mul, Rat.divInt_mul_right (by omega)]
  rw [e]
  exact den_of_div hD
theorem den_mul (r s : Rat) : (r * s).den ∣ r.den * s.den := by
  have h1 := r.den_nz
  have h2 := s.den_nz
  have e := mul_is r s
  rw [← Int.natCast_mul] at e
  rw [← e]
  exact den_of_div (Nat.mul_pos (by omega) (by omega))
theorem sv_mul {n m D E : Nat} {r s : Rat} (hr : Sv n D r) (hs : Sv m E s) : Sv (n + m) (D * E) (r * s) := by
  refine ⟨?_, Nat.dvd_trans (den_mul r s) (Nat.mul_dvd_mul hr.2 hs.2)⟩
  rw [← mul_is]
  have h1 := den_pos r
  have h2 := den_pos s
  rw [← num_div (Int.mul_pos h1 h2)]
  exact Nat.lt_of_le_of_lt (natAbs_ediv_le _ _) (lt_mul hr.1 hs.1)
theorem sv_add {n m D d N : Nat} {r s : Rat} (hD : 0 < D) (hd : D < 2 ^ d) (hr : Sv n D r) (hs : Sv m D s) (h1 : n + d ≤ N := by omega) (h2 : m + d ≤ N := by omega) : Sv (N + 1) D (r + s) :=
  ⟨(sz_add (hr.sz hD hd) (hs.sz hD hd) h1 h2).1, den_add hD hr.2 hs.2⟩
theorem sv_zero {n D : Nat} (h : 0 < n) : Sv n D 0 := ⟨Nat.two_pow_pos n, Nat.one_dvd D⟩
theorem sv_weighs {n m W D d : Nat} (hWD : 0 < W * D) (hd : W * D < 2 ^ d) : ∀ (i : Nat) (l : List (Rat × Rat)), i ≤ l.length → (∀ p ∈ l, Sv n W p.1 ∧ Sv m D p.2) → Sv (1 + i * (n + m + d + 1)) (W * D) (weighs (l.take i))
  | 0, l, _, _ => by simpa [weighs] using (sv_zero (n := 1) (D := W * D) (by decide))
  | i + 1, l, h, hl => by
    have ih := sv_weighs hWD hd i l (by omega) hl
    have e1 : l[i]? = some l[i] := List.getElem?_eq_getElem (by omega)
    rw [weighs_take e1]
    have hp := hl l[i] (List.getElem_mem _)
    have := sv_add (N := i * (n + m + d + 1) + (n + m + d + 1)) hWD hd ih (sv_mul hp.1 hp.2) (by omega) (by omega)
    exact this.mono (by rw [Nat.add_mul]; omega) (Nat.dvd_refl _)
theorem sv_of_weighs {n m W D d : Nat} {a b : List Rat} (hWD : 0 < W * D) (hd : W * D < 2 ^ d) (ha : SvL n W a) (hb : SvL m D b) (hl : a.length = b.length) : Sv (1 + a.length * (n + m + d + 1)) (W * D) (weighs (a.zip b)) := by
  have h := sv_weighs hWD hd a.length (a.zip b) (by rw [List.length_zip]; omega) (fun p hp => ⟨ha _ (List.of_mem_zip hp).1, hb _ (List.of_mem_zip hp).2⟩)
  rwa [List.take_of_length_le (by rw [List.length_zip]; omega)] at h
theorem sv_tells {n m W D d : Nat} {s : Sum2} {row : List Rat} (hWD : 0 < W * D) (hd : W * D < 2 ^ d) (ha : SvL n W s.1) (hc : Sv n W s.2) (hb : SvL m D row) (hl : s.1.length = row.length) : Sv (1 + s.1.length * (n + m + d + 1) + n + d + 1) (W * D) (tells s row) :=
  sv_add (N := 1 + s.1.length * (n + m + d + 1) + n + d) hWD hd (sv_of_weighs hWD hd ha hb hl) (hc.mono (Nat.le_refl _) (Nat.dvd_mul_right _ _)) (by omega) (by omega)
/-! ### nets -/
def cutQ (r : Rat) : Rat := if r.num < 0 then 0 else r
theorem sv_cutQ {n D : Nat} {r : Rat} (h : Sv n D r) : Sv n D (cutQ r) := by
  unfold cutQ
  split
  · exact ⟨Nat.lt_of_le_of_lt (Nat.zero_le _) h.1, Nat.one_dvd D⟩
  · exact h
/-- what the nodes of all layers come to -/
def rowsAt : List (List Sum2) → List Rat → List (List Rat)
  | [], _ => []
  | l :: ls, x => (l.map fun z => tells z x) :: rowsAt ls ((l.map fun z => tells z x).map cutQ)
/-- the layers stand upon one another, the first over n things -/
def Over : Nat → List (List Sum2) → Prop
  | _, [] => True
  | n, l :: ls => (∀ z ∈ l, z.1.length = n) ∧ (1 ≤ l.length ∧ l.length ≤ 4) ∧ Over l.length ls
/-- all numbers of the layers: tops below 2 ^ n, bottoms dividing W -/
def Num (n : Nat) (W : Nat → Nat) (ls : List (List Sum2)) : Prop := ∀ (i : Nat) (l : List Sum2), ls[i]? = some l → ∀ z ∈ l, SvL n (W i) z.1 ∧ Sv n (W i) z.2
/-- the layers' bottoms together, those ahead of layer i -/
def pw (W : Nat → Nat) : Nat → Nat
  | 0 => 1
  | i + 1 => W i * pw W i
theorem pw_pos {W : Nat → Nat} (h : ∀ i, 0 < W i) : ∀ i, 0 < pw W i
  | 0 => Nat.one_pos
  | i + 1 => Nat.mul_pos (h i) (pw_pos h i)
theorem pw_mono {W : Nat → Nat} (h : ∀ i, 0 < W i) : ∀ {i j : Nat}, i ≤ j → pw W i ≤ pw W j
  | i, 0, hij => by
    have : i = 0 := by omega
    subst this
    exact Nat.le_refl _
  | i, j + 1, hij => by
    by_cases e : i = j + 1
    · subst e
      exact Nat.le_refl _
    · exact Nat.le_trans (pw_mono h (show i ≤ j by omega)) (Nat.le_mul_of_pos_left _ (h j))
theorem pw_const {W : Nat} : ∀ i, pw (fun _ => W) i = W ^ i
  | 0 => rfl
  | i + 1 => by
    show W * pw (fun _ => W) i = _
    rw [pw_const i, Nat.pow_succ, Nat.mul_comm]
/-- the tops' bits behind i layers -/
def tb : Nat → Nat
  | 0 => 1500
  | i + 1 => 1 + 4 * (1500 + tb i + 1601) + 3102
theorem tb_le : ∀ i, i ≤ 4 → tb i ≤ 1800000
  | 0, _ => by decide
  | 1, _ => by decide
  | 2, _ => by decide
  | 3, _ => by decide
  | 4, _ => by decide
theorem tb_le3 : ∀ i, i ≤ 3 → tb i ≤ 430000
  | 0, _ => by decide
  | 1, _ => by decide
  | 2, _ => by decide
  | 3, _ => by decide
end Nc
end
section
set_option maxRecDepth 100000
set_option maxHeartbeats 4000000
namespace Nc
open PySem PySem.Spec PyProof.Rows L2 Evl
/-! ### kinds of things -/
def spWh (K : PySem.W.Frag) : Sp := fun vs H Q _ => ∃ v k, vs = [v] ∧ KdV K H v k ∧ Q (.bl (decide (k = .int))) H
def spFr (K : PySem.W.Frag) : Sp := fun vs H Q _ => ∃ v b, vs = [v] ∧ Th K H v b ∧ Q (.bl b) H
def spTold : Sp := fun vs H Q _ => ∃ a : Bool, vs = [.bl a, .bl a] ∧ Q (.bl true) H
/-- a row as the law draws it -/
inductive Rw (K : PySem.W.Frag) (H : Hp) : V → Option (List Bool) → Prop
  | oth {v k} (h : KdV K H v k) (n : k ≠ .tup) : Rw K H v none
  | tup {t xs bs} (q : SqT K H t xs) (p : Paired (Th K H) xs bs) (z : xs.length ≤ 100) : Rw K H (.ref t) (some bs)
def rwB : Option (List Bool) → Int → Bool
  | none, _ => false
  | some bs, k => decide ((bs.length : Int) = k) && bs.all id
def spIsRw (K : PySem.W.Frag) : Sp := fun vs H Q _ => ∃ (v : V) (k : Int) (f : Option (List Bool)), vs = [v, .int k] ∧ Rw K H v f ∧ ∀ H', Ex H H' → Q (.bl (rwB f k)) H'
theorem ifB {b : Bool} {A B : Prop} (h1 : b = true → A) (h2 : b = false → B) : if b = true then A else B := by
  cases b
  · exact iteF (h2 rfl)
  · exact iteT (h1 rfl)
theorem th_ex {K : PySem.W.Frag} {H H' : Hp} {v : V} {b : Bool} (kd : ∀ {v k}, KdV K H v k → KdV K H' v k) (e : Ex H H') (h : Th K H v b) : Th K H' v b := by
  cases h with
  | oth h n => exact .oth (kd h) n
  | tupN q n => exact .tupN (ex_t e q) n
  | two q hx hy n => exact .two (ex_t e q) (kd hx) (kd hy) n
  | nums q => exact .nums (ex_t e q)
theorem tyx_ex {K : PySem.W.Frag} {H H' : Hp} {v : V} {t : Value} (e : Ex H H') (h : TyX K H v t) : TyX K H' v t := by
  cases h with
  | base h =>
    cases h with
    | non => exact .base .non
    | bl x => exact .base (.bl x)
    | int x => exact .base (.int x)
    | str x => exact .base (.str x)
    | flt x => exact .base (.flt x)
    | lst q => exact .base (.lst (e _ _ q))
    | frz q => exact .base (.frz (e _ _ q))
    | tup q => exact .base (.tup (e _ _ q))
    | dK q => exact .base (.dK (e _ _ q))
    | dT q => exact .base (.dT (e _ _ q))
    | ins q cl ha hn htk hm => exact .base (.ins (e _ _ q) cl ha hn htk hm)
  | byt b => exact .byt b
  | set q => exact .set (e _ _ q)
  | kList q c => exact .kList q c
  | kTuple q c => exact .kTuple q c
  | kDict q c => exact .kDict q c
  | fTuple q => exact .fTuple (e _ _ q)
  | fDict q => exact .fDict (e _ _ q)
theorem kd_ex {K : PySem.W.Frag} {H H' : Hp} {v : V} {k : Kn} (e : Ex H H') (h : KdV K H v k) : KdV K H' v k := ⟨tyx_ex e h.1, h.2⟩
theorem th_exx {K : PySem.W.Frag} {H H' : Hp} {v : V} {b : Bool} (e : Ex H H') (h : Th K H v b) : Th K H' v b := th_ex (kd_ex e) e h
theorem eq_of_nd {a b : Int} (e : (!decide (V.int a = V.int b)) = false) : a = b := by
  by_cases h : V.int a = V.int b
  · exact V.int.inj h
  · rw [decide_eq_false h] at e
    cases e
theorem dec_int (n : Nat) : decide (V.int (n : Int) = V.int 1) = decide (n = 1) := by
  by_cases h : n = 1
  · rw [decide_eq_true h, h]
    decide
  · rw [decide_eq_false h]
    refine decide_eq_false fun z => h ?_
    have := V.int.inj z
    omega
theorem q_bl {a b : Bool} {Q : VK} {H : Hp} (q : Q (.bl b) H) (e : a = b) : Q (.bl a) H := by
  rw [e]
  exact q
theorem ne_of_nd {a b : Int} (e : (!decide (V.int a = V.int b)) = true) : decide (a = b) = false := by
  by_cases h : a = b
  · rw [decide_eq_true (congrArg V.int h)] at e
    cases e
  · exact decide_eq_false h
theorem of_nd {p : Prop} [Decidable p] (e : (!decide p) = false) : p := by
  by_cases h : p
  · exact h
  · rw [decide_eq_false h] at e
    cases e

section
variable {X : Cx} {e : Expr} {t1 t2 : TE}
/-- a term that is read in one of two ways -/
def tOr (t1 t2 : TE) : TE := fun σ H Q => t1 σ H Q ∨ t2 σ H Q
theorem pe_or (h1 : PE X e t1) (h2 : PE X e t2) : PE X e (tOr t1 t2) := ⟨fun pins s σ H Q I h => h.elim (h1.run pins s σ H Q I) (h2.run pins s σ H Q I)⟩
end
/-! ### the stream: a list, the last item of which tells how many long numbers are left -/
def Lst (s : Addr) (H : Hp) : Prop := ∃ xs, H s = some (.lst xs)
structure Dk (s : Addr) (H H' : Hp) : Prop where
  keep : ∀ a o, a ≠ s → H a = some o → H' a = some o
  st : Lst s H'
def St4 (s : Addr) (k : Nat) (H : Hp) : Prop := ∃ a b c : Int, H s = some (.lst [.int a, .int b, .int c, .int (k : Int)])
section
variable {K : PySem.W.Frag} {s p : Addr} {H H' H2 : Hp} {k : Nat}
theorem St4.lst (h : St4 s k H) : Lst s H := by
  obtain ⟨a, b, c, e⟩ := h
  exact ⟨_, e⟩
theorem Lst.ne (h : Lst s H) (hp : H p = none) : s ≠ p := by
  obtain ⟨xs, e⟩ := h
  exact ne_of_none e hp
theorem Lst.ex (h : Lst s H) (e : Ex H H') : Lst s H' := by
  obtain ⟨xs, q⟩ := h
  exact ⟨xs, e _ _ q⟩
theorem St4.ex (h : St4 s k H) (e : Ex H H') : St4 s k H' := by
  obtain ⟨a, b, c, q⟩ := h
  exact ⟨a, b, c, e _ _ q⟩
theorem St4.new {o : HO} (h : St4 s k H) (hp : H p = none) : St4 s k (upd H p o) := h.ex (Ex.new hp)
theorem St4.mut {o : HO} (h : St4 s k H) (hs : s ≠ p) : St4 s k (upd H p o) := by
  obtain ⟨a, b, c, q⟩ := h
  exact ⟨a, b, c, by rw [upd_ne hs]; exact q⟩
theorem Dk.refl (h : Lst s H) : Dk s H H := ⟨fun _ _ _ q => q, h⟩
theorem Dk.trans (a : Dk s H H') (b : Dk s H' H2) : Dk s H H2 := ⟨fun x o hx q => b.keep x o hx (a.keep x o hx q), b.st⟩
theorem Dk.ex (h : Lst s H) (e : Ex H H') : Dk s H H' := ⟨fun a o _ q => e a o q, h.ex e⟩
theorem Dk.new {o : HO} (h : Lst s H) (hp : H p = none) : Dk s H (upd H p o) := Dk.ex h (Ex.new hp)
theorem Dk.then (a : Dk s H H') (e : Ex H' H2) : Dk s H H2 := a.trans (Dk.ex a.st e)
theorem Dk.mut {o : HO} (d : Dk s H H') (hp : H p = none) (hs : s ≠ p) : Dk s H (upd H' p o) := ⟨fun a u ha q => by rw [upd_ne (ne_of_none q hp)]; exact d.keep a u ha q, by
  obtain ⟨xs, e⟩ := d.st
  exact ⟨xs, by rw [upd_ne hs]; exact e⟩⟩
theorem Dk.put {xs ys : List V} (h : H s = some (.lst xs)) : Dk s H (upd H s (.lst ys)) := ⟨fun x o hx q => by rw [upd_ne hx]; exact q, ⟨ys, upd_same⟩⟩
theorem sqt_dk {t : Addr} {xs : List V} (h : Lst s H) (d : Dk s H H') (q : SqT K H t xs) : SqT K H' t xs := by
  obtain ⟨ys, e⟩ := h
  rcases q with (q | ⟨o, q⟩) | q
  · exact .inl (.inl (d.keep _ _ (ne_of q e (by intro z; cases z)) q))
  · exact .inl (.inr ⟨o, d.keep _ _ (ne_of q e (by intro z; cases z)) q⟩)
  · exact .inr q
theorem FrV.dk {v : V} {r : Rat} (h : Lst s H) (d : Dk s H H') (q : FrV K H v r) : FrV K H' v r := by
  obtain ⟨t, rfl, q⟩ := q
  exact ⟨t, rfl, sqt_dk h d q⟩
theorem RowV.dk {v : V} {rs : List Rat} (h : Lst s H) (d : Dk s H H') (q : RowV K H v rs) : RowV K H' v rs := by
  obtain ⟨t, xs, rfl, q, l⟩ := q
  exact ⟨t, xs, rfl, sqt_dk h d q, pmono (fun _ _ => FrV.dk h d) l⟩
theorem SumV.dk {v : V} {z : Sum2} (h : Lst s H) (d : Dk s H H') (q : SumV K H v z) : SumV K H' v z := by
  obtain ⟨t, a, b, rfl, q, l, n⟩ := q
  exact ⟨t, a, b, rfl, sqt_dk h d q, l.dk h d, n.dk h d⟩
theorem NodesV.dk {v : V} {zs : List Sum2} (h : Lst s H) (d : Dk s H H') (q : NodesV K H v zs) : NodesV K H' v zs := by
  obtain ⟨t, xs, rfl, q, l⟩ := q
  exact ⟨t, xs, rfl, sqt_dk h d q, pmono (fun _ _ => SumV.dk h d) l⟩
theorem NodesV.mut {D : Addr} {xs : List V} {o : HO} {v : V} {zs : List Sum2} (hD : H D = some (.lst xs)) (h : NodesV K H v zs) : NodesV K (upd H D o) v zs := by
  obtain ⟨t, us, rfl, qt, lu⟩ := h
  exact ⟨t, us, rfl, sqt_mut hD qt, pmono (fun _ _ => SumV.mut hD) lu⟩
end
/-! ### layers as lists of lists -/
def LyV (K : PySem.W.Frag) (H : Hp) (v : V) (l : List Sum2) : Prop := ∃ a xs, v = .ref a ∧ SqL K H a xs ∧ Paired (SumV K H) xs l
def LayI (K : PySem.W.Frag) (H : Hp) (v : V) (ls : List (List Sum2)) : Prop := ∃ D ys, v = .ref D ∧ SqL K H D ys ∧ Paired (LyV K H) ys ls
/-- the same, lists that are no stream -/
def LyS (K : PySem.W.Frag) (s : Addr) (H : Hp) (v : V) (l : List Sum2) : Prop := ∃ a xs, v = .ref a ∧ a ≠ s ∧ H a = some (.lst xs) ∧ Paired (SumV K H) xs l
def LayS (K : PySem.W.Frag) (s : Addr) (H : Hp) (D : Addr) (ls : List (List Sum2)) : Prop := D ≠ s ∧ ∃ ys, H D = some (.lst ys) ∧ Paired (LyS K s H) ys ls
section
variable {K : PySem.W.Frag} {s p D : Addr} {H H' H2 : Hp} {k : Nat} {v : V} {l : List Sum2} {ls : List (List Sum2)}
theorem LyV.ex (e : Ex H H') (h : LyV K H v l) : LyV K H' v l := by
  obtain ⟨a, xs, rfl, q, p⟩ := h
  exact ⟨a, xs, rfl, ex_l e q, pmono (fun _ _ => SumV.ex e) p⟩
theorem LayI.ex (e : Ex H H') (h : LayI K H v ls) : LayI K H' v ls := by
  obtain ⟨D, ys, rfl, q, p⟩ := h
  exact ⟨D, ys, rfl, ex_l e q, pmono (fun _ _ => LyV.ex e) p⟩
theorem LyS.ex (e : Ex H H') (h : LyS K s H v l) : LyS K s H' v l := by
  obtain ⟨a, xs, rfl, n, q, p⟩ := h
  exact ⟨a, xs, rfl, n, e _ _ q, pmono (fun _ _ => SumV.ex e) p⟩
theorem LyS.dk (h0 : Lst s H) (d : Dk s H H') (h : LyS K s H v l) : LyS K s H' v l := by
  obtain ⟨a, xs, rfl, n, q, p⟩ := h
  exact ⟨a, xs, rfl, n, d.keep _ _ n q, pmono (fun _ _ => SumV.dk h0 d) p⟩
theorem LyS.toV (h : LyS K s H v l) : LyV K H v l := by
  obtain ⟨a, xs, rfl, n, q, p⟩ := h
  exact ⟨a, xs, rfl, sq_of q, p⟩
theorem LayS.ex (e : Ex H H') (h : LayS K s H D ls) : LayS K s H' D ls := by
  obtain ⟨n, ys, q, p⟩ := h
  exact ⟨n, ys, e _ _ q, pmono (fun _ _ => LyS.ex e) p⟩
theorem LayS.dk (h0 : Lst s H) (d : Dk s H H') (h : LayS K s H D ls) : LayS K s H' D ls := by
  obtain ⟨n, ys, q, p⟩ := h
  exact ⟨n, ys, d.keep _ _ n q, pmono (fun _ _ => LyS.dk h0 d) p⟩
theorem LayS.i (h : LayS K s H D ls) : LayI K H (.ref D) ls := by
  obtain ⟨n, ys, q, p⟩ := h
  exact ⟨D, ys, rfl, sq_of q, pmono (fun _ _ => LyS.toV) p⟩
end
/-! ### nets -/
def LayV (K : PySem.W.Frag) (CL CC : Addr) (H : Hp) (v : V) (l : List Sum2) : Prop := ∃ p C nv, v = .ref p ∧ (C = CL ∨ C = CC) ∧ LayerAt C H p nv ∧ NodesV K H nv l
def NetV (K : PySem.W.Frag) (CN CL CC : Addr) (H : Hp) (p : Addr) (n : Nat) (ls : List (List Sum2)) : Prop := ∃ dx t ps, H p = some (.ins CN dx [(("_ins" : Str), .int (n : Int)), (("_layers" : Str), .ref t)]) ∧ SqT K H t ps ∧ Paired (LayV K CL CC H) ps ls
/-- what a net tells -/
def TdV (K : PySem.W.Frag) (H : Hp) (v : V) (n : Nat) (ls : List (List Sum2)) : Prop := ∃ t u ys, v = .ref t ∧ SqT K H t [.int (n : Int), .ref u] ∧ SqT K H u ys ∧ Paired (NodesV K H) ys ls
def nd (ls : List (List Sum2)) : List PyData := ls.map fun l => .tuple (l.map sd)
section
variable {K : PySem.W.Frag} {s p D CN CL CC : Addr} {H H' H2 : Hp} {k n : Nat} {v : V} {l : List Sum2} {ls : List (List Sum2)}
theorem LayV.ex (e : Ex H H') (h : LayV K CL CC H v l) : LayV K CL CC H' v l := by
  obtain ⟨p, C, nv, rfl, c, la, nn⟩ := h
  exact ⟨p, C, nv, rfl, c, la.ex e, nn.ex e⟩
theorem LayV.mut {xs : List V} {o : HO} (hD : H D = some (.lst xs)) (h : LayV K CL CC H v l) : LayV K CL CC (upd H D o) v l := by
  obtain ⟨p, C, nv, rfl, c, ⟨dx, la⟩, nn⟩ := h
  exact ⟨p, C, nv, rfl, c, ⟨dx, by rw [upd_ne (ne_of la hD (by intro z; cases z))]; exact la⟩, nn.mut hD⟩
theorem LayV.dk (h0 : Lst s H) (d : Dk s H H') (h : LayV K CL CC H v l) : LayV K CL CC H' v l := by
  obtain ⟨p, C, nv, rfl, c, ⟨dx, la⟩, nn⟩ := h
  obtain ⟨xs, hx⟩ := id h0
  exact ⟨p, C, nv, rfl, c, ⟨dx, d.keep _ _ (ne_of la hx (by intro z; cases z)) la⟩, nn.dk h0 d⟩
theorem stL : Stays (LayV K CL CC) := ⟨LayV.ex, LayV.mut⟩
theorem NetV.ex (e : Ex H H') (h : NetV K CN CL CC H p n ls) : NetV K CN CL CC H' p n ls := by
  obtain ⟨dx, t, ps, hp, q, l⟩ := h
  exact ⟨dx, t, ps, e _ _ hp, ex_t e q, pmono (fun _ _ => LayV.ex e) l⟩
theorem NetV.dk (h0 : Lst s H) (d : Dk s H H') (h : NetV K CN CL CC H p n ls) : NetV K CN CL CC H' p n ls := by
  obtain ⟨dx, t, ps, hp, q, l⟩ := h
  obtain ⟨xs, hx⟩ := id h0
  exact ⟨dx, t, ps, d.keep _ _ (ne_of hp hx (by intro z; cases z)) hp, sqt_dk h0 d q, pmono (fun _ _ => LayV.dk h0 d) l⟩
theorem TdV.ex (e : Ex H H') (h : TdV K H v n ls) : TdV K H' v n ls := by
  obtain ⟨t, u, ys, rfl, q, q2, l⟩ := h
  exact ⟨t, u, ys, rfl, ex_t e q, ex_t e q2, pmono (fun _ _ => NodesV.ex e) l⟩
theorem TdV.dk (h0 : Lst s H) (d : Dk s H H') (h : TdV K H v n ls) : TdV K H' v n ls := by
  obtain ⟨t, u, ys, rfl, q, q2, l⟩ := h
  exact ⟨t, u, ys, rfl, sqt_dk h0 d q, sqt_dk h0 d q2, pmono (fun _ _ => NodesV.dk h0 d) l⟩
theorem NodesV.dp (h : NodesV K H v l) : Dp K H v (.tuple (l.map sd)) := by
  obtain ⟨t, xs, rfl, q, p⟩ := h
  exact .tup q (sums_dp p)
theorem nds_dp : ∀ {xs : List V} {ls : List (List Sum2)}, Paired (NodesV K H) xs ls → DpAll K H xs (nd ls)
  | _, _, .nil => .nil
  | _, _, .cons a t => .cons a.dp (nds_dp t)
theorem TdV.dp (h : TdV K H v n ls) : Dp K H v (.tuple [.int (n : Int), .tuple (nd ls)]) := by
  obtain ⟨t, u, ys, rfl, q, q2, l⟩ := h
  exact .tup q (.cons (.int _) (.cons (.tup q2 (nds_dp l)) .nil))
end
theorem lay_nd : ∀ ls : List (List Sum2), PyData.canLayAll0 (nd ls) = true
  | [] => rfl
  | z :: zs => by
    show (PyData.canLayAll0 (z.map sd) && PyData.canLayAll0 (nd zs)) = true
    rw [lay_sds, lay_nd zs]
    rfl
theorem depth_nd : ∀ ls : List (List Sum2), PyData.depthAll (nd ls) ≤ 5
  | [] => Nat.zero_le _
  | z :: zs => by
    have ih := depth_nd zs
    have h1 := depth_sds z
    show max (PyData.depthAll (z.map sd) + 1) (PyData.depthAll (nd zs)) ≤ 5
    omega
theorem lay_td (n : Nat) (ls : List (List Sum2)) : (PyData.tuple [.int (n : Int), .tuple (nd ls)]).canLay0 = true := by
  show (true && (PyData.canLayAll0 (nd ls) && true)) = true
  rw [lay_nd]
  rfl
theorem shaped_td (n : Nat) (ls : List (List Sum2)) : SeqAt.shaped (.tuple [.int (n : Int), .tuple (nd ls)]) = true := by
  unfold SeqAt.shaped
  rw [lay_td, Bool.true_and]
  refine decide_eq_true ?_
  have := depth_nd ls
  show max 0 (max (PyData.depthAll (nd ls) + 1) 0) + 1 ≤ 64
  omega
theorem eqv_td (n : Nat) (ls : List (List Sum2)) : PyData.eqv (.tuple [.int (n : Int), .tuple (nd ls)]) (.tuple [.int (n : Int), .tuple (nd ls)]) = true := SeqAt.eqv_refl _ (lay_td n ls)
/-- a list of rows -/
def rd (rs : List (List Rat)) : List PyData := rs.map fun r => .tuple (r.map fd)
theorem rows_dp {K : PySem.W.Frag} {H : Hp} : ∀ {xs : List V} {rs : List (List Rat)}, Paired (RowV K H) xs rs → DpAll K H xs (rd rs)
  | _, _, .nil => .nil
  | _, _, .cons a t => .cons a.dp (rows_dp t)
theorem lay_rd : ∀ rs : List (List Rat), PyData.canLayAll0 (rd rs) = true
  | [] => rfl
  | r :: rs => by
    show (PyData.canLayAll0 (r.map fd) && PyData.canLayAll0 (rd rs)) = true
    rw [layAll_fd, lay_rd rs]
    rfl
theorem depth_rd : ∀ rs : List (List Rat), PyData.depthAll (rd rs) ≤ 2
  | [] => Nat.zero_le _
  | z :: zs => by
    have ih := depth_rd zs
    have h1 := depthAll_fd z
    show max (PyData.depthAll (z.map fd) + 1) (PyData.depthAll (rd zs)) ≤ 2
    omega
theorem shaped_rd (rs : List (List Rat)) : SeqAt.shaped (.list (rd rs)) = true := by
  unfold SeqAt.shaped
  have h : (PyData.list (rd rs)).canLay0 = true := lay_rd rs
  rw [h, Bool.true_and]
  refine decide_eq_true ?_
  have := depth_rd rs
  show PyData.depthAll (rd rs) + 1 ≤ 64
  omega
theorem eqv_rd (rs : List (List Rat)) : PyData.eqv (.list (rd rs)) (.list (rd rs)) = true := SeqAt.eqv_refl _ (lay_rd rs)
/-! ### what is known of a net's numbers -/
structure NetOk (n : Nat) (ls : List (List Sum2)) (W : Nat → Nat) : Prop where
  n1 : 1 ≤ n
  n3 : n ≤ 3
  over : Over n ls
  l1 : 1 ≤ ls.length
  l4 : ls.length ≤ 4
  num : Num 1500 W ls
  w0 : ∀ i, 0 < W i
/-- a spot's common bottom fits beside it -/
structure Fits (W : Nat → Nat) (D : Nat) : Prop where
  d0 : 0 < D
  lt : pw W 4 * D < 2 ^ 1600
theorem Fits.at {W : Nat → Nat} {D : Nat} (hW : ∀ i, 0 < W i) (h : Fits W D) {i : Nat} (hi : i ≤ 3) : 0 < W i * (pw W i * D) ∧ W i * (pw W i * D) < 2 ^ 1600 := by
  have h1 : W i * (pw W i * D) = pw W (i + 1) * D := (Nat.mul_assoc _ _ _).symm
  rw [h1]
  exact ⟨Nat.mul_pos (pw_pos hW _) h.d0, Nat.lt_of_le_of_lt (Nat.mul_le_mul_right D (pw_mono hW (by omega))) h.lt⟩
theorem Fits.dlt {W : Nat → Nat} {D : Nat} (hW : ∀ i, 0 < W i) (h : Fits W D) : D < 2 ^ 1600 := Nat.lt_of_le_of_lt (Nat.le_mul_of_pos_left D (pw_pos hW 4)) h.lt
/-! ### promises -/
def spTake4 : Sp := fun vs H Q _ => ∃ (s : Addr) (m : Int) (k : Nat), vs = [.ref s, .int m] ∧ St4 s k H ∧ 0 < m ∧ m < 2 ^ 200 ∧ ∀ d H', 0 ≤ d → d < m → Dk s H H' → St4 s k H' → Q (.int d) H'
def spStream4 : Sp := fun vs H Q _ => ∃ c : Int, vs = [.int c] ∧ ∀ s, H s = none → ∀ H', Ex H H' → St4 s 2 H' → Q (.ref s) H'
def spDraw4 : Sp := fun vs H Q _ => ∃ (s : Addr) (k : Nat), vs = [.ref s] ∧ St4 s k H ∧ ∀ d H', 0 < d → d.natAbs < 2 ^ 100 → Dk s H H' → St4 s k H' → Q (.int d) H'
/-- so many long numbers were drawn, their bottoms' product is M -/
structure Used (k k' M : Nat) : Prop where
  le : k' ≤ k
  pos : 0 < M
  lt : M ≤ 2 ^ (100 * (k - k'))
theorem Used.refl (k : Nat) : Used k k 1 := ⟨Nat.le_refl _, Nat.one_pos, by rw [Nat.sub_self]; decide⟩
theorem Used.trans {k k1 k2 M N : Nat} (a : Used k k1 M) (b : Used k1 k2 N) : Used k k2 (M * N) := by
  refine ⟨Nat.le_trans b.le a.le, Nat.mul_pos a.pos b.pos, Nat.le_trans (Nat.mul_le_mul a.lt b.lt) ?_⟩
  rw [← Nat.pow_add]
  have h1 := a.le
  have h2 := b.le
  exact Nat.pow_le_pow_right (by decide) (by omega)
theorem sv_l {n M N : Nat} {r : Rat} (h : Sv n (6 * M) r) : Sv n (6 * (M * N)) r := h.mono (Nat.le_refl _) (Nat.mul_dvd_mul_left 6 (Nat.dvd_mul_right _ _))
theorem sv_r {n M N : Nat} {r : Rat} (h : Sv n (6 * N) r) : Sv n (6 * (M * N)) r := h.mono (Nat.le_refl _) (Nat.mul_dvd_mul_left 6 (Nat.dvd_mul_left _ _))
def spNum4 (K : PySem.W.Frag) : Sp := fun vs H Q _ => ∃ (s : Addr) (k : Nat), vs = [.ref s] ∧ St4 s k H ∧ ∀ v r H' k' M, Dk s H H' → St4 s k' H' → Used k k' M → FrV K H' v r → Sv 1500 (6 * M) r → Q v H'
def spNode4 (K : PySem.W.Frag) : Sp := fun vs H Q _ => ∃ (s : Addr) (k n : Nat), vs = [.ref s, .int (n : Int)] ∧ St4 s k H ∧ n ≤ 20 ∧ ∀ v z H' k' M, Dk s H H' → St4 s k' H' → Used k k' M → SumV K H' v z → z.1.length = n → SvL 1500 (6 * M) z.1 → Sv 1500 (6 * M) z.2 → Q v H'
def spSpot4 (K : PySem.W.Frag) : Sp := fun vs H Q _ => ∃ (s : Addr) (k n : Nat), vs = [.ref s, .int (n : Int)] ∧ St4 s k H ∧ n ≤ 20 ∧ ∀ v L H' k' M, Dk s H H' → St4 s k' H' → Used k k' M → RowV K H' v L → L.length = n → SvL 1500 (6 * M) L → Q v H'
def spSize4 : Sp := fun vs H Q _ => ∃ (s : Addr) (m k : Nat), vs = [.ref s, .int (m : Int)] ∧ St4 s k H ∧ 2 ≤ m ∧ m ≤ 10 ∧ ∀ (d : Nat) H', 1 ≤ d → d ≤ m → Dk s H H' → St4 s k H' → Q (.int (d : Int)) H'
def spLays4 (K : PySem.W.Frag) : Sp := fun vs H Q _ => ∃ (s : Addr) (n k : Nat), vs = [.ref s, .int (n : Int)] ∧ St4 s k H ∧ 1 ≤ n ∧ n ≤ 3 ∧ ∀ D ls H' k' M, H D = none → Dk s H H' → St4 s k' H' → Used k k' M → LayS K s H' D ls → NetOk n ls (fun _ => 6 * M) → Q (.ref D) H'
def spWeighD (K : PySem.W.Frag) : Sp := fun vs H Q _ => ∃ (x y : V) (rs ss : List Rat) (m W D : Nat), vs = [x, y] ∧ RowV K H x rs ∧ RowV K H y ss ∧ rs.length = ss.length ∧ rs.length ≤ 4 ∧ SvL 1500 W rs ∧ SvL m D ss ∧ m ≤ 430000 ∧ 0 < W * D ∧ W * D < 2 ^ 1600 ∧ ∀ v H', Ex H H' → FrV K H' v (weighs (rs.zip ss)) → Q v H'
def spTellsD (K : PySem.W.Frag) : Sp := fun vs H Q _ => ∃ (x y : V) (z : Sum2) (ss : List Rat) (m W D : Nat), vs = [x, y] ∧ SumV K H x z ∧ RowV K H y ss ∧ z.1.length = ss.length ∧ z.1.length ≤ 4 ∧ SvL 1500 W z.1 ∧ Sv 1500 W z.2 ∧ SvL m D ss ∧ m ≤ 430000 ∧ 0 < W * D ∧ W * D < 2 ^ 1600 ∧ ∀ v H', Ex H H' → FrV K H' v (tells z ss) → Q v H'
def NodesOk (n W : Nat) (l : List Sum2) : Prop := ∀ z ∈ l, z.1.length = n ∧ SvL 1500 W z.1 ∧ Sv 1500 W z.2
/-- the facts of a reckoning: nodes, a row -/
structure Rk (l : List Sum2) (L : List Rat) (m W D : Nat) : Prop where
  nodes : NodesOk L.length W l
  len : L.length ≤ 4
  many : l.length ≤ 4
  row : SvL m D L
  top : m ≤ 430000
  pos : 0 < W * D
  lt : W * D < 2 ^ 1600
def spReckD (K : PySem.W.Frag) : Sp := fun vs H Q _ => ∃ (x y : V) (l : List Sum2) (L : List Rat) (m W D : Nat), vs = [x, y] ∧ NodesV K H x l ∧ RowV K H y L ∧ Rk l L m W D ∧ ∀ v H', Ex H H' → RowV K H' v (l.map fun z => tells z L) → Q v H'
def spPassD (K : PySem.W.Frag) (C : Addr) : Sp := fun vs H Q _ => ∃ (p : Addr) (nv y : V) (l : List Sum2) (L : List Rat) (m W D : Nat), vs = [.ref p, y] ∧ LayerAt C H p nv ∧ NodesV K H nv l ∧ RowV K H y L ∧ Rk l L m W D ∧ ∀ v H', Ex H H' → RowV K H' v (l.map fun z => tells z L) → Q v H'
def spCutQ (K : PySem.W.Frag) : Sp := fun vs H Q _ => ∃ (x : V) (r : Rat), vs = [x] ∧ FrV K H x r ∧ ∀ v, FrV K H v (cutQ r) → Q v H
def spCutRow (K : PySem.W.Frag) : Sp := fun vs H Q _ => ∃ (x : V) (L : List Rat), vs = [x] ∧ RowV K H x L ∧ L.length ≤ 100 ∧ ∀ v H', Ex H H' → RowV K H' v (L.map cutQ) → Q v H'
def spRowsD (K : PySem.W.Frag) : Sp := fun vs H Q _ => ∃ (x y : V) (ls : List (List Sum2)) (L : List Rat) (W : Nat → Nat) (D : Nat), vs = [x, y] ∧ LayI K H x ls ∧ RowV K H y L ∧ NetOk L.length ls W ∧ SvL 1500 D L ∧ Fits W D ∧
  ∀ F rs H', H F = none → Ex H H' → H' F = some (.lst rs) → Paired (RowV K H') rs (rowsAt ls L) → Q (.ref F) H'
def spSumsAt (K : PySem.W.Frag) (CN CL CC : Addr) : Sp := fun vs H Q _ => ∃ (p : Addr) (y : V) (ls : List (List Sum2)) (L : List Rat) (W : Nat → Nat) (D : Nat), vs = [.ref p, y] ∧ NetV K CN CL CC H p L.length ls ∧ RowV K H y L ∧ NetOk L.length ls W ∧ SvL 1500 D L ∧ Fits W D ∧
  ∀ F rs H', H F = none → Ex H H' → H' F = some (.lst rs) → Paired (RowV K H') rs (rowsAt ls L) → Q (.ref F) H'
def spOutsAt (K : PySem.W.Frag) (CN CL CC : Addr) : Sp := fun vs H Q _ => ∃ (p : Addr) (y : V) (ls : List (List Sum2)) (L : List Rat) (W : Nat → Nat) (D : Nat), vs = [.ref p, y] ∧ NetV K CN CL CC H p L.length ls ∧ RowV K H y L ∧ NetOk L.length ls W ∧ SvL 1500 D L ∧ Fits W D ∧
  ∀ v o H', Ex H H' → (rowsAt ls L)[ls.length - 1]? = some o → RowV K H' v o → Q v H'
def spToldN (K : PySem.W.Frag) (CN CL CC : Addr) : Sp := fun vs H Q _ => ∃ (p : Addr) (n : Nat) (ls : List (List Sum2)), vs = [.ref p] ∧ NetV K CN CL CC H p n ls ∧ ls.length ≤ 100 ∧ ∀ v H', Ex H H' → TdV K H' v n ls → Q v H'
def spInsN (K : PySem.W.Frag) (CN CL CC : Addr) : Sp := fun vs H Q _ => ∃ (p : Addr) (n : Nat) (ls : List (List Sum2)), vs = [.ref p] ∧ NetV K CN CL CC H p n ls ∧ Q (.int (n : Int)) H
def spLaysTold (K : PySem.W.Frag) (CN CL CC : Addr) : Sp := fun vs H Q _ => ∃ (p : Addr) (n : Nat) (ls : List (List Sum2)), vs = [.ref p] ∧ NetV K CN CL CC H p n ls ∧ ls.length ≤ 100 ∧ (∀ l ∈ ls, l.length ≤ 100) ∧
  ∀ F ys H', H F = none → Ex H H' → H' F = some (.lst ys) → Paired (fun v l => ∃ a xs, v = .ref a ∧ H a = none ∧ a ≠ F ∧ H' a = some (.lst xs) ∧ Paired (SumV K H') xs l) ys ls → Q (.ref F) H'
/-- the making of a net -/
def spInitN (K : PySem.W.Frag) (CN CL CC : Addr) : Sp := fun vs H Q _ => ∃ (p dx : Addr) (x : V) (n : Nat) (ls : List (List Sum2)) (W : Nat → Nat), vs = [.ref p, .int (n : Int), x] ∧ H p = some (.ins CN dx []) ∧ LayI K H x ls ∧ NetOk n ls W ∧
  ∀ H', (∀ b o, b ≠ p → H b = some o → H' b = some o) → NetV K CN CL CC H' p n ls → Q .non H'
def spIsSum (K : PySem.W.Frag) : Sp := fun vs H Q _ => ∃ (x : V) (z : Sum2), vs = [x, .int (z.1.length : Int)] ∧ SumV K H x z ∧ z.1.length ≤ 100 ∧ ∀ H', Ex H H' → Q (.bl true) H'
def spAreIns : Sp := fun vs H Q _ => ∃ n : Nat, vs = [.int (n : Int)] ∧ 1 ≤ n ∧ n ≤ 3 ∧ Q (.bl true) H
def spAreLays (K : PySem.W.Frag) : Sp := fun vs H Q _ => ∃ (x : V) (n : Nat) (ls : List (List Sum2)) (W : Nat → Nat), vs = [x, .int (n : Int)] ∧ LayI K H x ls ∧ NetOk n ls W ∧ ∀ H', Ex H H' → Q (.bl true) H'
/-- a good row, a good fraction -/
theorem FrV.th {K : PySem.W.Frag} {H : Hp} {v : V} {r : Rat} (h : FrV K H v r) : Th K H v true := by
  obtain ⟨t, rfl, q⟩ := h
  have e := Th.nums q
  have e1 : decide ((0 : Int) < (r.den : Int)) = true := decide_eq_true (den_pos r)
  have e2 : decide (Nat.gcd r.num.natAbs ((r.den : Int)).natAbs = 1) = true := decide_eq_true (by rw [Int.natAbs_natCast]; exact r.reduced)
  rw [e1, e2] at e
  exact e
theorem frl_th {K : PySem.W.Frag} {H : Hp} : ∀ {xs : List V} {rs : List Rat}, FrL K H xs rs → Paired (Th K H) xs (List.replicate rs.length true)
  | _, _, .nil => .nil
  | _, _, .cons a t => .cons a.th (frl_th t)
theorem RowV.rw {K : PySem.W.Frag} {H : Hp} {v : V} {rs : List Rat} (h : RowV K H v rs) (hl : rs.length ≤ 100) : Rw K H v (some (List.replicate rs.length true)) := by
  obtain ⟨t, xs, rfl, q, l⟩ := h
  exact .tup q (frl_th l) (by rw [Paired.length l]; exact hl)
theorem rwB_rep (n : Nat) : rwB (some (List.replicate n true)) (n : Int) = true := by
  show (decide (((List.replicate n true).length : Int) = (n : Int)) && (List.replicate n true).all id) = true
  rw [List.length_replicate, decide_eq_true rfl, Bool.true_and]
  simp
/-! ### a step of the reckoning -/
theorem rk_next {l : List Sum2} {A : List Rat} {i D : Nat} {W : Nat → Nat} (k : Rk l A (tb i) (W i) (pw W i * D)) : SvL (tb (i + 1)) (pw W (i + 1) * D) ((l.map fun z => tells z A).map cutQ) := by
  intro r hr
  obtain ⟨u, hu, rfl⟩ := List.mem_map.mp hr
  obtain ⟨z, hz, rfl⟩ := List.mem_map.mp hu
  obtain ⟨h1, h2, h3⟩ := k.nodes z hz
  have h := sv_tells k.pos k.lt h2 h3 k.row h1
  have hl : z.1.length ≤ 4 := by
    rw [h1]
    exact k.len
  have hb : z.1.length * (1500 + tb i + 1600 + 1) ≤ 4 * (1500 + tb i + 1600 + 1) := Nat.mul_le_mul_right _ hl
  have e : pw W (i + 1) * D = W i * (pw W i * D) := Nat.mul_assoc _ _ _
  rw [e]
  refine sv_cutQ (h.mono ?_ (Nat.dvd_refl _))
  show _ ≤ 1 + 4 * (1500 + tb i + 1601) + 3102
  omega
theorem drop_at {α : Type} {ls : List α} {i : Nat} {l : α} (h : ls[i]? = some l) : ls.drop i = l :: ls.drop (i + 1) := by
  obtain ⟨h1, h2⟩ := List.getElem?_eq_some_iff.mp h
  rw [List.drop_eq_getElem_cons h1, h2]
theorem rk_of {ls : List (List Sum2)} {n D i : Nat} {W : Nat → Nat} {l : List Sum2} {A : List Rat} (ok : NetOk n ls W) (f : Fits W D) (hi : ls[i]? = some l) (ov : Over A.length (ls.drop i)) (hA : SvL (tb i) (pw W i * D) A) (h4 : A.length ≤ 4) :
    Rk l A (tb i) (W i) (pw W i * D) ∧ Over l.length (ls.drop (i + 1)) ∧ l.length ≤ 4 ∧ 1 ≤ l.length ∧ i ≤ 3 := by
  have hi1 := (List.getElem?_eq_some_iff.mp hi).1
  have hl4 := ok.l4
  have hi3 : i ≤ 3 := by omega
  rw [drop_at hi] at ov
  obtain ⟨o1, o2, o3⟩ := ov
  have hm := List.mem_of_getElem? hi
  exact ⟨⟨fun z hz => ⟨o1 z hz, ok.num i l hi z hz⟩, h4, o2.2, hA, tb_le3 i hi3, (f.at ok.w0 hi3).1, (f.at ok.w0 hi3).2⟩, o3, o2.2, o2.1, hi3⟩
theorem rowsAt_cons {ls : List (List Sum2)} {i : Nat} {l : List Sum2} {A : List Rat} (hi : ls[i]? = some l) : rowsAt (ls.drop i) A = (l.map fun z => tells z A) :: rowsAt (ls.drop (i + 1)) ((l.map fun z => tells z A).map cutQ) := by
  rw [drop_at hi]
  rfl
/-- what stands behind i layers: the rows told, the row ahead -/
structure Mid (ls : List (List Sum2)) (L : List Rat) (W : Nat → Nat) (D i : Nat) (dn : List (List Rat)) (A : List Rat) : Prop where
  len : dn.length = i
  eq : rowsAt ls L = dn ++ rowsAt (ls.drop i) A
  over : Over A.length (ls.drop i)
  row : SvL (tb i) (pw W i * D) A
  a4 : A.length ≤ 4
theorem mid0 {ls : List (List Sum2)} {L : List Rat} {W : Nat → Nat} {D : Nat} (ok : NetOk L.length ls W) (h : SvL 1500 D L) : Mid ls L W D 0 [] L := by
  have := ok.n3
  refine ⟨rfl, rfl, ok.over, ?_, by omega⟩
  rw [show pw W 0 = 1 from rfl, Nat.one_mul]
  exact h
theorem mid_step {ls : List (List Sum2)} {L A : List Rat} {n D i : Nat} {W : Nat → Nat} {dn : List (List Rat)} {l : List Sum2} (ok : NetOk n ls W) (f : Fits W D) (m : Mid ls L W D i dn A) (hi : ls[i]? = some l) :
    Rk l A (tb i) (W i) (pw W i * D) ∧ Mid ls L W D (i + 1) (dn ++ [l.map fun z => tells z A]) ((l.map fun z => tells z A).map cutQ) ∧ l.length ≤ 4 := by
  obtain ⟨k, o, l4, l1, i3⟩ := rk_of ok f hi m.over m.row m.a4
  refine ⟨k, ⟨by simp [m.len], ?_, ?_, rk_next k, by simpa using l4⟩, l4⟩
  · rw [m.eq, rowsAt_cons hi, List.append_assoc]
    rfl
  · simpa using o
theorem mid_end {ls : List (List Sum2)} {L A : List Rat} {W : Nat → Nat} {D : Nat} {dn : List (List Rat)} (m : Mid ls L W D ls.length dn A) : dn = rowsAt ls L := by
  rw [m.eq, List.drop_length]
  show dn = dn ++ []
  rw [List.append_nil]
theorem rowsAt_length : ∀ (ls : List (List Sum2)) (L : List Rat), (rowsAt ls L).length = ls.length
  | [], _ => rfl
  | l :: ls, L => by
    show (rowsAt ls _).length + 1 = _
    rw [rowsAt_length ls]
    rfl
/-! ### layers that grow -/
def lastN : Nat → List (List Sum2) → Nat
  | n, [] => n
  | _, l :: ls => lastN l.length ls
theorem over_snoc : ∀ {n : Nat} {ls : List (List Sum2)} {l : List Sum2}, Over n ls → (∀ z ∈ l, z.1.length = lastN n ls) → 1 ≤ l.length → l.length ≤ 4 → Over n (ls ++ [l]) ∧ lastN n (ls ++ [l]) = l.length
  | n, [], l, _, h, h1, h4 => ⟨⟨h, ⟨h1, h4⟩, trivial⟩, rfl⟩
  | n, a :: ls, l, o, h, h1, h4 => by
    obtain ⟨o1, o2, o3⟩ := o
    obtain ⟨i1, i2⟩ := over_snoc (n := a.length) (ls := ls) o3 h h1 h4
    exact ⟨⟨o1, o2, i1⟩, i2⟩
theorem sv_div {t b : Int} {n : Nat} (hb : 0 < b) (ht : t.natAbs < 2 ^ n) : Sv n b.toNat (Rat.divInt t b) := by
  constructor
  · rw [← num_div hb]
    exact Nat.lt_of_le_of_lt (natAbs_ediv_le _ _) ht
  · have h := den_of_div (k := t) (D := b.toNat) (by omega)
    rwa [Int.toNat_of_nonneg (by omega)] at h
theorem stN {K : PySem.W.Frag} : Stays (NodesV K) := ⟨NodesV.ex, NodesV.mut⟩
/-- a turn of the drawing of a row -/
theorem row_turn4 {K : PySem.W.Frag} {s D : Addr} {H H' H4 : Hp} {i k k2 N : Nat} {v : V} {r : Rat} (hS : Lst s H) (hD : H D = none) (hi : i < 1000)
    (h : ∃ L xs k' M, H' D = some (.lst xs) ∧ FrL K H' xs L ∧ L.length = i ∧ SvL 1500 (6 * M) L ∧ Dk s H H' ∧ St4 s k' H' ∧ Used k k' M ∧ Used k' k2 N) (r4 : Dk s H' H4) (t4 : St4 s k2 H4) (hv : FrV K H4 v r) (hs : Sv 1500 (6 * N) r) :
    ∃ acc, H4 D = some (.lst acc) ∧ acc.length < sizeLine ∧ ∃ L xs k' M, upd H4 D (.lst (acc ++ [v])) D = some (.lst xs) ∧ FrL K (upd H4 D (.lst (acc ++ [v]))) xs L ∧ L.length = i + 1 ∧ SvL 1500 (6 * M) L ∧ Dk s H (upd H4 D (.lst (acc ++ [v]))) ∧ St4 s k' (upd H4 D (.lst (acc ++ [v]))) ∧ Used k k' M := by
  obtain ⟨L, xs, k', M, hx, hl, hn, hz, r1, t1, u1, u2⟩ := h
  have hsD := hS.ne hD
  have h4 := r4.keep D _ (Ne.symm hsD) hx
  have hln := Paired.length hl
  refine ⟨xs, h4, sz_lt (by omega), L ++ [r], xs ++ [v], k2, M * N, upd_same, ?_, by simp [hn], ?_, (r1.trans r4).mut hD hsD, t4.mut hsD, u1.trans u2⟩
  · exact Paired.snoc (pmono (fun _ _ q => FrV.mut h4 (FrV.dk r1.st r4 q)) hl) (FrV.mut h4 hv)
  · intro a ha
    rcases List.mem_append.mp ha with ha | ha
    · exact sv_l (hz a ha)
    · rw [List.mem_singleton.mp ha]
      exact sv_r hs
end Nc
end
section
set_option maxRecDepth 100000
set_option maxHeartbeats 4000000
namespace Nc
open PySem PySem.Spec PyProof.Rows L2 Evl
theorem ite_t {b : Bool} {A B : Prop} (h : b = true) (x : A) : if b = true then A else B := by
  rw [if_pos h]
  exact x
theorem ite_f {b : Bool} {A B : Prop} (h : b = false) (x : B) : if b = true then A else B := by
  rw [if_neg (by rw [h]; decide)]
  exact x
theorem ite_nt {b : Bool} {A B : Prop} (h : b = true) (x : B) : if (!b) = true then A else B := by
  rw [if_neg (by rw [h]; decide)]
  exact x
theorem ite_nf {b : Bool} {A B : Prop} (h : b = false) (x : A) : if (!b) = true then A else B := by
  rw [if_pos (by rw [h]; decide)]
  exact x
theorem kitLT {K : PySem.W.Frag} : PySem.W.kitAny K (.type "list") [.type "list", .type "tuple"] = some true := by
  simp [PySem.W.kitAny, kit_ty (K := K) (a := "list") (b := "list") (r := true) (by decide +kernel)]
theorem kitTT {K : PySem.W.Frag} : PySem.W.kitAny K (.type "tuple") [.type "list", .type "tuple"] = some true := by
  simp [PySem.W.kitAny, kit_ty (K := K) (a := "tuple") (b := "list") (r := false) (by decide +kernel), kit_ty (K := K) (a := "tuple") (b := "tuple") (r := true) (by decide +kernel)]
theorem cut_init {ys : List V} (h : ys ≠ []) : cutV ys none (some (-1)) = ys.dropLast := by
  have : ys.length ≠ 0 := fun z => h (List.eq_nil_of_length_eq_zero z)
  unfold cutV
  simp [HT.sIx, List.dropLast_eq_take]
  omega
theorem cut_to {ys : List V} {i : Nat} (h : i ≤ ys.length) : cutV ys none (some (i : Int)) = ys.take i := by
  unfold cutV
  simp only [HT.sIx]
  rw [if_neg (by omega), List.drop_zero, Int.toNat_natCast, Nat.min_eq_left h, Nat.sub_zero]
theorem cut_from {ys : List V} {i : Nat} (h : i ≤ ys.length) : cutV ys (some (i : Int)) none = ys.drop i := by
  unfold cutV
  simp only [HT.sIx]
  rw [if_neg (by omega), Int.toNat_natCast, Nat.min_eq_left h]
  exact List.take_of_length_le (by rw [List.length_drop]; omega)
theorem at_last {ys : List V} {v : V} (h : ys[ys.length - 1]? = some v) : atI ys (-1) = some v := by
  have hn : ys ≠ [] := fun z => by
    rw [z] at h
    cases h
  have e := List.dropLast_concat_getLast hn
  have hl : ys.getLast hn = v := by
    rw [List.getLast_eq_getElem]
    rw [List.getElem?_eq_getElem (by have := List.length_pos_iff.mpr hn; omega)] at h
    exact Option.some.inj h
  rw [hl] at e
  rw [← e]
  exact atI_last _ _
/-! ### where one object changes that is no list and no tuple -/
def Ch (p : Addr) (H H' : Hp) : Prop := ∀ b o, b ≠ p → H b = some o → H' b = some o
section
variable {K : PySem.W.Frag} {H H' H2 : Hp} {p C dx : Addr} {fs : List (Str × V)}
theorem Ch.trans (a : Ch p H H') (b : Ch p H' H2) : Ch p H H2 := fun x o hx q => b x o hx (a x o hx q)
theorem Ch.ex (e : Ex H H') : Ch p H H' := fun x o _ q => e x o q
theorem Ch.put {o : HO} : Ch p H (upd H p o) := fun x u hx q => by
  rw [upd_ne hx]
  exact q
theorem sqt_ch {t : Addr} {xs : List V} (hp : H p = some (.ins C dx fs)) (c : Ch p H H') (q : SqT K H t xs) : SqT K H' t xs := by
  rcases q with (q | ⟨o, q⟩) | q
  · exact .inl (.inl (c _ _ (ne_of q hp (by intro z; cases z)) q))
  · exact .inl (.inr ⟨o, c _ _ (ne_of q hp (by intro z; cases z)) q⟩)
  · exact .inr q
theorem sql_ch {t : Addr} {xs : List V} (hp : H p = some (.ins C dx fs)) (c : Ch p H H') (q : SqL K H t xs) : SqL K H' t xs := by
  rcases q with (q | ⟨o, q⟩) | q
  · exact .inl (.inl (c _ _ (ne_of q hp (by intro z; cases z)) q))
  · exact .inl (.inr ⟨o, c _ _ (ne_of q hp (by intro z; cases z)) q⟩)
  · exact .inr q
theorem FrV.ch {v : V} {r : Rat} (hp : H p = some (.ins C dx fs)) (c : Ch p H H') (q : FrV K H v r) : FrV K H' v r := by
  obtain ⟨t, rfl, q⟩ := q
  exact ⟨t, rfl, sqt_ch hp c q⟩
theorem RowV.ch {v : V} {rs : List Rat} (hp : H p = some (.ins C dx fs)) (c : Ch p H H') (q : RowV K H v rs) : RowV K H' v rs := by
  obtain ⟨t, xs, rfl, q, l⟩ := q
  exact ⟨t, xs, rfl, sqt_ch hp c q, pmono (fun _ _ => FrV.ch hp c) l⟩
theorem SumV.ch {v : V} {z : Sum2} (hp : H p = some (.ins C dx fs)) (c : Ch p H H') (q : SumV K H v z) : SumV K H' v z := by
  obtain ⟨t, a, b, rfl, q, l, n⟩ := q
  exact ⟨t, a, b, rfl, sqt_ch hp c q, l.ch hp c, n.ch hp c⟩
theorem LyV.ch {v : V} {l : List Sum2} (hp : H p = some (.ins C dx fs)) (c : Ch p H H') (q : LyV K H v l) : LyV K H' v l := by
  obtain ⟨a, xs, rfl, q, l⟩ := q
  exact ⟨a, xs, rfl, sql_ch hp c q, pmono (fun _ _ => SumV.ch hp c) l⟩
theorem LayI.ch {v : V} {ls : List (List Sum2)} (hp : H p = some (.ins C dx fs)) (c : Ch p H H') (q : LayI K H v ls) : LayI K H' v ls := by
  obtain ⟨D, ys, rfl, q, l⟩ := q
  exact ⟨D, ys, rfl, sql_ch hp c q, pmono (fun _ _ => LyV.ch hp c) l⟩
theorem NodesV.ch {v : V} {l : List Sum2} (hp : H p = some (.ins C dx fs)) (c : Ch p H H') (q : NodesV K H v l) : NodesV K H' v l := by
  obtain ⟨a, xs, rfl, q, l⟩ := q
  exact ⟨a, xs, rfl, sqt_ch hp c q, pmono (fun _ _ => SumV.ch hp c) l⟩
theorem LayV.ch {CL CC : Addr} {v : V} {l : List Sum2} {n : Int} (hp : H p = some (.ins C dx [(("_ins" : Str), .int n)])) (c : Ch p H H') (q : LayV K CL CC H v l) : LayV K CL CC H' v l := by
  obtain ⟨a, D, nv, rfl, hc, ⟨dy, la⟩, nn⟩ := q
  refine ⟨a, D, nv, rfl, hc, ⟨dy, c _ _ (fun z => ?_) la⟩, nn.ch hp c⟩
  subst z
  rw [hp] at la
  have h1 := Option.some.inj la
  injection h1 with _ _ h2
  have h3 := congrArg (List.map Prod.fst) h2
  have h4 : (("_ins" : Str) == ("_nodes" : Str)) = true := by
    have h5 : [("_ins" : Str)] = [("_nodes" : Str)] := h3
    have h6 := List.head_eq_of_cons_eq h5
    rw [h6]
    exact beq_self_eq_true _
  exact absurd h4 (by decide +kernel)
end
theorem pair_init {α β : Type} {R : α → β → Prop} : ∀ {xs : List α} {ys : List β}, Paired R xs ys → Paired R xs.dropLast ys.dropLast
  | _, _, .nil => .nil
  | _, _, .cons a .nil => .nil
  | _, _, .cons a (.cons b t) => .cons a (pair_init (.cons b t))
theorem pair_app {α β : Type} {R : α → β → Prop} : ∀ {xs us : List α} {ys vs : List β}, Paired R xs ys → Paired R us vs → Paired R (xs ++ us) (ys ++ vs)
  | _, _, _, _, .nil, h => h
  | _, _, _, _, .cons a t, h => .cons a (pair_app t h)
theorem init_last {α : Type} {l : List α} {a : α} (h : l[l.length - 1]? = some a) : l.dropLast ++ [a] = l := by
  have hn : l ≠ [] := fun z => by
    rw [z] at h
    cases h
  have e := List.dropLast_concat_getLast hn
  have hl : l.getLast hn = a := by
    rw [List.getLast_eq_getElem]
    rw [List.getElem?_eq_getElem (by have := List.length_pos_iff.mpr hn; omega)] at h
    exact Option.some.inj h
  rwa [hl] at e
/-! ### rules with K written out, for the blocks of comprehensions -/
def rTupK (K : PySem.W.Frag) : List V → Hp → VK → Prop := fun xs H Q => ∃ p ys, xs = [.ref p] ∧ ((SqL K H p ys ∧ ∀ l, H l = none → Q (.ref l) (upd H l (.tup ys))) ∨ (SqT K H p ys ∧ Q (.ref p) H))
theorem call_tupK {X : Cx} (K : PySem.W.Frag) (h : X.K = K := by rfl) : CallR X (.type "tuple") (rTupK K) := by
  subst h
  exact call_tuple_of
def rLstK (K : PySem.W.Frag) : List V → Hp → VK → Prop := fun xs H Q => ∃ p ys, xs = [.ref p] ∧ (SqL K H p ys ∨ SqT K H p ys) ∧ ∀ l, H l = none → Q (.ref l) (upd H l (.lst ys))
theorem call_lstK {X : Cx} (K : PySem.W.Frag) (h : X.K = K := by rfl) : CallR X (.type "list") (rLstK K) := by
  subst h
  exact call_list_of
/-- the classes of layers and nets -/
structure NDefs (P : Program) (w : World) (K : PySem.W.Frag) (mg : Str → Option Value) (base : Heap) (CN CL CC : Addr) : Prop where
  tN : Cls K CN
  nI : NoAttr K CN "_ins"
  nL : NoAttr K CN "_layers"
  tL : Cls K CL
  tC : Cls K CC
  toldL : MOk P w K mg base 1 CL "told" ["self"] (spToldL CL)
  toldC : MOk P w K mg base 1 CC "told" ["self"] (spToldL CC)
  sumsL : MOk P w K mg base 6 CL "sums" ["self", "ahead"] (spPassD K CL)
  sumsC : MOk P w K mg base 6 CC "sums" ["self", "ahead"] (spPassD K CC)
theorem no_m {v : V} {m : Str} (h : ¬ m = "_nodes") : List.lookup m [(("_nodes" : Str), v)] = none := by
  have qw : (m == ("_nodes" : Str)) = false := by simpa using h
  simp [List.lookup, qw]
theorem no_n {v w : V} {m : Str} (h : ¬ m = "_ins") (h2 : ¬ m = "_layers") : List.lookup m [(("_ins" : Str), v), (("_layers" : Str), w)] = none := by
  have qw : (m == ("_ins" : Str)) = false := by simpa using h
  have qw2 : (m == ("_layers" : Str)) = false := by simpa using h2
  simp [List.lookup, qw, qw2]
end Nc
end
section
set_option maxRecDepth 100000
set_option maxHeartbeats 4000000
namespace Nc
open PySem PySem.Spec PyProof.Rows L2 Evl
/-! ### tuples put together, cut, of any length -/
def rCatTE (K : PySem.W.Frag) : R2 := fun x y H Q => ∃ a b xs ys, x = .ref a ∧ y = .ref b ∧ SqT K H a xs ∧ SqT K H b ys ∧ xs.length + ys.length ≤ sizeLine ∧ ∀ p H2, Ex H H2 → SqT K H2 p (xs ++ ys) → Q (.ref p) H2
theorem op_catTE {X : Cx} (K : PySem.W.Frag) (h : X.K = K := by rfl) : OpR X (binaryOp .Add) (rCatTE K) := by
  subst h
  intro pins s σ H x y v u Q I rx ry h
  obtain ⟨a, b, xs, ys, e1, e2, hx, hy, hz, q⟩ := h
  refine op_catA pins s σ H x y v u Q I rx ry ⟨a, b, xs, ys, e1, e2, hx, hy, hz, fun e => ?_, fun _ e => ?_, fun _ _ p hp => q p _ (Ex.new hp) (st_of upd_same)⟩
  · subst e
    exact q b H (Ex.refl H) hy
  · subst e
    exact q a H (Ex.refl H) (by rw [List.append_nil]; exact hx)
def rSlTE (K : PySem.W.Frag) : V → Option Int → Option Int → Hp → VK → Prop := fun x lo hi H Q => ∃ a xs, x = .ref a ∧ SqT K H a xs ∧ ∀ p H2, Ex H H2 → SqT K H2 p (cutV xs lo hi) → Q (.ref p) H2
theorem sl_tupE {X : Cx} (K : PySem.W.Frag) (h : X.K = K := by rfl) : SlR X (rSlTE K) := by
  subst h
  intro pins s σ H x v vl vu lo hi sl Q I rx hs pl pu h
  obtain ⟨a, xs, e, hx, q⟩ := h
  refine sl_tupA pins s σ H x v vl vu lo hi sl Q I rx hs pl pu ⟨a, xs, e, hx, fun hw => ?_, fun _ p hp => q p _ (Ex.new hp) (st_of upd_same)⟩
  refine q a H (Ex.refl H) ?_
  have : cutV xs lo hi = xs := by
    unfold cutV
    rw [hw.1, hw.2, List.drop_zero, Nat.sub_zero, List.take_length]
  rw [this]
  exact hx
theorem mem_cut {xs : List V} {lo hi : Option Int} {v : V} (h : v ∈ cutV xs lo hi) : v ∈ xs := List.mem_of_mem_drop (List.mem_of_mem_take h)
/-! ### the net of a node -/
theorem over_take : ∀ {n : Nat} {ls : List (List Sum2)} {i : Nat} {l : List Sum2}, Over n ls → ls[i]? = some l → Over n (ls.take i) ∧ ∀ z ∈ l, z.1.length = lastN n (ls.take i)
  | n, [], i, l, _, h => by simp at h
  | n, a :: ls, 0, l, o, h => by
    simp at h
    subst h
    exact ⟨trivial, o.1⟩
  | n, a :: ls, i + 1, l, o, h => by
    obtain ⟨o1, o2, o3⟩ := o
    obtain ⟨h1, h2⟩ := over_take (n := a.length) (ls := ls) (i := i) (l := l) o3 (by simpa using h)
    exact ⟨⟨o1, o2, h1⟩, h2⟩
def nodeNet (ls : List (List Sum2)) (i : Nat) (z : Sum2) : List (List Sum2) := ls.take i ++ [[z]]
theorem netok_node {n : Nat} {W : Nat → Nat} {ls : List (List Sum2)} {i : Nat} {l : List Sum2} {z : Sum2} (ok : NetOk n ls W) (hl : ls[i]? = some l) (hz : z ∈ l) : NetOk n (nodeNet ls i z) W := by
  obtain ⟨o1, o2⟩ := over_take ok.over hl
  have hi := (List.getElem?_eq_some_iff.mp hl).1
  have h4 := ok.l4
  have hm := List.mem_of_getElem? hl
  obtain ⟨o3, _⟩ := over_snoc o1 (l := [z]) (fun a ha => by rw [List.mem_singleton.mp ha]; exact o2 z hz) (by simp) (by simp)
  refine ⟨ok.n1, ok.n3, o3, ?_, ?_, ?_, ok.w0⟩
  · simp [nodeNet]
  · simp [nodeNet]
    omega
  · intro k a ha b hb
    unfold nodeNet at ha
    by_cases hk : k < i
    · rw [List.getElem?_append_left (by rw [List.length_take]; omega), List.getElem?_take_of_lt hk] at ha
      exact ok.num k a ha b hb
    · rw [List.getElem?_append_right (by rw [List.length_take]; omega), List.length_take, Nat.min_eq_left (by omega)] at ha
      have hk0 : k - i = 0 := by
        have := (List.getElem?_eq_some_iff.mp ha).1
        simp at this
        omega
      rw [hk0] at ha
      have e : [z] = a := Option.some.inj ha
      subst e
      have e2 : k = i := by omega
      subst e2
      rw [List.mem_singleton.mp hb]
      exact ok.num k l hl z hz
theorem node_len {ls : List (List Sum2)} {i : Nat} {l : List Sum2} {z : Sum2} (hl : ls[i]? = some l) : (nodeNet ls i z).length = i + 1 := by
  have hi := (List.getElem?_eq_some_iff.mp hl).1
  simp [nodeNet]
  omega
theorem node_last {ls : List (List Sum2)} {i : Nat} {l : List Sum2} {z : Sum2} (hl : ls[i]? = some l) : (nodeNet ls i z)[(nodeNet ls i z).length - 1]? = some [z] := by
  have hi := (List.getElem?_eq_some_iff.mp hl).1
  have h : (ls.take i).length = i := by
    rw [List.length_take]
    omega
  rw [node_len hl]
  unfold nodeNet
  rw [show i + 1 - 1 = (ls.take i).length by omega]
  exact List.getElem?_concat_length
theorem rows_node : ∀ {ls : List (List Sum2)} {i j : Nat} {L : List Rat} {l : List Sum2} {z : Sum2}, ls[i]? = some l → l[j]? = some z → ∃ r x, (rowsAt ls L)[i]? = some r ∧ r[j]? = some x ∧ (rowsAt (nodeNet ls i z) L)[i]? = some [x]
  | [], i, j, L, l, z, h, _ => by simp at h
  | a :: ls, 0, j, L, l, z, h, hz => by
    simp at h
    subst h
    refine ⟨_, tells z L, rfl, ?_, rfl⟩
    rw [List.getElem?_map, hz]
    rfl
  | a :: ls, i + 1, j, L, l, z, h, hz => rows_node (ls := ls) (i := i) (L := (a.map fun z => tells z L).map cutQ) (by simpa using h) hz
theorem pair_take {α β : Type} {R : α → β → Prop} : ∀ {xs : List α} {ys : List β} {i : Nat}, Paired R xs ys → Paired R (xs.take i) (ys.take i)
  | _, _, 0, _ => .nil
  | _, _, i + 1, .nil => .nil
  | _, _, i + 1, .cons a t => .cons a (pair_take t)
/-! ### promises -/
def spCheckN (K : PySem.W.Frag) (CN CL CC : Addr) : Sp := fun vs H Q _ => ∃ (p : Addr) (n i j : Nat) (ls : List (List Sum2)) (l : List Sum2) (z : Sum2), vs = [.ref p, .int (i : Int), .int (j : Int)] ∧ NetV K CN CL CC H p n ls ∧ ls.length ≤ 100 ∧ (∀ l ∈ ls, l.length ≤ 100) ∧ ls[i]? = some l ∧ l[j]? = some z ∧ ∀ H', Ex H H' → Q .non H'
def spNodeNet (K : PySem.W.Frag) (CN CL CC : Addr) : Sp := fun vs H Q _ => ∃ (p : Addr) (n i j : Nat) (W : Nat → Nat) (ls : List (List Sum2)) (l : List Sum2) (z : Sum2), vs = [.ref p, .int (i : Int), .int (j : Int)] ∧ NetV K CN CL CC H p n ls ∧ NetOk n ls W ∧ ls[i]? = some l ∧ l[j]? = some z ∧ ∀ q' H', Ex H H' → NetV K CN CL CC H' q' n (nodeNet ls i z) → Q (.ref q') H'
def spOutsN (K : PySem.W.Frag) (CN CL CC : Addr) : Sp := fun vs H Q _ => ∃ (p : Addr) (n : Nat) (ls : List (List Sum2)) (l : List Sum2), vs = [.ref p] ∧ NetV K CN CL CC H p n ls ∧ ls[ls.length - 1]? = some l ∧ Q (.int (l.length : Int)) H
theorem over_len : ∀ {n : Nat} {ls : List (List Sum2)}, Over n ls → ∀ l ∈ ls, l.length ≤ 4
  | _, [], _, l, h => by cases h
  | n, a :: ls, o, l, h => by
    rcases List.mem_cons.mp h with rfl | h
    · exact o.2.1.2
    · exact over_len o.2.2 l h
theorem ex_none {H H' : Hp} {p : Addr} (e : Ex H H') (h : H' p = none) : H p = none := Option.eq_none_iff_forall_ne_some.mpr fun o ho => by
  rw [e _ _ ho] at h
  cases h
end Nc
end
section
set_option maxRecDepth 100000
set_option maxHeartbeats 4000000
namespace Nc
open PySem PySem.Spec PyProof.Rows L2 Evl
/-! ### patterns -/
def pstep (pw : Int × Int) (r : Rat) : Int × Int := (if 0 < r.num then pw.1 + pw.2 else pw.1, 2 * pw.2)
def pfold (rows : List (List Rat)) : Int × Int := rows.flatten.foldl pstep (0, 1)
def patR (rows : List (List Rat)) : Int := (pfold rows.dropLast).1
theorem pfold_take {rows : List (List Rat)} {i : Nat} {r : List Rat} (h : rows[i]? = some r) : pfold (rows.take (i + 1)) = r.foldl pstep (pfold (rows.take i)) := by
  unfold pfold
  rw [List.take_add_one, h, List.flatten_append, List.foldl_append]
  simp
theorem fold_take {r : List Rat} {j : Nat} {x : Rat} {st : Int × Int} (h : r[j]? = some x) : (r.take (j + 1)).foldl pstep st = pstep ((r.take j).foldl pstep st) x := by
  rw [List.take_add_one, h, List.foldl_append]
  rfl
def spPatAt (K : PySem.W.Frag) (CN CL CC : Addr) : Sp := fun vs H Q _ => ∃ (p : Addr) (y : V) (ls : List (List Sum2)) (L : List Rat) (W : Nat → Nat) (D : Nat), vs = [.ref p, y] ∧ NetV K CN CL CC H p L.length ls ∧ RowV K H y L ∧ NetOk L.length ls W ∧ SvL 1500 D L ∧ Fits W D ∧ ∀ H', Ex H H' → Q (.int (patR (rowsAt ls L))) H'
def spPatL (K : PySem.W.Frag) : Sp := fun vs H Q _ => ∃ (F : Addr) (rs : List V) (rows : List (List Rat)), vs = [.ref F] ∧ SqL K H F rs ∧ Paired (RowV K H) rs rows ∧ rows ≠ [] ∧ ∀ H', Ex H H' → Q (.int (patR rows)) H'
/-! ### short numbers -/
def short (r : Rat) : Bool := decide (((r.num.natAbs : Nat) : Int) < 100) && decide ((r.den : Int) < 100)
theorem short_sz {r : Rat} (h : short r = true) : Sz 7 7 r := by
  unfold short at h
  rw [Bool.and_eq_true] at h
  have h1 := of_decide_eq_true h.1
  have h2 := of_decide_eq_true h.2
  exact ⟨by omega, by omega⟩
def spShort (K : PySem.W.Frag) : Sp := fun vs H Q _ => ∃ (x : V) (L : List Rat), vs = [x] ∧ RowV K H x L ∧ L.length ≤ 100 ∧ ∀ H', Ex H H' → Q (.bl ((L.map short).all id)) H'
theorem all_short {L : List Rat} (h : (L.map short).all id = true) : SzL 7 7 L := by
  intro r hr
  rw [List.all_map] at h
  have := List.all_eq_true.mp h r hr
  exact short_sz this
theorem pair_drop {α β : Type} {R : α → β → Prop} : ∀ {xs : List α} {ys : List β} {i : Nat}, Paired R xs ys → Paired R (xs.drop i) (ys.drop i)
  | _, _, 0, h => h
  | _, _, i + 1, .nil => .nil
  | _, _, i + 1, .cons a t => pair_drop (i := i) t
def spNought (K : PySem.W.Frag) : Sp := fun vs H Q _ => ∃ (x y : V) (ls : List (List Sum2)) (L : List Rat) (W : Nat → Nat) (D : Nat), vs = [x, y] ∧ LayI K H x ls ∧ RowV K H y L ∧ NetOk L.length ls W ∧ SvL 1500 D L ∧ 0 < D ∧ (∀ i, W i ≤ 2 ^ 203) ∧ D ≤ 2 ^ 203 ∧
  ∀ v L' D' H', Ex H H' → RowV K H' v L' → L'.length = L.length → SvL 1500 D' L' → Fits W D' → Q v H'
def spPlain (K : PySem.W.Frag) : Sp := fun vs H Q _ => ∃ (x : V) (L : List Rat), vs = [x] ∧ RowV K H x L ∧ Q (.bl true) H
/-- a spot put so -/
def putAt (L : List Rat) (i : Nat) (r : Rat) : List Rat := L.take i ++ [r] ++ L.drop (i + 1)
theorem len_put {L : List Rat} {i : Nat} {r : Rat} (h : i < L.length) : (putAt L i r).length = L.length := by
  simp [putAt]
  omega
theorem sv_put {n D E : Nat} {L : List Rat} {i : Nat} {r : Rat} (h : SvL n D L) (hr : Sv n E r) (hD : D ∣ E) : SvL n E (putAt L i r) := by
  intro a ha
  rcases List.mem_append.mp ha with ha | ha
  · rcases List.mem_append.mp ha with ha | ha
    · exact (h a (List.mem_of_mem_take ha)).mono (Nat.le_refl _) hD
    · rw [List.mem_singleton.mp ha]
      exact hr
  · exact (h a (List.mem_of_mem_drop ha)).mono (Nat.le_refl _) hD
theorem sz_put {n d : Nat} {L : List Rat} {i : Nat} {r : Rat} (h : SzL n d L) (hr : Sz n d r) : SzL n d (putAt L i r) := by
  intro a ha
  rcases List.mem_append.mp ha with ha | ha
  · rcases List.mem_append.mp ha with ha | ha
    · exact h a (List.mem_of_mem_take ha)
    · rw [List.mem_singleton.mp ha]
      exact hr
  · exact h a (List.mem_of_mem_drop ha)
theorem fits_put {W : Nat → Nat} {D E : Nat} (hW : ∀ i, W i ≤ 2 ^ 203) (hD : D ≤ 2 ^ 203) (d0 : 0 < D) (e0 : 0 < E) (hE : E ≤ 2 ^ 70) : Fits W (D * E) := by
  refine ⟨Nat.mul_pos d0 e0, ?_⟩
  have h3 : pw W 4 * (D * E) ≤ (2 ^ 203 * (2 ^ 203 * (2 ^ 203 * (2 ^ 203 * 1)))) * (2 ^ 203 * 2 ^ 70) := Nat.mul_le_mul (Nat.mul_le_mul (hW 3) (Nat.mul_le_mul (hW 2) (Nat.mul_le_mul (hW 1) (Nat.mul_le_mul (hW 0) (Nat.le_refl 1))))) (Nat.mul_le_mul hD hE)
  exact Nat.lt_of_le_of_lt h3 (by decide +kernel)
end Nc
end
section
set_option maxRecDepth 100000
set_option maxHeartbeats 4000000
namespace Nc
open PySem PySem.Spec PyProof.Rows L2
/-- an iterator at it over what stands at l: J its place, C what stands -/
structure Itr (it l : Addr) (J : Heap → Nat → Prop) (C : Heap → Array Value → Prop) : Prop where
  keepJ : ∀ {h h' : Heap} {k : Nat}, J h k → h'.get? it = h.get? it → J h' k
  keepC : ∀ {h h' : Heap} {xs : Array Value}, C h xs → h'.get? l = h.get? l → C h' xs
  item : ∀ {prog : Program} {w : World} {A : Around} {E : Value → Shared → Prop} {s : Shared} {k : Nat} {xs : Array Value} {x : Value} {Q : Value → Shared → Prop}, J s.heap k → C s.heap xs → xs[k]? = some x → (∀ h' : Heap, J h' (k + 1) → Heap.SameBut it s.heap h' → Q x { heap := h', gens := s.gens, drawn := s.drawn, toks := s.toks, os := s.os }) → wpAny (model prog w) A (Builtin.SmallTypes.nextOf (Value.ref it)) Q E s
  stop : ∀ {prog : Program} {w : World} {A : Around} {E : Value → Shared → Prop} {s : Shared} {k : Nat} {xs : Array Value} {Q : Value → Shared → Prop}, A.handled = none → J s.heap k → C s.heap xs → xs[k]? = none → (∀ (h' : Heap) (e : Addr), Heap.ExtBut it s.heap h' → (∃ o, h'.get? e = some o ∧ o.cls = Value.type "StopIteration") → E (Value.ref e) { heap := h', gens := s.gens, drawn := s.drawn, toks := s.toks, os := s.os }) → wpAny (model prog w) A (Builtin.SmallTypes.nextOf (Value.ref it)) Q E s
theorem itrL {it l : Addr} : Itr it l (fun h k => h.IsListIter it l k) (fun h xs => h.IsList l xs) :=
  ⟨fun ⟨o, h, r⟩ e => ⟨o, by rw [e]; exact h, r⟩, fun ⟨o, h, r⟩ e => ⟨o, by rw [e]; exact h, r⟩, fun a b c d => wpAny_nextOf_list_item a b c d, fun z a b c d => wpAny_nextOf_list_end z a b c d⟩
theorem itrT {it l : Addr} : Itr it l (fun h k => h.IsTupleIter it l k) (fun h xs => h.IsTuple l xs) :=
  ⟨fun ⟨o, h, r⟩ e => ⟨o, by rw [e]; exact h, r⟩, fun ⟨o, h, r⟩ e => ⟨o, by rw [e]; exact h, r⟩, fun a b c d => RZ.nextOf_tuple_item a b c d, fun z a b c d => RZ.nextOf_tuple_end z a b c d⟩
theorem push_ne {h : Heap} {o : Obj} {c : Addr} (hc : c < h.objs.size) : (h.push o).get? c = h.get? c := by
  cases e : h.get? c with
  | some u => exact Heap.get?_push_of_some _ e
  | none =>
    unfold Heap.get? Heap.push at *
    simp only [Array.getElem?_push] at *
    rw [if_neg (by exact Nat.ne_of_lt hc)]
    exact e
theorem zipG_next_item {J1 J2 : Heap → Nat → Prop} {C1 C2 : Heap → Array Value → Prop} {prog : Program} {w : World} {A : Around} {E : Value → Shared → Prop} {s : Shared} {z TI TO i1 i2 l1 l2 : Addr} {k1 k2 : Nat} {xs ys : Array Value} {x y a b : Value} {Q : Value → Shared → Prop}
    (ap : ZipApart z TI TO i1 i2 l1 l2) (hz : IsZip s.heap z TI TO Value.none) (hI : IsPair s.heap TI (Value.ref i1) (Value.ref i2)) (hO : IsPair s.heap TO a b) (I1 : Itr i1 l1 J1 C1) (I2 : Itr i2 l2 J2 C2) (h1 : J1 s.heap k1) (h2 : J2 s.heap k2) (t1 : C1 s.heap xs) (t2 : C2 s.heap ys)
    (li1 : i1 < s.heap.objs.size) (li2 : i2 < s.heap.objs.size) (x1 : xs[k1]? = some x) (x2 : ys[k2]? = some y)
    (q : ∀ h' : Heap, IsZip h' z TI TO (rawInt ↑s.heap.objs.size) → IsPair h' TO x y → J1 h' (k1 + 1) → J2 h' (k2 + 1) → IsPair h' s.heap.objs.size x y → h'.objs.size = s.heap.objs.size + 1 → (∀ (c : Addr) (o : Obj), c ≠ z → c ≠ TO → c ≠ i1 → c ≠ i2 → s.heap.get? c = some o → h'.get? c = some o) → Q (Value.ref s.heap.objs.size) { heap := h', gens := s.gens, drawn := s.drawn, toks := s.toks, os := s.os }) :
    wpAny (model prog w) A (Builtin.«zip.__next__» { pos := [Value.ref z] }) (fun fin s' => ∃ v, fin = Fin.done (Flow.ret v) ∧ Q v s') E s := by
  obtain ⟨hp, g, d, tk, os⟩ := s
  simp only at hz hI hO q li1 li2
  have ap0 := ap
  obtain ⟨a1, a2, a3, a4, a5, a6, a7, a8, a9, a10, b1, b2, b3, b4, b5, b6, b7, b8⟩ := ap
  wp_walk
  show wpAny (model prog w) A (((Builtin.SmallTypes.nextOf (Value.ref i1)).bind fun x => Sem.pure (some x)).onRaise fun _ => setField (Value.ref z) 0 Value.none) _ _ _
  refine wpAny_onRaise (wpAny_bind ?_)
  refine I1.item (k := k1) (xs := xs) (x := x) ?_ ?_ x1 fun h' t' sb => ?_
  · exact I1.keepJ h1 (Heap.get?_update_ne _ _ _ _ a3)
  · exact I1.keepC t1 (Heap.get?_update_ne _ _ _ _ b1)
  · have hO' : IsPair h' TO a b := by
      show h'.get? TO = _
      rw [sb.2 TO a8]
      show (hp.update z _).get? TO = _
      heap_get
    have h2' : J2 h' k2 := I2.keepJ h2 ((sb.2 i2 (Ne.symm a10)).trans (Heap.get?_update_ne _ _ _ _ a4))
    have t2' : C2 h' ys := I2.keepC t2 ((sb.2 l2 b7).trans (Heap.get?_update_ne _ _ _ _ b5))
    have hz' : h'.get? z = some { cls := Value.type "zip", data := Data.fields #[Value.ellipsis, Value.bool false, Value.bool false, Value.ref TI, Value.ref TO] } := by
      rw [sb.2 z (Ne.symm a3)]
      exact Heap.get?_update_self _ hz rfl
    refine wpAny_pure ?_
    wp_walk
    show wpAny (model prog w) A (((Builtin.SmallTypes.nextOf (Value.ref i2)).bind fun x => Sem.pure (some x)).onRaise fun _ => setField (Value.ref z) 0 Value.none) _ _ _
    refine wpAny_onRaise (wpAny_bind ?_)
    refine I2.item (k := k2) (xs := ys) (x := y) ?_ ?_ x2 fun h'' t'' sb2 => ?_
    · exact I2.keepJ h2' (Heap.get?_update_ne _ _ _ _ (Ne.symm a9))
    · exact I2.keepC t2' (Heap.get?_update_ne _ _ _ _ b6)
    · have hO2 : h''.get? TO = some { cls := Value.type "tuple", data := Data.seq #[x, b] } := by
        rw [sb2.2 TO a9]
        exact Heap.get?_update_self _ hO' rfl
      have hz2 : h''.get? z = some { cls := Value.type "zip", data := Data.fields #[Value.ellipsis, Value.bool false, Value.bool false, Value.ref TI, Value.ref TO] } := by
        rw [sb2.2 z (Ne.symm a4)]
        show (h'.update TO _).get? z = _
        heap_get
      refine wpAny_pure ?_
      wp_walk
      have es : (h''.update TO (Obj.mapSeq fun x => x.setIfInBounds (0 + 1) y)).objs.size = hp.objs.size := by
        rw [Heap.size_update, sb2.1]
        show (h'.update TO _).objs.size = _
        rw [Heap.size_update, sb.1]
        exact Heap.size_update _ _ _
      have k1' : ∀ (c : Addr) (o : Obj), c ≠ z → c ≠ TO → c ≠ i1 → c ≠ i2 → hp.get? c = some o → (h''.update TO (Obj.mapSeq fun x => x.setIfInBounds (0 + 1) y)).get? c = some o := by
        intro c o n1 n2 n3 n4 hc
        rw [Heap.get?_update_ne _ _ _ _ n2, sb2.2 c n4]
        show (h'.update TO _).get? c = some o
        rw [Heap.get?_update_ne _ _ _ _ n2, sb.2 c n3]
        show (hp.update z _).get? c = some o
        rw [Heap.get?_update_ne _ _ _ _ n1]
        exact hc
      have kTO : (h''.update TO (Obj.mapSeq fun x => x.setIfInBounds (0 + 1) y)).get? TO = some { cls := Value.type "tuple", data := Data.seq #[x, y] } := Heap.get?_update_self _ hO2 rfl
      have kz : (h''.update TO (Obj.mapSeq fun x => x.setIfInBounds (0 + 1) y)).get? z = some { cls := Value.type "zip", data := Data.fields #[Value.ellipsis, Value.bool false, Value.bool false, Value.ref TI, Value.ref TO] } := by
        rw [Heap.get?_update_ne _ _ _ _ (Ne.symm a2)]
        exact hz2
      have ki1 : J1 (h''.update TO (Obj.mapSeq fun x => x.setIfInBounds (0 + 1) y)) (k1 + 1) := I1.keepJ t' ((Heap.get?_update_ne _ _ _ _ (Ne.symm a8)).trans ((sb2.2 i1 a10).trans (Heap.get?_update_ne _ _ _ _ (Ne.symm a8))))
      have ki2 : J2 (h''.update TO (Obj.mapSeq fun x => x.setIfInBounds (0 + 1) y)) (k2 + 1) := I2.keepJ t'' (Heap.get?_update_ne _ _ _ _ (Ne.symm a9))
      rw [es]
      generalize h''.update TO (Obj.mapSeq fun x => x.setIfInBounds (0 + 1) y) = hu at es k1' kTO kz ki1 ki2 ⊢
      have up : ∀ {c : Addr} {o : Obj} {t f g}, c ≠ z → hu.get? c = some o → (((hu.push t).update z f).update z g).get? c = some o := fun n hc => by
        rw [Heap.get?_update_ne _ _ _ _ n, Heap.get?_update_ne _ _ _ _ n]
        exact Heap.get?_push_of_some _ hc
      refine ⟨_, rfl, q _ ?_ ?_ ?_ ?_ ?_ ?_ fun c o n1 n2 n3 n4 hc => up n1 (k1' c o n1 n2 n3 n4 hc)⟩
      · exact Heap.get?_update_self _ (Heap.get?_update_self _ (Heap.get?_push_of_some _ kz) rfl) rfl
      · exact up a2 kTO
      · refine I1.keepJ ki1 ?_
        rw [Heap.get?_update_ne _ _ _ _ a3, Heap.get?_update_ne _ _ _ _ a3]
        exact push_ne (by rw [es]; exact li1)
      · refine I2.keepJ ki2 ?_
        rw [Heap.get?_update_ne _ _ _ _ a4, Heap.get?_update_ne _ _ _ _ a4]
        exact push_ne (by rw [es]; exact li2)
      · have nz : hp.objs.size ≠ z := fun e => by
          exact absurd e (Nat.ne_of_gt (Heap.lt_size hz))
        show Heap.get? _ _ = _
        rw [Heap.get?_update_ne _ _ _ _ nz, Heap.get?_update_ne _ _ _ _ nz]
        rw [← es]; exact Heap.get?_push_size _ rfl
      · rw [Heap.size_update, Heap.size_update]
        show (hu.objs.push _).size = _
        rw [Array.size_push, es]
end Nc
end
section
set_option maxRecDepth 100000
set_option maxHeartbeats 4000000
namespace Nc
open PySem PySem.Spec PyProof.Rows L2
theorem zipG_next_end {J1 J2 : Heap → Nat → Prop} {C1 C2 : Heap → Array Value → Prop} {prog : Program} {w : World} {A : Around} {E : Value → Shared → Prop} {s : Shared} {z TI TO i1 i2 l1 l2 : Addr} {k1 k2 : Nat} {xs ys : Array Value} {a b : Value} {Q : PySem.Fin → Shared → Prop}
    (hA : A.handled = none) (ap : ZipApart z TI TO i1 i2 l1 l2) (hz : IsZip s.heap z TI TO Value.none) (hI : IsPair s.heap TI (Value.ref i1) (Value.ref i2)) (hO : IsPair s.heap TO a b) (I1 : Itr i1 l1 J1 C1) (I2 : Itr i2 l2 J2 C2) (h1 : J1 s.heap k1) (h2 : J2 s.heap k2) (t1 : C1 s.heap xs) (t2 : C2 s.heap ys)
    (x12 : xs[k1]? = none ∨ ys[k2]? = none)
    (q : ∀ (h' : Heap) (e : Addr), (∀ (c : Addr) (o : Obj), c ≠ z → c ≠ TO → c ≠ i1 → c ≠ i2 → s.heap.get? c = some o → h'.get? c = some o) → (∃ o, h'.get? e = some o ∧ o.cls = Value.type "StopIteration") → E (Value.ref e) { heap := h', gens := s.gens, drawn := s.drawn, toks := s.toks, os := s.os }) :
    wpAny (model prog w) A (Builtin.«zip.__next__» { pos := [Value.ref z] }) Q E s := by
  obtain ⟨hp, g, d, tk, os⟩ := s
  simp only at hz hI hO q
  obtain ⟨a1, a2, a3, a4, a5, a6, a7, a8, a9, a10, b1, b2, b3, b4, b5, b6, b7, b8⟩ := ap
  have fin : ∀ (h' : Heap) (e : Addr), (∀ (c : Addr) (o : Obj), c ≠ z → c ≠ TO → c ≠ i1 → c ≠ i2 → hp.get? c = some o → h'.get? c = some o) → (∃ o, h'.get? e = some o ∧ o.cls = Value.type "StopIteration") → h'.get? z = some { cls := Value.type "zip", data := Data.fields #[Value.ellipsis, Value.bool false, Value.bool false, Value.ref TI, Value.ref TO] } → E (Value.ref e) { heap := h'.update z (Obj.mapFields fun x => x.setIfInBounds 0 Value.none), gens := g, drawn := d, toks := tk, os := os } := by
    intro h' e kp se hz'
    refine q _ e (fun c o n1 n2 n3 n4 hc => by rw [Heap.get?_update_ne _ _ _ _ n1]; exact kp c o n1 n2 n3 n4 hc) ?_
    obtain ⟨o, ho, hc⟩ := se
    have ne : e ≠ z := fun eq => by
      rw [eq, hz'] at ho
      rw [← Option.some.inj ho] at hc
      have := Value.type.inj hc
      exact absurd this (by decide)
    exact ⟨o, by rw [Heap.get?_update_ne _ _ _ _ ne]; exact ho, hc⟩
  cases x1 : xs[k1]? with
  | none =>
    wp_walk
    show wpAny (model prog w) A (((Builtin.SmallTypes.nextOf (Value.ref i1)).bind fun x => Sem.pure (some x)).onRaise fun _ => setField (Value.ref z) 0 Value.none) _ _ _
    refine wpAny_onRaise (wpAny_bind ?_)
    refine I1.stop (k := k1) (xs := xs) hA ?_ ?_ x1 fun h' e ex se => ?_
    · exact I1.keepJ h1 (Heap.get?_update_ne _ _ _ _ a3)
    · exact I1.keepC t1 (Heap.get?_update_ne _ _ _ _ b1)
    · have hz' : h'.get? z = some { cls := Value.type "zip", data := Data.fields #[Value.ellipsis, Value.bool false, Value.bool false, Value.ref TI, Value.ref TO] } := ex z _ (Ne.symm a3) (Heap.get?_update_self _ hz rfl)
      wp_walk
      exact fin h' e (fun c o n1 n2 n3 n4 hc => ex c o n3 ((Heap.get?_update_ne _ _ _ _ n1).trans hc)) se hz'
  | some x =>
    have x2 : ys[k2]? = none := by
      rcases x12 with h | h
      · rw [x1] at h
        cases h
      · exact h
    wp_walk
    show wpAny (model prog w) A (((Builtin.SmallTypes.nextOf (Value.ref i1)).bind fun x => Sem.pure (some x)).onRaise fun _ => setField (Value.ref z) 0 Value.none) _ _ _
    refine wpAny_onRaise (wpAny_bind ?_)
    refine I1.item (k := k1) (xs := xs) (x := x) ?_ ?_ x1 fun h' t' sb => ?_
    · exact I1.keepJ h1 (Heap.get?_update_ne _ _ _ _ a3)
    · exact I1.keepC t1 (Heap.get?_update_ne _ _ _ _ b1)
    · have hO' : IsPair h' TO a b := by
        show h'.get? TO = _
        rw [sb.2 TO a8]
        show (hp.update z _).get? TO = _
        heap_get
      have h2' : J2 h' k2 := I2.keepJ h2 ((sb.2 i2 (Ne.symm a10)).trans (Heap.get?_update_ne _ _ _ _ a4))
      have t2' : C2 h' ys := I2.keepC t2 ((sb.2 l2 b7).trans (Heap.get?_update_ne _ _ _ _ b5))
      have hz' : h'.get? z = some { cls := Value.type "zip", data := Data.fields #[Value.ellipsis, Value.bool false, Value.bool false, Value.ref TI, Value.ref TO] } := by
        rw [sb.2 z (Ne.symm a3)]
        exact Heap.get?_update_self _ hz rfl
      refine wpAny_pure ?_
      wp_walk
      show wpAny (model prog w) A (((Builtin.SmallTypes.nextOf (Value.ref i2)).bind fun x => Sem.pure (some x)).onRaise fun _ => setField (Value.ref z) 0 Value.none) _ _ _
      refine wpAny_onRaise (wpAny_bind ?_)
      refine I2.stop (k := k2) (xs := ys) hA ?_ ?_ x2 fun h'' e ex se => ?_
      · exact I2.keepJ h2' (Heap.get?_update_ne _ _ _ _ (Ne.symm a9))
      · exact I2.keepC t2' (Heap.get?_update_ne _ _ _ _ b6)
      · have hz2 : h''.get? z = some { cls := Value.type "zip", data := Data.fields #[Value.ellipsis, Value.bool false, Value.bool false, Value.ref TI, Value.ref TO] } := ex z _ (Ne.symm a4) ((Heap.get?_update_ne _ _ _ _ (Ne.symm a2)).trans hz')
        wp_walk
        refine fin h'' e (fun c o n1 n2 n3 n4 hc => ex c o n4 ((Heap.get?_update_ne _ _ _ _ n2).trans ?_)) se hz2
        rw [sb.2 c n3]
        exact (Heap.get?_update_ne _ _ _ _ n1).trans hc
end Nc
end
section
set_option maxRecDepth 100000
set_option maxHeartbeats 4000000
namespace Nc
open PySem PySem.Spec PyProof.Rows L2
/-! zip of any two kinds of sequences: true a tuple, false a list -/
def SqX (K : PySem.W.Frag) : Bool → Hp → Addr → List V → Prop
  | true => fun H a xs => SqT K H a xs
  | false => fun H a xs => SqL K H a xs
def JX : Bool → Addr → Addr → Heap → Nat → Prop
  | true => fun it l h k => h.IsTupleIter it l k
  | false => fun it l h k => h.IsListIter it l k
def CX : Bool → Addr → Heap → Array Value → Prop
  | true => fun l h xs => h.IsTuple l xs
  | false => fun l h xs => h.IsList l xs
def itN : Bool → String
  | true => "tuple_iterator"
  | false => "list_iterator"
theorem itrX {it l : Addr} : (c : Bool) → Itr it l (JX c it l) (CX c l)
  | true => itrT
  | false => itrL
theorem JX.lt {it l : Addr} {h : Heap} {k : Nat} : {c : Bool} → JX c it l h k → it < h.objs.size
  | true, ⟨_, e, _⟩ => Heap.lt_size e
  | false, ⟨_, e, _⟩ => Heap.lt_size e
theorem JX.at' {it l : Addr} {h h' : Heap} {k : Nat} : {c : Bool} → JX c it l h k → (∀ o, h.get? it = some o → h'.get? it = some o) → JX c it l h' k
  | true, j, f => Heap.IsTupleIter.at j f
  | false, j, f => Heap.IsListIter.at j f
theorem CX.lt {l : Addr} {h : Heap} {xs : Array Value} : {c : Bool} → CX c l h xs → l < h.objs.size
  | true, ⟨_, e, _⟩ => Heap.lt_size e
  | false, ⟨_, e, _⟩ => Heap.lt_size e
theorem CX.push {l : Addr} {h : Heap} {xs : Array Value} {o : Obj} : {c : Bool} → CX c l h xs → CX c l (h.push o) xs
  | true, ⟨o', e, r⟩ => ⟨o', Heap.get?_push_of_some _ e, r⟩
  | false, ⟨o', e, r⟩ => ⟨o', Heap.get?_push_of_some _ e, r⟩
theorem invX {X : Cx} {pins : List (Addr × Obj)} {σ : L2.St} {H : Hp} {s : Shared} (I : Inv X pins σ H s) {a : Addr} {xs : List V} : {c : Bool} → SqX X.K c H a xs → ∃ its, Vals xs its ∧ CX c a s.heap its.toArray
  | true, q => by obtain ⟨its, r, p, _⟩ := I.tuple q; exact ⟨its, r, p⟩
  | false, q => by obtain ⟨its, r, p, _⟩ := I.list q; exact ⟨its, r, p.isList⟩
theorem injX {X : Cx} {pins : List (Addr × Obj)} {σ : L2.St} {H : Hp} {s : Shared} (I : Inv X pins σ H s) {a : Addr} {xs ys : List V} : {c : Bool} → SqX X.K c H a xs → SqX X.K c H a ys → xs = ys
  | true, q, r => I.tuple_inj q r
  | false, q, r => I.list_inj q r
section
variable {prog : Program} {w : World} {A : Around} {E : Value → Shared → Prop} {s : Shared}
theorem pyNext_zipX_item {c1 c2 : Bool} {z TI TO i1 i2 l1 l2 : Addr} {k1 k2 : Nat} {xs ys : Array Value} {x y a b : Value} {Q : Option Value → Shared → Prop} (D : ZipApart z TI TO i1 i2 l1 l2)
    (hz : IsZip s.heap z TI TO .none) (hTI : IsPair s.heap TI (.ref i1) (.ref i2)) (hTO : IsPair s.heap TO a b)
    (h1 : JX c1 i1 l1 s.heap k1) (h2 : JX c2 i2 l2 s.heap k2) (hl1 : CX c1 l1 s.heap xs) (hl2 : CX c2 l2 s.heap ys) (hx : xs[k1]? = some x) (hy : ys[k2]? = some y)
    (hQ : ∀ h', IsZip h' z TI TO (rawInt s.heap.objs.size) → IsPair h' TO x y → JX c1 i1 l1 h' (k1 + 1) → JX c2 i2 l2 h' (k2 + 1) → IsPair h' s.heap.objs.size x y → h'.objs.size = s.heap.objs.size + 1 →
      (∀ c o, c ≠ z → c ≠ TO → c ≠ i1 → c ≠ i2 → s.heap.get? c = some o → h'.get? c = some o) → Q (some (.ref s.heap.objs.size)) { s with heap := h' }) :
    wpAny (model prog w) A (pyNext (.ref z)) Q E s := by
  have hT : s.TypeIs (.ref z) "zip" := ⟨_, hz, rfl⟩
  unfold pyNext
  exact wpAny_bind (wpAny_attempt (wpAny_callSpecial?_slot (name := Str.ofString "__next__") hT F.slot_zip_next
    (wpAny_call_entry F.slot_zip_next hT F.entry_zip_next
      (zipG_next_item D hz hTI hTO (itrX c1) (itrX c2) h1 h2 hl1 hl2 h1.lt h2.lt hx hy fun h' a1 a2 a3 a4 a5 a6 a7 => wpAny_pure (hQ h' a1 a2 a3 a4 a5 a6 a7)) (F.args_zip_next_1 _))))
theorem pyNext_zipX_end {c1 c2 : Bool} {z TI TO i1 i2 l1 l2 : Addr} {k1 k2 : Nat} {xs ys : Array Value} {a b : Value} {Q : Option Value → Shared → Prop} (hh : A.handled = none) (D : ZipApart z TI TO i1 i2 l1 l2)
    (hz : IsZip s.heap z TI TO .none) (hTI : IsPair s.heap TI (.ref i1) (.ref i2)) (hTO : IsPair s.heap TO a b)
    (h1 : JX c1 i1 l1 s.heap k1) (h2 : JX c2 i2 l2 s.heap k2) (hl1 : CX c1 l1 s.heap xs) (hl2 : CX c2 l2 s.heap ys) (hend : xs[k1]? = none ∨ ys[k2]? = none)
    (hQ : ∀ h', (∀ c o, c ≠ z → c ≠ TO → c ≠ i1 → c ≠ i2 → s.heap.get? c = some o → h'.get? c = some o) → Q none { s with heap := h' }) : wpAny (model prog w) A (pyNext (.ref z)) Q E s := by
  have hT : s.TypeIs (.ref z) "zip" := ⟨_, hz, rfl⟩
  unfold pyNext
  refine wpAny_bind (wpAny_attempt (wpAny_callSpecial?_slot (name := Str.ofString "__next__") hT F.slot_zip_next
    (wpAny_call_entry F.slot_zip_next hT F.entry_zip_next (zipG_next_end hh D hz hTI hTO (itrX c1) (itrX c2) h1 h2 hl1 hl2 hend fun h' e hk he => ?_) (F.args_zip_next_1 _))))
  obtain ⟨o, ho, hc⟩ := he
  refine wpAny_bind (wpAny_isInstance (T := "StopIteration") (b := true) ⟨o, ho, hc⟩ isSubtype_stop ?_)
  exact wpAny_pure (hQ _ hk)
end
/-- the sequences at a and b as they stand at each turn, the items in new pairs -/
def ItzX (K : PySem.W.Frag) (c1 c2 : Bool) (a b : Addr) : It :=
  ⟨fun i H => ∃ (xs ys : List V) (x y : V), SqX K c1 H a xs ∧ SqX K c2 H b ys ∧ xs[i]? = some x ∧ ys[i]? = some y,
    fun i H v H' => ∃ T x y, v = .ref T ∧ H T = none ∧ H' = upd H T (.tup [x, y]) ∧ (∀ xs, SqX K c1 H a xs → xs[i]? = some x) ∧ ∀ ys, SqX K c2 H b ys → ys[i]? = some y,
    fun i H => ∃ xs ys : List V, SqX K c1 H a xs ∧ SqX K c2 H b ys ∧ (xs.length ≤ i ∨ ys.length ≤ i)⟩
theorem turn_zipX {c1 c2 : Bool} {P : Program} {w : World} {K : PySem.W.Frag} {elts : List Expr} {kk : Nat} {tpos : Pos} {a b z TI TO i1 i2 : Addr} (D : ZipApart z TI TO i1 i2 a b) :
    Turn P w K (.Tuple elts kk tpos) (ItzX K c1 c2 a b) [z, TI, TO, i1, i2] z (fun i h => IsZip h z TI TO .none ∧ IsPair h TI (.ref i1) (.ref i2) ∧ (∃ x y, IsPair h TO x y) ∧ JX c1 i1 a h i ∧ JX c2 i2 b h i) where
  mem := by simp
  obj := fun i h st c hc => by
    obtain ⟨hz, hTI, ⟨x, y, hTO⟩, h1, h2⟩ := st
    have e' : c = z ∨ c = TI ∨ c = TO ∨ c = i1 ∨ c = i2 := by simpa using hc
    rcases e' with q | q | q | q | q
    · rw [q]; exact ⟨_, hz, fun v q => nomatch q⟩
    · rw [q]; exact ⟨_, hTI, fun v q => nomatch q⟩
    · rw [q]; exact ⟨_, hTO, fun v q => nomatch q⟩
    · rw [q]
      cases c1
      · obtain ⟨o1, e1, _, d1⟩ := h1
        exact ⟨o1, e1, fun v q => by rw [d1] at q; cases q⟩
      · obtain ⟨o1, e1, _, d1⟩ := h1
        exact ⟨o1, e1, fun v q => by rw [d1] at q; cases q⟩
    · rw [q]
      cases c2
      · obtain ⟨o1, e1, _, d1⟩ := h2
        exact ⟨o1, e1, fun v q => by rw [d1] at q; cases q⟩
      · obtain ⟨o1, e1, _, d1⟩ := h2
        exact ⟨o1, e1, fun v q => by rw [d1] at q; cases q⟩
  keep := fun i h h' st k => by
    obtain ⟨hz, hTI, ⟨x, y, hTO⟩, h1, h2⟩ := st
    exact ⟨k z (by simp) _ hz, k TI (by simp) _ hTI, ⟨x, y, k TO (by simp) _ hTO⟩, h1.at' fun o q => k i1 (by simp) o q, h2.at' fun o q => k i2 (by simp) o q⟩
  item := by
    intro X hP hw hK hc i pins s σ H E I hf st hg
    subst hP hw hK
    obtain ⟨hz, hTI, ⟨x0, y0, hTO⟩, h1, h2⟩ := st
    obtain ⟨xs, ys, x, y, hqx, hqy, hx, hy⟩ := hg
    obtain ⟨its, rv, p⟩ := invX I hqx
    obtain ⟨its2, rv2, p2⟩ := invX I hqy
    obtain ⟨u, hu, ru⟩ := rv.get hx
    obtain ⟨u2, hu2, ru2⟩ := rv2.get hy
    have hzl : z < s.heap.objs.size := Heap.lt_size hz
    refine pyNext_zipX_item D hz hTI hTO h1 h2 p p2 (x := u) (y := u2) (by simpa using hu) (by simpa using hu2) fun h' z' TO' h1' h2' hT hsz hk => ?_
    refine ⟨_, rfl, wpAny_letOwnedTupleGo_zip (s := { s with heap := h' }) z' fun h'' z'' sb => ?_⟩
    have hT2 : h''.get? s.heap.objs.size = some { cls := .type "tuple", data := .seq #[u, u2] } := (sb.2 _ (Nat.ne_of_gt hzl)).trans hT
    have new : ObjOk X.prog X.w (upd H s.heap.objs.size (.tup [x, y])) h'' s.heap.objs.size (.tup [x, y]) :=
      ⟨by show 2 ≤ sizeLine; decide, [u, u2], .cons ru (.cons ru2 .nil), ⟨_, hT2, rfl, _, rfl⟩⟩
    have I1 : Inv X pins σ (upd H s.heap.objs.size (.tup [x, y])) { s with heap := h'' } :=
      I.turnedNew (t' := s.toks) (ch := [z, TI, TO, i1, i2]) (fun c o hb q => (sb.2 c (fun q' => hb (by simp [q']))).trans (hk c o (fun q' => hb (by simp [q'])) (fun q' => hb (by simp [q'])) (fun q' => hb (by simp [q'])) (fun q' => hb (by simp [q'])) q)) hf (Nat.le_refl _) new
    refine ⟨.ref s.heap.objs.size, _, I1, rfl, ⟨_, x, y, rfl, I.hok.fresh (Nat.le_refl _), rfl, fun l hl => by rw [injX I hl hqx]; exact hx, fun l hl => by rw [injX I hl hqy]; exact hy⟩, ⟨z'', ?_, ⟨u, u2, ?_⟩, ?_, ?_⟩, fun c hcm => ?_⟩
    · exact (sb.2 _ D.TIz).trans (hk _ _ D.TIz D.TITO D.TIi1 D.TIi2 hTI)
    · exact (sb.2 _ D.TOz).trans TO'
    · exact h1'.at' fun o q => (sb.2 _ D.i1z).trans q
    · exact h2'.at' fun o q => (sb.2 _ D.i2z).trans q
    · have hlt : c < s.heap.objs.size := by
        have e' : c = z ∨ c = TI ∨ c = TO ∨ c = i1 ∨ c = i2 := by simpa using hcm
        rcases e' with q | q | q | q | q
        · rw [q]; exact hzl
        · rw [q]; exact Heap.lt_size hTI
        · rw [q]; exact Heap.lt_size hTO
        · rw [q]; exact h1.lt
        · rw [q]; exact h2.lt
      rw [upd_ne (Nat.ne_of_lt hlt)]
      exact (hf c hcm).1
  done := by
    intro X hP hw hK hc i pins s σ H E I hf st hg
    subst hP hw hK
    obtain ⟨hz, hTI, ⟨x0, y0, hTO⟩, h1, h2⟩ := st
    obtain ⟨xs, ys, hqx, hqy, hend⟩ := hg
    obtain ⟨its, rv, p⟩ := invX I hqx
    obtain ⟨its2, rv2, p2⟩ := invX I hqy
    have l1 := rv.length
    have l2 := rv2.length
    have he : its.toArray[i]? = none ∨ its2.toArray[i]? = none := by
      rcases hend with q | q
      · exact .inl (by simp; omega)
      · exact .inr (by simp; omega)
    exact pyNext_zipX_end (I.ok.hd hc) D hz hTI hTO h1 h2 p p2 he fun h' hk => ⟨rfl, I.turnedL (t' := s.toks) (ch := [z, TI, TO, i1, i2]) (fun c o hb q =>
      hk c o (fun q' => hb (by simp [q'])) (fun q' => hb (by simp [q'])) (fun q' => hb (by simp [q'])) (fun q' => hb (by simp [q'])) q) hf⟩
  self := fun A i s Q E st h => wpAny_pyIter_zip st.1 h
end Nc
end
section
set_option maxRecDepth 100000
set_option maxHeartbeats 4000000
namespace Nc
open PySem PySem.Spec PyProof.Rows L2
abbrev zh1 (c : Bool) (h : Heap) (l1 : Addr) : Heap := h.push { cls := .type (itN c), data := .fields #[.ref l1, .int 0 0] }
abbrev zh2 (c c' : Bool) (h : Heap) (l1 l2 : Addr) : Heap := (zh1 c h l1).push { cls := .type (itN c'), data := .fields #[.ref l2, .int 0 0] }
abbrev zh3 (c c' : Bool) (h : Heap) (l1 l2 : Addr) : Heap := (zh2 c c' h l1 l2).push { cls := .type "tuple", data := .seq #[.ref h.objs.size, .ref (zh1 c h l1).objs.size] }
abbrev zh4 (c c' : Bool) (h : Heap) (l1 l2 : Addr) : Heap := (zh3 c c' h l1 l2).push { cls := .type "tuple", data := .seq #[.none, .none] }
abbrev zh5 (c c' : Bool) (h : Heap) (l1 l2 : Addr) : Heap := (zh4 c c' h l1 l2).push { cls := .type "zip", data := .fields #[.none, .bool false, .bool false, .ref (zh2 c c' h l1 l2).objs.size, .ref (zh3 c c' h l1 l2).objs.size] }
theorem pyIterX {c : Bool} {prog : Program} {w : World} {A : Around} {E : Value → Shared → Prop} {s : Shared} {l : Addr} {items : Array Value} {Q : Value → Shared → Prop} (h : CX c l s.heap items)
    (q : Q (Value.ref s.heap.objs.size) { heap := s.heap.push { cls := .type (itN c), data := .fields #[.ref l, .int 0 0] }, gens := s.gens, drawn := s.drawn, toks := s.toks, os := s.os }) : wpAny (model prog w) A (pyIter (Value.ref l)) Q E s := by
  cases c
  · exact wpAny_pyIter_list h q
  · exact wpAny_pyIter_tuple h q
theorem meets_zipX_new (c c' : Bool) (l1 l2 : Addr) (xs ys : Array Value) :
    Meets (Builtin.«zip.__new__» ⟨[.type "zip", .ref l1, .ref l2], []⟩) (fun _ R s => CX c l1 s.heap xs ∧ CX c' l2 s.heap ys ∧
      R (.ok (.ret (.ref (zh4 c c' s.heap l1 l2).objs.size))) { s with heap := zh5 c c' s.heap l1 l2 }) :=
  .of_wp fun prog w A R s h => by
    obtain ⟨hp, g, d, tk, os⟩ := s; obtain ⟨hl1, hl2, h⟩ := h
    have hsub := sub_zip
    have hL1 : CX c l1 (Shared.heap ⟨hp, g, d, tk, os⟩) xs := hl1
    have hL2 : CX c' l2 (Shared.heap ⟨hp.push { cls := .type (itN c), data := .fields #[.ref l1, .int 0 0] }, g, d, tk, os⟩) ys := CX.push hl2
    wp_walk using pyIterX hL1, pyIterX hL2
    exact ⟨_, rfl, h⟩
theorem JX.new {c : Bool} {h : Heap} {it l : Addr} (e : h.get? it = some { cls := .type (itN c), data := .fields #[.ref l, .int 0 0] }) : JX c it l h 0 := by
  cases c
  · exact ⟨_, e, rfl, rfl⟩
  · exact ⟨_, e, rfl, rfl⟩
theorem call_zipX {c c' : Bool} {prog : Program} {w : World} {A : Around} {E : Value → Shared → Prop} {s : Shared} {l1 l2 : Addr} {xs ys : Array Value} {Q : Value → Shared → Prop} (hl1 : CX c l1 s.heap xs) (hl2 : CX c' l2 s.heap ys)
    (h : ∀ h', IsZip h' (s.heap.objs.size + 4) (s.heap.objs.size + 2) (s.heap.objs.size + 3) .none → IsPair h' (s.heap.objs.size + 2) (.ref s.heap.objs.size) (.ref (s.heap.objs.size + 1)) →
      IsPair h' (s.heap.objs.size + 3) .none .none → JX c s.heap.objs.size l1 h' 0 → JX c' (s.heap.objs.size + 1) l2 h' 0 → h'.objs.size = s.heap.objs.size + 5 →
      (∀ c o, s.heap.get? c = some o → h'.get? c = some o) → Q (.ref (s.heap.objs.size + 4)) { s with heap := h' }) :
    wpAny (model prog w) A (call (.type "zip") [.ref l1, .ref l2]) Q E s := by
  refine callType_new F.called_zip (by decide) (F.typeCall_zip_2 _ _) (F.newCall_zip_2 _ _) (fun obj => F.args_object_init_3 obj _ _) F.entry_zip_new
    (meets_zipX_new c c' l1 l2 xs ys) ⟨hl1, hl2, ?_⟩
  have z1 : (zh1 c s.heap l1).objs.size = s.heap.objs.size + 1 := Heap.size_push ..
  have z2 : (zh2 c c' s.heap l1 l2).objs.size = s.heap.objs.size + 2 := by rw [Heap.size_push, z1]
  have z3 : (zh3 c c' s.heap l1 l2).objs.size = s.heap.objs.size + 3 := by rw [Heap.size_push, z2]
  have z4 : (zh4 c c' s.heap l1 l2).objs.size = s.heap.objs.size + 4 := by rw [Heap.size_push, z3]
  have z5 : (zh5 c c' s.heap l1 l2).objs.size = s.heap.objs.size + 5 := by rw [Heap.size_push, z4]
  have g5 : (zh5 c c' s.heap l1 l2).get? (zh4 c c' s.heap l1 l2).objs.size = some _ := Heap.get?_push_size _ rfl
  have g4 : (zh5 c c' s.heap l1 l2).get? (zh3 c c' s.heap l1 l2).objs.size = some _ := Heap.get?_push_of_some _ (Heap.get?_push_size _ rfl)
  have g3 : (zh5 c c' s.heap l1 l2).get? (zh2 c c' s.heap l1 l2).objs.size = some _ := Heap.get?_push_of_some _ (Heap.get?_push_of_some _ (Heap.get?_push_size _ rfl))
  have g2 : (zh5 c c' s.heap l1 l2).get? (zh1 c s.heap l1).objs.size = some _ := Heap.get?_push_of_some _ (Heap.get?_push_of_some _ (Heap.get?_push_of_some _ (Heap.get?_push_size _ rfl)))
  have g1 : (zh5 c c' s.heap l1 l2).get? s.heap.objs.size = some _ := Heap.get?_push_of_some _ (Heap.get?_push_of_some _ (Heap.get?_push_of_some _ (Heap.get?_push_of_some _ (Heap.get?_push_size _ rfl))))
  show _ ∧ _
  rw [z2, z3, z4] at g5
  rw [z1, z2] at g3
  rw [z3] at g4
  rw [z1] at g2
  rw [z4]
  exact ⟨⟨_, g5, rfl⟩, h _ g5 g3 g4 (JX.new g1) (JX.new g2) z5 fun c o x =>
    Heap.get?_push_of_some _ (Heap.get?_push_of_some _ (Heap.get?_push_of_some _ (Heap.get?_push_of_some _ (Heap.get?_push_of_some _ x))))⟩
def iZipX (K : PySem.W.Frag) (ta : TA) : TI := fun σ H R => ta σ H fun vs H1 => ∃ (c c' : Bool) (a b : Addr) (xs ys : List V), vs = [.ref a, .ref b] ∧ SqX K c H1 a xs ∧ SqX K c' H1 b ys ∧ R (ItzX K c c' a b) H1
/-- zip of any two: .. in zip(e, e2) -/
theorem pi_zipX {X : Cx} {e e2 : Expr} {ta : TA} {p pos tpos : Pos} {elts : List Expr} {kk : Nat} (hg : Gl X "zip") (hm : X.mg "zip" = none) (ha : PA X [e, e2] ta)
    (hs : starEach [e, e2] X.env = (false, eval e X.env) :: starEach [e2] X.env := by rfl) (hpl : (backTo pos (starEach [e2] X.env)).any (·.1) = false := by rfl) :
    PI X (.Tuple elts kk tpos) (.Call (.Name "zip" p) [e, e2] [] pos) (iZipX X.K ta) := by
  refine ⟨fun pins s σ H R I h => ?_⟩
  refine Call_ (ld_blt I hg hm PyProof.Rows.boot_zip (PyProof.Rows.callWith_type1 (thn (ha.run pos pins s σ H _ I h) fun us s1 ⟨vs, H1, I1, r1, q1⟩ => ?_) hs hpl))
  obtain ⟨c, c', a, b, xs, ys, ex, hqx, hqy, q⟩ := q1
  subst ex
  cases r1 with
  | cons r rr =>
    cases rr with
    | cons r' rr =>
      cases rr
      cases r
      cases r'
      obtain ⟨its, rv, p1⟩ := invX I1 hqx
      obtain ⟨its2, rv2, p2⟩ := invX I1 hqy
      refine call_zipX p1 p2 fun h' hz hTI hTO h1 h2 hsz hk => wpAny_pyIter_zip hz ?_
      have I2 : Inv X pins σ H1 { s1 with heap := h' } := I1.kept (t' := s1.toks) hk
      refine ⟨s1.heap.objs.size + 4, [s1.heap.objs.size + 4, s1.heap.objs.size + 2, s1.heap.objs.size + 3, s1.heap.objs.size, s1.heap.objs.size + 1], _, _, H1, rfl, I2, turn_zipX (PySem.W.ktu_apart s1.heap.objs.size a b p1.lt p2.lt), ⟨hz, hTI, ⟨_, _, hTO⟩, h1, h2⟩, fun c hcm => ?_, q⟩
      have e' : c = s1.heap.objs.size + 4 ∨ c = s1.heap.objs.size + 2 ∨ c = s1.heap.objs.size + 3 ∨ c = s1.heap.objs.size ∨ c = s1.heap.objs.size + 1 := by simpa using hcm
      have hle : s1.heap.objs.size ≤ c := by
        rcases e' with z | z | z | z | z
        · rw [z]; exact Nat.le_add_right _ _
        · rw [z]; exact Nat.le_add_right _ _
        · rw [z]; exact Nat.le_add_right _ _
        · rw [z]; exact Nat.le_refl _
        · rw [z]; exact Nat.le_add_right _ _
      exact I1.fpOk hle (I1.hok.fresh hle)
/-- a loop over zip of two of one length -/
theorem for_zipX {c c' : Bool} {K : PySem.W.Frag} {a b : Addr} {xs ys : List V} {g : TG} {tb : TS} {D : Ends} {σ : L2.St} {H : Hp} (hl : xs.length = ys.length) (Pv : Nat → L2.St → Hp → Prop) (h0 : Pv 0 σ H) (hq : ∀ i σ H, Pv i σ H → SqX K c H a xs ∧ SqX K c' H b ys)
    (hs : ∀ (i : Nat) (x y : V) (T : Addr) (σ : L2.St) (H : Hp), xs[i]? = some x → ys[i]? = some y → Pv i σ H → H T = none → g (.ref T) σ (upd H T (.tup [x, y])) fun σ2 H2 => tb { D with nx := Pv (i + 1), ct := Pv (i + 1), bk := D.nx } σ2 H2) (hd : ∀ σ H, Pv xs.length σ H → D.nx σ H) :
    ∃ W : Nat → Nat → L2.St → Hp → Prop, (∃ m, W 0 m σ H) ∧ ∀ i m σ H, W i m σ H →
      ((ItzX K c c' a b).stop i H ∧ D.nx σ H) ∨ ((ItzX K c c' a b).go i H ∧ ∃ N : L2.St → Hp → Prop, (∀ σ' H', N σ' H' → ∃ m', m' < m ∧ W (i + 1) m' σ' H') ∧ ∀ v H', (ItzX K c c' a b).yld i H v H' → g v σ H' fun σ2 H2 => tb { D with nx := N, ct := N, bk := D.nx } σ2 H2) := by
  refine ⟨fun i m σ H => m = xs.length - i ∧ i ≤ xs.length ∧ Pv i σ H, ⟨xs.length, rfl, Nat.zero_le _, h0⟩, ?_⟩
  rintro i m σ H ⟨rfl, hi, p⟩
  obtain ⟨qx, qy⟩ := hq i σ H p
  by_cases hlt : i < xs.length
  · have hx : xs[i]? = some xs[i] := List.getElem?_eq_getElem hlt
    have hlt2 : i < ys.length := by omega
    have hy : ys[i]? = some ys[i] := List.getElem?_eq_getElem hlt2
    refine .inr ⟨⟨xs, ys, _, _, qx, qy, hx, hy⟩, Pv (i + 1), fun σ' H' p' => ⟨xs.length - (i + 1), by omega, rfl, hlt, p'⟩, fun v H' y => ?_⟩
    obtain ⟨T, x', y', rfl, hT, rfl, f1, f2⟩ := y
    exact hs i x' y' T σ H (f1 xs qx) (f2 ys qy) p hT
  · have e : i = xs.length := by omega
    subst e
    exact .inl ⟨⟨xs, ys, qx, qy, Or.inl (Nat.le_refl _)⟩, hd σ H p⟩
/-- a comprehension over zip of two of one length -/
theorem lc_zipX {c c' : Bool} {K : PySem.W.Frag} {a b : Addr} {xs ys : List V} {g : TG} {tt : TT} {te : TE} {vs : List Nat} {σ : L2.St} {H1 : Hp} {D : Addr} {Qd : Hp → Prop} (hl : xs.length = ys.length) (Pv : Nat → Hp → Prop) (h0 : Pv 0 (upd H1 D (.lst []))) (hq : ∀ i H, Pv i H → SqX K c H a xs ∧ SqX K c' H b ys)
    (hs : ∀ (i : Nat) (x y : V) (T : Addr) (H : Hp), xs[i]? = some x → ys[i]? = some y → Pv i H → H T = none → g (.ref T) (wipe σ vs) (upd H T (.tup [x, y])) fun σ2 H2 => wipe σ2 vs = wipe σ vs ∧ tt σ2 H2 fun b H3 =>
      if b = true then te σ2 H3 fun y H4 => ∃ acc, H4 D = some (.lst acc) ∧ acc.length < sizeLine ∧ Pv (i + 1) (upd H4 D (.lst (acc ++ [y]))) else Pv (i + 1) H3) (hd : ∀ H, Pv xs.length H → Qd H) :
    ∃ W : Nat → Nat → Hp → Prop, (∃ m, W 0 m (upd H1 D (.lst []))) ∧ ∀ i m H, W i m H →
      ((ItzX K c c' a b).stop i H ∧ Qd H) ∨ ((ItzX K c c' a b).go i H ∧ ∃ Nx : Hp → Prop, (∀ H', Nx H' → ∃ m', m' < m ∧ W (i + 1) m' H') ∧ ∀ x H', (ItzX K c c' a b).yld i H x H' → g x (wipe σ vs) H' fun σ2 H2 => wipe σ2 vs = wipe σ vs ∧ tt σ2 H2 fun b H3 =>
        if b = true then te σ2 H3 fun y H4 => ∃ acc, H4 D = some (.lst acc) ∧ acc.length < sizeLine ∧ Nx (upd H4 D (.lst (acc ++ [y]))) else Nx H3) := by
  refine ⟨fun i m H => m = xs.length - i ∧ i ≤ xs.length ∧ Pv i H, ⟨xs.length, rfl, Nat.zero_le _, h0⟩, ?_⟩
  rintro i m H ⟨rfl, hi, p⟩
  obtain ⟨qx, qy⟩ := hq i H p
  by_cases hlt : i < xs.length
  · have hx : xs[i]? = some xs[i] := List.getElem?_eq_getElem hlt
    have hlt2 : i < ys.length := by omega
    have hy : ys[i]? = some ys[i] := List.getElem?_eq_getElem hlt2
    refine .inr ⟨⟨xs, ys, _, _, qx, qy, hx, hy⟩, Pv (i + 1), fun H' p' => ⟨xs.length - (i + 1), by omega, rfl, hlt, p'⟩, fun v H' y => ?_⟩
    obtain ⟨T, x', y', rfl, hT, rfl, f1, f2⟩ := y
    exact hs i x' y' T H (f1 xs qx) (f2 ys qy) p hT
  · have e : i = xs.length := by omega
    subst e
    exact .inl ⟨⟨xs, ys, qx, qy, Or.inl (Nat.le_refl _)⟩, hd H p⟩
end Nc
end
section
set_option maxRecDepth 100000
set_option maxHeartbeats 4000000
namespace Nc
open PySem PySem.Spec PyProof.Rows L2
/-! ### bounds handed on: mathematics -/
abbrev Span := Rat × Rat
def pickB (p : Span) (b : Bool) : Rat := if b = true then p.2 else p.1
def picks (sp : List Span) (bs : List Bool) : List Rat := List.zipWith pickB sp bs
def lowB (z : Sum2) : List Bool := z.1.map fun w => decide (w.num < 0)
def highB (z : Sum2) : List Bool := z.1.map fun w => decide (0 < w.num)
def lowT (z : Sum2) (sp : List Span) : Rat := tells z (picks sp (lowB z))
def highT (z : Sum2) (sp : List Span) : Rat := tells z (picks sp (highB z))
def bnd (sp : List Span) (z : Sum2) : Span := (lowT z sp, highT z sp)
def cutS (p : Span) : Span := (cutQ p.1, cutQ p.2)
def boundsAt : List (List Sum2) → List Span → List (List Span)
  | [], _ => []
  | l :: ls, sp => (l.map (bnd sp)) :: boundsAt ls ((l.map (bnd sp)).map cutS)
/-- a row within spans -/
abbrev Within : List Rat → List Span → Prop := Paired fun r p => p.1 ≤ r ∧ r ≤ p.2
theorem num_lt {r : Rat} : r.num < 0 ↔ r < 0 := by
  have h := Rat.num_nonneg (q := r)
  constructor
  · intro a
    refine Rat.not_le.mp fun z => ?_
    have := h.mpr z
    omega
  · intro a
    refine Int.not_le.mp fun z => ?_
    exact Rat.not_le.mpr a (h.mp z)
theorem numPos {r : Rat} : 0 < r.num ↔ 0 < r := by
  have h := Rat.num_nonneg (q := -r)
  rw [Rat.neg_num] at h
  constructor
  · intro a
    refine Rat.not_le.mp fun z => ?_
    have := h.mpr (by grind)
    omega
  · intro a
    refine Int.not_le.mp fun z => ?_
    have := h.mp (by omega)
    exact absurd a (Rat.not_lt.mpr (by grind))
theorem cutQ_mono {a b : Rat} (h : a ≤ b) : cutQ a ≤ cutQ b := by
  unfold cutQ
  split
  · rename_i ha
    split
    · exact Rat.le_refl
    · rename_i hb
      exact Rat.not_lt.mp fun z => hb (num_lt.mpr z)
  · rename_i ha
    have ha' : ¬ a < 0 := fun z => ha (num_lt.mpr z)
    rw [if_neg (fun z => ha' (by have := num_lt.mp z; grind))]
    exact h
theorem low_le : ∀ {ws : List Rat} {x : List Rat} {sp : List Span}, Within x sp → ws.length = x.length → weighs (ws.zip (picks sp (ws.map fun w => decide (w.num < 0)))) ≤ weighs (ws.zip x) ∧ weighs (ws.zip x) ≤ weighs (ws.zip (picks sp (ws.map fun w => decide (0 < w.num))))
  | [], _, _, _, _ => ⟨Rat.le_refl, Rat.le_refl⟩
  | w :: ws, r :: x, p :: sp, .cons h t, hl => by
    have ih := low_le (ws := ws) t (by simpa using hl)
    simp only [List.map_cons, picks, List.zipWith_cons_cons, List.zip_cons_cons, weighs_cons] at ih ⊢
    have h1 : w * pickB p (decide (w.num < 0)) ≤ w * r := by
      unfold pickB
      by_cases c : w.num < 0
      · rw [if_pos (decide_eq_true c)]
        have := Rat.mul_le_mul_of_nonneg_left h.2 (c := -w) (by have := num_lt.mp c; grind)
        grind
      · rw [if_neg (by simpa using c)]
        exact Rat.mul_le_mul_of_nonneg_left h.1 (Rat.num_nonneg.mp (by omega))
    have h2 : w * r ≤ w * pickB p (decide (0 < w.num)) := by
      unfold pickB
      by_cases c : 0 < w.num
      · rw [if_pos (decide_eq_true c)]
        exact Rat.mul_le_mul_of_nonneg_left h.2 (Rat.num_nonneg.mp (by omega))
      · rw [if_neg (by simpa using c)]
        have := Rat.mul_le_mul_of_nonneg_left h.1 (c := -w) (by have := (numPos (r := w)); grind)
        grind
    obtain ⟨i1, i2⟩ := ih
    constructor
    · grind
    · grind
theorem within_tells {z : Sum2} {x : List Rat} {sp : List Span} (h : Within x sp) (hl : z.1.length = x.length) : (bnd sp z).1 ≤ tells z x ∧ tells z x ≤ (bnd sp z).2 := by
  obtain ⟨h1, h2⟩ := low_le (ws := z.1) h hl
  unfold bnd lowT highT tells lowB highB
  constructor
  · grind
  · grind
theorem within_map : ∀ {l : List Sum2} {x : List Rat} {sp : List Span}, Within x sp → (∀ z ∈ l, z.1.length = x.length) → Within (l.map fun z => tells z x) (l.map (bnd sp))
  | [], _, _, _, _ => .nil
  | z :: l, x, sp, h, hl => .cons (within_tells h (hl z (by simp))) (within_map h fun y hy => hl y (by simp [hy]))
theorem within_cut : ∀ {x : List Rat} {sp : List Span}, Within x sp → Within (x.map cutQ) (sp.map cutS)
  | _, _, .nil => .nil
  | _, _, .cons h t => .cons ⟨cutQ_mono h.1, cutQ_mono h.2⟩ (within_cut t)
/-- all nodes come to what lies within their bounds -/
theorem within_all : ∀ {ls : List (List Sum2)} {x : List Rat} {sp : List Span}, Within x sp → Over x.length ls → Paired Within (rowsAt ls x) (boundsAt ls sp)
  | [], _, _, _, _ => .nil
  | l :: ls, x, sp, h, ⟨o1, o2, o3⟩ => .cons (within_map h o1) (within_all (within_cut (within_map h o1)) (by simpa using o3))
/-! ### sizes -/
def SpSv (n D : Nat) (sp : List Span) : Prop := ∀ p ∈ sp, Sv n D p.1 ∧ Sv n D p.2
theorem picks_mem {n D : Nat} : ∀ {sp : List Span} {bs : List Bool}, SpSv n D sp → SvL n D (picks sp bs)
  | [], _, _ => by
    intro r hr
    cases hr
  | _ :: _, [], _ => by
    intro r hr
    cases hr
  | p :: sp, b :: bs, h => by
    intro r hr
    rcases List.mem_cons.mp hr with rfl | hr
    · unfold pickB
      split
      · exact (h p (by simp)).2
      · exact (h p (by simp)).1
    · exact picks_mem (fun q hq => h q (by simp [hq])) r hr
theorem picks_len {sp : List Span} {bs : List Bool} (h : bs.length = sp.length) : (picks sp bs).length = sp.length := by
  unfold picks
  rw [List.length_zipWith]
  omega
theorem lowB_len (z : Sum2) : (lowB z).length = z.1.length := List.length_map ..
theorem highB_len (z : Sum2) : (highB z).length = z.1.length := List.length_map ..
/-- the facts of a layer over spans -/
structure RkS (l : List Sum2) (A : List Span) (m W D : Nat) : Prop where
  nodes : NodesOk A.length W l
  len : A.length ≤ 4
  many : l.length ≤ 4
  sp : SpSv m D A
  top : m ≤ 430000
  pos : 0 < W * D
  lt : W * D < 2 ^ 1600
theorem RkS.row {l : List Sum2} {A : List Span} {m W D : Nat} (k : RkS l A m W D) {bs : List Bool} (h : bs.length = A.length) : Rk l (picks A bs) m W D :=
  ⟨by rw [picks_len h]; exact k.nodes, by rw [picks_len h]; exact k.len, k.many, picks_mem k.sp, k.top, k.pos, k.lt⟩
theorem sv_node {l : List Sum2} {A : List Rat} {i D : Nat} {W : Nat → Nat} (k : Rk l A (tb i) (W i) (pw W i * D)) {z : Sum2} (hz : z ∈ l) : Sv (tb (i + 1)) (pw W (i + 1) * D) (tells z A) := by
  obtain ⟨h1, h2, h3⟩ := k.nodes z hz
  have h := sv_tells k.pos k.lt h2 h3 k.row h1
  have hl : z.1.length ≤ 4 := by
    rw [h1]
    exact k.len
  have hb : z.1.length * (1500 + tb i + 1600 + 1) ≤ 4 * (1500 + tb i + 1600 + 1) := Nat.mul_le_mul_right _ hl
  have e : pw W (i + 1) * D = W i * (pw W i * D) := Nat.mul_assoc _ _ _
  rw [e]
  refine h.mono ?_ (Nat.dvd_refl _)
  show _ ≤ 1 + 4 * (1500 + tb i + 1601) + 3102
  omega
theorem sp_node {l : List Sum2} {A : List Span} {i D : Nat} {W : Nat → Nat} (k : RkS l A (tb i) (W i) (pw W i * D)) {z : Sum2} (hz : z ∈ l) : Sv (tb (i + 1)) (pw W (i + 1) * D) (bnd A z).1 ∧ Sv (tb (i + 1)) (pw W (i + 1) * D) (bnd A z).2 := by
  have h1 := (k.nodes z hz).1
  exact ⟨sv_node (k.row (by rw [lowB_len, h1])) hz, sv_node (k.row (by rw [highB_len, h1])) hz⟩
theorem rkS_of {ls : List (List Sum2)} {n D i : Nat} {W : Nat → Nat} {l : List Sum2} {A : List Span} (ok : NetOk n ls W) (f : Fits W D) (hi : ls[i]? = some l) (ov : Over A.length (ls.drop i)) (hA : SpSv (tb i) (pw W i * D) A) (h4 : A.length ≤ 4) :
    RkS l A (tb i) (W i) (pw W i * D) ∧ Over l.length (ls.drop (i + 1)) ∧ l.length ≤ 4 ∧ 1 ≤ l.length ∧ i ≤ 3 := by
  have hi1 := (List.getElem?_eq_some_iff.mp hi).1
  have hl4 := ok.l4
  have hi3 : i ≤ 3 := by omega
  rw [drop_at hi] at ov
  obtain ⟨o1, o2, o3⟩ := ov
  have hm := List.mem_of_getElem? hi
  exact ⟨⟨fun z hz => ⟨o1 z hz, ok.num i l hi z hz⟩, h4, o2.2, hA, tb_le3 i hi3, (f.at ok.w0 hi3).1, (f.at ok.w0 hi3).2⟩, o3, o2.2, o2.1, hi3⟩
/-- what handed_on tells of a node: low, high, corners -/
abbrev Four := Span × (List Bool × List Bool)
def four (sp : List Span) (z : Sum2) : Four := (bnd sp z, lowB z, highB z)
def foursAt : List (List Sum2) → List Span → List (List Four)
  | [], _ => []
  | l :: ls, sp => (l.map (four sp)) :: foursAt ls ((l.map (bnd sp)).map cutS)
theorem fours_bounds : ∀ (ls : List (List Sum2)) (sp : List Span), (foursAt ls sp).map (fun l => l.map (·.1)) = boundsAt ls sp
  | [], _ => rfl
  | l :: ls, sp => by
    show ((l.map (four sp)).map (·.1)) :: _ = _ :: _
    rw [fours_bounds ls, List.map_map]
    rfl
theorem four_1 (sp : List Span) (l : List Sum2) : (l.map (four sp)).map (fun f => cutS f.1) = (l.map (bnd sp)).map cutS := by
  rw [List.map_map, List.map_map]
  rfl
theorem foursAt_cons {ls : List (List Sum2)} {i : Nat} {l : List Sum2} {A : List Span} (hi : ls[i]? = some l) : foursAt (ls.drop i) A = (l.map (four A)) :: foursAt (ls.drop (i + 1)) ((l.map (bnd A)).map cutS) := by
  rw [drop_at hi]
  rfl
theorem boundsAt_cons {ls : List (List Sum2)} {i : Nat} {l : List Sum2} {A : List Span} (hi : ls[i]? = some l) : boundsAt (ls.drop i) A = (l.map (bnd A)) :: boundsAt (ls.drop (i + 1)) ((l.map (bnd A)).map cutS) := by
  rw [drop_at hi]
  rfl
/-- what stands behind i layers: the bounds told, the spans ahead -/
structure MidS (ls : List (List Sum2)) (L : List Span) (W : Nat → Nat) (D i : Nat) (dn : List (List Four)) (A : List Span) : Prop where
  len : dn.length = i
  eq : foursAt ls L = dn ++ foursAt (ls.drop i) A
  over : Over A.length (ls.drop i)
  sp : SpSv (tb i) (pw W i * D) A
  a4 : A.length ≤ 4
theorem midS0 {ls : List (List Sum2)} {L : List Span} {W : Nat → Nat} {D : Nat} (ok : NetOk L.length ls W) (h : SpSv 1500 D L) : MidS ls L W D 0 [] L := by
  have := ok.n3
  refine ⟨rfl, rfl, ok.over, ?_, by omega⟩
  rw [show pw W 0 = 1 from rfl, Nat.one_mul]
  exact h
theorem midS_step {ls : List (List Sum2)} {L A : List Span} {n D i : Nat} {W : Nat → Nat} {dn : List (List Four)} {l : List Sum2} (ok : NetOk n ls W) (f : Fits W D) (m : MidS ls L W D i dn A) (hi : ls[i]? = some l) :
    RkS l A (tb i) (W i) (pw W i * D) ∧ MidS ls L W D (i + 1) (dn ++ [l.map (four A)]) ((l.map (bnd A)).map cutS) ∧ l.length ≤ 4 := by
  obtain ⟨k, o, l4, l1, i3⟩ := rkS_of ok f hi m.over m.sp m.a4
  refine ⟨k, ⟨by simp [m.len], ?_, ?_, ?_, by simpa using l4⟩, l4⟩
  · rw [m.eq, foursAt_cons hi, List.append_assoc]
    rfl
  · simpa using o
  · intro p hp
    obtain ⟨u, hu, rfl⟩ := List.mem_map.mp hp
    obtain ⟨z, hz, rfl⟩ := List.mem_map.mp hu
    obtain ⟨h1, h2⟩ := sp_node k hz
    exact ⟨sv_cutQ h1, sv_cutQ h2⟩
theorem midS_end {ls : List (List Sum2)} {L A : List Span} {W : Nat → Nat} {D : Nat} {dn : List (List Four)} (m : MidS ls L W D ls.length dn A) : dn = foursAt ls L := by
  rw [m.eq, List.drop_length]
  show dn = dn ++ []
  rw [List.append_nil]
theorem boundsAt_length : ∀ (ls : List (List Sum2)) (L : List Span), (boundsAt ls L).length = ls.length
  | [], _ => rfl
  | l :: ls, L => by
    show (boundsAt ls _).length + 1 = _
    rw [boundsAt_length ls]
    rfl
theorem foursAt_length : ∀ (ls : List (List Sum2)) (L : List Span), (foursAt ls L).length = ls.length
  | [], _ => rfl
  | l :: ls, L => by
    show (foursAt ls _).length + 1 = _
    rw [foursAt_length ls]
    rfl
/-! ### as the law sums: from the number on, the high by the other end -/
def lawLow (z : Sum2) (sp : List Span) (i : Nat) : Rat := z.2 + weighs ((z.1.zip (picks sp (lowB z))).take i)
def lawHigh (z : Sum2) (sp : List Span) (i : Nat) : Rat := z.2 + weighs ((z.1.zip (picks sp ((lowB z).map (!·)))).take i)
theorem high_same : ∀ {ws : List Rat} {sp : List Span}, ws.length = sp.length → weighs (ws.zip (picks sp ((ws.map fun w => decide (w.num < 0)).map (!·)))) = weighs (ws.zip (picks sp (ws.map fun w => decide (0 < w.num))))
  | [], _, _ => rfl
  | w :: ws, p :: sp, hl => by
    have ih := high_same (ws := ws) (sp := sp) (by simpa using hl)
    simp only [List.map_cons, picks, List.zipWith_cons_cons, List.zip_cons_cons, weighs_cons] at ih ⊢
    rw [ih]
    congr 1
    unfold pickB
    by_cases c : w.num < 0
    · rw [if_neg (by simp [c]), if_neg (by simp; omega)]
    · by_cases c2 : 0 < w.num
      · rw [if_pos (by simpa using c), if_pos (by simpa using c2)]
      · have : w = 0 := Rat.num_eq_zero.mp (by omega)
        rw [this, Rat.zero_mul, Rat.zero_mul]
theorem lawLow_end {z : Sum2} {sp : List Span} (h : z.1.length = sp.length) : lawLow z sp z.1.length = lowT z sp := by
  unfold lawLow lowT tells
  rw [List.take_of_length_le (by rw [List.length_zip]; omega), Rat.add_comm]
theorem lawHigh_end {z : Sum2} {sp : List Span} (h : z.1.length = sp.length) : lawHigh z sp z.1.length = highT z sp := by
  unfold lawHigh highT tells
  rw [List.take_of_length_le (by rw [List.length_zip]; omega), Rat.add_comm]
  congr 1
  exact high_same h
end Nc
end
section
set_option maxRecDepth 100000
set_option maxHeartbeats 4000000
namespace Nc
open PySem PySem.Spec PyProof.Rows L2
/-! ### values and bottoms -/
/-- between -v and v, a bottom that divides D -/
def Bd (v D : Nat) (r : Rat) : Prop := (-(v : Rat) ≤ r ∧ r ≤ (v : Rat)) ∧ r.den ∣ D
def BdL (v D : Nat) (l : List Rat) : Prop := ∀ r ∈ l, Bd v D r
theorem Bd.mono {v u D E : Nat} {r : Rat} (h : Bd v D r) (hv : v ≤ u) (hD : D ∣ E) : Bd u E r := by
  have k : (v : Rat) ≤ (u : Rat) := Rat.natCast_le_natCast.mpr hv
  obtain ⟨⟨h1, h2⟩, h3⟩ := h
  exact ⟨⟨by grind, by grind⟩, Nat.dvd_trans h3 hD⟩
theorem BdL.mono {v u D E : Nat} {l : List Rat} (h : BdL v D l) (hv : v ≤ u) (hD : D ∣ E) : BdL u E l := fun r hr => (h r hr).mono hv hD
theorem Bd.num {v D : Nat} {r : Rat} (h : Bd v D r) : r.num.natAbs ≤ v * r.den := by
  obtain ⟨⟨h1, h2⟩, _⟩ := h
  have a := (Rat.le_iff r v).mp h2
  have b := (Rat.le_iff (-(v : Rat)) r).mp h1
  rw [Rat.num_natCast, Rat.den_natCast] at a
  rw [Rat.neg_num, Rat.neg_den, Rat.num_natCast, Rat.den_natCast] at b
  have e : ((v * r.den : Nat) : Int) = (v : Int) * (r.den : Int) := Int.natCast_mul ..
  have e2 : -(v : Int) * (r.den : Int) = -((v : Int) * (r.den : Int)) := Int.neg_mul ..
  rw [e2] at b
  generalize (v : Int) * (r.den : Int) = P at a b e
  omega
theorem Bd.sz {v D k b : Nat} {r : Rat} (h : Bd v D r) (D0 : 0 < D) (hD : D < 2 ^ b) (hv : v ≤ 2 ^ k) : Sz (k + b) b r := by
  have d := Nat.lt_of_le_of_lt (Nat.le_of_dvd D0 h.2) hD
  refine ⟨Nat.lt_of_le_of_lt h.num ?_, d⟩
  rw [Nat.pow_add]
  exact Nat.lt_of_le_of_lt (Nat.mul_le_mul_right _ hv) (Nat.mul_lt_mul_of_pos_left d (Nat.two_pow_pos k))
theorem Bd.sv {v D n : Nat} {r : Rat} (h : Bd v D r) (D0 : 0 < D) (hn : v * D < 2 ^ n) : Sv n D r :=
  ⟨Nat.lt_of_le_of_lt h.num (Nat.lt_of_le_of_lt (Nat.mul_le_mul_left v (Nat.le_of_dvd D0 h.2)) hn), h.2⟩
theorem Bd.add {v u D : Nat} {r s : Rat} (D0 : 0 < D) (h : Bd v D r) (g : Bd u D s) : Bd (v + u) D (r + s) := by
  have e := Rat.natCast_add v u
  obtain ⟨⟨h1, h2⟩, h3⟩ := h
  obtain ⟨⟨g1, g2⟩, g3⟩ := g
  exact ⟨⟨by grind, by grind⟩, den_add D0 h3 g3⟩
theorem Bd.neg {v D : Nat} {r : Rat} (h : Bd v D r) : Bd v D (-r) := by
  obtain ⟨⟨h1, h2⟩, h3⟩ := h
  exact ⟨⟨by grind, by grind⟩, by rw [Rat.neg_den]; exact h3⟩
theorem Bd.sub {v u D : Nat} {r s : Rat} (D0 : 0 < D) (h : Bd v D r) (g : Bd u D s) : Bd (v + u) D (r - s) := by
  rw [Rat.sub_eq_add_neg]
  exact h.add D0 g.neg
theorem Bd.mul {v u D E : Nat} {r s : Rat} (h : Bd v D r) (g : Bd u E s) : Bd (v * u) (D * E) (r * s) := by
  have e := Rat.natCast_mul v u
  obtain ⟨⟨h1, h2⟩, h3⟩ := h
  obtain ⟨⟨g1, g2⟩, g3⟩ := g
  refine ⟨?_, Nat.dvd_trans (den_mul r s) (Nat.mul_dvd_mul h3 g3)⟩
  rw [e]
  generalize (v : Rat) = v at *
  generalize (u : Rat) = u at *
  have a := Rat.mul_nonneg (a := v - r) (b := u + s) (by grind) (by grind)
  have b := Rat.mul_nonneg (a := v + r) (b := u - s) (by grind) (by grind)
  have c := Rat.mul_nonneg (a := v - r) (b := u - s) (by grind) (by grind)
  have d := Rat.mul_nonneg (a := v + r) (b := u + s) (by grind) (by grind)
  exact ⟨by grind, by grind⟩
theorem bd_zero (v D : Nat) : Bd v D 0 := by
  have : (0 : Rat) ≤ (v : Rat) := Rat.natCast_nonneg
  exact ⟨⟨by grind, by grind⟩, Nat.one_dvd D⟩
theorem bdl_snoc {v D : Nat} {L : List Rat} {r : Rat} (h : BdL v D L) (hr : Bd v D r) : BdL v D (L ++ [r]) := by
  intro a ha
  rcases List.mem_append.mp ha with ha | ha
  · exact h a ha
  · rw [List.mem_singleton.mp ha]
    exact hr
theorem bd_weighs {v u D E : Nat} (D0 : 0 < D * E) : ∀ {l : List (Rat × Rat)}, (∀ p ∈ l, Bd v D p.1 ∧ Bd u E p.2) → Bd (l.length * (v * u)) (D * E) (weighs l)
  | [], _ => bd_zero _ _
  | p :: l, h => by
    rw [weighs_cons]
    have ih := bd_weighs D0 (l := l) fun q hq => h q (by simp [hq])
    have hp := h p (by simp)
    refine ((hp.1.mul hp.2).add D0 ih).mono ?_ (Nat.dvd_refl _)
    rw [List.length_cons, Nat.add_mul]
    omega
theorem bd_tells {v c u D E F : Nat} {s : Sum2} {x : List Rat} (D0 : 0 < D * E) (F0 : 0 < F) (hD : D * E ∣ F) (h : BdL v D s.1) (hc : Bd c F s.2) (hx : BdL u E x) (hl : s.1.length = x.length) : Bd (s.1.length * (v * u) + c) F (tells s x) := by
  have a := bd_weighs (v := v) (u := u) D0 (l := s.1.zip x) fun p hp => ⟨h _ (List.of_mem_zip hp).1, hx _ (List.of_mem_zip hp).2⟩
  rw [List.length_zip, ← hl, Nat.min_self] at a
  exact (a.mono (Nat.le_refl _) hD).add F0 hc
/-! ### a node taken through sums -/
def stp (t : Sum2) (p : Rat × Sum2 × Sum2) : Sum2 := if 0 < p.1.num then splus t (stimes p.1 p.2.1) else if p.1.num < 0 then splus t (stimes p.1 p.2.2) else t
def thrL (n : Nat) (c : Rat) (ps : List (Rat × Sum2 × Sum2)) : Sum2 := ps.foldl stp (List.replicate n 0, c)
def thr (z : Sum2) (A B : List Sum2) (n : Nat) : Sum2 := thrL n z.2 (z.1.zip (A.zip B))
theorem thrL_take {n i : Nat} {c : Rat} {ps : List (Rat × Sum2 × Sum2)} {p : Rat × Sum2 × Sum2} (h : ps[i]? = some p) : thrL n c (ps.take (i + 1)) = stp (thrL n c (ps.take i)) p := by
  unfold thrL
  rw [List.take_add_one, h, List.foldl_append]
  rfl
/-- a sum over n things, all its fractions small -/
structure BdS (n v Dc Dn : Nat) (s : Sum2) : Prop where
  len : s.1.length = n
  row : BdL v Dc s.1
  num : Bd v Dn s.2
theorem BdS.mono {n v u Dc Dn Ec En : Nat} {s : Sum2} (h : BdS n v Dc Dn s) (hv : v ≤ u) (hc : Dc ∣ Ec) (hn : Dn ∣ En) : BdS n u Ec En s := ⟨h.len, h.row.mono hv hc, h.num.mono hv hn⟩
theorem bds_plus {n v u Dc Dn : Nat} {s t : Sum2} (c0 : 0 < Dc) (n0 : 0 < Dn) (h : BdS n v Dc Dn s) (g : BdS n u Dc Dn t) : BdS n (v + u) Dc Dn (splus s t) := by
  refine ⟨?_, ?_, h.num.add n0 g.num⟩
  · unfold splus
    rw [List.length_map, List.length_zip, h.len, g.len, Nat.min_self]
  · intro r hr
    unfold splus at hr
    obtain ⟨p, hp, rfl⟩ := List.mem_map.mp hr
    exact (h.row _ (List.of_mem_zip hp).1).add c0 (g.row _ (List.of_mem_zip hp).2)
theorem bds_times {n v u D Dc Dn : Nat} {q : Rat} {s : Sum2} (hq : Bd v D q) (h : BdS n u Dc Dn s) : BdS n (v * u) (D * Dc) (D * Dn) (stimes q s) := by
  refine ⟨?_, ?_, hq.mul h.num⟩
  · unfold stimes
    rw [List.length_map, h.len]
  · intro r hr
    unfold stimes at hr
    obtain ⟨p, hp, rfl⟩ := List.mem_map.mp hr
    exact hq.mul (h.row _ hp)
theorem bds_flat (n : Nat) {v Dc Dn : Nat} {c : Rat} (h : Bd v Dn c) : BdS n v Dc Dn (List.replicate n 0, c) := by
  refine ⟨List.length_replicate .., fun r hr => ?_, h⟩
  rw [List.eq_of_mem_replicate hr]
  exact bd_zero _ _
/-- what a step puts to the total -/
theorem bds_stp {n a v u D Dc Dn : Nat} {t : Sum2} {p : Rat × Sum2 × Sum2} (c0 : 0 < D * Dc) (n0 : 0 < D * Dn) (ht : BdS n a (D * Dc) (D * Dn) t) (hw : Bd v D p.1) (h1 : BdS n u Dc Dn p.2.1) (h2 : BdS n u Dc Dn p.2.2) : BdS n (a + v * u) (D * Dc) (D * Dn) (stp t p) := by
  unfold stp
  split
  · exact bds_plus c0 n0 ht (bds_times hw h1)
  · split
    · exact bds_plus c0 n0 ht (bds_times hw h2)
    · exact ht.mono (Nat.le_add_right _ _) (Nat.dvd_refl _) (Nat.dvd_refl _)
theorem bds_thrL {n a v u D Dc Dn : Nat} {c : Rat} (c0 : 0 < D * Dc) (n0 : 0 < D * Dn) (hc : Bd a (D * Dn) c) {ps : List (Rat × Sum2 × Sum2)} (hp : ∀ p ∈ ps, Bd v D p.1 ∧ BdS n u Dc Dn p.2.1 ∧ BdS n u Dc Dn p.2.2) :
    ∀ i, i ≤ ps.length → BdS n (a + i * (v * u)) (D * Dc) (D * Dn) (thrL n c (ps.take i))
  | 0, _ => by
    have := bds_flat n (Dc := D * Dc) hc
    simpa [thrL] using this
  | i + 1, h => by
    have e : ps[i]? = some ps[i] := List.getElem?_eq_getElem (by omega)
    rw [thrL_take e]
    have ih := bds_thrL c0 n0 hc hp i (by omega)
    obtain ⟨h1, h2, h3⟩ := hp ps[i] (List.getElem_mem _)
    refine (bds_stp c0 n0 ih h1 h2 h3).mono ?_ (Nat.dvd_refl _) (Nat.dvd_refl _)
    rw [Nat.add_mul]
    omega
theorem zip3_mem {w : List Rat} {A B : List Sum2} {p : Rat × Sum2 × Sum2} (h : p ∈ w.zip (A.zip B)) : p.1 ∈ w ∧ p.2.1 ∈ A ∧ p.2.2 ∈ B :=
  ⟨(List.of_mem_zip h).1, List.of_mem_zip (List.of_mem_zip h).2⟩
theorem bds_thr {n a v u D Dc Dn : Nat} {z : Sum2} {A B : List Sum2} (c0 : 0 < D * Dc) (n0 : 0 < D * Dn) (hz : BdL v D z.1) (hc : Bd a (D * Dn) z.2) (hA : ∀ s ∈ A, BdS n u Dc Dn s) (hB : ∀ s ∈ B, BdS n u Dc Dn s) (h1 : z.1.length = A.length) (h2 : A.length = B.length) :
    BdS n (a + z.1.length * (v * u)) (D * Dc) (D * Dn) (thr z A B n) := by
  have hl : (z.1.zip (A.zip B)).length = z.1.length := by rw [List.length_zip, List.length_zip]; omega
  have h := bds_thrL c0 n0 hc (ps := z.1.zip (A.zip B)) (fun p hp => ⟨hz _ (zip3_mem hp).1, hA _ (zip3_mem hp).2.1, hB _ (zip3_mem hp).2.2⟩) z.1.length (by omega)
  rw [List.take_of_length_le (by omega)] at h
  exact h
/-! ### what it tells -/
theorem weighs_reps : ∀ (n : Nat) (x : List Rat), weighs ((List.replicate n (0 : Rat)).zip x) = 0
  | 0, x => by simp [weighs]
  | n + 1, [] => by simp [weighs]
  | n + 1, y :: x => by
    rw [List.replicate_succ, List.zip_cons_cons, weighs_cons, weighs_reps n x]
    grind
theorem tells_flat (n : Nat) (c : Rat) (x : List Rat) : tells (List.replicate n 0, c) x = c := by
  unfold tells
  simp only
  rw [weighs_reps]
  grind
theorem tells_stp {n : Nat} {t : Sum2} {p : Rat × Sum2 × Sum2} {x : List Rat} (ht : t.1.length = n) (h1 : p.2.1.1.length = n) (h2 : p.2.2.1.length = n) :
    (stp t p).1.length = n ∧ tells (stp t p) x = tells t x + p.1 * (if 0 < p.1.num then tells p.2.1 x else tells p.2.2 x) := by
  have pl : ∀ s : Sum2, s.1.length = n → (splus t (stimes p.1 s)).1.length = n ∧ tells (splus t (stimes p.1 s)) x = tells t x + p.1 * tells s x := fun s hs => by
    refine ⟨?_, ?_⟩
    · unfold splus stimes
      rw [List.length_map, List.length_zip, List.length_map]
      omega
    · rw [tells_splus _ _ _ (by unfold stimes; rw [List.length_map]; omega), tells_stimes]
  unfold stp
  split
  · exact pl _ h1
  · split
    · exact pl _ h2
    · have : p.1 = 0 := Rat.num_eq_zero.mp (by omega)
      rw [this, Rat.zero_mul, Rat.add_zero]
      exact ⟨ht, rfl⟩
/-- no more than the node at what lies between -/
theorem thrL_le {n : Nat} {x : List Rat} : ∀ {ps : List (Rat × Sum2 × Sum2)} {y : List Rat} {c : Rat}, Paired (fun (p : Rat × Sum2 × Sum2) (r : Rat) => p.2.1.1.length = n ∧ p.2.2.1.length = n ∧ tells p.2.1 x ≤ r ∧ r ≤ tells p.2.2 x) ps y →
    ∀ {t : Sum2}, t.1.length = n → (ps.foldl stp t).1.length = n ∧ tells (ps.foldl stp t) x ≤ tells t x + weighs ((ps.map (·.1)).zip y)
  | [], _, _, _, t, ht => by
    refine ⟨ht, ?_⟩
    simp [weighs]
    rw [Rat.add_zero]
    exact Rat.le_refl
  | p :: ps, r :: y, c, .cons h hp, t, ht => by
    obtain ⟨h1, h2, h3, h4⟩ := h
    obtain ⟨k1, k2⟩ := tells_stp (x := x) ht h1 h2
    obtain ⟨i1, i2⟩ := thrL_le (c := c) hp k1
    refine ⟨i1, ?_⟩
    rw [List.foldl_cons]
    rw [List.map_cons, List.zip_cons_cons, weighs_cons]
    have : p.1 * (if 0 < p.1.num then tells p.2.1 x else tells p.2.2 x) ≤ p.1 * r := by
      split
      · rename_i c0
        have := Rat.mul_le_mul_of_nonneg_left h3 (c := p.1) (by have := numPos.mp c0; grind)
        exact this
      · rename_i c0
        have := Rat.mul_le_mul_of_nonneg_left h4 (c := -p.1) (by have := (numPos (r := p.1)); grind)
        grind
    show tells (List.foldl stp (stp t p) ps) x ≤ _
    grind
theorem thrL_ge {n : Nat} {x : List Rat} : ∀ {ps : List (Rat × Sum2 × Sum2)} {y : List Rat} {c : Rat}, Paired (fun (p : Rat × Sum2 × Sum2) (r : Rat) => p.2.1.1.length = n ∧ p.2.2.1.length = n ∧ tells p.2.2 x ≤ r ∧ r ≤ tells p.2.1 x) ps y →
    ∀ {t : Sum2}, t.1.length = n → (ps.foldl stp t).1.length = n ∧ tells t x + weighs ((ps.map (·.1)).zip y) ≤ tells (ps.foldl stp t) x
  | [], _, _, _, t, ht => by
    refine ⟨ht, ?_⟩
    simp [weighs]
    rw [Rat.add_zero]
    exact Rat.le_refl
  | p :: ps, r :: y, c, .cons h hp, t, ht => by
    obtain ⟨h1, h2, h3, h4⟩ := h
    obtain ⟨k1, k2⟩ := tells_stp (x := x) ht h1 h2
    obtain ⟨i1, i2⟩ := thrL_ge (c := c) hp k1
    refine ⟨i1, ?_⟩
    rw [List.foldl_cons]
    rw [List.map_cons, List.zip_cons_cons, weighs_cons]
    have : p.1 * r ≤ p.1 * (if 0 < p.1.num then tells p.2.1 x else tells p.2.2 x) := by
      split
      · rename_i c0
        have := Rat.mul_le_mul_of_nonneg_left h4 (c := p.1) (by have := numPos.mp c0; grind)
        exact this
      · rename_i c0
        have := Rat.mul_le_mul_of_nonneg_left h3 (c := -p.1) (by have := (numPos (r := p.1)); grind)
        grind
    show _ ≤ tells (List.foldl stp (stp t p) ps) x
    grind
end Nc
end
section
set_option maxRecDepth 100000
set_option maxHeartbeats 4000000
namespace Nc
open PySem PySem.Spec PyProof.Rows L2
/-! ### tighter sums -/
/-- under, over; low, high -/
abbrev Tg := (Sum2 × Sum2) × (Rat × Rat)
def maxQ (a b : Rat) : Rat := if a < b then b else a
def minQ (a b : Rat) : Rat := if b < a then b else a
def tgt (box : List Span) (n : Nat) (U O : List Sum2) (A : List Span) (z : Sum2) : Tg :=
  ((thr z U O n, thr z O U n), (maxQ (lowT (thr z U O n) box) (bnd A z).1, minQ (highT (thr z O U n) box) (bnd A z).2))
def flat0 (n : Nat) : Sum2 := (List.replicate n 0, 0)
def uPass (n : Nat) (t : Tg) : Sum2 := if 0 < (t.2.1 + t.2.2).num then t.1.1 else flat0 n
def oPass (n : Nat) (t : Tg) : Sum2 := if t.2.2.num ≤ 0 then flat0 n else if 0 ≤ t.2.1.num then t.1.2 else stimes (t.2.2 / (t.2.2 - t.2.1)) (t.1.2.1, t.1.2.2 - t.2.1)
def tightAt (box : List Span) (n : Nat) : List (List Sum2) → List Span → List Sum2 → List Sum2 → List (List Tg)
  | [], _, _, _ => []
  | l :: ls, A, U, O => (l.map (tgt box n U O A)) :: tightAt box n ls ((l.map (bnd A)).map cutS) ((l.map (tgt box n U O A)).map (uPass n)) ((l.map (tgt box n U O A)).map (oPass n))
theorem tightAt_cons {box : List Span} {n : Nat} {ls : List (List Sum2)} {i : Nat} {l : List Sum2} {A : List Span} {U O : List Sum2} (hi : ls[i]? = some l) :
    tightAt box n (ls.drop i) A U O = (l.map (tgt box n U O A)) :: tightAt box n (ls.drop (i + 1)) ((l.map (bnd A)).map cutS) ((l.map (tgt box n U O A)).map (uPass n)) ((l.map (tgt box n U O A)).map (oPass n)) := by
  rw [drop_at hi]
  rfl
theorem tightAt_length : ∀ {box : List Span} {n : Nat} (ls : List (List Sum2)) (A : List Span) (U O : List Sum2), (tightAt box n ls A U O).length = ls.length
  | _, _, [], _, _, _ => rfl
  | box, n, l :: ls, A, U, O => by
    show (tightAt box n ls _ _ _).length + 1 = _
    rw [tightAt_length ls]
    rfl
/-! ### they hold -/
/-- what the ins, or nodes, come to lies between two sums -/
abbrev Btw (n : Nat) (x : List Rat) (U O : List Sum2) (y : List Rat) : Prop := Paired (fun (p : Sum2 × Sum2) (r : Rat) => p.1.1.length = n ∧ p.2.1.length = n ∧ tells p.1 x ≤ r ∧ r ≤ tells p.2 x) (U.zip O) y
theorem btw_pair {n : Nat} {x : List Rat} : ∀ {w : List Rat} {U O : List Sum2} {y : List Rat}, w.length = U.length → U.length = O.length → Btw n x U O y →
    Paired (fun (p : Rat × Sum2 × Sum2) (r : Rat) => p.2.1.1.length = n ∧ p.2.2.1.length = n ∧ tells p.2.1 x ≤ r ∧ r ≤ tells p.2.2 x) (w.zip (U.zip O)) y ∧
    Paired (fun (p : Rat × Sum2 × Sum2) (r : Rat) => p.2.1.1.length = n ∧ p.2.2.1.length = n ∧ tells p.2.2 x ≤ r ∧ r ≤ tells p.2.1 x) (w.zip (O.zip U)) y
  | [], [], [], _, _, _, .nil => ⟨.nil, .nil⟩
  | a :: w, u :: U, o :: O, _, h1, h2, .cons ⟨k1, k2, k3, k4⟩ t => by
    obtain ⟨i1, i2⟩ := btw_pair (w := w) (by simpa using h1) (by simpa using h2) t
    exact ⟨.cons ⟨k1, k2, k3, k4⟩ i1, .cons ⟨k2, k1, k3, k4⟩ i2⟩
theorem map_zip3 {w : List Rat} {U O : List Sum2} (h1 : w.length = U.length) (h2 : U.length = O.length) : (w.zip (U.zip O)).map (·.1) = w := by
  rw [← List.unzip_fst, List.unzip_zip (by rw [List.length_zip]; omega)]
theorem btw_len {n : Nat} {x : List Rat} {U O : List Sum2} {y : List Rat} (h : Btw n x U O y) (hl : U.length = O.length) : y.length = U.length := by
  have := Paired.length h
  rw [List.length_zip] at this
  omega
theorem tells_swap (z : Sum2) (y : List Rat) : tells z y = z.2 + weighs (z.1.zip y) := by
  unfold tells
  grind
/-- the node lies between its two sums -/
theorem node_btw {n : Nat} {x y : List Rat} {U O : List Sum2} {z : Sum2} (hb : Btw n x U O y) (hl : U.length = O.length) (hz : z.1.length = U.length) :
    (thr z U O n).1.length = n ∧ (thr z O U n).1.length = n ∧ tells (thr z U O n) x ≤ tells z y ∧ tells z y ≤ tells (thr z O U n) x := by
  obtain ⟨p1, p2⟩ := btw_pair hz hl hb
  have f : (List.replicate n (0 : Rat), z.2).1.length = n := List.length_replicate ..
  obtain ⟨a1, a2⟩ := thrL_le (c := z.2) p1 (t := (List.replicate n 0, z.2)) f
  obtain ⟨b1, b2⟩ := thrL_ge (c := z.2) p2 (t := (List.replicate n 0, z.2)) f
  rw [map_zip3 hz hl, tells_flat, ← tells_swap] at a2
  rw [map_zip3 (by omega) (by omega), tells_flat, ← tells_swap] at b2
  exact ⟨a1, b1, a2, b2⟩
theorem maxQ_le {a b c : Rat} (h1 : a ≤ c) (h2 : b ≤ c) : maxQ a b ≤ c := by
  unfold maxQ
  split
  · exact h2
  · exact h1
theorem le_minQ {a b c : Rat} (h1 : c ≤ a) (h2 : c ≤ b) : c ≤ minQ a b := by
  unfold minQ
  split
  · exact h2
  · exact h1
theorem le_maxQ (a b : Rat) : b ≤ maxQ a b := by
  unfold maxQ
  split
  · exact Rat.le_refl
  · rename_i h
    exact Rat.not_lt.mp h
theorem minQ_le (a b : Rat) : minQ a b ≤ b := by
  unfold minQ
  split
  · exact Rat.le_refl
  · rename_i h
    exact Rat.not_lt.mp h
theorem cutQ_eq (r : Rat) : cutQ r = if r < 0 then 0 else r := by
  unfold cutQ
  by_cases h : r < 0
  · rw [if_pos (num_lt.mpr h), if_pos h]
  · rw [if_neg (fun z => h (num_lt.mp z)), if_neg h]
theorem flat0_tells (n : Nat) (x : List Rat) : tells (flat0 n) x = 0 := tells_flat n 0 x
theorem flat0_len (n : Nat) : (flat0 n).1.length = n := List.length_replicate ..
theorem div_line {h l t : Rat} (hl : l < 0) (hh : 0 < h) (h1 : l ≤ t) (h2 : t ≤ h) : 0 ≤ h / (h - l) * (t - l) ∧ t ≤ h / (h - l) * (t - l) := by
  have d : 0 < h - l := by grind
  have dn : h - l ≠ 0 := by grind
  have iv : 0 ≤ (h - l)⁻¹ := Rat.not_lt.mp fun z => by
    have := Rat.mul_inv_cancel (h - l) dn
    have k := Rat.mul_nonneg (a := h - l) (b := -(h - l)⁻¹) (by grind) (by grind)
    grind
  rw [Rat.div_def]
  have e := Rat.mul_inv_cancel (h - l) dn
  generalize (h - l)⁻¹ = i at iv e
  have a1 := Rat.mul_nonneg (a := h * (t - l)) (b := i) (Rat.mul_nonneg (by grind) (by grind)) iv
  have a2 := Rat.mul_nonneg (a := (h - t) * (-l)) (b := i) (Rat.mul_nonneg (by grind) (by grind)) iv
  have e2 : t * ((h - l) * i) = t := by rw [e, Rat.mul_one]
  have e3 : h * i * (t - l) = h * (t - l) * i := by grind
  have e4 : h * (t - l) * i = t * ((h - l) * i) + (h - t) * -l * i := by grind
  rw [e3]
  refine ⟨a1, ?_⟩
  rw [e4, e2]
  generalize (h - t) * -l * i = q at a2
  grind
/-- what is passed on lies between what is passed on of the sums -/
theorem pass_btw {n : Nat} {x : List Rat} {t : Tg} {r : Rat} (l1 : t.1.1.1.length = n) (l2 : t.1.2.1.length = n) (h1 : tells t.1.1 x ≤ r) (h2 : r ≤ tells t.1.2 x) (h3 : t.2.1 ≤ r) (h4 : r ≤ t.2.2) :
    (uPass n t).1.length = n ∧ (oPass n t).1.length = n ∧ tells (uPass n t) x ≤ cutQ r ∧ cutQ r ≤ tells (oPass n t) x := by
  obtain ⟨⟨u, o⟩, ⟨lo, hi⟩⟩ := t
  simp only at l1 l2 h1 h2 h3 h4
  have hc : (r < 0 ∧ cutQ r = 0) ∨ (0 ≤ r ∧ cutQ r = r) := by
    rw [cutQ_eq]
    by_cases h : r < 0
    · rw [if_pos h]
      exact .inl ⟨h, rfl⟩
    · rw [if_neg h]
      exact .inr ⟨Rat.not_lt.mp h, rfl⟩
  generalize cutQ r = c at hc
  have cu : tells (uPass n ((u, o), (lo, hi))) x ≤ c ∧ (uPass n ((u, o), (lo, hi))).1.length = n := by
    unfold uPass
    split
    · exact ⟨by simp only; grind, l1⟩
    · rw [flat0_tells]
      exact ⟨by grind, flat0_len n⟩
  have co : c ≤ tells (oPass n ((u, o), (lo, hi))) x ∧ (oPass n ((u, o), (lo, hi))).1.length = n := by
    unfold oPass
    simp only
    by_cases c1 : hi.num ≤ 0
    · rw [if_pos c1, flat0_tells]
      have : hi ≤ 0 := Rat.not_lt.mp fun z => by have := numPos.mpr z; omega
      exact ⟨by grind, flat0_len n⟩
    · rw [if_neg c1]
      have hp : 0 < hi := numPos.mp (by omega)
      by_cases c2 : 0 ≤ lo.num
      · rw [if_pos c2]
        have : 0 ≤ lo := Rat.num_nonneg.mp c2
        exact ⟨by grind, l2⟩
      · rw [if_neg c2]
        have hl : lo < 0 := num_lt.mp (by omega)
        have e : tells (o.1, o.2 - lo) x = tells o x - lo := by
          unfold tells
          grind
        rw [tells_stimes, e]
        obtain ⟨d1, d2⟩ := div_line hl hp h3 h4
        have q0 : 0 ≤ hi / (hi - lo) := by
          have dn : hi - lo ≠ 0 := by grind
          rw [Rat.div_def]
          have e := Rat.mul_inv_cancel (hi - lo) dn
          generalize (hi - lo)⁻¹ = i at *
          have k : 0 ≤ i := Rat.not_lt.mp fun z => by
            have k := Rat.mul_nonneg (a := hi - lo) (b := -i) (by grind) (by grind)
            grind
          exact Rat.mul_nonneg (by grind) k
        have d3 := Rat.mul_le_mul_of_nonneg_left (show r - lo ≤ tells o x - lo by grind) q0
        refine ⟨by grind, ?_⟩
        unfold stimes
        rw [List.length_map]
        exact l2
  exact ⟨cu.2, co.2, cu.1, co.1⟩
/-- a spot's row of what nodes come to, and all four of each node -/
def Holds (n : Nat) (x : List Rat) (t : Tg) (r : Rat) : Prop := t.1.1.1.length = n ∧ t.1.2.1.length = n ∧ tells t.1.1 x ≤ r ∧ r ≤ tells t.1.2 x ∧ t.2.1 ≤ r ∧ r ≤ t.2.2
theorem tgt_holds {box A : List Span} {n : Nat} {x y : List Rat} {U O : List Sum2} {z : Sum2} (hx : Within x box) (hn : n = box.length) (hy : Within y A) (hb : Btw n x U O y) (hl : U.length = O.length) (hz : z.1.length = U.length) : Holds n x (tgt box n U O A z) (tells z y) := by
  have hyl := btw_len hb hl
  have hxl := Paired.length hx
  obtain ⟨a, b, c, d⟩ := node_btw hb hl hz
  have w1 := within_tells hy (z := z) (by omega)
  have w2 := within_tells hx (z := thr z U O n) (by omega)
  have w3 := within_tells hx (z := thr z O U n) (by omega)
  refine ⟨a, b, c, d, maxQ_le ?_ w1.1, le_minQ ?_ w1.2⟩
  · exact Rat.le_trans w2.1 c
  · exact Rat.le_trans d w3.2
theorem holds_map {box A : List Span} {n : Nat} {x y : List Rat} {U O : List Sum2} (hx : Within x box) (hn : n = box.length) (hy : Within y A) (hb : Btw n x U O y) (hl : U.length = O.length) : ∀ {l : List Sum2}, (∀ z ∈ l, z.1.length = U.length) → Paired (Holds n x) (l.map (tgt box n U O A)) (l.map fun z => tells z y)
  | [], _ => .nil
  | z :: l, h => .cons (tgt_holds hx hn hy hb hl (h z (by simp))) (holds_map hx hn hy hb hl fun q hq => h q (by simp [hq]))
theorem pass_map {n : Nat} {x : List Rat} : ∀ {ts : List Tg} {rs : List Rat}, Paired (Holds n x) ts rs → Btw n x (ts.map (uPass n)) (ts.map (oPass n)) (rs.map cutQ)
  | _, _, .nil => .nil
  | _, _, .cons ⟨a, b, c, d, e, f⟩ t => .cons (pass_btw a b c d e f) (pass_map t)
/-- at every spot in the box each node lies between its four -/
theorem tight_all {box : List Span} {n : Nat} {x : List Rat} (hx : Within x box) (hn : n = box.length) : ∀ {ls : List (List Sum2)} {y : List Rat} {A : List Span} {U O : List Sum2}, Within y A → Btw n x U O y → U.length = O.length → Over y.length ls → Paired (Paired (Holds n x)) (tightAt box n ls A U O) (rowsAt ls y)
  | [], _, _, _, _, _, _, _, _ => .nil
  | l :: ls, y, A, U, O, hy, hb, hl, ⟨o1, o2, o3⟩ => by
    have hyl := btw_len hb hl
    have h := holds_map hx hn hy hb hl (l := l) fun z hz => by rw [o1 z hz]; exact hyl
    exact .cons h (tight_all hx hn (within_cut (within_map hy o1)) (pass_map h) (by rw [List.length_map, List.length_map, List.length_map, List.length_map]) (by simpa using o3))
/-- the ins' own sums -/
def units (n : Nat) : List Sum2 := (List.range n).map fun p => (unit n p, 0)
end Nc
end
section
set_option maxRecDepth 100000
set_option maxHeartbeats 4000000
namespace Nc
open PySem PySem.Spec PyProof.Rows L2
/-! ### the ins' own sums -/
theorem weighs_unit (p : Nat) : ∀ (k s : Nat) (x : List Rat), x.length = k → weighs (((List.range' s k).map fun i => if i = p then (1 : Rat) else 0).zip x) = if s ≤ p then x.getD (p - s) 0 else 0
  | 0, s, [], _ => by simp [weighs]
  | k + 1, s, y :: x, h => by
    have ih := weighs_unit p k (s + 1) x (by simpa using h)
    rw [List.range'_succ, List.map_cons, List.zip_cons_cons, weighs_cons, ih]
    by_cases e : s = p
    · subst e
      rw [if_pos rfl, if_neg (by omega), if_pos (Nat.le_refl _), Nat.sub_self]
      show 1 * y + 0 = y
      grind
    · rw [if_neg e]
      by_cases l : s ≤ p
      · rw [if_pos (by omega), if_pos l, show p - s = (p - (s + 1)) + 1 by omega]
        show 0 * y + _ = (y :: x).getD (p - (s + 1) + 1) 0
        rw [List.getD_cons_succ]
        grind
      · rw [if_neg (by omega), if_neg l]
        show 0 * y + 0 = 0
        grind
theorem tells_unit {n p : Nat} {x : List Rat} (h : x.length = n) : tells (unit n p, 0) x = x.getD p 0 := by
  have e := weighs_unit p n 0 x h
  unfold tells unit
  simp only
  rw [List.range_eq_range', e, if_pos (Nat.zero_le _), Nat.sub_zero]
  grind
theorem unit_len (n p : Nat) : (unit n p).length = n := by
  unfold unit
  rw [List.length_map, List.length_range]
theorem units_len (n : Nat) : (units n).length = n := by
  unfold units
  rw [List.length_map, List.length_range]
theorem pairs_at {α β : Type} {R : α → β → Prop} : ∀ {xs : List α} {ys : List β}, xs.length = ys.length → (∀ (k : Nat) x y, xs[k]? = some x → ys[k]? = some y → R x y) → Paired R xs ys
  | [], [], _, _ => .nil
  | x :: xs, y :: ys, h, f => .cons (f 0 x y rfl rfl) (pairs_at (by simpa using h) fun k a b h1 h2 => f (k + 1) a b (by simpa using h1) (by simpa using h2))
theorem btw_units {n : Nat} {x : List Rat} (h : x.length = n) : Btw n x (units n) (units n) x := by
  refine pairs_at (by rw [List.length_zip, units_len]; omega) fun k p r hp hr => ?_
  rw [List.getElem?_zip_eq_some] at hp
  obtain ⟨h1, h2⟩ := hp
  have hk := (List.getElem?_eq_some_iff.mp hr).1
  have e : (units n)[k]? = some (unit n k, 0) := by
    unfold units
    rw [List.getElem?_map, List.getElem?_range (by omega)]
    rfl
  rw [e] at h1 h2
  obtain ⟨p1, p2⟩ := p
  cases h1
  cases h2
  have v : tells (unit n k, 0) x = r := by
    rw [tells_unit h, List.getD_eq_getElem?_getD, hr]
    rfl
  exact ⟨unit_len n k, unit_len n k, by rw [v]; exact Rat.le_refl, by rw [v]; exact Rat.le_refl⟩
theorem unit_get {n i p : Nat} (hp : p < n) : (unit n i)[p]? = some (if p = i then 1 else 0) := by
  unfold unit
  rw [List.getElem?_map, List.getElem?_range hp]
  rfl
/-- a node taken through the ins themselves is itself -/
theorem thr_units_take {n : Nat} {z : Sum2} (hz : z.1.length = n) : ∀ i, i ≤ n → (thrL n z.2 ((z.1.zip ((units n).zip (units n))).take i)).1.length = n ∧ (thrL n z.2 ((z.1.zip ((units n).zip (units n))).take i)).2 = z.2 ∧
    ∀ p, p < n → (thrL n z.2 ((z.1.zip ((units n).zip (units n))).take i)).1[p]? = some (if p < i then z.1.getD p 0 else 0)
  | 0, _ => by
    refine ⟨by simp [thrL], by simp [thrL], fun p hp => ?_⟩
    simp [thrL, hp]
  | i + 1, h => by
    obtain ⟨a, b, c⟩ := thr_units_take hz i (by omega)
    have hi : i < z.1.length := by omega
    have hw : z.1[i]? = some z.1[i] := List.getElem?_eq_getElem hi
    have hu : (units n)[i]? = some (unit n i, 0) := by
      unfold units
      rw [List.getElem?_map, List.getElem?_range (by omega)]
      rfl
    have e : (z.1.zip ((units n).zip (units n)))[i]? = some (z.1[i], ((unit n i, 0), (unit n i, 0))) := by
      rw [List.getElem?_zip_eq_some, List.getElem?_zip_eq_some]
      exact ⟨hw, hu, hu⟩
    rw [thrL_take e]
    generalize thrL n z.2 ((z.1.zip ((units n).zip (units n))).take i) = t at a b c
    have hd : z.1.getD i 0 = z.1[i] := by
      rw [List.getD_eq_getElem?_getD, hw]
      rfl
    have pl : (splus t (stimes z.1[i] (unit n i, 0))).1.length = n ∧ (splus t (stimes z.1[i] (unit n i, 0))).2 = z.2 ∧ ∀ p, p < n → (splus t (stimes z.1[i] (unit n i, 0))).1[p]? = some (if p < i + 1 then z.1.getD p 0 else 0) := by
      refine ⟨?_, ?_, fun p hp => ?_⟩
      · unfold splus stimes
        rw [List.length_map, List.length_zip, List.length_map, unit_len]
        omega
      · show t.2 + z.1[i] * 0 = z.2
        rw [b]
        grind
      · unfold splus stimes
        simp only
        have k2 : ((unit n i).map fun x => z.1[i] * x)[p]? = some (z.1[i] * (if p = i then 1 else 0)) := by
          rw [List.getElem?_map, unit_get hp]
          rfl
        have kz : (t.1.zip ((unit n i).map fun x => z.1[i] * x))[p]? = some ((if p < i then z.1.getD p 0 else 0), z.1[i] * (if p = i then 1 else 0)) := by
          rw [List.getElem?_zip_eq_some]
          exact ⟨c p hp, k2⟩
        rw [List.getElem?_map, kz]
        show some (_ + _) = _
        congr 1
        by_cases e1 : p = i
        · subst e1
          rw [if_neg (by omega), if_pos rfl, if_pos (by omega), hd]
          grind
        · rw [if_neg e1]
          by_cases e2 : p < i
          · rw [if_pos e2, if_pos (by omega)]
            grind
          · rw [if_neg e2, if_neg (by omega)]
            grind
    unfold stp
    split
    · exact pl
    · split
      · exact pl
      · rename_i c1 c2
        have z0 : z.1[i] = 0 := Rat.num_eq_zero.mp (by
          have c1' : ¬ 0 < z.1[i].num := c1
          have c2' : ¬ z.1[i].num < 0 := c2
          omega)
        refine ⟨a, b, fun p hp => ?_⟩
        rw [c p hp]
        congr 1
        by_cases e2 : p < i
        · rw [if_pos e2, if_pos (by omega)]
        · rw [if_neg e2]
          by_cases e1 : p = i
          · subst e1
            rw [if_pos (by omega), hd, z0]
          · rw [if_neg (by omega)]
theorem thr_units {n : Nat} {z : Sum2} (hz : z.1.length = n) : thr z (units n) (units n) n = z := by
  obtain ⟨a, b, c⟩ := thr_units_take hz n (Nat.le_refl n)
  rw [List.take_of_length_le (by rw [List.length_zip, hz]; omega)] at a b c
  refine Prod.ext (List.ext_getElem? fun p => ?_) b
  by_cases hp : p < n
  · show (thrL n z.2 _).1[p]? = _
    rw [c p hp, if_pos hp, List.getD_eq_getElem?_getD, List.getElem?_eq_getElem (by omega)]
    rfl
  · have e : (thr z (units n) (units n) n).1.length = n := a
    rw [List.getElem?_eq_none (by omega), List.getElem?_eq_none (by omega)]
/-! ### spreads and values of what is handed on -/
def va : Nat → Nat
  | 0 => 21
  | i + 1 => 16 * va i + 10
def sa : Nat → Nat
  | 0 => 18
  | i + 1 => 16 * sa i
/-- spans ahead: how large, how wide, their bottoms -/
structure SpB (v s D : Nat) (A : List Span) : Prop where
  bd : ∀ p ∈ A, Bd v D p.1 ∧ Bd v D p.2
  le : ∀ p ∈ A, p.1 ≤ p.2
  wide : ∀ p ∈ A, p.2 - p.1 ≤ (s : Rat)
theorem spread_w {u s : Nat} : ∀ {ws : List Rat} {A : List Span}, (∀ w ∈ ws, -(u : Rat) ≤ w ∧ w ≤ (u : Rat)) → (∀ p ∈ A, p.1 ≤ p.2 ∧ p.2 - p.1 ≤ (s : Rat)) → ws.length = A.length →
    weighs (ws.zip (picks A (ws.map fun w => decide (w.num < 0)))) ≤ weighs (ws.zip (picks A (ws.map fun w => decide (0 < w.num)))) ∧
    weighs (ws.zip (picks A (ws.map fun w => decide (0 < w.num)))) - weighs (ws.zip (picks A (ws.map fun w => decide (w.num < 0)))) ≤ ((ws.length * (u * s) : Nat) : Rat)
  | [], A, _, _, _ => by
    refine ⟨Rat.le_refl, ?_⟩
    rw [List.length_nil, Nat.zero_mul]
    show (0 : Rat) - 0 ≤ 0
    grind
  | w :: ws, p :: A, hw, hA, hl => by
    obtain ⟨i1, i2⟩ := spread_w (ws := ws) (A := A) (fun a ha => hw a (by simp [ha])) (fun a ha => hA a (by simp [ha])) (by simpa using hl)
    obtain ⟨w1, w2⟩ := hw w (by simp)
    obtain ⟨p1, p2⟩ := hA p (by simp)
    simp only [List.map_cons, picks, List.zipWith_cons_cons, List.zip_cons_cons, weighs_cons, List.length_cons] at i1 i2 ⊢
    have e : (((ws.length + 1) * (u * s) : Nat) : Rat) = ((ws.length * (u * s) : Nat) : Rat) + (u : Rat) * (s : Rat) := by
      rw [Nat.add_mul, Nat.one_mul, Rat.natCast_add, Rat.natCast_mul u s]
    rw [e]
    generalize ((ws.length * (u * s) : Nat) : Rat) = T at i2
    generalize (u : Rat) = U at w1 w2
    generalize (s : Rat) = S at p2
    have key : w * pickB p (decide (w.num < 0)) ≤ w * pickB p (decide (0 < w.num)) ∧ w * pickB p (decide (0 < w.num)) - w * pickB p (decide (w.num < 0)) ≤ U * S := by
      unfold pickB
      by_cases c1 : w.num < 0
      · have c1' := num_lt.mp c1
        rw [if_pos (by simpa using c1), if_neg (by simp; omega)]
        have k1 := Rat.mul_nonneg (a := -w) (b := p.2 - p.1) (by grind) (by grind)
        have k2 := Rat.mul_nonneg (a := U + w) (b := p.2 - p.1) (by grind) (by grind)
        have k3 := Rat.mul_nonneg (a := U) (b := S - (p.2 - p.1)) (by grind) (by grind)
        exact ⟨by grind, by grind⟩
      · by_cases c2 : 0 < w.num
        · have c2' := numPos.mp c2
          rw [if_neg (by simpa using c1), if_pos (by simpa using c2)]
          have k1 := Rat.mul_nonneg (a := w) (b := p.2 - p.1) (by grind) (by grind)
          have k2 := Rat.mul_nonneg (a := U - w) (b := p.2 - p.1) (by grind) (by grind)
          have k3 := Rat.mul_nonneg (a := U) (b := S - (p.2 - p.1)) (by grind) (by grind)
          exact ⟨by grind, by grind⟩
        · have z : w = 0 := Rat.num_eq_zero.mp (by omega)
          subst z
          rw [Rat.zero_mul, Rat.zero_mul]
          have k3 := Rat.mul_nonneg (a := U) (b := S) (by grind) (by grind)
          exact ⟨Rat.le_refl, by grind⟩
    exact ⟨by grind, by grind⟩
/-- the bounds of a node over such spans -/
theorem spb_node {v s D w : Nat} {A : List Span} {z : Sum2} (D0 : 0 < w * D) (h : SpB v s D A) (h4 : A.length ≤ 4) (hz : z.1.length = A.length) (hw : BdL 4 w z.1) (hc : Bd 10 w z.2) :
    (Bd (16 * v + 10) (w * D) (bnd A z).1 ∧ Bd (16 * v + 10) (w * D) (bnd A z).2) ∧ (bnd A z).1 ≤ (bnd A z).2 ∧ (bnd A z).2 - (bnd A z).1 ≤ ((16 * s : Nat) : Rat) := by
  have pk : ∀ bs : List Bool, bs.length = A.length → Bd (16 * v + 10) (w * D) (tells z (picks A bs)) := fun bs hb => by
    have hp : BdL v D (picks A bs) := fun r hr => by
      unfold picks at hr
      obtain ⟨i, hi⟩ := List.mem_iff_getElem?.mp hr
      rw [List.getElem?_zipWith] at hi
      cases h1 : A[i]? with
      | none => rw [h1] at hi; cases hb' : bs[i]? <;> (rw [hb'] at hi; cases hi)
      | some p =>
        rw [h1] at hi
        cases h2 : bs[i]? with
        | none => rw [h2] at hi; cases hi
        | some b =>
          rw [h2] at hi
          have e : pickB p b = r := Option.some.inj hi
          rw [← e]
          unfold pickB
          obtain ⟨k1, k2⟩ := h.bd p (List.mem_of_getElem? h1)
          split
          · exact k2
          · exact k1
    have t := bd_tells (v := 4) (u := v) D0 D0 (Nat.dvd_refl _) hw (hc.mono (Nat.le_refl _) (Nat.dvd_mul_right w D)) hp (by rw [picks_len hb, hz])
    have : z.1.length * (4 * v) ≤ 4 * (4 * v) := Nat.mul_le_mul_right _ (by omega)
    exact t.mono (by omega) (Nat.dvd_refl _)
  obtain ⟨s1, s2⟩ := spread_w (u := 4) (s := s) (ws := z.1) (A := A) (fun a ha => (hw a ha).1) (fun p hp => ⟨h.le p hp, h.wide p hp⟩) hz
  refine ⟨⟨pk _ (by rw [lowB_len, hz]), pk _ (by rw [highB_len, hz])⟩, ?_, ?_⟩
  · unfold bnd lowT highT tells lowB highB
    grind
  · have m : ((z.1.length * (4 * s) : Nat) : Rat) ≤ ((16 * s : Nat) : Rat) := by
      refine Rat.natCast_le_natCast.mpr ?_
      have : z.1.length * (4 * s) ≤ 4 * (4 * s) := Nat.mul_le_mul_right _ (by omega)
      omega
    unfold bnd lowT highT tells lowB highB
    grind
theorem bd_cut {v D : Nat} {r : Rat} (h : Bd v D r) : Bd v D (cutQ r) := by
  unfold cutQ
  split
  · exact bd_zero v D
  · exact h
theorem spb_cut {v s D : Nat} {A : List Span} (h : SpB v s D A) : SpB v s D (A.map cutS) := by
  refine ⟨fun p hp => ?_, fun p hp => ?_, fun p hp => ?_⟩ <;> obtain ⟨q, hq, rfl⟩ := List.mem_map.mp hp
  · exact ⟨bd_cut (h.bd q hq).1, bd_cut (h.bd q hq).2⟩
  · exact cutQ_mono (h.le q hq)
  · have a := h.le q hq
    have b := h.wide q hq
    have s0 : (0 : Rat) ≤ (s : Rat) := Rat.natCast_nonneg
    show cutQ q.2 - cutQ q.1 ≤ _
    rw [cutQ_eq, cutQ_eq]
    generalize (s : Rat) = S at *
    by_cases c1 : q.1 < 0
    · rw [if_pos c1]
      by_cases c2 : q.2 < 0
      · rw [if_pos c2]
        grind
      · rw [if_neg c2]
        grind
    · rw [if_neg c1, if_neg (by grind)]
      exact b
end Nc
end
section
set_option maxRecDepth 100000
set_option maxHeartbeats 4000000
namespace Nc
open PySem PySem.Spec PyProof.Rows L2
/-! ### tighter sums: sizes -/
def M0 : Nat := 10 ^ 29 + 1000
def wN (g M i j : Nat) : Nat := if i = g ∧ j = 0 then 6 * M else 6
def wL (g M i : Nat) : Nat := if i = g then 6 * M else 6
theorem wN_dvd (g M i j : Nat) : wN g M i j ∣ wL g M i := by
  unfold wN wL
  by_cases h : i = g
  · rw [if_pos h]
    split
    · exact Nat.dvd_refl _
    · exact Nat.dvd_mul_right 6 M
  · rw [if_neg h, if_neg (fun z => h z.1)]
    exact Nat.dvd_refl _
theorem wN_pos {g M i j : Nat} (h : 0 < M) : 0 < wN g M i j := by
  unfold wN
  split <;> omega
theorem wL_pos {g M i : Nat} (h : 0 < M) : 0 < wL g M i := by
  unfold wL
  split <;> omega
/-- one number at most of the layers is long: that of the first node of layer g, its bottom M -/
structure GrB (g M : Nat) (ls : List (List Sum2)) : Prop where
  m0 : 0 < M
  mle : M ≤ M0
  num : ∀ (i : Nat) (l : List Sum2), ls[i]? = some l → ∀ (j : Nat) (z : Sum2), l[j]? = some z → BdL 4 (wN g M i j) z.1 ∧ Bd 10 (wN g M i j) z.2
def pr (c : Nat → Nat) : Nat → Nat
  | 0 => 1
  | j + 1 => c j * pr c j
theorem pr_pos {c : Nat → Nat} : ∀ {m : Nat}, (∀ j, j < m → 0 < c j) → 0 < pr c m
  | 0, _ => Nat.one_pos
  | m + 1, h => Nat.mul_pos (h m (by omega)) (pr_pos fun j hj => h j (by omega))
theorem pr_dvd {c : Nat → Nat} : ∀ {m j : Nat}, j < m → c j ∣ pr c m
  | m + 1, j, h => by
    by_cases e : j = m
    · subst e
      exact Nat.dvd_mul_right _ _
    · exact Nat.dvd_trans (pr_dvd (by omega)) (Nat.dvd_mul_left _ _)
theorem pr_le {c b : Nat → Nat} : ∀ {m : Nat}, (∀ j, j < m → c j ≤ b j) → pr c m ≤ pr b m
  | 0, _ => Nat.le_refl _
  | m + 1, h => Nat.mul_le_mul (h m (by omega)) (pr_le fun j hj => h j (by omega))
theorem pr_more {b : Nat → Nat} (h : ∀ j, 0 < b j) : ∀ {m k : Nat}, m ≤ k → pr b m ≤ pr b k
  | m, 0, hk => by
    have : m = 0 := by omega
    subst this
    exact Nat.le_refl _
  | m, k + 1, hk => by
    by_cases e : m = k + 1
    · subst e
      exact Nat.le_refl _
    · exact Nat.le_trans (pr_more h (show m ≤ k by omega)) (Nat.le_mul_of_pos_left _ (h k))
def ubs : Nat → Nat × Nat
  | 0 => (1, 26)
  | i + 1 => let u := (ubs i).2 + (64 * (ubs i).2 + va (i + 1)); (u, 10 + 16 * u)
/-- how large the sums ahead are, the nodes' own, what they tell in the box -/
def ub (i : Nat) : Nat := (ubs i).1
def vs (i : Nat) : Nat := (ubs i).2
def vl (i : Nat) : Nat := 64 * vs i + va (i + 1)
theorem vs_eq : ∀ i, vs i = 10 + 16 * ub i
  | 0 => rfl
  | _ + 1 => rfl
theorem ub_step (i : Nat) : ub (i + 1) = vs i + vl i := rfl
theorem vl_lt : ∀ i, i ≤ 3 → vl i ≤ 2 ^ 44 ∧ vs i ≤ 2 ^ 40 ∧ ub i ≤ 2 ^ 40 ∧ va (i + 1) ≤ 2 ^ 24 ∧ sa (i + 1) ≤ 2 ^ 24
  | 0, _ => by decide
  | 1, _ => by decide
  | 2, _ => by decide
  | 3, _ => by decide
def rb (g : Nat) : Nat → Nat
  | 0 => 1
  | i + 1 => 6 * rb g i * (sa (i + 1) * 36 * rb g i) ^ 4 * (if i = g then M0 * M0 else 1)
theorem rb_far {g : Nat} (h : 4 ≤ g) : ∀ i, i ≤ 4 → rb g i = rb 4 i
  | 0, _ => rfl
  | i + 1, hi => by
    show 6 * rb g i * (sa (i + 1) * 36 * rb g i) ^ 4 * (if i = g then M0 * M0 else 1) = 6 * rb 4 i * (sa (i + 1) * 36 * rb 4 i) ^ 4 * (if i = 4 then M0 * M0 else 1)
    rw [rb_far h i (by omega), if_neg (by omega), if_neg (by omega)]
theorem rb_lt {g i : Nat} (hi : i ≤ 3) : (if i = g then 6 * M0 else 6) * (6 * rb g i) < 2 ^ 6672 := by
  have d : ∀ g, g ≤ 4 → ∀ i, i ≤ 3 → (if i = g then 6 * M0 else 6) * (6 * rb g i) < 2 ^ 6672 := by decide +kernel
  by_cases h : g ≤ 4
  · exact d g h i hi
  · rw [rb_far (by omega) i (by omega), if_neg (by omega)]
    have := d 4 (by omega) i hi
    rwa [if_neg (by omega)] at this
/-! ### the ratio's bottom -/
def cI (t : Tg) (E : Nat) : Nat := if t.2.1 < 0 ∧ 0 < t.2.2 then (t.2.2 - t.2.1).num.natAbs * (E / (t.2.2 - t.2.1).den) else 1
theorem ratio_facts {h l : Rat} {E s : Nat} (E0 : 0 < E) (hl : l < 0) (hh : 0 < h) (dh : h.den ∣ E) (dl : l.den ∣ E) (hs : h - l ≤ (s : Rat)) :
    0 < (h - l).num.natAbs * (E / (h - l).den) ∧ Bd 1 ((h - l).num.natAbs * (E / (h - l).den)) (h / (h - l)) ∧ (h - l).num.natAbs * (E / (h - l).den) ≤ s * E := by
  have dq : (h - l).den ∣ E := by
    rw [Rat.sub_eq_add_neg]
    exact den_add E0 dh (by rw [Rat.neg_den]; exact dl)
  have q0 : 0 < h - l := by grind
  generalize hq : h - l = q at *
  have nq : 0 < q.num := numPos.mpr q0
  obtain ⟨m, hm⟩ := dq
  have dp := den_pos q
  have dn : 0 < q.den := by omega
  have m0 : 0 < m := Nat.pos_of_ne_zero fun z => by rw [z, Nat.mul_zero] at hm; omega
  have em : E / q.den = m := by rw [hm, Nat.mul_div_cancel_left _ dn]
  rw [em]
  have c0 : 0 < q.num.natAbs * m := Nat.mul_pos (by omega) m0
  have ec : ((q.num.natAbs * m : Nat) : Int) = q.num * (m : Int) := by
    rw [Int.natCast_mul, Int.natAbs_of_nonneg (by omega)]
  have eq : q = Rat.divInt ((q.num.natAbs * m : Nat) : Int) (E : Int) := by
    rw [ec, hm, Int.natCast_mul, Rat.divInt_mul_right (by omega), Rat.num_divInt_den]
  clear ec em
  generalize q.num.natAbs * m = c at c0 eq ⊢
  obtain ⟨k, hk⟩ := div_of_den E0 dh
  have eh : Rat.divInt k (c : Int) * q = h := by
    rw [hk, eq, Rat.divInt_mul_divInt, show (c : Int) * (E : Int) = (E : Int) * c from Int.mul_comm .., Rat.divInt_mul_right (by omega)]
  have er : h / q = Rat.divInt k (c : Int) := by
    rw [Rat.div_def, ← eh, Rat.mul_assoc, Rat.mul_inv_cancel q (by grind), Rat.mul_one]
  refine ⟨c0, ⟨?_, ?_⟩, ?_⟩
  · rw [er]
    generalize Rat.divInt k (c : Int) = r at eh
    have one : ((1 : Nat) : Rat) = 1 := rfl
    rw [one]
    constructor
    · refine Rat.not_lt.mp fun z => ?_
      have := Rat.mul_nonneg (a := -r) (b := q) (by grind) (by grind)
      grind
    · refine Rat.not_lt.mp fun z => ?_
      have := Rat.mul_nonneg (a := r - 1) (b := q) (by grind) (by grind)
      grind
  · rw [er]
    exact den_of_div c0
  · refine Rat.natCast_le_natCast.mp ?_
    rw [Rat.natCast_mul s E]
    have e0 : (0 : Rat) ≤ (E : Rat) := Rat.natCast_nonneg
    have eE : (E : Rat) ≠ 0 := fun z => by
      have : ((E : Nat) : Rat) ≤ ((0 : Nat) : Rat) := by
        rw [z]
        exact Rat.le_refl
      have := Rat.natCast_le_natCast.mp this
      omega
    have ev : (c : Rat) = q * (E : Rat) := by
      have e1 : q = (c : Rat) / (E : Rat) := by
        rw [eq, Rat.divInt_eq_div]
        rfl
      rw [e1, Rat.div_def, Rat.mul_assoc, Rat.inv_mul_cancel _ eE, Rat.mul_one]
    rw [ev]
    have := Rat.mul_nonneg (a := (s : Rat) - q) (b := (E : Rat)) (by grind) e0
    grind
/-- a node's four: sums over n things, low and high, how far apart -/
structure TgB (n v w s Dc E : Nat) (t : Tg) : Prop where
  u : BdS n v Dc E t.1.1
  o : BdS n v Dc E t.1.2
  lo : Bd w E t.2.1
  hi : Bd w E t.2.2
  wide : t.2.2 - t.2.1 ≤ (s : Rat)
theorem bds_flat0 (n v Dc E : Nat) : BdS n v Dc E (flat0 n) := bds_flat n (bd_zero v E)
theorem uPass_b {n v w s Dc E : Nat} {t : Tg} (h : TgB n v w s Dc E t) : BdS n v Dc E (uPass n t) := by
  unfold uPass
  split
  · exact h.u
  · exact bds_flat0 n v Dc E
theorem oPass_b {n v w s Dc E : Nat} {t : Tg} (E0 : 0 < E) (h : TgB n v w s Dc E t) (s1 : 1 ≤ s) : 0 < cI t E ∧ cI t E ≤ s * E ∧ BdS n (v + w) (cI t E * Dc) (cI t E * E) (oPass n t) := by
  unfold cI oPass
  by_cases c : t.2.1 < 0 ∧ 0 < t.2.2
  · obtain ⟨r0, r1, r2⟩ := ratio_facts E0 c.1 c.2 h.hi.2 h.lo.2 h.wide
    rw [if_pos c, if_neg (by have := numPos.mpr c.2; omega), if_neg (by have := num_lt.mpr c.1; omega)]
    refine ⟨r0, r2, ?_⟩
    have b : BdS n (v + w) Dc E (t.1.2.1, t.1.2.2 - t.2.1) := ⟨h.o.len, h.o.row.mono (Nat.le_add_right _ _) (Nat.dvd_refl _), h.o.num.sub E0 h.lo⟩
    have := bds_times r1 b
    rwa [Nat.one_mul] at this
  · rw [if_neg c]
    have sE : 1 ≤ s * E := Nat.mul_pos s1 E0
    refine ⟨Nat.one_pos, sE, ?_⟩
    rw [Nat.one_mul, Nat.one_mul]
    by_cases c1 : t.2.2.num ≤ 0
    · rw [if_pos c1]
      exact bds_flat0 n _ Dc E
    · rw [if_neg c1]
      have hp : 0 < t.2.2 := numPos.mp (by omega)
      rw [if_pos (Rat.num_nonneg.mpr (Rat.not_lt.mp fun z => c ⟨z, hp⟩))]
      exact h.o.mono (Nat.le_add_right _ _) (Nat.dvd_refl _) (Nat.dvd_refl _)
theorem bd_max {v u D : Nat} {a b : Rat} (ha : Bd v D a) (hb : Bd u D b) : Bd (v + u) D (maxQ a b) ∧ Bd (v + u) D (minQ a b) := by
  have h1 := ha.mono (Nat.le_add_right v u) (Nat.dvd_refl D)
  have h2 := hb.mono (Nat.le_add_left u v) (Nat.dvd_refl D)
  unfold maxQ minQ
  constructor
  · split
    · exact h2
    · exact h1
  · split
    · exact h2
    · exact h1
theorem bd_picks {v D : Nat} {A : List Span} (h : ∀ p ∈ A, Bd v D p.1 ∧ Bd v D p.2) (bs : List Bool) : BdL v D (picks A bs) := fun r hr => by
  unfold picks at hr
  obtain ⟨i, hi⟩ := List.mem_iff_getElem?.mp hr
  rw [List.getElem?_zipWith] at hi
  cases h1 : A[i]? with
  | none => rw [h1] at hi; cases hb' : bs[i]? <;> (rw [hb'] at hi; cases hi)
  | some p =>
    rw [h1] at hi
    cases h2 : bs[i]? with
    | none => rw [h2] at hi; cases hi
    | some b =>
      rw [h2] at hi
      have e : pickB p b = r := Option.some.inj hi
      rw [← e]
      unfold pickB
      obtain ⟨k1, k2⟩ := h p (List.mem_of_getElem? h1)
      split
      · exact k2
      · exact k1
theorem lt_of_rb {g M i R : Nat} (i3 : i ≤ 3) (mle : M ≤ M0) (rle : R ≤ rb g i) (j : Nat) : wN g M i j * (6 * R) < 2 ^ 6672 := by
  refine Nat.lt_of_le_of_lt ?_ (rb_lt (g := g) i3)
  refine Nat.mul_le_mul ?_ (Nat.mul_le_mul_left 6 rle)
  have m1 : 1 ≤ M0 := by decide
  unfold wN
  by_cases h : i = g
  · rw [if_pos h]
    split <;> omega
  · rw [if_neg h, if_neg (fun z => h z.1)]
    exact Nat.le_refl _
/-- a layer's facts: its nodes, what is ahead -/
structure Lk (D : Nat) (box : List Span) (n g M i : Nat) (l : List Sum2) (A : List Span) (U O : List Sum2) (R : Nat) : Prop where
  nodes : ∀ (j : Nat) (z : Sum2), l[j]? = some z → z.1.length = A.length ∧ BdL 4 (wN g M i j) z.1 ∧ Bd 10 (wN g M i j) z.2
  many : l.length ≤ 4
  a4 : A.length ≤ 4
  ul : U.length = A.length
  ol : O.length = A.length
  i3 : i ≤ 3
  sp : SpB (va i) (sa i) (pw (wL g M) i * D) A
  r0 : 0 < R
  d0 : 0 < D
  ltE : ∀ j, wN g M i j * (D * R) < 2 ^ 6672
  rdv : pw (wL g M) i ∣ R
  hu : ∀ s ∈ U, BdS n (ub i) R (D * R) s
  ho : ∀ s ∈ O, BdS n (ub i) R (D * R) s
  m0 : 0 < M
  mle : M ≤ M0
  bx : SpB 21 18 D box
  nb : n = box.length
  n3 : n ≤ 3
section
variable {box A : List Span} {n g M i R D : Nat} {l : List Sum2} {U O : List Sum2}
theorem Lk.pos (k : Lk D box n g M i l A U O R) (j : Nat) : 0 < wN g M i j * R ∧ 0 < wN g M i j * (D * R) :=
  ⟨Nat.mul_pos (wN_pos k.m0) k.r0, Nat.mul_pos (wN_pos k.m0) (Nat.mul_pos k.d0 k.r0)⟩
theorem Lk.lt (k : Lk D box n g M i l A U O R) (j : Nat) : wN g M i j * (D * R) < 2 ^ 6672 := k.ltE j
theorem Lk.sums (k : Lk D box n g M i l A U O R) {j : Nat} {z : Sum2} (hz : l[j]? = some z) : BdS n (vs i) (wN g M i j * R) (wN g M i j * (D * R)) (thr z U O n) ∧ BdS n (vs i) (wN g M i j * R) (wN g M i j * (D * R)) (thr z O U n) := by
  obtain ⟨h1, h2, h3⟩ := k.nodes j z hz
  obtain ⟨p1, p2⟩ := k.pos j
  have ul := k.ul
  have ol := k.ol
  have a4 := k.a4
  have hc := h3.mono (Nat.le_refl _) (Nat.dvd_mul_right (wN g M i j) (D * R))
  have e : 10 + z.1.length * (4 * ub i) ≤ vs i := by
    rw [vs_eq]
    have : z.1.length * (4 * ub i) ≤ 4 * (4 * ub i) := Nat.mul_le_mul_right _ (by omega)
    omega
  exact ⟨(bds_thr p1 p2 h2 hc k.hu k.ho (by omega) (by omega)).mono e (Nat.dvd_refl _) (Nat.dvd_refl _), (bds_thr p1 p2 h2 hc k.ho k.hu (by omega) (by omega)).mono e (Nat.dvd_refl _) (Nat.dvd_refl _)⟩
theorem Lk.ends (k : Lk D box n g M i l A U O R) {j : Nat} {z : Sum2} (hz : l[j]? = some z) : (Bd (va (i + 1)) (wN g M i j * (D * R)) (bnd A z).1 ∧ Bd (va (i + 1)) (wN g M i j * (D * R)) (bnd A z).2) ∧ (bnd A z).1 ≤ (bnd A z).2 ∧ (bnd A z).2 - (bnd A z).1 ≤ (sa (i + 1) : Rat) := by
  obtain ⟨h1, h2, h3⟩ := k.nodes j z hz
  have p0 : 0 < wN g M i j * (pw (wL g M) i * D) := Nat.mul_pos (wN_pos k.m0) (Nat.mul_pos (pw_pos (fun _ => wL_pos k.m0) i) k.d0)
  obtain ⟨b, c, d⟩ := spb_node p0 k.sp k.a4 h1 h2 h3
  have dv : wN g M i j * (pw (wL g M) i * D) ∣ wN g M i j * (D * R) := Nat.mul_dvd_mul_left _ (by rw [Nat.mul_comm]; exact Nat.mul_dvd_mul_left D k.rdv)
  exact ⟨⟨b.1.mono (Nat.le_refl _) dv, b.2.mono (Nat.le_refl _) dv⟩, c, d⟩
/-- what a small sum tells at a corner of the box -/
theorem Lk.corner (k : Lk D box n g M i l A U O R) {j : Nat} {s : Sum2} (hs : BdS n (vs i) (wN g M i j * R) (wN g M i j * (D * R)) s) (bs : List Bool) (hb : bs.length = box.length) : Bd (64 * vs i) (wN g M i j * (D * R)) (tells s (picks box bs)) := by
  obtain ⟨p1, p2⟩ := k.pos j
  have n3 := k.n3
  have nb := k.nb
  have sl := hs.len
  have e : wN g M i j * R * D = wN g M i j * (D * R) := by rw [Nat.mul_assoc, Nat.mul_comm R]
  have h := bd_tells (v := vs i) (u := 21) (D := wN g M i j * R) (E := D) (F := wN g M i j * (D * R)) (by rw [e]; exact p2) p2 (by rw [e]; exact Nat.dvd_refl _) hs.row hs.num (bd_picks k.bx.bd bs) (by rw [picks_len hb]; omega)
  refine h.mono ?_ (Nat.dvd_refl _)
  have : s.1.length * (vs i * 21) ≤ 3 * (vs i * 21) := Nat.mul_le_mul_right _ (by omega)
  omega
theorem Lk.tg (k : Lk D box n g M i l A U O R) {j : Nat} {z : Sum2} (hz : l[j]? = some z) : TgB n (vs i) (vl i) (sa (i + 1)) (wN g M i j * R) (wN g M i j * (D * R)) (tgt box n U O A z) := by
  obtain ⟨s1, s2⟩ := k.sums hz
  obtain ⟨⟨e1, e2⟩, e3, e4⟩ := k.ends hz
  have nb := k.nb
  have c1 := k.corner s1 (lowB (thr z U O n)) (by rw [lowB_len, s1.len, nb])
  have c2 := k.corner s2 (highB (thr z O U n)) (by rw [highB_len, s2.len, nb])
  refine ⟨s1, s2, (bd_max c1 e1).1, (bd_max c2 e2).2, ?_⟩
  have m1 := le_maxQ (lowT (thr z U O n) box) (bnd A z).1
  have m2 := minQ_le (highT (thr z O U n) box) (bnd A z).2
  show minQ (highT (thr z O U n) box) (bnd A z).2 - maxQ (lowT (thr z U O n) box) (bnd A z).1 ≤ _
  grind
end
/-- what stands behind i layers -/
structure MidT (box : List Span) (n g M : Nat) (ls : List (List Sum2)) (i : Nat) (dn : List (List Tg)) (A : List Span) (U O : List Sum2) : Prop where
  len : dn.length = i
  eq : tightAt box n ls box (units n) (units n) = dn ++ tightAt box n (ls.drop i) A U O
  over : Over A.length (ls.drop i)
  a4 : A.length ≤ 4
  ul : U.length = A.length
  ol : O.length = A.length
  sp : SpB (va i) (sa i) (pw (wL g M) i * 6) A
  r : ∃ R, 0 < R ∧ R ≤ rb g i ∧ pw (wL g M) i ∣ R ∧ (∀ s ∈ U, BdS n (ub i) R (6 * R) s) ∧ ∀ s ∈ O, BdS n (ub i) R (6 * R) s
theorem units_b {n : Nat} : ∀ s ∈ units n, BdS n 1 1 6 s := by
  intro s hs
  unfold units at hs
  obtain ⟨p, _, rfl⟩ := List.mem_map.mp hs
  refine ⟨unit_len n p, fun r hr => ?_, bd_zero _ _⟩
  unfold unit at hr
  obtain ⟨q, _, rfl⟩ := List.mem_map.mp hr
  split
  · exact ⟨by decide, by decide⟩
  · exact bd_zero _ _
theorem midT0 {box : List Span} {n g M : Nat} {ls : List (List Sum2)} (hb : SpB 21 18 6 box) (hn : n = box.length) (h3 : n ≤ 3) (ov : Over n ls) : MidT box n g M ls 0 [] box (units n) (units n) := by
  refine ⟨rfl, rfl, by rw [← hn]; exact ov, by omega, by rw [units_len, hn], by rw [units_len, hn], ?_, 1, Nat.one_pos, Nat.le_refl _, Nat.dvd_refl _, units_b, units_b⟩
  rw [show pw (wL g M) 0 * 6 = 6 from rfl]
  exact hb
theorem pr_b {g M i s R : Nat} (hM : M ≤ M0) (hR : 0 < R) (s1 : 1 ≤ s) (m0 : 0 < M) : pr (fun j => s * (wN g M i j * (6 * R))) 4 ≤ (s * 36 * R) ^ 4 * (if i = g then M0 else 1) := by
  have e : pr (fun j => s * (wN g M i j * (6 * R))) 4 = (s * (wN g M i 3 * (6 * R))) * ((s * (wN g M i 2 * (6 * R))) * ((s * (wN g M i 1 * (6 * R))) * ((s * (wN g M i 0 * (6 * R))) * 1))) := rfl
  have w : ∀ j, j ≠ 0 → wN g M i j = 6 := fun j hj => by
    unfold wN
    rw [if_neg (fun z => hj z.2)]
  have t : s * (6 * (6 * R)) = s * 36 * R := by rw [← Nat.mul_assoc 6 6 R, Nat.mul_assoc s]
  rw [e, w 3 (by decide), w 2 (by decide), w 1 (by decide), t, Nat.mul_one]
  have w0 : s * (wN g M i 0 * (6 * R)) ≤ (s * 36 * R) * (if i = g then M0 else 1) := by
    unfold wN
    by_cases h : i = g
    · rw [if_pos ⟨h, rfl⟩, if_pos h]
      have a : s * (6 * M * (6 * R)) = s * 36 * R * M := by grind
      rw [a]
      exact Nat.mul_le_mul_left _ hM
    · rw [if_neg (fun z => h z.1), if_neg h, t, Nat.mul_one]
      exact Nat.le_refl _
  generalize s * 36 * R = T at w0 ⊢
  generalize (if i = g then M0 else 1) = m at w0 ⊢
  refine Nat.le_trans (Nat.mul_le_mul_left T (Nat.mul_le_mul_left T (Nat.mul_le_mul_left T w0))) (Nat.le_of_eq ?_)
  grind
theorem midT_step {box A : List Span} {n g M i : Nat} {ls : List (List Sum2)} {dn : List (List Tg)} {U O : List Sum2} {l : List Sum2} (hb : SpB 21 18 6 box) (hn : n = box.length) (h3 : n ≤ 3) (h4 : ls.length ≤ 4) (gr : GrB g M ls) (m : MidT box n g M ls i dn A U O) (hi : ls[i]? = some l) :
    ∃ R, Lk 6 box n g M i l A U O R ∧ MidT box n g M ls (i + 1) (dn ++ [l.map (tgt box n U O A)]) ((l.map (bnd A)).map cutS) ((l.map (tgt box n U O A)).map (uPass n)) ((l.map (tgt box n U O A)).map (oPass n)) := by
  have hi1 := (List.getElem?_eq_some_iff.mp hi).1
  have ov := m.over
  rw [drop_at hi] at ov
  obtain ⟨o1, o2, o3⟩ := ov
  obtain ⟨R, r0, rle, rdv, hu, ho⟩ := m.r
  have i3 : i ≤ 3 := by omega
  have k : Lk 6 box n g M i l A U O R := ⟨fun j z hz => ⟨o1 z (List.mem_of_getElem? hz), gr.num i l hi j z hz⟩, o2.2, m.a4, m.ul, m.ol, i3, m.sp, r0, by decide, fun j => lt_of_rb i3 gr.mle rle j, rdv, hu, ho, gr.m0, gr.mle, hb, hn, h3⟩
  have s1 : 1 ≤ sa (i + 1) := by
    have : ∀ i, i ≤ 4 → 1 ≤ sa i := by decide
    exact this _ (by omega)
  refine ⟨R, k, ⟨by simp [m.len], ?_, by simpa using o3, by simpa using o2.2, by simp, by simp, ?_, ?_⟩⟩
  · rw [m.eq, tightAt_cons hi, List.append_assoc]
    rfl
  · refine spb_cut ⟨fun p hp => ?_, fun p hp => ?_, fun p hp => ?_⟩ <;> obtain ⟨z, hz, rfl⟩ := List.mem_map.mp hp <;> obtain ⟨j, hj⟩ := List.mem_iff_getElem?.mp hz
    · obtain ⟨h1, h2, h3⟩ := k.nodes j z hj
      have p0 : 0 < wN g M i j * (pw (wL g M) i * 6) := Nat.mul_pos (wN_pos gr.m0) (Nat.mul_pos (pw_pos (fun _ => wL_pos gr.m0) i) (by decide))
      obtain ⟨b, _, _⟩ := spb_node p0 k.sp k.a4 h1 h2 h3
      have dv : wN g M i j * (pw (wL g M) i * 6) ∣ pw (wL g M) (i + 1) * 6 := by
        show _ ∣ wL g M i * pw (wL g M) i * 6
        rw [Nat.mul_assoc]
        exact Nat.mul_dvd_mul_right (wN_dvd g M i j) _
      exact ⟨b.1.mono (Nat.le_refl _) dv, b.2.mono (Nat.le_refl _) dv⟩
    · exact (k.ends hj).2.1
    · exact (k.ends hj).2.2
  · let c : Nat → Nat := fun j => cI (tgt box n U O A (l.getD j ([], 0))) (wN g M i j * (6 * R))
    have cj : ∀ j z, l[j]? = some z → c j = cI (tgt box n U O A z) (wN g M i j * (6 * R)) := fun j z hz => by
      show cI (tgt box n U O A (l.getD j ([], 0))) _ = _
      rw [List.getD_eq_getElem?_getD, hz]
      rfl
    have cf : ∀ j, j < l.length → 0 < c j ∧ c j ≤ sa (i + 1) * (wN g M i j * (6 * R)) := fun j hj => by
      have hz : l[j]? = some l[j] := List.getElem?_eq_getElem hj
      rw [cj j _ hz]
      obtain ⟨a, b, _⟩ := oPass_b (k.pos j).2 (k.tg hz) s1
      exact ⟨a, b⟩
    have cp := pr_pos (c := c) (m := l.length) fun j hj => (cf j hj).1
    refine ⟨wL g M i * R * pr c l.length, Nat.mul_pos (Nat.mul_pos (wL_pos gr.m0) r0) cp, ?_, ?_, fun s hs => ?_, fun s hs => ?_⟩
    · have h1 : pr c l.length ≤ (sa (i + 1) * 36 * R) ^ 4 * (if i = g then M0 else 1) := by
        refine Nat.le_trans (pr_le (b := fun j => sa (i + 1) * (wN g M i j * (6 * R))) fun j hj => (cf j hj).2) (Nat.le_trans (pr_more (fun j => Nat.mul_pos s1 (k.pos j).2) o2.2) (pr_b gr.mle r0 s1 gr.m0))
      have h2 : wL g M i ≤ 6 * (if i = g then M0 else 1) := by
        unfold wL
        have := gr.mle
        split <;> omega
      have h3 : (sa (i + 1) * 36 * R) ^ 4 ≤ (sa (i + 1) * 36 * rb g i) ^ 4 := Nat.pow_le_pow_left (Nat.mul_le_mul_left _ rle) 4
      refine Nat.le_trans (Nat.mul_le_mul (Nat.mul_le_mul h2 rle) (Nat.le_trans h1 (Nat.mul_le_mul_right _ h3))) (Nat.le_of_eq ?_)
      show _ = 6 * rb g i * (sa (i + 1) * 36 * rb g i) ^ 4 * (if i = g then M0 * M0 else 1)
      have e : (if i = g then M0 * M0 else 1) = (if i = g then M0 else 1) * (if i = g then M0 else 1) := by split <;> rfl
      rw [e]
      generalize (if i = g then M0 else 1) = q
      generalize (sa (i + 1) * 36 * rb g i) ^ 4 = p
      generalize rb g i = r
      grind
    · show wL g M i * pw (wL g M) i ∣ _
      exact Nat.dvd_trans (Nat.mul_dvd_mul_left _ rdv) (Nat.dvd_mul_right _ _)
    · rw [List.map_map] at hs
      obtain ⟨z, hz, rfl⟩ := List.mem_map.mp hs
      obtain ⟨j, hj⟩ := List.mem_iff_getElem?.mp hz
      have jl := (List.getElem?_eq_some_iff.mp hj).1
      have d : wN g M i j * R ∣ wL g M i * R * pr c l.length := Nat.dvd_trans (Nat.mul_dvd_mul_right (wN_dvd g M i j) R) (Nat.dvd_mul_right _ _)
      have d6 : wN g M i j * (6 * R) ∣ 6 * (wL g M i * R * pr c l.length) := by
        rw [show wN g M i j * (6 * R) = 6 * (wN g M i j * R) by grind]
        exact Nat.mul_dvd_mul_left 6 d
      exact (uPass_b (k.tg hj)).mono (by rw [ub_step]; omega) d d6
    · rw [List.map_map] at hs
      obtain ⟨z, hz, rfl⟩ := List.mem_map.mp hs
      obtain ⟨j, hj⟩ := List.mem_iff_getElem?.mp hz
      have jl := (List.getElem?_eq_some_iff.mp hj).1
      obtain ⟨_, _, b⟩ := oPass_b (k.pos j).2 (k.tg hj) s1
      rw [← cj j z hj] at b
      have d : c j * (wN g M i j * R) ∣ wL g M i * R * pr c l.length := by
        rw [Nat.mul_comm]
        exact Nat.mul_dvd_mul (Nat.mul_dvd_mul_right (wN_dvd g M i j) R) (pr_dvd jl)
      have d6 : c j * (wN g M i j * (6 * R)) ∣ 6 * (wL g M i * R * pr c l.length) := by
        rw [show c j * (wN g M i j * (6 * R)) = 6 * (c j * (wN g M i j * R)) by grind]
        exact Nat.mul_dvd_mul_left 6 d
      exact b.mono (by rw [ub_step]; exact Nat.le_refl _) d d6
theorem midT_end {box A : List Span} {n g M : Nat} {ls : List (List Sum2)} {dn : List (List Tg)} {U O : List Sum2} (m : MidT box n g M ls ls.length dn A U O) : dn = tightAt box n ls box (units n) (units n) := by
  rw [m.eq, List.drop_length]
  show dn = dn ++ []
  rw [List.append_nil]
/-- any walk whose layers have what their nodes need -/
structure Fam (D : Nat) (box : List Span) (n g M : Nat) (ls : List (List Sum2)) (Md : Nat → List (List Tg) → List Span → List Sum2 → List Sum2 → Prop) : Prop where
  z : Md 0 [] box (units n) (units n)
  len : ∀ {i dn A U O}, Md i dn A U O → dn.length = i
  eq : ∀ {i dn A U O}, Md i dn A U O → tightAt box n ls box (units n) (units n) = dn ++ tightAt box n (ls.drop i) A U O
  step : ∀ {i dn A U O l}, Md i dn A U O → ls[i]? = some l → ∃ R, Lk D box n g M i l A U O R ∧ Md (i + 1) (dn ++ [l.map (tgt box n U O A)]) ((l.map (bnd A)).map cutS) ((l.map (tgt box n U O A)).map (uPass n)) ((l.map (tgt box n U O A)).map (oPass n))
theorem Fam.fin {D : Nat} {box A : List Span} {n g M : Nat} {ls : List (List Sum2)} {Md : Nat → List (List Tg) → List Span → List Sum2 → List Sum2 → Prop} {dn : List (List Tg)} {U O : List Sum2} (f : Fam D box n g M ls Md) (m : Md ls.length dn A U O) : dn = tightAt box n ls box (units n) (units n) := by
  rw [f.eq m, List.drop_length]
  show dn = dn ++ []
  rw [List.append_nil]
end Nc
end
section
set_option maxRecDepth 100000
set_option maxHeartbeats 4000000
namespace Nc
open PySem PySem.Spec PyProof.Rows L2
/-! zip of any three -/
theorem drX {prog : Program} {w : World} {A : Around} (hh : A.handled = none) (it l : Addr) (hne : l ≠ it) (items : Array Value) : (c : Bool) → Draws prog w A it [it, l] items.size (fun i v => items[i]? = some v) (fun i h => JX c it l h i ∧ CX c l h items)
  | true => Draws.tuple hh it l hne items
  | false => Draws.list hh it l hne items
theorem bgX (l : Addr) (items : Array Value) : (c : Bool) → Begins (.ref l) { cls := .type (itN c), data := .fields #[.ref l, .int 0 0] } fun h => CX c l h items
  | true => begins_tuple l items
  | false => begins_list l items
theorem sep3 {n a b c : Nat} (ha : a < n) (hb : b < n) (hc : c < n) : ZipSep3 (n + 5) (n + 3) (n + 4) n (n + 1) (n + 2) [n, a] [n + 1, b] [n + 2, c] := by
  have f : ∀ {x y : Nat}, x ≠ y → ∀ z : @Eq Addr x y, False := fun h z => h z
  have g : ∀ {x y z : Nat}, x ≠ y → x ≠ z → ¬ (@Membership.mem Addr (List Addr) _ [y, z] x) := fun h1 h2 z => by
    rcases List.mem_cons.mp z with z | z
    · exact h1 z
    · exact h2 (List.mem_singleton.mp z)
  constructor
  all_goals first
    | exact f (by omega)
    | exact g (by omega) (by omega)
    | exact List.mem_cons_self ..
def Itz3 (K : PySem.W.Frag) (c1 c2 c3 : Bool) (a b c : Addr) : It :=
  ⟨fun i H => ∃ (xs ys us : List V) (x y u : V), SqX K c1 H a xs ∧ SqX K c2 H b ys ∧ SqX K c3 H c us ∧ xs[i]? = some x ∧ ys[i]? = some y ∧ us[i]? = some u,
    fun i H v H' => ∃ T x y u, v = .ref T ∧ H T = none ∧ H' = upd H T (.tup [x, y, u]) ∧ (∀ xs, SqX K c1 H a xs → xs[i]? = some x) ∧ (∀ ys, SqX K c2 H b ys → ys[i]? = some y) ∧ ∀ us, SqX K c3 H c us → us[i]? = some u,
    fun i H => ∃ xs ys us : List V, SqX K c1 H a xs ∧ SqX K c2 H b ys ∧ SqX K c3 H c us ∧ i ≤ xs.length ∧ i ≤ ys.length ∧ i ≤ us.length ∧ (i = xs.length ∨ i = ys.length ∨ i = us.length)⟩
theorem turn_zip3 {c1 c2 c3 : Bool} {P : Program} {w : World} {K : PySem.W.Frag} {elts : List Expr} {kk : Nat} {tpos : Pos} {a b c z TI TO i1 i2 i3 : Addr} (S : ZipSep3 z TI TO i1 i2 i3 [i1, a] [i2, b] [i3, c]) (n1 : a ≠ i1) (n2 : b ≠ i2) (n3 : c ≠ i3) :
    Turn P w K (.Tuple elts kk tpos) (Itz3 K c1 c2 c3 a b c) [z, TI, TO, i1, i2, i3] z (fun i h => IsZip h z TI TO .none ∧ IsTupOf3 h TI (.ref i1) (.ref i2) (.ref i3) ∧ (∃ x y u, IsTupOf3 h TO x y u) ∧ JX c1 i1 a h i ∧ JX c2 i2 b h i ∧ JX c3 i3 c h i) where
  mem := by simp
  obj := fun i h st d hd => by
    obtain ⟨hz, hTI, ⟨x, y, u, hTO⟩, h1, h2, h3⟩ := st
    have jx : ∀ {cc : Bool} {it l : Addr} {k : Nat}, JX cc it l h k → ∃ o, h.get? it = some o ∧ ∀ v, o.data ≠ .cell v := by
      intro cc it l k hj
      cases cc
      · obtain ⟨o1, e1, _, d1⟩ := hj
        exact ⟨o1, e1, fun v q => by rw [d1] at q; cases q⟩
      · obtain ⟨o1, e1, _, d1⟩ := hj
        exact ⟨o1, e1, fun v q => by rw [d1] at q; cases q⟩
    have e' : d = z ∨ d = TI ∨ d = TO ∨ d = i1 ∨ d = i2 ∨ d = i3 := by simpa using hd
    rcases e' with q | q | q | q | q | q
    · rw [q]; exact ⟨_, hz, fun v q => nomatch q⟩
    · rw [q]; exact ⟨_, hTI, fun v q => nomatch q⟩
    · rw [q]; exact ⟨_, hTO, fun v q => nomatch q⟩
    · rw [q]; exact jx h1
    · rw [q]; exact jx h2
    · rw [q]; exact jx h3
  keep := fun i h h' st k => by
    obtain ⟨hz, hTI, ⟨x, y, u, hTO⟩, h1, h2, h3⟩ := st
    exact ⟨k z (by simp) _ hz, k TI (by simp) _ hTI, ⟨x, y, u, k TO (by simp) _ hTO⟩, h1.at' fun o q => k i1 (by simp) o q, h2.at' fun o q => k i2 (by simp) o q, h3.at' fun o q => k i3 (by simp) o q⟩
  item := by
    intro X hP hw hK hc i pins s σ H E I hf st hg
    subst hP hw hK
    obtain ⟨hz, hTI, ⟨x0, y0, u0, hTO⟩, h1, h2, h3⟩ := st
    obtain ⟨xs, ys, us, x, y, u, hqx, hqy, hqu, hx, hy, hu⟩ := hg
    obtain ⟨its, rv, p⟩ := invX I hqx
    obtain ⟨its2, rv2, p2⟩ := invX I hqy
    obtain ⟨its3, rv3, p3⟩ := invX I hqu
    obtain ⟨v1, hv1, ru1⟩ := rv.get hx
    obtain ⟨v2, hv2, ru2⟩ := rv2.get hy
    obtain ⟨v3, hv3, ru3⟩ := rv3.get hu
    have hzl : z < s.heap.objs.size := Heap.lt_size hz
    have hh : X.A.in1.handled = none := I.ok.hd hc
    have g1 := (List.getElem?_eq_some_iff.mp hv1).1
    have g2 := (List.getElem?_eq_some_iff.mp hv2).1
    have g3 := (List.getElem?_eq_some_iff.mp hv3).1
    refine wpAny_pyNext_zipD3_item S (drX hh i1 a n1 its.toArray c1) (drX hh i2 b n2 its2.toArray c2) (drX hh i3 c n3 its3.toArray c3) hz hTI hTO ⟨h1, p⟩ ⟨h2, p2⟩ ⟨h3, p3⟩ (by simpa using g1) (by simpa using g2) (by simpa using g3) fun x1 x2 x3 h' tk y1 y2 y3 z' TO' s1 s2 s3 hT hsz hk => ?_
    have e1 : x1 = v1 := by
      have : its[i]? = some x1 := by simpa using y1
      rw [hv1] at this
      exact (Option.some.inj this).symm
    have e2 : x2 = v2 := by
      have : its2[i]? = some x2 := by simpa using y2
      rw [hv2] at this
      exact (Option.some.inj this).symm
    have e3 : x3 = v3 := by
      have : its3[i]? = some x3 := by simpa using y3
      rw [hv3] at this
      exact (Option.some.inj this).symm
    subst e1 e2 e3
    refine ⟨_, rfl, wpAny_letOwnedTupleGo_zip (s := { s with heap := h', toks := tk }) z' fun h'' z'' sb => ?_⟩
    have hT2 : h''.get? s.heap.objs.size = some { cls := .type "tuple", data := .seq #[x1, x2, x3] } := (sb.2 _ (Nat.ne_of_gt hzl)).trans hT
    have new : ObjOk X.prog X.w (upd H s.heap.objs.size (.tup [x, y, u])) h'' s.heap.objs.size (.tup [x, y, u]) :=
      ⟨by show 3 ≤ sizeLine; decide, [x1, x2, x3], .cons ru1 (.cons ru2 (.cons ru3 .nil)), ⟨_, hT2, rfl, _, rfl⟩⟩
    have I1 : Inv X pins σ (upd H s.heap.objs.size (.tup [x, y, u])) { s with heap := h'', toks := tk } :=
      I.turnedNew (t' := tk) (ch := [z, TI, TO, i1, i2, i3]) (fun c o hb q => (sb.2 c (fun q' => hb (by simp [q']))).trans (hk c o (fun q' => hb (by simp [q'])) (fun q' => hb (by simp [q'])) (fun q' => hb (by simp [q'])) (fun q' => hb (by simp [q'])) (fun q' => hb (by simp [q'])) q)) hf (Nat.le_refl _) new
    refine ⟨.ref s.heap.objs.size, _, I1, rfl, ⟨_, x, y, u, rfl, I.hok.fresh (Nat.le_refl _), rfl, fun l hl => by rw [injX I hl hqx]; exact hx, fun l hl => by rw [injX I hl hqy]; exact hy, fun l hl => by rw [injX I hl hqu]; exact hu⟩, ⟨z'', ?_, ⟨x1, x2, x3, ?_⟩, ?_, ?_, ?_⟩, fun d hcm => ?_⟩
    · exact (sb.2 _ S.TIz).trans (hk _ _ S.TIz S.TITO S.TIi1 S.TIi2 S.TIi3 hTI)
    · exact (sb.2 _ S.TOz).trans TO'
    · exact s1.1.at' fun o q => (sb.2 _ S.zi1.symm).trans q
    · exact s2.1.at' fun o q => (sb.2 _ S.zi2.symm).trans q
    · exact s3.1.at' fun o q => (sb.2 _ S.zi3.symm).trans q
    · have hlt : d < s.heap.objs.size := by
        have e' : d = z ∨ d = TI ∨ d = TO ∨ d = i1 ∨ d = i2 ∨ d = i3 := by simpa using hcm
        rcases e' with q | q | q | q | q | q
        · rw [q]; exact hzl
        · rw [q]; exact Heap.lt_size hTI
        · rw [q]; exact Heap.lt_size hTO
        · rw [q]; exact h1.lt
        · rw [q]; exact h2.lt
        · rw [q]; exact h3.lt
      rw [upd_ne (Nat.ne_of_lt hlt)]
      exact (hf d hcm).1
  done := by
    intro X hP hw hK hc i pins s σ H E I hf st hg
    subst hP hw hK
    obtain ⟨hz, hTI, ⟨x0, y0, u0, hTO⟩, h1, h2, h3⟩ := st
    obtain ⟨xs, ys, us, hqx, hqy, hqu, k1, k2, k3, hend⟩ := hg
    obtain ⟨its, rv, p⟩ := invX I hqx
    obtain ⟨its2, rv2, p2⟩ := invX I hqy
    obtain ⟨its3, rv3, p3⟩ := invX I hqu
    have l1 := rv.length
    have l2 := rv2.length
    have l3 := rv3.length
    have hh : X.A.in1.handled = none := I.ok.hd hc
    have m1 : its.toArray.size = its.length := rfl
    have m2 : its2.toArray.size = its2.length := rfl
    have m3 : its3.toArray.size = its3.length := rfl
    refine wpAny_pyNext_zipD3_end S (drX hh i1 a n1 its.toArray c1) (drX hh i2 b n2 its2.toArray c2) (drX hh i3 c n3 its3.toArray c3) hz hTI hTO ⟨h1, p⟩ ⟨h2, p2⟩ ⟨h3, p3⟩ (by omega) (by omega) (by omega) (by omega) fun h' tk hk => ⟨rfl, I.turnedL (t' := tk) (ch := [z, TI, TO, i1, i2, i3]) (fun c o hb q =>
      hk c o (fun q' => hb (by simp [q'])) (fun q' => hb (by simp [q'])) (fun q' => hb (by simp [q'])) (fun q' => hb (by simp [q'])) (fun q' => hb (by simp [q'])) q) hf⟩
  self := fun A i s Q E st h => wpAny_pyIter_zip st.1 h
def iZip3 (K : PySem.W.Frag) (ta : TA) : TI := fun σ H R => ta σ H fun vs H1 => ∃ (c c' c'' : Bool) (a b d : Addr) (xs ys us : List V), vs = [.ref a, .ref b, .ref d] ∧ SqX K c H1 a xs ∧ SqX K c' H1 b ys ∧ SqX K c'' H1 d us ∧ R (Itz3 K c c' c'' a b d) H1
/-- zip of any three: .. in zip(e, e2, e3) -/
theorem pi_zip3 {X : Cx} {e e2 e3 : Expr} {ta : TA} {p pos tpos : Pos} {elts : List Expr} {kk : Nat} (hg : Gl X "zip") (hm : X.mg "zip" = none) (ha : PA X [e, e2, e3] ta)
    (hs : starEach [e, e2, e3] X.env = (false, eval e X.env) :: starEach [e2, e3] X.env := by rfl) (hpl : (backTo pos (starEach [e2, e3] X.env)).any (·.1) = false := by rfl) :
    PI X (.Tuple elts kk tpos) (.Call (.Name "zip" p) [e, e2, e3] [] pos) (iZip3 X.K ta) := by
  refine ⟨fun pins s σ H R I h => ?_⟩
  refine Call_ (ld_blt I hg hm PyProof.Rows.boot_zip (PyProof.Rows.callWith_type1 (thn (ha.run pos pins s σ H _ I h) fun us s1 ⟨vs, H1, I1, r1, q1⟩ => ?_) hs hpl))
  obtain ⟨c, c', c'', a, b, d, xs, ys, zs, ex, hqx, hqy, hqz, q⟩ := q1
  subst ex
  cases r1 with
  | cons r rr =>
    cases rr with
    | cons r' rr =>
      cases rr with
      | cons r'' rr =>
        cases rr
        cases r
        cases r'
        cases r''
        obtain ⟨its, rv, p1⟩ := invX I1 hqx
        obtain ⟨its2, rv2, p2⟩ := invX I1 hqy
        obtain ⟨its3, rv3, p3⟩ := invX I1 hqz
        refine zip_begins3 (bgX a its.toArray c) (bgX b its2.toArray c') (bgX d its3.toArray c'') p1 p2 p3 fun h' hz hTI hTO g1 g2 g3 hsz hk => wpAny_pyIter_zip hz ?_
        have I2 : Inv X pins σ H1 { s1 with heap := h' } := I1.kept (t' := s1.toks) hk
        have la := p1.lt
        have lb := p2.lt
        have ld := p3.lt
        refine ⟨s1.heap.objs.size + 5, [s1.heap.objs.size + 5, s1.heap.objs.size + 3, s1.heap.objs.size + 4, s1.heap.objs.size, s1.heap.objs.size + 1, s1.heap.objs.size + 2], _, _, H1, rfl, I2, turn_zip3 (sep3 la lb ld) (Nat.ne_of_lt la) (Nat.ne_of_lt (Nat.lt_succ_of_lt lb)) (Nat.ne_of_lt (Nat.lt_succ_of_lt (Nat.lt_succ_of_lt ld))), ⟨hz, hTI, ⟨_, _, _, hTO⟩, JX.new g1, JX.new g2, JX.new g3⟩, fun c hcm => ?_, q⟩
        have e' : c = s1.heap.objs.size + 5 ∨ c = s1.heap.objs.size + 3 ∨ c = s1.heap.objs.size + 4 ∨ c = s1.heap.objs.size ∨ c = s1.heap.objs.size + 1 ∨ c = s1.heap.objs.size + 2 := by simpa using hcm
        have hle : s1.heap.objs.size ≤ c := by
          rcases e' with z | z | z | z | z | z
          · rw [z]; exact Nat.le_add_right _ _
          · rw [z]; exact Nat.le_add_right _ _
          · rw [z]; exact Nat.le_add_right _ _
          · rw [z]; exact Nat.le_refl _
          · rw [z]; exact Nat.le_add_right _ _
          · rw [z]; exact Nat.le_add_right _ _
        exact I1.fpOk hle (I1.hok.fresh hle)
/-- a loop over zip of three of one length -/
theorem for_zip3 {c c' c'' : Bool} {K : PySem.W.Frag} {a b d : Addr} {xs ys us : List V} {g : TG} {tb : TS} {D : Ends} {σ : L2.St} {H : Hp} (hl : xs.length = ys.length) (hl2 : xs.length = us.length) (Pv : Nat → L2.St → Hp → Prop) (h0 : Pv 0 σ H) (hq : ∀ i σ H, Pv i σ H → SqX K c H a xs ∧ SqX K c' H b ys ∧ SqX K c'' H d us)
    (hs : ∀ (i : Nat) (x y u : V) (T : Addr) (σ : L2.St) (H : Hp), xs[i]? = some x → ys[i]? = some y → us[i]? = some u → Pv i σ H → H T = none → g (.ref T) σ (upd H T (.tup [x, y, u])) fun σ2 H2 => tb { D with nx := Pv (i + 1), ct := Pv (i + 1), bk := D.nx } σ2 H2) (hd : ∀ σ H, Pv xs.length σ H → D.nx σ H) :
    ∃ W : Nat → Nat → L2.St → Hp → Prop, (∃ m, W 0 m σ H) ∧ ∀ i m σ H, W i m σ H →
      ((Itz3 K c c' c'' a b d).stop i H ∧ D.nx σ H) ∨ ((Itz3 K c c' c'' a b d).go i H ∧ ∃ N : L2.St → Hp → Prop, (∀ σ' H', N σ' H' → ∃ m', m' < m ∧ W (i + 1) m' σ' H') ∧ ∀ v H', (Itz3 K c c' c'' a b d).yld i H v H' → g v σ H' fun σ2 H2 => tb { D with nx := N, ct := N, bk := D.nx } σ2 H2) := by
  refine ⟨fun i m σ H => m = xs.length - i ∧ i ≤ xs.length ∧ Pv i σ H, ⟨xs.length, rfl, Nat.zero_le _, h0⟩, ?_⟩
  rintro i m σ H ⟨rfl, hi, p⟩
  obtain ⟨qx, qy, qu⟩ := hq i σ H p
  by_cases hlt : i < xs.length
  · have hx : xs[i]? = some xs[i] := List.getElem?_eq_getElem hlt
    have hlt2 : i < ys.length := by omega
    have hlt3 : i < us.length := by omega
    have hy : ys[i]? = some ys[i] := List.getElem?_eq_getElem hlt2
    have hu : us[i]? = some us[i] := List.getElem?_eq_getElem hlt3
    refine .inr ⟨⟨xs, ys, us, _, _, _, qx, qy, qu, hx, hy, hu⟩, Pv (i + 1), fun σ' H' p' => ⟨xs.length - (i + 1), by omega, rfl, hlt, p'⟩, fun v H' y => ?_⟩
    obtain ⟨T, x', y', u', rfl, hT, rfl, f1, f2, f3⟩ := y
    exact hs i x' y' u' T σ H (f1 xs qx) (f2 ys qy) (f3 us qu) p hT
  · have e : i = xs.length := by omega
    subst e
    exact .inl ⟨⟨xs, ys, us, qx, qy, qu, Nat.le_refl _, by omega, by omega, Or.inl rfl⟩, hd σ H p⟩
end Nc
end
section
set_option maxRecDepth 100000
set_option maxHeartbeats 4000000
namespace Nc
open PySem PySem.Spec PyProof.Rows L2 Evl
/-! ### boxes, spans, corners as data -/
def SpanV (K : PySem.W.Frag) (H : Hp) (v : V) (p : Span) : Prop := ∃ t a b, v = .ref t ∧ SqT K H t [a, b] ∧ FrV K H a p.1 ∧ FrV K H b p.2
def SpsV (K : PySem.W.Frag) (c : Bool) (H : Hp) (v : V) (sp : List Span) : Prop := ∃ a xs, v = .ref a ∧ SqX K c H a xs ∧ Paired (SpanV K H) xs sp
def bI (b : Bool) : Int := if b = true then 1 else 0
def CorV (K : PySem.W.Frag) (H : Hp) (v : V) (bs : List Bool) : Prop := ∃ t, v = .ref t ∧ SqT K H t (bs.map fun b => V.int (bI b))
def FourV (K : PySem.W.Frag) (H : Hp) (v : V) (f : Four) : Prop := ∃ t a b x y, v = .ref t ∧ SqT K H t [a, b, x, y] ∧ FrV K H a f.1.1 ∧ FrV K H b f.1.2 ∧ CorV K H x f.2.1 ∧ CorV K H y f.2.2
/-- a list of such, new since H0, not F -/
def FourL (K : PySem.W.Frag) (H0 : Hp) (F : Addr) (H : Hp) (v : V) (l : List Four) : Prop := ∃ a xs, v = .ref a ∧ H0 a = none ∧ a ≠ F ∧ H a = some (.lst xs) ∧ Paired (FourV K H) xs l
section
variable {K : PySem.W.Frag} {H H' H0 : Hp}
theorem sqX_ex {c : Bool} {a : Addr} {xs : List V} (e : Ex H H') (h : SqX K c H a xs) : SqX K c H' a xs := by
  cases c
  · exact ex_l e h
  · exact ex_t e h
theorem SpanV.ex {v : V} {p : Span} (e : Ex H H') (h : SpanV K H v p) : SpanV K H' v p := by
  obtain ⟨t, a, b, rfl, q, x, y⟩ := h
  exact ⟨t, a, b, rfl, ex_t e q, x.ex e, y.ex e⟩
theorem SpanV.mut {D : Addr} {xs : List V} {o : HO} {v : V} {p : Span} (hD : H D = some (.lst xs)) (h : SpanV K H v p) : SpanV K (upd H D o) v p := by
  obtain ⟨t, a, b, rfl, q, x, y⟩ := h
  exact ⟨t, a, b, rfl, sqt_mut hD q, x.mut hD, y.mut hD⟩
theorem stSp : Stays (SpanV K) := ⟨SpanV.ex, SpanV.mut⟩
theorem SpsV.ex {c : Bool} {v : V} {sp : List Span} (e : Ex H H') (h : SpsV K c H v sp) : SpsV K c H' v sp := by
  obtain ⟨a, xs, rfl, q, p⟩ := h
  exact ⟨a, xs, rfl, sqX_ex e q, pmono (fun _ _ => SpanV.ex e) p⟩
theorem CorV.ex {v : V} {bs : List Bool} (e : Ex H H') (h : CorV K H v bs) : CorV K H' v bs := by
  obtain ⟨t, rfl, q⟩ := h
  exact ⟨t, rfl, ex_t e q⟩
theorem CorV.mut {D : Addr} {xs : List V} {o : HO} {v : V} {bs : List Bool} (hD : H D = some (.lst xs)) (h : CorV K H v bs) : CorV K (upd H D o) v bs := by
  obtain ⟨t, rfl, q⟩ := h
  exact ⟨t, rfl, sqt_mut hD q⟩
theorem FourV.ex {v : V} {f : Four} (e : Ex H H') (h : FourV K H v f) : FourV K H' v f := by
  obtain ⟨t, a, b, x, y, rfl, q, h1, h2, h3, h4⟩ := h
  exact ⟨t, a, b, x, y, rfl, ex_t e q, h1.ex e, h2.ex e, h3.ex e, h4.ex e⟩
theorem FourV.mut {D : Addr} {xs : List V} {o : HO} {v : V} {f : Four} (hD : H D = some (.lst xs)) (h : FourV K H v f) : FourV K (upd H D o) v f := by
  obtain ⟨t, a, b, x, y, rfl, q, h1, h2, h3, h4⟩ := h
  exact ⟨t, a, b, x, y, rfl, sqt_mut hD q, h1.mut hD, h2.mut hD, h3.mut hD, h4.mut hD⟩
theorem stFo : Stays (FourV K) := ⟨FourV.ex, FourV.mut⟩
theorem FourL.ex {F : Addr} {v : V} {l : List Four} (e : Ex H H') (h : FourL K H0 F H v l) : FourL K H0 F H' v l := by
  obtain ⟨a, xs, rfl, n, f, q, p⟩ := h
  exact ⟨a, xs, rfl, n, f, e _ _ q, pmono (fun _ _ => FourV.ex e) p⟩
theorem FourL.putF {F : Addr} {xs : List V} {o : HO} {v : V} {l : List Four} (hF : H F = some (.lst xs)) (h : FourL K H0 F H v l) : FourL K H0 F (upd H F o) v l := by
  obtain ⟨a, us, rfl, n, f, q, p⟩ := h
  exact ⟨a, us, rfl, n, f, by rw [upd_ne f]; exact q, pmono (fun _ _ => FourV.mut hF) p⟩
theorem SpanV.rw {v : V} {p : Span} (h : SpanV K H v p) : Rw K H v (some [true, true]) := by
  obtain ⟨t, a, b, rfl, q, x, y⟩ := h
  exact RowV.rw (rs := [p.1, p.2]) ⟨t, _, rfl, q, .cons x (.cons y .nil)⟩ (by show 2 ≤ 100; decide)
end
/-! ### promises of boxes and bounds -/
def SpOk (sp : List Span) : Prop := ∀ p ∈ sp, p.1 ≤ p.2
def spCorner (K : PySem.W.Frag) (f : Rat → Bool) : Sp := fun vs H Q _ => ∃ (x : V) (z : Sum2), vs = [x] ∧ SumV K H x z ∧ z.1.length ≤ 100 ∧ ∀ v H', Ex H H' → CorV K H' v (z.1.map f) → Q v H'
def spSpotAt (K : PySem.W.Frag) : Sp := fun vs H Q _ => ∃ (c : Bool) (x y : V) (sp : List Span) (bs : List Bool), vs = [x, y] ∧ SpsV K c H x sp ∧ CorV K H y bs ∧ sp.length = bs.length ∧ sp.length ≤ 100 ∧ ∀ v H', Ex H H' → RowV K H' v (picks sp bs) → Q v H'
def spIsSpan (K : PySem.W.Frag) : Sp := fun vs H Q _ => ∃ (x : V) (p : Span), vs = [x] ∧ SpanV K H x p ∧ Sz 1600 1600 p.1 ∧ Sz 1600 1600 p.2 ∧ p.1 ≤ p.2 ∧ ∀ H', Ex H H' → Q (.bl true) H'
def spIsBox (K : PySem.W.Frag) : Sp := fun vs H Q _ => ∃ (x : V) (sp : List Span) (D : Nat), vs = [x] ∧ SpsV K true H x sp ∧ 1 ≤ sp.length ∧ sp.length ≤ 3 ∧ SpOk sp ∧ SpSv 1500 D sp ∧ 0 < D ∧ D < 2 ^ 1600 ∧ ∀ H', Ex H H' → Q (.bl true) H'
def spBoxOver (K : PySem.W.Frag) : Sp := fun vs H Q _ => ∃ (x : V) (sp : List Span) (D : Nat), vs = [x, .int (sp.length : Int)] ∧ SpsV K true H x sp ∧ 1 ≤ sp.length ∧ sp.length ≤ 3 ∧ SpOk sp ∧ SpSv 1500 D sp ∧ 0 < D ∧ D < 2 ^ 1600 ∧ ∀ H', Ex H H' → Q .non H'
def spBounds (K : PySem.W.Frag) : Sp := fun vs H Q _ => ∃ (c : Bool) (x y : V) (l : List Sum2) (z : Sum2) (A : List Span) (m W D : Nat), vs = [x, y] ∧ SumV K H x z ∧ SpsV K c H y A ∧ z ∈ l ∧ RkS l A m W D ∧ ∀ v H', Ex H H' → FourV K H' v (four A z) → Q v H'
def spHanded (K : PySem.W.Frag) (CN CL CC : Addr) : Sp := fun vs H Q _ => ∃ (p : Addr) (y : V) (ls : List (List Sum2)) (L : List Span) (W : Nat → Nat) (D : Nat), vs = [.ref p, y] ∧ NetV K CN CL CC H p L.length ls ∧ SpsV K true H y L ∧ SpOk L ∧ NetOk L.length ls W ∧ SpSv 1500 D L ∧ Fits W D ∧
  ∀ F rs H', H F = none → Ex H H' → H' F = some (.lst rs) → Paired (FourL K H F H') rs (foursAt ls L) → Q (.ref F) H'
/-- the word for a node by its bounds -/
def stateW (p : Span) : Str := if p.2.num ≤ 0 then "cut" else if 0 ≤ p.1.num then "kept" else "open"
def spState (K : PySem.W.Frag) : Sp := fun vs H Q _ => ∃ (x y : V) (p : Span), vs = [x, y] ∧ FrV K H x p.1 ∧ FrV K H y p.2 ∧ Q (.str (stateW p)) H
/-- the hidden nodes' words, in their order -/
def wordsAt (ls : List (List Sum2)) (L : List Span) : List Str := ((boundsAt ls L).dropLast.flatten).map stateW
def spStates (K : PySem.W.Frag) (CN CL CC : Addr) : Sp := fun vs H Q _ => ∃ (p : Addr) (y : V) (ls : List (List Sum2)) (L : List Span) (W : Nat → Nat) (D : Nat), vs = [.ref p, y] ∧ NetV K CN CL CC H p L.length ls ∧ SpsV K true H y L ∧ SpOk L ∧ NetOk L.length ls W ∧ SpSv 1500 D L ∧ Fits W D ∧
  ∀ F H', H F = none → Ex H H' → H' F = some (.lst ((wordsAt ls L).map fun s => V.str s)) → Q (.ref F) H'
end Nc
end
section
set_option maxRecDepth 100000
set_option maxHeartbeats 4000000
namespace Nc
open PySem PySem.Spec PyProof.Rows L2 Evl
/-! ### streams of three numbers, with Dk -/
def St3 (s : Addr) (H : Hp) : Prop := ∃ a b c : Int, H s = some (.lst [.int a, .int b, .int c])
section
variable {K : PySem.W.Frag} {H H' H1 H4 : Hp} {s p D : Addr}
theorem St3.lst (h : St3 s H) : Lst s H := by
  obtain ⟨a, b, c, q⟩ := h
  exact ⟨_, q⟩
theorem St3.ex (h : St3 s H) (e : Ex H H') : St3 s H' := by
  obtain ⟨a, b, c, q⟩ := h
  exact ⟨a, b, c, e _ _ q⟩
theorem St3.new {o : HO} (h : St3 s H) (hp : H p = none) : St3 s (upd H p o) := h.ex (Ex.new hp)
theorem St3.mut {o : HO} (h : St3 s H) (hs : s ≠ p) : St3 s (upd H p o) := by
  obtain ⟨a, b, c, q⟩ := h
  exact ⟨a, b, c, by rw [upd_ne hs]; exact q⟩
theorem SpanV.dk {v : V} {q : Span} (h : Lst s H) (d : Dk s H H') (f : SpanV K H v q) : SpanV K H' v q := by
  obtain ⟨t, a, b, rfl, qt, x, y⟩ := f
  exact ⟨t, a, b, rfl, sqt_dk h d qt, x.dk h d, y.dk h d⟩
theorem SpsV.dkT {v : V} {sp : List Span} (h : Lst s H) (d : Dk s H H') (f : SpsV K true H v sp) : SpsV K true H' v sp := by
  obtain ⟨a, xs, rfl, q, p⟩ := f
  exact ⟨a, xs, rfl, sqt_dk (K := K) h d q, pmono (fun _ _ => SpanV.dk h d) p⟩
/-- what is built in a list beside a stream: the things so far -/
def BldD {α : Type} (R : Hp → V → α → Prop) (P : List α → Prop) (s : Addr) (H1 : Hp) (D : Addr) (i : Nat) (H' : Hp) : Prop := ∃ (L : List α) (xs : List V), H' D = some (.lst xs) ∧ Paired (R H') xs L ∧ L.length = i ∧ P L ∧ Dk s H1 H' ∧ St3 s H'
structure StaysD {α : Type} (R : Hp → V → α → Prop) (s : Addr) : Prop where
  mt : ∀ {H D xs o v a}, H D = some (.lst xs) → R H v a → R (upd H D o) v a
  dk : ∀ {H H' v a}, Lst s H → Dk s H H' → R H v a → R H' v a
theorem sdF {s : Addr} : StaysD (FrV K) s := ⟨FrV.mut, FrV.dk⟩
theorem sdS {s : Addr} : StaysD (SumV K) s := ⟨SumV.mut, SumV.dk⟩
theorem sdSp {s : Addr} : StaysD (SpanV K) s := ⟨SpanV.mut, SpanV.dk⟩
theorem bdd0 {α : Type} {R : Hp → V → α → Prop} {P : List α → Prop} (hS : St3 s H1) (hD : H1 D = none) (h0 : P []) : BldD R P s H1 D 0 (upd H1 D (.lst [])) :=
  ⟨[], [], upd_same, .nil, rfl, h0, Dk.new hS.lst hD, hS.new hD⟩
theorem bdd_step {α : Type} {R : Hp → V → α → Prop} {P : List α → Prop} (S : StaysD R s) {i : Nat} {v : V} {a : α} (hS : Lst s H1) (hD : H1 D = none) (b : BldD R P s H1 D i H') (hz : i < 100000) (d : Dk s H' H4) (t : St3 s H4) (hv : R H4 v a) (hp : ∀ L, P L → L.length = i → P (L ++ [a])) :
    ∃ acc, H4 D = some (.lst acc) ∧ acc.length < sizeLine ∧ BldD R P s H1 D (i + 1) (upd H4 D (.lst (acc ++ [v]))) := by
  obtain ⟨L, xs, hx, pl, hn, hP, d1, t1⟩ := b
  have hsD := hS.ne hD
  have h4 := d.keep D _ (Ne.symm hsD) hx
  have hln := Paired.length pl
  refine ⟨xs, h4, sz_lt (by omega), L ++ [a], xs ++ [v], upd_same, Paired.snoc (pmono (fun _ _ q => S.mt h4 (S.dk t1.lst d q)) pl) (S.mt h4 hv), by simp [hn], hp L hP hn, (d1.trans d).mut hD hsD, t.mut hsD⟩
end
/-! ### promises -/
def spTake3 : Sp := fun vs H Q _ => ∃ (s : Addr) (m : Int), vs = [.ref s, .int m] ∧ St3 s H ∧ 0 < m ∧ m < 2 ^ 200 ∧ ∀ d H', 0 ≤ d → d < m → Dk s H H' → St3 s H' → Q (.int d) H'
def spStream3 : Sp := fun vs H Q _ => ∃ c : Int, vs = [.int c] ∧ ∀ s, H s = none → ∀ H', Ex H H' → St3 s H' → Q (.ref s) H'
def spShare (K : PySem.W.Frag) : Sp := fun vs H Q _ => ∃ s : Addr, vs = [.ref s] ∧ St3 s H ∧ ∀ v r H', Dk s H H' → St3 s H' → FrV K H' v r → Sv 100 6 r → Q v H'
def spNode3 (K : PySem.W.Frag) : Sp := fun vs H Q _ => ∃ (s : Addr) (n : Nat), vs = [.ref s, .int (n : Int)] ∧ St3 s H ∧ n ≤ 20 ∧ ∀ v z H', Dk s H H' → St3 s H' → SumV K H' v z → z.1.length = n → SvL 100 6 z.1 → Sv 100 6 z.2 → Q v H'
def spSize3 : Sp := fun vs H Q _ => ∃ s : Addr, vs = [.ref s] ∧ St3 s H ∧ ∀ (F : Addr) (cs : List Nat) H', H F = none → Dk s H H' → St3 s H' → H' F = some (.lst (cs.map fun (c : Nat) => V.int (c : Int))) → 1 ≤ cs.length → cs.length ≤ 4 → (∀ c ∈ cs, 1 ≤ c ∧ c ≤ 4) → Q (.ref F) H'
def spLays3 (K : PySem.W.Frag) : Sp := fun vs H Q _ => ∃ (s S : Addr) (n : Nat) (cs : List Nat), vs = [.ref s, .int (n : Int), .ref S] ∧ St3 s H ∧ S ≠ s ∧ H S = some (.lst (cs.map fun (c : Nat) => V.int (c : Int))) ∧ 1 ≤ cs.length ∧ cs.length ≤ 4 ∧ (∀ c ∈ cs, 1 ≤ c ∧ c ≤ 4) ∧ 1 ≤ n ∧ n ≤ 3 ∧
  ∀ D ls H' (W : Nat → Nat), H D = none → Dk s H H' → St3 s H' → LayS K s H' D ls → NetOk n ls W → pw W 4 ≤ 2 ^ 1350 → Q (.ref D) H'
def spBox3 (K : PySem.W.Frag) : Sp := fun vs H Q _ => ∃ (s : Addr) (n : Nat), vs = [.ref s, .int (n : Int)] ∧ St3 s H ∧ n ≤ 3 ∧ ∀ v sp H', Dk s H H' → St3 s H' → SpsV K true H' v sp → sp.length = n → SpOk sp → SpSv 20 6 sp → Q v H'
def spSpot3 (K : PySem.W.Frag) : Sp := fun vs H Q _ => ∃ (s : Addr) (x : V) (sp : List Span), vs = [.ref s, x] ∧ St3 s H ∧ SpsV K true H x sp ∧ sp.length ≤ 3 ∧ SpOk sp ∧ SpSv 20 6 sp ∧ ∀ v L H', Dk s H H' → St3 s H' → RowV K H' v L → Within L sp → SvL 1500 72 L → Q v H'
end Nc
end
section
set_option maxRecDepth 100000
set_option maxHeartbeats 4000000
namespace Nc
open PySem PySem.Spec PyProof.Rows L2 Evl
theorem extend_tuple (l : Addr) (items : Array Value) (n : Nat) (b : Addr) (items2 : Array Value) (n2 : Nat) (o : Obj) (oc : o.cls = .type "tuple") (od : o.data = .seq items2 n2) (hs0 : ¬(!items.isEmpty && Builtin.List.listTooLong (items.size + items2.size)) = true) (hs1 : items.size ≤ sizeLine) (hs2 : items.size + items2.size ≤ sizeLine + 1) :
    Meets (Builtin.«list.extend» ⟨[.ref l, .ref b], []⟩) (fun _ R s => s.heap.get? l = some { cls := .type "list", dict := none, data := .seq items n, slots := #[] } ∧ s.heap.get? b = some o ∧ R (.ok (.ret Value.none)) { s with heap := s.heap.update l (Obj.mapSeq fun x => x ++ items2), toks := s.toks }) :=
  .of_wp fun prog w A R s h => by
    obtain ⟨cls, dict, data, slots⟩ := o
    simp only at oc od
    subst oc od
    obtain ⟨hp, g, d, tk, os⟩ := s; obtain ⟨hl, hb, h⟩ := h; have f1 := AutoSeq1.idx_int; have f2 := AutoSeq1.sub_tuple_tuple; have f3 := AutoSeq1.sub_list_list; have f4 := AutoSeq1.sub_tuple_list; have f5 := AutoSeq1.sub_list_tuple;
    have hz' : (items ++ items2).size ≤ sizeLine + 1 := by rw [Array.size_append]; exact hs2
    wp_walk using (wpAny_updateSeq hl rfl (hz := hs1) (_hz' := hz')), AutoSeq1.wpAny_loadPart' hl, AutoSeq1.wpAny_loadPart' hb; exact ⟨_, rfl, h⟩
/-- xs.extend(a tuple) -/
def rExtendT (K : PySem.W.Frag) : V → List V → Hp → VK → Prop := fun x vs H Q => ∃ l b xs zs, x = .ref l ∧ vs = [.ref b] ∧ H l = some (.lst xs) ∧ SqT K H b zs ∧ xs.length + zs.length ≤ sizeLine ∧ Q .non (upd H l (.lst (xs ++ zs)))
theorem mt_extendT {X : Cx} (K : PySem.W.Frag) (hK : X.K = K := by rfl) : MtM X "list.extend" (rExtendT K) := by
  subst hK
  intro pins s σ H x vs v us Q I rx rv h
  obtain ⟨l, b, xs, zs, rfl, rfl, hH, hB, hz, q⟩ := h
  cases rx
  obtain ⟨u, rfl, ru⟩ := rv.one
  cases ru
  obtain ⟨z, its, n, r, hl, e⟩ := I.lstM hH
  obtain ⟨its2, r2, p2, _⟩ := I.tuple hB
  obtain ⟨o2, e2, hc2, n2, hd2⟩ := p2
  have hl2 := r2.length
  have hsz : its.toArray.size + its2.toArray.size ≤ sizeLine := by rw [List.size_toArray, List.size_toArray]; omega
  have hlong : ¬ (!its.toArray.isEmpty && Builtin.List.listTooLong (its.toArray.size + its2.toArray.size)) = true := by
    rw [notLongL hsz, Bool.and_false]
    exact Bool.false_ne_true
  refine call_meets F.slot_list_extend ⟨_, e, rfl⟩ F.entry_list_extend (F.args_list_extend_2 _ _)
    (extend_tuple l its.toArray n b its2.toArray _ o2 hc2 hd2 hlong (by rw [List.size_toArray]; omega) (by omega)) ⟨e, e2, ?_⟩
  refine ⟨.non, _, I.lset (its' := its ++ its2) hH e (by simp) (r.append r2) ?_, rfl, q⟩
  rw [List.length_append]
  omega
end Nc
end
section
set_option maxRecDepth 100000
set_option maxHeartbeats 4000000
namespace Nc
open PySem PySem.Spec PyProof.Rows L2 Evl
/-! ### tighter sums: what stands in the heap, promises -/
/-- values below 2 ^ k, bottoms below 2 ^ b: sums and products of two such can be reckoned -/
def Cnd (k b : Nat) : Prop := 0 < b ∧ ((2 * b ≤ 8900 ∧ k ≤ 1000000) ∨ 2 * b + 2 * k ≤ 13490)
def SmsV (K : PySem.W.Frag) (c : Bool) (H : Hp) (v : V) (zs : List Sum2) : Prop := ∃ a xs, v = .ref a ∧ SqX K c H a xs ∧ Paired (SumV K H) xs zs
def TgV (K : PySem.W.Frag) (H : Hp) (v : V) (t : Tg) : Prop := ∃ p a b x y, v = .ref p ∧ SqT K H p [a, b, x, y] ∧ SumV K H a t.1.1 ∧ SumV K H b t.1.2 ∧ FrV K H x t.2.1 ∧ FrV K H y t.2.2
def TgL (K : PySem.W.Frag) (H0 : Hp) (F : Addr) (H : Hp) (v : V) (l : List Tg) : Prop := ∃ a xs, v = .ref a ∧ H0 a = none ∧ a ≠ F ∧ H a = some (.lst xs) ∧ Paired (TgV K H) xs l
section
variable {K : PySem.W.Frag} {H H' H0 : Hp}
theorem SmsV.ex {c : Bool} {v : V} {zs : List Sum2} (e : Ex H H') (h : SmsV K c H v zs) : SmsV K c H' v zs := by
  obtain ⟨a, xs, rfl, q, p⟩ := h
  exact ⟨a, xs, rfl, sqX_ex e q, pmono (fun _ _ => SumV.ex e) p⟩
theorem TgV.ex {v : V} {t : Tg} (e : Ex H H') (h : TgV K H v t) : TgV K H' v t := by
  obtain ⟨p, a, b, x, y, rfl, q, h1, h2, h3, h4⟩ := h
  exact ⟨p, a, b, x, y, rfl, ex_t e q, h1.ex e, h2.ex e, h3.ex e, h4.ex e⟩
theorem TgV.mut {D : Addr} {xs : List V} {o : HO} {v : V} {t : Tg} (hD : H D = some (.lst xs)) (h : TgV K H v t) : TgV K (upd H D o) v t := by
  obtain ⟨p, a, b, x, y, rfl, q, h1, h2, h3, h4⟩ := h
  exact ⟨p, a, b, x, y, rfl, sqt_mut hD q, h1.mut hD, h2.mut hD, h3.mut hD, h4.mut hD⟩
theorem stTg : Stays (TgV K) := ⟨TgV.ex, TgV.mut⟩
theorem stSm : Stays (SumV K) := ⟨SumV.ex, SumV.mut⟩
theorem TgL.ex {F : Addr} {v : V} {l : List Tg} (e : Ex H H') (h : TgL K H0 F H v l) : TgL K H0 F H' v l := by
  obtain ⟨a, xs, rfl, n, f, q, p⟩ := h
  exact ⟨a, xs, rfl, n, f, e _ _ q, pmono (fun _ _ => TgV.ex e) p⟩
theorem TgL.putF {F : Addr} {xs : List V} {o : HO} {v : V} {l : List Tg} (hF : H F = some (.lst xs)) (h : TgL K H0 F H v l) : TgL K H0 F (upd H F o) v l := by
  obtain ⟨a, us, rfl, n, f, q, p⟩ := h
  exact ⟨a, us, rfl, n, f, by rw [upd_ne f]; exact q, pmono (fun _ _ => TgV.mut hF) p⟩
theorem FourV.dk {s : Addr} {v : V} {f : Four} (h : Lst s H) (d : Dk s H H') (q : FourV K H v f) : FourV K H' v f := by
  obtain ⟨t, a, b, x, y, rfl, q, h1, h2, h3, h4⟩ := q
  obtain ⟨t3, rfl, q3⟩ := h3
  obtain ⟨t4, rfl, q4⟩ := h4
  exact ⟨t, a, b, _, _, rfl, sqt_dk h d q, h1.dk h d, h2.dk h d, ⟨t3, rfl, sqt_dk h d q3⟩, ⟨t4, rfl, sqt_dk h d q4⟩⟩
end
theorem BdL.szl {v D k b : Nat} {l : List Rat} (h : BdL v D l) (D0 : 0 < D) (hD : D < 2 ^ b) (hv : v ≤ 2 ^ k) : SzL (k + b) b l := fun r hr => (h r hr).sz D0 hD hv
/-- what ratio asks and answers where the divisor is above nought -/
def spRatioP (K : PySem.W.Frag) : Sp := fun vs H Q _ => ∃ (x y : V) (r s : Rat) (k b : Nat), vs = [x, y] ∧ FrV K H x r ∧ FrV K H y s ∧ Sz (k + b) b r ∧ Sz (k + b) b s ∧ 0 < s.num ∧ 0 < b ∧ 2 * b + 2 * k ≤ 13490 ∧ ∀ v H', Ex H H' → FrV K H' v (r / s) → Q v H'
theorem ratio_is {r s : Rat} (h : 0 < s.num) : Rat.divInt (r.num * (s.den : Int)) ((r.den : Int) * s.num) = r / s := by
  rw [Rat.div_def, Rat.inv_def]
  conv => rhs; rw [← Rat.num_divInt_den r]
  rw [Rat.divInt_mul_divInt]
def spWeighB (K : PySem.W.Frag) : Sp := fun vs H Q _ => ∃ (x y : V) (rs ss : List Rat) (v D u E k b : Nat), vs = [x, y] ∧ RowV K H x rs ∧ RowV K H y ss ∧ rs.length = ss.length ∧ rs.length ≤ 4 ∧ BdL v D rs ∧ BdL u E ss ∧ 0 < D * E ∧ D * E < 2 ^ b ∧ v ≤ 2 ^ k ∧ u ≤ 2 ^ k ∧ 4 * (v * u) ≤ 2 ^ k ∧ Cnd k b ∧ ∀ w H', Ex H H' → FrV K H' w (weighs (rs.zip ss)) → Q w H'
def spTellsB (K : PySem.W.Frag) : Sp := fun vs H Q _ => ∃ (x y : V) (z : Sum2) (ss : List Rat) (v c D u E F k b : Nat), vs = [x, y] ∧ SumV K H x z ∧ RowV K H y ss ∧ z.1.length = ss.length ∧ z.1.length ≤ 4 ∧ BdL v D z.1 ∧ Bd c F z.2 ∧ BdL u E ss ∧ 0 < D * E ∧ D * E ∣ F ∧ 0 < F ∧ F < 2 ^ b ∧ v ≤ 2 ^ k ∧ u ≤ 2 ^ k ∧ 4 * (v * u) ≤ 2 ^ k ∧ c ≤ 2 ^ k ∧ Cnd k b ∧ ∀ w H', Ex H H' → FrV K H' w (tells z ss) → Q w H'
/-- the box, as these functions take it -/
def BoxV (K : PySem.W.Frag) (D : Nat) (H : Hp) (v : V) (box : List Span) : Prop := SpsV K true H v box ∧ 1 ≤ box.length ∧ box.length ≤ 3 ∧ SpB 21 18 D box ∧ 0 < D ∧ D ≤ 2 ^ 100
theorem BoxV.ex {K : PySem.W.Frag} {D : Nat} {H H' : Hp} {v : V} {box : List Span} (e : Ex H H') (h : BoxV K D H v box) : BoxV K D H' v box := ⟨h.1.ex e, h.2⟩
theorem SpB.sv {D : Nat} {box : List Span} (h : SpB 21 18 D box) (d0 : 0 < D) (dl : D ≤ 2 ^ 100) : SpSv 1500 D box := fun p hp => by
  have lt : 21 * D < 2 ^ 1500 := Nat.lt_of_le_of_lt (Nat.mul_le_mul_left 21 dl) (by decide +kernel)
  exact ⟨(h.bd p hp).1.sv d0 lt, (h.bd p hp).2.sv d0 lt⟩
theorem SpB.ok {v s D : Nat} {box : List Span} (h : SpB v s D box) : SpOk box := h.le
def spCheckBox (K : PySem.W.Frag) : Sp := fun vs H Q _ => ∃ (x : V) (DB : Nat) (box : List Span), vs = [x] ∧ BoxV K DB H x box ∧ ∀ H', Ex H H' → Q .non H'
def spCheckSum (K : PySem.W.Frag) : Sp := fun vs H Q _ => ∃ (x y : V) (DB : Nat) (box : List Span) (s : Sum2), vs = [x, y] ∧ BoxV K DB H x box ∧ SumV K H y s ∧ s.1.length = box.length ∧ ∀ H', Ex H H' → Q .non H'
def spLeastB (K : PySem.W.Frag) (f : Sum2 → List Span → Rat) : Sp := fun vs H Q _ => ∃ (x y : V) (DB : Nat) (box : List Span) (s : Sum2) (v Dc E k b : Nat), vs = [x, y] ∧ BoxV K DB H x box ∧ SumV K H y s ∧ BdS box.length v Dc E s ∧ 0 < Dc ∧ Dc * DB ∣ E ∧ 0 < E ∧ E < 2 ^ b ∧ 84 * v + 21 ≤ 2 ^ k ∧ Cnd k b ∧
  ∀ p a c H', Ex H H' → SqT K H' p [a, c] → FrV K H' a (f s box) → Q (.ref p) H'
def spThr (K : PySem.W.Frag) : Sp := fun vs H Q _ => ∃ (c c' : Bool) (x y u : V) (z : Sum2) (A B : List Sum2) (n v a m D Dc Dn k b : Nat), vs = [x, y, u, .int (n : Int)] ∧ SumV K H x z ∧ SmsV K c H y A ∧ SmsV K c' H u B ∧ z.1.length = A.length ∧ A.length = B.length ∧ A.length ≤ 4 ∧ n ≤ 100 ∧
  BdL v D z.1 ∧ Bd a (D * Dn) z.2 ∧ (∀ s ∈ A, BdS n m Dc Dn s) ∧ (∀ s ∈ B, BdS n m Dc Dn s) ∧ 0 < D ∧ 0 < Dc ∧ 0 < Dn ∧ D * Dc < 2 ^ b ∧ D * Dn < 2 ^ b ∧ v ≤ 2 ^ k ∧ m ≤ 2 ^ k ∧ a + 4 * (v * m) ≤ 2 ^ k ∧ Cnd k b ∧ ∀ w H', Ex H H' → SumV K H' w (thr z A B n) → Q w H'
/-- of a node's four: both sums, low and high -/
def four2 (box : List Span) (u o : Sum2) (bd : Span) : Tg := ((u, o), (maxQ (lowT u box) bd.1, minQ (highT o box) bd.2))
def spFour (K : PySem.W.Frag) : Sp := fun vs H Q _ => ∃ (x y u w : V) (DB : Nat) (box : List Span) (s t : Sum2) (f : Four) (v Dc E r k b : Nat), vs = [x, y, u, w] ∧ BoxV K DB H x box ∧ SumV K H y s ∧ SumV K H u t ∧ FourV K H w f ∧ BdS box.length v Dc E s ∧ BdS box.length v Dc E t ∧ Bd r E f.1.1 ∧ Bd r E f.1.2 ∧ 0 < Dc ∧ Dc * DB ∣ E ∧ 0 < E ∧ E < 2 ^ b ∧ 84 * v + 21 ≤ 2 ^ k ∧ r ≤ 2 ^ k ∧ Cnd k b ∧
  ∀ q H', Ex H H' → TgV K H' q (four2 box s t f.1) → Q q H'
def spUnderP (K : PySem.W.Frag) : Sp := fun vs H Q _ => ∃ (x : V) (t : Tg) (n w E k b : Nat), vs = [x, .int (n : Int)] ∧ TgV K H x t ∧ n ≤ 100 ∧ Bd w E t.2.1 ∧ Bd w E t.2.2 ∧ 0 < E ∧ E < 2 ^ b ∧ w ≤ 2 ^ k ∧ Cnd k b ∧ ∀ v H', Ex H H' → SumV K H' v (uPass n t) → Q v H'
def spOverP (K : PySem.W.Frag) : Sp := fun vs H Q _ => ∃ (x : V) (t : Tg) (n v w s Dc E k b : Nat), vs = [x, .int (n : Int)] ∧ TgV K H x t ∧ n ≤ 100 ∧ TgB n v w s Dc E t ∧ 0 < Dc ∧ Dc < 2 ^ b ∧ 0 < E ∧ s * E < 2 ^ b ∧ 1 ≤ s ∧ v + w ≤ 2 ^ k ∧ 2 * w ≤ 2 ^ k ∧ 0 < b ∧ 2 * b + 2 * k ≤ 13490 ∧ ∀ u H', Ex H H' → SumV K H' u (oPass n t) → Q u H'
/-- all of a net, as tightened takes it -/
def spTight (K : PySem.W.Frag) (CN CL CC : Addr) : Sp := fun vs H Q _ => ∃ (p : Addr) (y : V) (ls : List (List Sum2)) (L : List Span) (g M DB : Nat) (Md : Nat → List (List Tg) → List Span → List Sum2 → List Sum2 → Prop), vs = [.ref p, y] ∧ NetV K CN CL CC H p L.length ls ∧ BoxV K DB H y L ∧ NetOk L.length ls (wL g M) ∧ Fits (wL g M) DB ∧ GrB g M ls ∧ Fam DB L L.length g M ls Md ∧
  ∀ F rs H', H F = none → Ex H H' → H' F = some (.lst rs) → Paired (TgL K H F H') rs (tightAt L L.length ls L (units L.length) (units L.length)) → Q (.ref F) H'
end Nc
end
section
set_option maxRecDepth 100000
set_option maxHeartbeats 4000000
namespace Nc
open PySem PySem.Spec PyProof.Rows L2 Evl
/-! ### what the laws of tighter sums draw -/
theorem div_bd {t b : Int} {v : Nat} (hb : 0 < b) (h1 : -((v : Int) * b) ≤ t) (h2 : t ≤ (v : Int) * b) : -(v : Rat) ≤ Rat.divInt t b ∧ Rat.divInt t b ≤ (v : Rat) := by
  have e : (v : Rat) = Rat.divInt ((v : Int) * b) b := by
    rw [Rat.divInt_eq_div, Rat.intCast_mul, Rat.div_def, Rat.mul_assoc, Rat.mul_inv_cancel _ (by
      intro z
      have := Rat.intCast_le_intCast.mp (show ((b : Int) : Rat) ≤ ((0 : Int) : Rat) by rw [z]; exact Rat.le_refl)
      omega), Rat.mul_one]
    rfl
  have s : ∀ a c : Int, Rat.divInt a b + Rat.divInt c b = Rat.divInt (a + c) b := fun a c => by
    rw [Rat.divInt_add_divInt _ _ (by omega) (by omega), ← Int.add_mul, Rat.divInt_mul_right (by omega)]
  have n : Rat.divInt (-((v : Int) * b)) b = -(v : Rat) := by
    rw [e, Rat.neg_divInt]
  constructor
  · have a := s (-((v : Int) * b)) (t + (v : Int) * b)
    have p := Rat.divInt_nonneg (show 0 ≤ t + (v : Int) * b by omega) (Int.le_of_lt hb)
    rw [show -((v : Int) * b) + (t + (v : Int) * b) = t by omega, n] at a
    grind
  · have a := s t ((v : Int) * b - t)
    have p := Rat.divInt_nonneg (show 0 ≤ (v : Int) * b - t by omega) (Int.le_of_lt hb)
    rw [show t + ((v : Int) * b - t) = (v : Int) * b by omega, ← e] at a
    grind
theorem bd_div {t b : Int} {v D : Nat} (hb : 0 < b) (h1 : -((v : Int) * b) ≤ t) (h2 : t ≤ (v : Int) * b) (hD : b.toNat ∣ D) : Bd v D (Rat.divInt t b) := by
  refine ⟨div_bd hb h1 h2, Nat.dvd_trans ?_ hD⟩
  have := (sv_div (n := t.natAbs) hb (Nat.lt_two_pow_self)).2
  exact this
def spShareB (K : PySem.W.Frag) : Sp := fun vs H Q _ => ∃ s : Addr, vs = [.ref s] ∧ St3 s H ∧ ∀ v r H', Dk s H H' → St3 s H' → FrV K H' v r → Bd 4 6 r → Q v H'
def spNode3B (K : PySem.W.Frag) : Sp := fun vs H Q _ => ∃ (s : Addr) (n : Nat), vs = [.ref s, .int (n : Int)] ∧ St3 s H ∧ n ≤ 20 ∧ ∀ v z H', Dk s H H' → St3 s H' → SumV K H' v z → z.1.length = n → BdL 4 6 z.1 → Bd 4 6 z.2 → Q v H'
def spLays3B (K : PySem.W.Frag) : Sp := fun vs H Q _ => ∃ (s S : Addr) (n : Nat) (cs : List Nat), vs = [.ref s, .int (n : Int), .ref S] ∧ St3 s H ∧ S ≠ s ∧ H S = some (.lst (cs.map fun (c : Nat) => V.int (c : Int))) ∧ 1 ≤ cs.length ∧ cs.length ≤ 4 ∧ (∀ c ∈ cs, 1 ≤ c ∧ c ≤ 4) ∧ 1 ≤ n ∧ n ≤ 3 ∧
  ∀ D ls H' g M, H D = none → Dk s H H' → St3 s H' → LayS K s H' D ls → NetOk n ls (wL g M) → GrB g M ls → Q (.ref D) H'
def spBox3B (K : PySem.W.Frag) : Sp := fun vs H Q _ => ∃ (s : Addr) (n : Nat), vs = [.ref s, .int (n : Int)] ∧ St3 s H ∧ n ≤ 3 ∧ ∀ v sp H', Dk s H H' → St3 s H' → SpsV K true H' v sp → sp.length = n → SpB 21 18 6 sp → Q v H'
theorem spb_nil {v s D : Nat} : SpB v s D [] := ⟨(fun _ h => by cases h), (fun _ h => by cases h), (fun _ h => by cases h)⟩
theorem spb_snoc {v s D : Nat} {A : List Span} {p : Span} (h : SpB v s D A) (h1 : Bd v D p.1 ∧ Bd v D p.2) (h2 : p.1 ≤ p.2) (h3 : p.2 - p.1 ≤ (s : Rat)) : SpB v s D (A ++ [p]) := by
  have m : ∀ q, q ∈ A ++ [p] → q ∈ A ∨ q = p := fun q hq => by
    rcases List.mem_append.mp hq with h | h
    · exact .inl h
    · exact .inr (List.mem_singleton.mp h)
  refine ⟨fun q hq => ?_, fun q hq => ?_, fun q hq => ?_⟩ <;> rcases m q hq with h' | rfl
  · exact h.bd q h'
  · exact h1
  · exact h.le q h'
  · exact h2
  · exact h.wide q h'
  · exact h3
theorem M0_lt : 10 * (6 * M0) < 2 ^ 1500 := by decide +kernel
theorem netok_gr {n g M : Nat} {ls : List (List Sum2)} (h1 : 1 ≤ n) (h3 : n ≤ 3) (ov : Over n ls) (l1 : 1 ≤ ls.length) (l4 : ls.length ≤ 4) (gr : GrB g M ls) : NetOk n ls (wL g M) := by
  have m0 := gr.m0
  have ml := gr.mle
  have lt : ∀ i j, 10 * wN g M i j < 2 ^ 1500 := fun i j => by
    refine Nat.lt_of_le_of_lt (Nat.mul_le_mul_left 10 ?_) M0_lt
    have m1 : 1 ≤ M0 := by decide
    unfold wN
    split <;> omega
  refine ⟨h1, h3, ov, l1, l4, fun i l hl z hz => ?_, fun i => wL_pos m0⟩
  obtain ⟨j, hj⟩ := List.mem_iff_getElem?.mp hz
  obtain ⟨a, b⟩ := gr.num i l hl j z hj
  exact ⟨fun r hr => (((a r hr).mono (by decide) (Nat.dvd_refl _)).sv (wN_pos m0) (lt i j)).mono (Nat.le_refl _) (wN_dvd g M i j), (b.sv (wN_pos m0) (lt i j)).mono (Nat.le_refl _) (wN_dvd g M i j)⟩
theorem wL_lt {g M : Nat} (h : M ≤ M0) : ∀ i, wL g M i ≤ 2 ^ 100 := fun i => by
  have m : 6 * M0 ≤ 2 ^ 100 := by decide +kernel
  have m1 : 1 ≤ M0 := by decide
  unfold wL
  split <;> omega
theorem fits_gr {g M D : Nat} (h : M ≤ M0) (d0 : 0 < D) (hD : D ≤ 2 ^ 100) : Fits (wL g M) D := by
  refine ⟨d0, ?_⟩
  have e : pw (wL g M) 4 = wL g M 3 * (wL g M 2 * (wL g M 1 * (wL g M 0 * 1))) := rfl
  have w := wL_lt (g := g) h
  rw [e]
  refine Nat.lt_of_le_of_lt (Nat.mul_le_mul (Nat.mul_le_mul (w 3) (Nat.mul_le_mul (w 2) (Nat.mul_le_mul (w 1) (Nat.mul_le_mul (w 0) (Nat.le_refl 1))))) hD) (by decide +kernel)
/-! ### lists of whole numbers -/
def nsV (ns : List Nat) : List V := ns.map fun (n : Nat) => V.int (n : Int)
def nsD (ns : List Nat) : List PyData := ns.map fun (n : Nat) => PyData.int (n : Int)
theorem ns_dp {K : PySem.W.Frag} {H : Hp} : ∀ ns : List Nat, DpAll K H (nsV ns) (nsD ns)
  | [] => .nil
  | n :: ns => .cons (.int _) (ns_dp ns)
theorem ns_lay : ∀ ns : List Nat, PyData.canLayAll0 (nsD ns) = true
  | [] => rfl
  | n :: ns => by
    show (true && PyData.canLayAll0 (nsD ns)) = true
    rw [ns_lay ns]
    rfl
theorem ns_depth : ∀ ns : List Nat, PyData.depthAll (nsD ns) ≤ 1
  | [] => Nat.zero_le _
  | n :: ns => by
    have ih := ns_depth ns
    show max (PyData.depth (PyData.int (n : Int))) (PyData.depthAll (nsD ns)) ≤ 1
    have : PyData.depth (PyData.int (n : Int)) ≤ 1 := by simp [PyData.depth]
    omega
theorem ns_shaped (ns : List Nat) : SeqAt.shaped (.list (nsD ns)) = true := by
  unfold SeqAt.shaped
  have h : (PyData.list (nsD ns)).canLay0 = true := ns_lay ns
  rw [h, Bool.true_and]
  refine decide_eq_true ?_
  have := ns_depth ns
  show PyData.depthAll (nsD ns) + 1 ≤ 64
  omega
theorem ns_eqv (ns : List Nat) : PyData.eqv (.list (nsD ns)) (.list (nsD ns)) = true := SeqAt.eqv_refl _ (ns_lay ns)
/-- the lengths of lists, in a list of their own: what a comprehension's walk leaves -/
theorem lens_step {G : Addr} {H1 H' : Hp} {ns : List Nat} {j n : Nat} (hG : H1 G = none) (e : Ex H1 H') (k : H' G = some (.lst (nsV (ns.take j)))) (hn : ns[j]? = some n) (h100 : ns.length ≤ 100) : ∃ acc, H' G = some (.lst acc) ∧ acc.length < sizeLine ∧ Ex H1 (upd H' G (.lst (acc ++ [V.int (n : Int)]))) ∧ upd H' G (.lst (acc ++ [V.int (n : Int)])) G = some (.lst (nsV (ns.take (j + 1)))) := by
  refine ⟨_, k, sz_lt (by unfold nsV; rw [List.length_map, List.length_take]; omega), Ex.mut e hG, ?_⟩
  rw [List.take_add_one, hn]
  unfold nsV
  rw [List.map_append]
  exact upd_same
/-- a loop over enumerate of a list -/
theorem for_enumL {K : PySem.W.Frag} {a : Addr} {xs : List V} {g : TG} {tb : TS} {D : Ends} {σ : L2.St} {H : Hp} (Pv : Nat → L2.St → Hp → Prop) (h0 : Pv 0 σ H) (hq : ∀ i σ H, Pv i σ H → SqL K H a xs)
    (hs : ∀ (i : Nat) (x : V) (T : Addr) (σ : L2.St) (H : Hp), xs[i]? = some x → Pv i σ H → H T = none → g (.ref T) σ (upd H T (.tup [.int (i : Nat), x])) fun σ2 H2 => tb { D with nx := Pv (i + 1), ct := Pv (i + 1), bk := D.nx } σ2 H2) (hd : ∀ σ H, Pv xs.length σ H → D.nx σ H) :
    ∃ W : Nat → Nat → L2.St → Hp → Prop, (∃ m, W 0 m σ H) ∧ ∀ i m σ H, W i m σ H →
      ((Ite K a).stop i H ∧ D.nx σ H) ∨ ((Ite K a).go i H ∧ ∃ N : L2.St → Hp → Prop, (∀ σ' H', N σ' H' → ∃ m', m' < m ∧ W (i + 1) m' σ' H') ∧ ∀ v H', (Ite K a).yld i H v H' → g v σ H' fun σ2 H2 => tb { D with nx := N, ct := N, bk := D.nx } σ2 H2) := by
  refine ⟨fun i m σ H => m = xs.length - i ∧ i ≤ xs.length ∧ Pv i σ H, ⟨xs.length, rfl, Nat.zero_le _, h0⟩, ?_⟩
  rintro i m σ H ⟨rfl, hi, p⟩
  have qx := hq i σ H p
  by_cases hlt : i < xs.length
  · have hx : xs[i]? = some xs[i] := List.getElem?_eq_getElem hlt
    refine .inr ⟨⟨xs, _, qx, hx⟩, Pv (i + 1), fun σ' H' p' => ⟨xs.length - (i + 1), by omega, rfl, hlt, p'⟩, fun v H' y => ?_⟩
    obtain ⟨T, x', rfl, hT, rfl, f1⟩ := y
    exact hs i x' T σ H (f1 xs qx) p hT
  · have e : i = xs.length := by omega
    subst e
    exact .inl ⟨⟨xs, qx, Nat.le_refl _⟩, hd σ H p⟩
theorem call_lenK {X : Cx} (K : PySem.W.Frag) (h : X.K = K := by rfl) : CallR X (.builtin "len") fun xs H Q => ∃ p ys, xs = [V.ref p] ∧ (SqL K H p ys ∨ SqT K H p ys) ∧ Q (V.int (ys.length : Int)) H := by
  subst h
  exact call_len_seq
/-! ### a node's four as data -/
def tD (t : Tg) : PyData := .tuple [sd t.1.1, sd t.1.2, fd t.2.1, fd t.2.2]
theorem TgV.dp {K : PySem.W.Frag} {H : Hp} {v : V} {t : Tg} (h : TgV K H v t) : Dp K H v (tD t) := by
  obtain ⟨p, a, b, x, y, rfl, q, h1, h2, h3, h4⟩ := h
  exact .tup q (.cons h1.dp (.cons h2.dp (.cons h3.dp (.cons h4.dp .nil))))
theorem lay_fdv (r : Rat) : (fd r).canLay0 = true := rfl
theorem lay_sdv (z : Sum2) : (sd z).canLay0 = true := by
  have := lay_sds [z]
  have e : PyData.canLayAll0 ([z].map sd) = ((sd z).canLay0 && true) := rfl
  rw [e, Bool.and_true] at this
  exact this
theorem tD_lay (t : Tg) : (tD t).canLay0 = true := by
  show ((sd t.1.1).canLay0 && ((sd t.1.2).canLay0 && ((fd t.2.1).canLay0 && ((fd t.2.2).canLay0 && true)))) = true
  rw [lay_sdv, lay_sdv, lay_fdv, lay_fdv]
  rfl
theorem tD_shaped (t : Tg) : SeqAt.shaped (tD t) = true := by
  unfold SeqAt.shaped
  rw [tD_lay, Bool.true_and]
  refine decide_eq_true ?_
  have f : ∀ r : Rat, (fd r).depth ≤ 2 := fun r => by
    have := depthAll_fd [r]
    have e : PyData.depthAll ([r].map fd) = max (fd r).depth 0 := rfl
    omega
  have s : ∀ z : Sum2, (sd z).depth ≤ 5 := fun z => by
    have := depth_sds [z]
    have e : PyData.depthAll ([z].map sd) = max (sd z).depth 0 := rfl
    omega
  have a1 := s t.1.1
  have a2 := s t.1.2
  have a3 := f t.2.1
  have a4 := f t.2.2
  show max (sd t.1.1).depth (max (sd t.1.2).depth (max (fd t.2.1).depth (max (fd t.2.2).depth 0))) + 1 ≤ 64
  omega
theorem tD_eqv (t : Tg) : PyData.eqv (tD t) (tD t) = true := SeqAt.eqv_refl _ (tD_lay t)
end Nc
end
section
set_option maxRecDepth 100000
set_option maxHeartbeats 4000000
namespace Nc
open PySem PySem.Spec PyProof.Rows L2
/-! ### boxes within boxes, flat boxes (for k31) -/
/-- spans each within the other's -/
def Narrow (A B : List Span) : Prop := Paired (fun p q : Span => q.1 ≤ p.1 ∧ p.1 ≤ p.2 ∧ p.2 ≤ q.2) A B
theorem narrow_len {A B : List Span} (h : Narrow A B) : A.length = B.length := Paired.length h
theorem narrow_picks : ∀ {A B : List Span} {bs : List Bool}, Narrow A B → bs.length = A.length → Within (picks A bs) B
  | _, _, _, .nil, _ => .nil
  | _, _, [], .cons _ _, h => by simp at h
  | p :: _, q :: _, b :: bs, .cons hp t, h => by
    refine .cons ?_ (narrow_picks t (by simpa using h))
    obtain ⟨h1, h2, h3⟩ := hp
    cases b
    · exact ⟨h1, Rat.le_trans h2 h3⟩
    · exact ⟨Rat.le_trans h1 h2, h3⟩
theorem narrow_bnd {A B : List Span} {z : Sum2} (h : Narrow A B) (hl : z.1.length = A.length) : (bnd B z).1 ≤ (bnd A z).1 ∧ (bnd A z).1 ≤ (bnd A z).2 ∧ (bnd A z).2 ≤ (bnd B z).2 := by
  have hb := lowB_len z
  have hb2 := highB_len z
  have w1 := within_tells (z := z) (narrow_picks (bs := lowB z) h (by omega)) (by rw [picks_len (by omega)]; exact hl)
  have w2 := within_tells (z := z) (narrow_picks (bs := highB z) h (by omega)) (by rw [picks_len (by omega)]; exact hl)
  refine ⟨w1.1, ?_, w2.2⟩
  have self : Narrow A A := by
    clear w1 w2 hl hb hb2
    induction h with
    | nil => exact .nil
    | cons hp _ ih => exact .cons ⟨Rat.le_refl, hp.2.1, Rat.le_refl⟩ ih
  have w3 := within_tells (z := z) (narrow_picks (bs := highB z) self (by omega)) (by rw [picks_len (by omega)]; exact hl)
  exact w3.1
theorem narrow_map {A B : List Span} (h : Narrow A B) : ∀ {l : List Sum2}, (∀ z ∈ l, z.1.length = A.length) → Narrow (l.map (bnd A)) (l.map (bnd B))
  | [], _ => .nil
  | z :: l, hl => .cons (narrow_bnd h (hl z (by simp))) (narrow_map h fun y hy => hl y (by simp [hy]))
theorem narrow_cut {A B : List Span} (h : Narrow A B) : Narrow (A.map cutS) (B.map cutS) := by
  induction h with
  | nil => exact .nil
  | cons hp _ ih => exact .cons ⟨cutQ_mono hp.1, cutQ_mono hp.2.1, cutQ_mono hp.2.2⟩ ih
/-- of a box within another all bounds are no wider, with the same corners -/
theorem narrow_fours : ∀ {ls : List (List Sum2)} {A B : List Span}, Narrow A B → Over A.length ls → Paired (Paired fun f g : Four => (g.1.1 ≤ f.1.1 ∧ f.1.1 ≤ f.1.2 ∧ f.1.2 ≤ g.1.2) ∧ f.2 = g.2) (foursAt ls A) (foursAt ls B)
  | [], _, _, _, _ => .nil
  | l :: ls, A, B, h, ⟨o1, o2, o3⟩ => by
    have row : ∀ l' : List Sum2, (∀ z ∈ l', z.1.length = A.length) → Paired (fun f g : Four => (g.1.1 ≤ f.1.1 ∧ f.1.1 ≤ f.1.2 ∧ f.1.2 ≤ g.1.2) ∧ f.2 = g.2) (l'.map (four A)) (l'.map (four B)) := fun l' => by
      induction l' with
      | nil => exact fun _ => .nil
      | cons z l' ih => exact fun hz => .cons ⟨narrow_bnd h (hz z (by simp)), rfl⟩ (ih fun y hy => hz y (by simp [hy]))
    refine .cons (row l o1) (narrow_fours (narrow_cut (narrow_map h o1)) ?_)
    rw [List.length_map, List.length_map]
    exact o3
/-- a spot as a box -/
def flatB (x : List Rat) : List Span := x.map fun r => (r, r)
theorem flat_picks : ∀ {x : List Rat} {bs : List Bool}, bs.length = x.length → picks (flatB x) bs = x
  | [], _, _ => rfl
  | _ :: _, [], h => by simp at h
  | r :: x, b :: bs, h => by
    show pickB (r, r) b :: picks (flatB x) bs = r :: x
    rw [flat_picks (by simpa using h)]
    cases b <;> rfl
theorem flat_bnd {x : List Rat} {z : Sum2} (h : z.1.length = x.length) : bnd (flatB x) z = (tells z x, tells z x) := by
  unfold bnd lowT highT
  rw [flat_picks (by rw [lowB_len, h]), flat_picks (by rw [highB_len, h])]
theorem flat_map {x : List Rat} : ∀ {l : List Sum2}, (∀ z ∈ l, z.1.length = x.length) → l.map (bnd (flatB x)) = flatB (l.map fun z => tells z x)
  | [], _ => rfl
  | z :: l, h => by
    show bnd (flatB x) z :: l.map (bnd (flatB x)) = (tells z x, tells z x) :: flatB (l.map fun z => tells z x)
    rw [flat_bnd (h z (by simp)), flat_map fun y hy => h y (by simp [hy])]
theorem flat_cut (x : List Rat) : (flatB x).map cutS = flatB (x.map cutQ) := by
  unfold flatB
  rw [List.map_map, List.map_map]
  rfl
/-- of a spot alone the bounds are what the nodes come to there -/
theorem flat_all : ∀ {ls : List (List Sum2)} {x : List Rat}, Over x.length ls → boundsAt ls (flatB x) = (rowsAt ls x).map flatB
  | [], _, _ => rfl
  | l :: ls, x, ⟨o1, _, o3⟩ => by
    show l.map (bnd (flatB x)) :: boundsAt ls ((l.map (bnd (flatB x))).map cutS) = flatB (l.map fun z => tells z x) :: (rowsAt ls _).map flatB
    rw [flat_map o1, flat_cut]
    congr 1
    exact flat_all (by rw [List.length_map, List.length_map]; exact o3)
end Nc
end
section
set_option maxRecDepth 100000
set_option maxHeartbeats 4000000
namespace Nc
open PySem PySem.Spec PyProof.Rows L2
/-! ### any walk whose layers have what their nodes need; of a spot alone -/
theorem famT {box : List Span} {n g M : Nat} {ls : List (List Sum2)} (hb : SpB 21 18 6 box) (hn : n = box.length) (h3 : n ≤ 3) (h4 : ls.length ≤ 4) (ov : Over n ls) (gr : GrB g M ls) : Fam 6 box n g M ls (MidT box n g M ls) :=
  ⟨midT0 hb hn h3 ov, fun m => m.len, fun m => m.eq, fun m hi => midT_step hb hn h3 h4 gr m hi⟩
theorem max_self (a : Rat) : maxQ a a = a := by
  unfold maxQ
  rw [if_neg Rat.lt_irrefl]
theorem min_self (a : Rat) : minQ a a = a := by
  unfold minQ
  rw [if_neg Rat.lt_irrefl]
/-- sums that tell just this at the spot -/
def Exact (n : Nat) (x : List Rat) (U O : List Sum2) (y : List Rat) : Prop := Btw n x U O y ∧ Btw n x O U y
theorem exact_thr {n : Nat} {x y : List Rat} {U O : List Sum2} {z : Sum2} (h : Exact n x U O y) (hl : U.length = O.length) (hz : z.1.length = U.length) : tells (thr z U O n) x = tells z y ∧ tells (thr z O U n) x = tells z y := by
  have a := node_btw (z := z) h.1 hl hz
  have b := node_btw (z := z) h.2 hl.symm (by omega)
  exact ⟨by grind, by grind⟩
theorem flat_tgt {n : Nat} {x y : List Rat} {U O : List Sum2} {z : Sum2} (hn : n = x.length) (h : Exact n x U O y) (hl : U.length = O.length) (hz : z.1.length = U.length) (hy : z.1.length = y.length) :
    tgt (flatB x) n U O (flatB y) z = ((thr z U O n, thr z O U n), (tells z y, tells z y)) := by
  obtain ⟨e1, e2⟩ := exact_thr h hl hz
  obtain ⟨l1, l2, _, _⟩ := node_btw (z := z) h.1 hl hz
  unfold tgt
  have a1 : lowT (thr z U O n) (flatB x) = tells z y := by
    unfold lowT
    rw [flat_picks (by rw [lowB_len, l1, hn]), e1]
  have a2 : highT (thr z O U n) (flatB x) = tells z y := by
    unfold highT
    rw [flat_picks (by rw [highB_len, l2, hn]), e2]
  rw [a1, a2, flat_bnd hy, max_self, min_self]
theorem pass_exact {n : Nat} {x : List Rat} {u o : Sum2} {r : Rat} (hu : u.1.length = n) (ho : o.1.length = n) (h1 : tells u x = r) (h2 : tells o x = r) :
    (uPass n ((u, o), (r, r))).1.length = n ∧ (oPass n ((u, o), (r, r))).1.length = n ∧ tells (uPass n ((u, o), (r, r))) x = cutQ r ∧ tells (oPass n ((u, o), (r, r))) x = cutQ r := by
  have f0 := flat0_tells n x
  have fl := flat0_len n
  unfold uPass oPass
  simp only
  rw [cutQ_eq]
  by_cases c : 0 < r
  · have c1 : 0 < (r + r).num := numPos.mpr (by grind)
    have c2 : ¬ r.num ≤ 0 := by
      have := numPos.mpr c
      omega
    have c3 : 0 ≤ r.num := by
      have := numPos.mpr c
      omega
    rw [if_pos c1, if_neg c2, if_pos c3, if_neg (by grind)]
    exact ⟨hu, ho, h1, h2⟩
  · have c1 : ¬ 0 < (r + r).num := fun z => by
      have := numPos.mp z
      grind
    have c2 : r.num ≤ 0 := by
      have : ¬ 0 < r.num := fun z => c (numPos.mp z)
      omega
    rw [if_neg c1, if_pos c2]
    refine ⟨fl, fl, ?_, ?_⟩ <;> rw [f0] <;> split <;> grind
end Nc
end
section
set_option maxRecDepth 100000
set_option maxHeartbeats 4000000
namespace Nc
open PySem PySem.Spec PyProof.Rows L2
theorem units_bD {n D : Nat} : ∀ s ∈ units n, BdS n 1 1 D s := fun s hs => by
  have h := units_b s hs
  unfold units at hs
  obtain ⟨p, _, rfl⟩ := List.mem_map.mp hs
  exact ⟨h.len, h.row, bd_zero _ _⟩
theorem pw_small {g M : Nat} (h : M ≤ M0) : ∀ i, i ≤ 3 → pw (wL g M) i ≤ 2 ^ 300
  | 0, _ => (Nat.one_le_two_pow : 1 ≤ 2 ^ 300)
  | i + 1, hi => by
    have a := wL_lt (g := g) h
    have e1 : pw (wL g M) 1 = wL g M 0 * 1 := rfl
    have e2 : pw (wL g M) 2 = wL g M 1 * pw (wL g M) 1 := rfl
    have e3 : pw (wL g M) 3 = wL g M 2 * pw (wL g M) 2 := rfl
    have h1 : pw (wL g M) 1 ≤ 2 ^ 100 := by rw [e1, Nat.mul_one]; exact a 0
    have h2 : pw (wL g M) 2 ≤ 2 ^ 200 := by
      rw [e2, show (2 : Nat) ^ 200 = 2 ^ 100 * 2 ^ 100 from Nat.pow_add 2 100 100]
      exact Nat.mul_le_mul (a 1) h1
    have h3 : pw (wL g M) 3 ≤ 2 ^ 300 := by
      rw [e3, show (2 : Nat) ^ 300 = 2 ^ 100 * 2 ^ 200 from Nat.pow_add 2 100 200]
      exact Nat.mul_le_mul (a 2) h2
    have : i = 0 ∨ i = 1 ∨ i = 2 := by omega
    rcases this with rfl | rfl | rfl
    · exact Nat.le_trans h1 (Nat.pow_le_pow_right (by decide) (by decide))
    · exact Nat.le_trans h2 (Nat.pow_le_pow_right (by decide) (by decide))
    · exact h3
theorem lt_flat {g M D i : Nat} (m0 : 0 < M) (mle : M ≤ M0) (i3 : i ≤ 3) (hD : D ≤ 2 ^ 100) (j : Nat) : wN g M i j * (D * pw (wL g M) i) < 2 ^ 6672 := by
  have w1 : wN g M i j ≤ 2 ^ 100 := Nat.le_trans (Nat.le_of_dvd (wL_pos m0) (wN_dvd g M i j)) (wL_lt mle i)
  have h : wN g M i j * (D * pw (wL g M) i) ≤ 2 ^ 100 * (2 ^ 100 * 2 ^ 300) := Nat.mul_le_mul w1 (Nat.mul_le_mul hD (pw_small mle i i3))
  refine Nat.lt_of_le_of_lt h ?_
  rw [← Nat.pow_add, ← Nat.pow_add]
  exact Nat.pow_lt_pow_right (by decide) (by decide)
/-- what stands behind i layers, of a spot alone -/
structure MidF (D : Nat) (x : List Rat) (g M : Nat) (ls : List (List Sum2)) (i : Nat) (dn : List (List Tg)) (A : List Span) (U O : List Sum2) : Prop where
  len : dn.length = i
  eq : tightAt (flatB x) x.length ls (flatB x) (units x.length) (units x.length) = dn ++ tightAt (flatB x) x.length (ls.drop i) A U O
  over : Over A.length (ls.drop i)
  a4 : A.length ≤ 4
  ul : U.length = A.length
  ol : O.length = A.length
  sp : SpB (va i) (sa i) (pw (wL g M) i * D) A
  ex : ∃ y, A = flatB y ∧ Exact x.length x U O y
  hu : ∀ s ∈ U, BdS x.length (ub i) (pw (wL g M) i) (D * pw (wL g M) i) s
  ho : ∀ s ∈ O, BdS x.length (ub i) (pw (wL g M) i) (D * pw (wL g M) i) s
theorem flat_len (x : List Rat) : (flatB x).length = x.length := List.length_map ..
theorem midF0 {D : Nat} {x : List Rat} {g M : Nat} {ls : List (List Sum2)} (hb : SpB 21 18 D (flatB x)) (h3 : x.length ≤ 3) (ov : Over x.length ls) : MidF D x g M ls 0 [] (flatB x) (units x.length) (units x.length) := by
  refine ⟨rfl, rfl, by rw [flat_len]; exact ov, by rw [flat_len]; omega, by rw [units_len, flat_len], by rw [units_len, flat_len], ?_, ⟨x, rfl, btw_units rfl, btw_units rfl⟩, fun s hs => ?_, fun s hs => ?_⟩
  · rw [show pw (wL g M) 0 * D = D from Nat.one_mul D]
    exact hb
  · rw [show D * pw (wL g M) 0 = D from Nat.mul_one D]
    exact units_bD s hs
  · rw [show D * pw (wL g M) 0 = D from Nat.mul_one D]
    exact units_bD s hs
theorem exact_pass {n : Nat} {x y : List Rat} {U O : List Sum2} (hn : n = x.length) (h : Exact n x U O y) (hl : U.length = O.length) (hy : y.length = U.length) : ∀ {l : List Sum2}, (∀ z ∈ l, z.1.length = U.length) →
    Exact n x ((l.map (tgt (flatB x) n U O (flatB y))).map (uPass n)) ((l.map (tgt (flatB x) n U O (flatB y))).map (oPass n)) ((l.map fun z => tells z y).map cutQ)
  | [], _ => ⟨.nil, .nil⟩
  | z :: l, hz => by
    have ih := exact_pass hn h hl hy (l := l) fun w hw => hz w (by simp [hw])
    have z0 := hz z (by simp)
    obtain ⟨e1, e2⟩ := exact_thr h hl z0
    obtain ⟨l1, l2, _, _⟩ := node_btw (z := z) h.1 hl z0
    have t := flat_tgt hn h hl z0 (by omega)
    obtain ⟨p1, p2, p3, p4⟩ := pass_exact l1 l2 e1 e2
    rw [← t] at p1 p2 p3 p4
    exact ⟨.cons ⟨p1, p2, by rw [p3]; exact Rat.le_refl, by rw [p4]; exact Rat.le_refl⟩ ih.1, .cons ⟨p2, p1, by rw [p4]; exact Rat.le_refl, by rw [p3]; exact Rat.le_refl⟩ ih.2⟩
theorem midF_step {D : Nat} {x : List Rat} {g M i : Nat} {ls : List (List Sum2)} {dn : List (List Tg)} {A : List Span} {U O : List Sum2} {l : List Sum2} (d0 : 0 < D) (hD : D ≤ 2 ^ 100) (hb : SpB 21 18 D (flatB x)) (h3 : x.length ≤ 3) (h4 : ls.length ≤ 4) (gr : GrB g M ls) (m : MidF D x g M ls i dn A U O) (hi : ls[i]? = some l) :
    ∃ R, Lk D (flatB x) x.length g M i l A U O R ∧ MidF D x g M ls (i + 1) (dn ++ [l.map (tgt (flatB x) x.length U O A)]) ((l.map (bnd A)).map cutS) ((l.map (tgt (flatB x) x.length U O A)).map (uPass x.length)) ((l.map (tgt (flatB x) x.length U O A)).map (oPass x.length)) := by
  have hi1 := (List.getElem?_eq_some_iff.mp hi).1
  have ov := m.over
  rw [drop_at hi] at ov
  obtain ⟨o1, o2, o3⟩ := ov
  have i3 : i ≤ 3 := by omega
  have k : Lk D (flatB x) x.length g M i l A U O (pw (wL g M) i) := ⟨fun j z hz => ⟨o1 z (List.mem_of_getElem? hz), gr.num i l hi j z hz⟩, o2.2, m.a4, m.ul, m.ol, i3, m.sp, pw_pos (fun _ => wL_pos gr.m0) i, d0, fun j => lt_flat gr.m0 gr.mle i3 hD j, Nat.dvd_refl _, m.hu, m.ho, gr.m0, gr.mle, hb, (flat_len x).symm, h3⟩
  obtain ⟨y, hA, hex⟩ := m.ex
  have ul := m.ul
  have ol := m.ol
  have yl : y.length = A.length := by rw [hA, flat_len]
  refine ⟨_, k, ⟨by simp [m.len], ?_, by simpa using o3, by simpa using o2.2, by simp, by simp, ?_, ⟨(l.map fun z => tells z y).map cutQ, ?_, ?_⟩, fun s hs => ?_, fun s hs => ?_⟩⟩
  · rw [m.eq, tightAt_cons hi, List.append_assoc]
    rfl
  · refine spb_cut ⟨fun p hp => ?_, fun p hp => ?_, fun p hp => ?_⟩ <;> obtain ⟨z, hz, rfl⟩ := List.mem_map.mp hp <;> obtain ⟨j, hj⟩ := List.mem_iff_getElem?.mp hz
    · obtain ⟨h1, h2, h3⟩ := k.nodes j z hj
      have p0 : 0 < wN g M i j * (pw (wL g M) i * D) := Nat.mul_pos (wN_pos gr.m0) (Nat.mul_pos (pw_pos (fun _ => wL_pos gr.m0) i) d0)
      obtain ⟨b, _, _⟩ := spb_node p0 k.sp k.a4 h1 h2 h3
      have dv : wN g M i j * (pw (wL g M) i * D) ∣ pw (wL g M) (i + 1) * D := by
        show _ ∣ wL g M i * pw (wL g M) i * D
        rw [Nat.mul_assoc]
        exact Nat.mul_dvd_mul_right (wN_dvd g M i j) _
      exact ⟨b.1.mono (Nat.le_refl _) dv, b.2.mono (Nat.le_refl _) dv⟩
    · exact (k.ends hj).2.1
    · exact (k.ends hj).2.2
  · rw [hA, flat_map (fun z hz => by rw [o1 z hz, yl]), flat_cut]
  · rw [hA]
    exact exact_pass rfl hex (by omega) (by omega) (fun z hz => by rw [o1 z hz, ul])
  · rw [List.map_map] at hs
    obtain ⟨z, hz, rfl⟩ := List.mem_map.mp hs
    obtain ⟨j, hj⟩ := List.mem_iff_getElem?.mp hz
    have d : wN g M i j * pw (wL g M) i ∣ pw (wL g M) (i + 1) := Nat.mul_dvd_mul_right (wN_dvd g M i j) _
    have d2 : wN g M i j * (D * pw (wL g M) i) ∣ D * pw (wL g M) (i + 1) := by
      rw [Nat.mul_left_comm]
      exact Nat.mul_dvd_mul_left D d
    exact (uPass_b (k.tg hj)).mono (by rw [ub_step]; omega) d d2
  · rw [List.map_map] at hs
    obtain ⟨z, hz, rfl⟩ := List.mem_map.mp hs
    obtain ⟨j, hj⟩ := List.mem_iff_getElem?.mp hz
    have d : wN g M i j * pw (wL g M) i ∣ pw (wL g M) (i + 1) := Nat.mul_dvd_mul_right (wN_dvd g M i j) _
    have d2 : wN g M i j * (D * pw (wL g M) i) ∣ D * pw (wL g M) (i + 1) := by
      rw [Nat.mul_left_comm]
      exact Nat.mul_dvd_mul_left D d
    have tg := k.tg hj
    have zl := o1 z hz
    have t := flat_tgt (x := x) (z := z) rfl hex (by omega) (by omega) (by omega)
    rw [← hA] at t
    have eo : oPass x.length (tgt (flatB x) x.length U O A z) = flat0 x.length ∨ oPass x.length (tgt (flatB x) x.length U O A z) = (tgt (flatB x) x.length U O A z).1.2 := by
      rw [t]
      unfold oPass
      simp only
      by_cases c : (tells z y).num ≤ 0
      · rw [if_pos c]
        exact .inl rfl
      · rw [if_neg c, if_pos (by omega)]
        exact .inr rfl
    show BdS _ _ _ _ (oPass x.length (tgt (flatB x) x.length U O A z))
    rcases eo with e | e <;> rw [e]
    · exact (bds_flat0 x.length (vs i) _ _).mono (by rw [ub_step]; omega) (Nat.dvd_refl _) (Nat.dvd_refl _)
    · exact tg.o.mono (by rw [ub_step]; omega) d d2
/-- the walk of tighter sums of a spot alone -/
theorem famF {D : Nat} {x : List Rat} {g M : Nat} {ls : List (List Sum2)} (d0 : 0 < D) (hD : D ≤ 2 ^ 100) (hb : SpB 21 18 D (flatB x)) (h3 : x.length ≤ 3) (h4 : ls.length ≤ 4) (ov : Over x.length ls) (gr : GrB g M ls) : Fam D (flatB x) x.length g M ls (MidF D x g M ls) :=
  ⟨midF0 hb h3 ov, fun m => m.len, fun m => m.eq, fun m hi => midF_step d0 hD hb h3 h4 gr m hi⟩
end Nc
end
section
set_option maxRecDepth 100000
set_option maxHeartbeats 4000000
namespace Nc
open PySem PySem.Spec PyProof.Rows L2 Evl
/-! ### one net behind another: mathematics -/
theorem sv_bd {n D : Nat} {r : Rat} (h : Sv n D r) : Bd (2 ^ n) D r := by
  refine ⟨?_, h.2⟩
  have h1 := h.1
  have d := r.den_pos
  have e : ((2 ^ n : Nat) : Rat).num = ((2 ^ n : Nat) : Int) := rfl
  have e2 : ((2 ^ n : Nat) : Rat).den = 1 := rfl
  generalize 2 ^ n = P at *
  have k : (P : Int) * 1 ≤ (P : Int) * (r.den : Int) := Int.mul_le_mul_of_nonneg_left (by omega) (by omega)
  have up : ∀ q : Rat, q.num.natAbs < P → q.den = r.den → q ≤ (P : Rat) := fun q hq hd => by
    refine (Rat.le_iff _ _).mpr ?_
    rw [e, e2, hd]
    omega
  have a := up r h1 rfl
  have b := up (-r) (by rw [Rat.neg_num, Int.natAbs_neg]; exact h1) (by rw [Rat.neg_den])
  exact ⟨by grind, a⟩
theorem stp_same {t a : Sum2} {w : Rat} (h : a.1.length = t.1.length) : stp t (w, a, a) = splus t (stimes w a) := by
  unfold stp
  by_cases h1 : 0 < w.num
  · rw [if_pos h1]
  · by_cases h2 : w.num < 0
    · rw [if_neg h1, if_pos h2]
    · rw [if_neg h1, if_neg h2]
      have hw : w = 0 := Rat.num_eq_zero.mp (by omega)
      subst hw
      have z0 : ∀ r : Rat, 0 * r = 0 := fun r => Rat.zero_mul r
      unfold splus stimes
      rw [z0, Rat.add_zero]
      have e : ∀ (l m : List Rat), m.length = l.length → ((l.zip (m.map fun x => 0 * x)).map fun p => p.1 + p.2) = l := by
        intro l
        induction l with
        | nil => intro m _; rfl
        | cons x l ih =>
          intro m hm
          cases m with
          | nil => simp at hm
          | cons y m =>
            show (x + 0 * y) :: ((l.zip (m.map fun x => 0 * x)).map fun p => p.1 + p.2) = x :: l
            rw [ih m (by simpa using hm), z0, Rat.add_zero]
      rw [e t.1 a.1 h]
/-- what stands at a place in each sum -/
def colAt (i : Nat) (A : List Sum2) : List Rat := A.map fun o => o.1.getD i 0
def melt (z : Sum2) (A : List Sum2) (n : Nat) : Sum2 := ((List.range n).map fun i => weighs (z.1.zip (colAt i A)), tells z (A.map (·.2)))
theorem fold_melt {n : Nat} : ∀ {ws : List Rat} {A : List Sum2} {t : Sum2}, ws.length = A.length → (∀ a ∈ A, a.1.length = n) → t.1.length = n →
    ((ws.zip (A.zip A)).foldl stp t).1.length = n ∧ (∀ i, i < n → ((ws.zip (A.zip A)).foldl stp t).1.getD i 0 = t.1.getD i 0 + weighs (ws.zip (colAt i A))) ∧ ((ws.zip (A.zip A)).foldl stp t).2 = t.2 + weighs (ws.zip (A.map (·.2)))
  | [], [], t, _, _, ht => ⟨ht, fun i _ => by show t.1.getD i 0 = _ + 0; rw [Rat.add_zero], by show t.2 = _ + 0; rw [Rat.add_zero]⟩
  | w :: ws, a :: A, t, h, ha, ht => by
    have a0 := ha a (by simp)
    have e := stp_same (t := t) (a := a) (w := w) (by omega)
    have tl : (splus t (stimes w a)).1.length = n := by
      unfold splus stimes
      rw [List.length_map, List.length_zip, List.length_map]
      omega
    obtain ⟨i1, i2, i3⟩ := fold_melt (ws := ws) (A := A) (t := splus t (stimes w a)) (by simpa using h) (fun b hb => ha b (by simp [hb])) tl
    show ((ws.zip (A.zip A)).foldl stp (stp t (w, a, a))).1.length = n ∧ _
    rw [show (((w :: ws).zip ((a :: A).zip (a :: A))).foldl stp t) = (ws.zip (A.zip A)).foldl stp (stp t (w, a, a)) from rfl, e]
    refine ⟨i1, fun i hi => ?_, ?_⟩
    · rw [i2 i hi]
      show _ = t.1.getD i 0 + weighs ((w, a.1.getD i 0) :: ws.zip (colAt i A))
      rw [weighs_cons]
      have g : (splus t (stimes w a)).1.getD i 0 = t.1.getD i 0 + w * a.1.getD i 0 := by
        unfold splus stimes
        simp only [List.getD_eq_getElem?_getD, List.getElem?_map, List.getElem?_zip_eq_some]
        have h1 : t.1[i]? = some (t.1[i]'(by omega)) := List.getElem?_eq_getElem (by omega)
        have h2 : a.1[i]? = some (a.1[i]'(by omega)) := List.getElem?_eq_getElem (by omega)
        have h3 : (t.1.zip (a.1.map fun x => w * x))[i]? = some (t.1[i]'(by omega), w * a.1[i]'(by omega)) := by
          rw [List.getElem?_zip_eq_some]
          exact ⟨h1, by rw [List.getElem?_map, h2]; rfl⟩
        rw [h3, h1, h2]
        rfl
      rw [g]
      grind
    · rw [i3]
      show t.2 + w * a.2 + _ = t.2 + weighs ((w, a.2) :: ws.zip (A.map (·.2)))
      rw [weighs_cons]
      grind
theorem getD_ext {n : Nat} {L M : List Rat} (hl : L.length = n) (hm : M.length = n) (h : ∀ i, i < n → L.getD i 0 = M.getD i 0) : L = M := by
  refine List.ext_getElem (by omega) fun i h1 h2 => ?_
  have e := h i (by omega)
  rw [List.getD_eq_getElem?_getD, List.getD_eq_getElem?_getD, List.getElem?_eq_getElem h1, List.getElem?_eq_getElem h2] at e
  exact e
theorem thr_melt {z : Sum2} {A : List Sum2} {n : Nat} (h : z.1.length = A.length) (ha : ∀ a ∈ A, a.1.length = n) : thr z A A n = melt z A n := by
  obtain ⟨i1, i2, i3⟩ := fold_melt (ws := z.1) (A := A) (t := (List.replicate n 0, z.2)) h ha (List.length_replicate ..)
  refine Prod.ext ?_ ?_
  · refine getD_ext (n := n) i1 (by show ((List.range n).map _).length = n; rw [List.length_map, List.length_range]) fun i hi => ?_
    have e := i2 i hi
    have r0 : (List.replicate n (0 : Rat)).getD i 0 = 0 := by
      rw [List.getD_eq_getElem?_getD, List.getElem?_replicate, if_pos hi]
      rfl
    rw [show ((List.replicate n (0 : Rat), z.2) : Sum2).1 = List.replicate n 0 from rfl, r0, Rat.zero_add] at e
    show ((z.1.zip (A.zip A)).foldl stp (List.replicate n 0, z.2)).1.getD i 0 = ((List.range n).map fun i => weighs (z.1.zip (colAt i A))).getD i 0
    rw [e, List.getD_eq_getElem?_getD, List.getElem?_map, List.getElem?_range hi]
    rfl
  · show ((z.1.zip (A.zip A)).foldl stp (List.replicate n 0, z.2)).2 = weighs (z.1.zip (A.map (·.2))) + z.2
    rw [i3]
    show z.2 + _ = _
    grind
theorem btw_self {n : Nat} {x : List Rat} : ∀ {A : List Sum2}, (∀ a ∈ A, a.1.length = n) → Btw n x A A (A.map fun z => tells z x)
  | [], _ => .nil
  | a :: A, h => .cons ⟨h a (by simp), h a (by simp), Rat.le_refl, Rat.le_refl⟩ (btw_self fun b hb => h b (by simp [hb]))
theorem thr_tells {z : Sum2} {A : List Sum2} {n : Nat} {x : List Rat} (h : z.1.length = A.length) (ha : ∀ a ∈ A, a.1.length = n) : tells (thr z A A n) x = tells z (A.map fun z => tells z x) := by
  obtain ⟨_, _, a, b⟩ := node_btw (x := x) (z := z) (btw_self ha) rfl h
  grind
/-- one net behind another -/
def behR : List (List Sum2) → List (List Sum2) → List (List Sum2)
  | [], ms => ms
  | [l], m :: ms => (m.map fun z => thr z l l ((l.getD 0 ([], 0)).1.length)) :: ms
  | [_], [] => []
  | l :: l' :: ls, ms => l :: behR (l' :: ls) ms
theorem behR_eq : ∀ {ls ms : List (List Sum2)} {l m : List Sum2}, ls[ls.length - 1]? = some l → ms[0]? = some m → behR ls ms = ls.dropLast ++ [m.map fun z => thr z l l ((l.getD 0 ([], 0)).1.length)] ++ ms.drop 1
  | [], _, _, _, h, _ => by cases h
  | [_], [], _, _, _, h => by cases h
  | [_], _ :: _, _, _, h1, h2 => by
    cases h1
    cases h2
    rfl
  | l0 :: l' :: ls, ms, l, m, h1, h2 => by
    have h' : (l' :: ls)[(l' :: ls).length - 1]? = some l := h1
    show l0 :: behR (l' :: ls) ms = l0 :: (l' :: ls).dropLast ++ _ ++ _
    rw [behR_eq h' h2]
    rfl
theorem behR_len : ∀ {ls ms : List (List Sum2)}, 1 ≤ ls.length → 1 ≤ ms.length → (behR ls ms).length = ls.length + ms.length - 1
  | [], _, h, _ => by simp at h
  | [_], [], _, h => by simp at h
  | [l], m :: ms, _, _ => by
    show ms.length + 1 = _
    simp
  | l :: l' :: ls, ms, _, h => by
    show (behR (l' :: ls) ms).length + 1 = _
    rw [behR_len (by simp) h]
    simp
    omega
theorem first_len {l : List Sum2} {n : Nat} (h1 : 1 ≤ l.length) (h : ∀ z ∈ l, z.1.length = n) : (l.getD 0 ([], 0)).1.length = n := by
  cases l with
  | nil => simp at h1
  | cons z l => exact h z (by simp)
theorem behR_over : ∀ {ls ms : List (List Sum2)} {n : Nat}, 1 ≤ ls.length → Over n ls → Over (lastN n ls) ms → Over n (behR ls ms)
  | [], _, _, h, _, _ => by simp at h
  | [_], [], _, _, _, _ => trivial
  | [l], m :: ms, n, _, ⟨o1, o2, _⟩, ⟨p1, p2, p3⟩ => by
    have e := first_len o2.1 o1
    refine ⟨fun z hz => ?_, by rw [List.length_map]; exact p2, by rw [List.length_map]; exact p3⟩
    obtain ⟨y, hy, rfl⟩ := List.mem_map.mp hz
    rw [e]
    have hl : y.1.length = l.length := p1 y hy
    exact (node_btw (x := List.replicate n 0) (z := y) (btw_self o1) rfl hl).1
  | l :: l' :: ls, ms, n, _, ⟨o1, o2, o3⟩, p => ⟨o1, o2, behR_over (by simp) o3 p⟩
theorem behR_row : ∀ {ls ms : List (List Sum2)} {x o : List Rat}, 1 ≤ ms.length → Over x.length ls → Over (lastN x.length ls) ms → (rowsAt ls x)[ls.length - 1]? = some o → (rowsAt (behR ls ms) x)[(behR ls ms).length - 1]? = (rowsAt ms o)[ms.length - 1]?
  | [], _, _, _, _, _, _, h => by cases h
  | [_], [], _, _, h, _, _, _ => by simp at h
  | [l], m :: ms, x, o, _, ⟨o1, o2, _⟩, ⟨p1, _, _⟩, h => by
    have eo : (l.map fun z => tells z x) = o := Option.some.inj h
    subst eo
    have e := first_len o2.1 o1
    have r : (m.map fun z => thr z l l ((l.getD 0 ([], 0)).1.length)).map (fun z => tells z x) = m.map fun z => tells z (l.map fun z => tells z x) := by
      rw [List.map_map]
      refine List.map_congr_left fun z hz => ?_
      show tells (thr z l l ((l.getD 0 ([], 0)).1.length)) x = _
      rw [e]
      exact thr_tells (p1 z hz) o1
    show (((m.map fun z => thr z l l ((l.getD 0 ([], 0)).1.length)).map fun z => tells z x) :: rowsAt ms _)[ms.length]? = ((m.map fun z => tells z _) :: rowsAt ms _)[ms.length]?
    rw [r]
  | l :: l' :: ls, ms, x, o, hm, ⟨o1, o2, o3⟩, p, h => by
    have h' : (rowsAt (l' :: ls) ((l.map fun z => tells z x).map cutQ))[(l' :: ls).length - 1]? = some o := h
    have xl : ((l.map fun z => tells z x).map cutQ).length = l.length := by rw [List.length_map, List.length_map]
    have ih := behR_row (ls := l' :: ls) (ms := ms) (x := (l.map fun z => tells z x).map cutQ) hm (by rw [xl]; exact o3) (by rw [xl]; exact p) h'
    have bl := behR_len (ls := l' :: ls) (ms := ms) (by simp) hm
    have bp : 1 ≤ (behR (l' :: ls) ms).length := by
      rw [bl]
      simp
      omega
    show ((l.map fun z => tells z x) :: rowsAt (behR (l' :: ls) ms) ((l.map fun z => tells z x).map cutQ))[(behR (l' :: ls) ms).length + 1 - 1]? = _
    rw [show (behR (l' :: ls) ms).length + 1 - 1 = ((behR (l' :: ls) ms).length - 1) + 1 by omega, List.getElem?_cons_succ]
    exact ih
/-! ### sizes -/
def NumB (v D : Nat) (ls : List (List Sum2)) : Prop := ∀ l ∈ ls, ∀ z ∈ l, BdL v D z.1 ∧ Bd v D z.2
theorem NumB.mono {v u D E : Nat} {ls : List (List Sum2)} (h : NumB v D ls) (hv : v ≤ u) (d : D ∣ E) : NumB u E ls := fun l hl z hz => ⟨(h l hl z hz).1.mono hv d, (h l hl z hz).2.mono hv d⟩
theorem netok_b {n v D : Nat} {ls : List (List Sum2)} (n1 : 1 ≤ n) (n3 : n ≤ 3) (ov : Over n ls) (l1 : 1 ≤ ls.length) (l4 : ls.length ≤ 4) (h : NumB v D ls) (d0 : 0 < D) (lt : v * D < 2 ^ 1500) : NetOk n ls (fun _ => D) :=
  ⟨n1, n3, ov, l1, l4, fun i l hl z hz => by
    obtain ⟨a, b⟩ := h l (List.mem_of_getElem? hl) z hz
    exact ⟨fun r hr => (a r hr).sv d0 lt, b.sv d0 lt⟩, fun _ => d0⟩
theorem behR_num : ∀ {ls ms : List (List Sum2)} {n u v W V : Nat}, 1 ≤ u → 1 ≤ v → 0 < W → 0 < V → n ≤ 4 → Over n ls → Over (lastN n ls) ms → NumB u W ls → NumB v V ms → NumB (v + 4 * (v * u)) (V * W) (behR ls ms)
  | [], ms, n, u, v, W, V, _, _, _, _, _, _, _, _, h => h.mono (Nat.le_add_right _ _) (Nat.dvd_mul_right V W)
  | [_], [], _, _, _, _, _, _, _, _, _, _, _, _, _, _ => fun _ h => by cases h
  | [l], m :: ms, n, u, v, W, V, u1, v1, w0, v0, n4, ⟨o1, o2, _⟩, ⟨p1, p2, _⟩, h1, h2 => by
    have e := first_len o2.1 o1
    intro x hx z hz
    rcases List.mem_cons.mp hx with rfl | hx
    · obtain ⟨y, hy, rfl⟩ := List.mem_map.mp hz
      rw [e]
      obtain ⟨a, b⟩ := h2 m (by simp) y hy
      have hl : y.1.length = l.length := p1 y hy
      have hA : ∀ s ∈ l, BdS n u W W s := fun s hs => ⟨o1 s hs, (h1 l (by simp) s hs).1, (h1 l (by simp) s hs).2⟩
      have r := bds_thr (Nat.mul_pos v0 w0) (Nat.mul_pos v0 w0) a (b.mono (Nat.le_refl _) (Nat.dvd_mul_right V W)) hA hA hl rfl
      have k : v + y.1.length * (v * u) ≤ v + 4 * (v * u) := Nat.add_le_add_left (Nat.mul_le_mul_right _ (by omega)) _
      exact ⟨r.row.mono k (Nat.dvd_refl _), r.num.mono k (Nat.dvd_refl _)⟩
    · obtain ⟨a, b⟩ := h2 x (by simp [hx]) z hz
      exact ⟨a.mono (Nat.le_add_right _ _) (Nat.dvd_mul_right V W), b.mono (Nat.le_add_right _ _) (Nat.dvd_mul_right V W)⟩
  | l :: l' :: ls, ms, n, u, v, W, V, u1, v1, w0, v0, n4, ⟨o1, o2, o3⟩, p, h1, h2 => by
    intro x hx z hz
    rcases List.mem_cons.mp hx with rfl | hx
    · obtain ⟨a, b⟩ := h1 x (by simp) z hz
      have k : u ≤ v + 4 * (v * u) := by
        have : 1 * u ≤ v * u := Nat.mul_le_mul_right u v1
        omega
      exact ⟨a.mono k (Nat.dvd_mul_left W V), b.mono k (Nat.dvd_mul_left W V)⟩
    · exact behR_num (ls := l' :: ls) (ms := ms) u1 v1 w0 v0 o2.2 o3 p (fun y hy => h1 y (by simp [hy])) h2 x hx z hz
def uB (v u : Nat) : Nat → Nat
  | 0 => u
  | i + 1 => 4 * (v * uB v u i) + v
theorem uB_shift (v u : Nat) : ∀ i, uB v (4 * (v * u) + v) i = uB v u (i + 1)
  | 0 => rfl
  | i + 1 => by
    show 4 * (v * uB v (4 * (v * u) + v) i) + v = _
    rw [uB_shift v u i]
    rfl
theorem bd_cutQ {v D : Nat} {r : Rat} (h : Bd v D r) : Bd v D (cutQ r) := by
  unfold cutQ
  split
  · refine ⟨?_, Nat.one_dvd D⟩
    have := Rat.natCast_nonneg (a := v)
    exact ⟨by grind, this⟩
  · exact h
theorem rows_bd : ∀ {ls : List (List Sum2)} {x : List Rat} {u v W E : Nat}, x.length ≤ 4 → Over x.length ls → NumB v W ls → BdL u E x → 0 < W → 0 < E → ∀ (i : Nat) (l : List Rat), (rowsAt ls x)[i]? = some l → BdL (uB v u (i + 1)) (W ^ (i + 1) * E) l
  | [], _, _, _, _, _, _, _, _, _, _, _, _, _, h => by cases h
  | l0 :: ls, x, u, v, W, E, x4, ⟨o1, o2, o3⟩, hn, hx, w0, e0, i, l, h => by
    have row : BdL (4 * (v * u) + v) (W * E) (l0.map fun z => tells z x) := fun r hr => by
      obtain ⟨z, hz, rfl⟩ := List.mem_map.mp hr
      obtain ⟨a, b⟩ := hn l0 (by simp) z hz
      have hl := o1 z hz
      have t := bd_tells (F := W * E) (Nat.mul_pos w0 e0) (Nat.mul_pos w0 e0) (Nat.dvd_refl _) a (b.mono (Nat.le_refl _) (Nat.dvd_mul_right W E)) hx hl
      exact t.mono (Nat.add_le_add_right (Nat.mul_le_mul_right _ (by omega)) _) (Nat.dvd_refl _)
    cases i with
    | zero =>
      have e : (l0.map fun z => tells z x) = l := Option.some.inj h
      subst e
      show BdL (4 * (v * u) + v) (W ^ 1 * E) _
      rw [Nat.pow_one]
      exact row
    | succ i =>
      have h' : (rowsAt ls ((l0.map fun z => tells z x).map cutQ))[i]? = some l := h
      have xl : ((l0.map fun z => tells z x).map cutQ).length = l0.length := by rw [List.length_map, List.length_map]
      have r := rows_bd (ls := ls) (x := (l0.map fun z => tells z x).map cutQ) (u := 4 * (v * u) + v) (v := v) (W := W) (E := W * E) (by rw [xl]; exact o2.2) (by rw [xl]; exact o3) (fun y hy => hn y (by simp [hy])) (fun r hr => by
        obtain ⟨q, hq, rfl⟩ := List.mem_map.mp hr
        exact bd_cutQ (row q hq)) w0 (Nat.mul_pos w0 e0) i l h'
      rw [uB_shift] at r
      rw [show W ^ (i + 1 + 1) * E = W ^ (i + 1) * (W * E) by rw [Nat.pow_succ, Nat.mul_assoc]]
      exact r
theorem uB_lt : ∀ i, i ≤ 3 → uB (2 ^ 100) (2 ^ 100) (i + 1) ≤ 2 ^ 515
  | 0, _ => by decide +kernel
  | 1, _ => by decide +kernel
  | 2, _ => by decide +kernel
  | 3, _ => by decide +kernel
  | i + 4, h => by omega
theorem lastN_last : ∀ {ls : List (List Sum2)} {n : Nat} {l : List Sum2}, ls[ls.length - 1]? = some l → lastN n ls = l.length
  | [], _, _, h => by cases h
  | [_], _, _, h => by
    cases h
    rfl
  | l0 :: l' :: ls, n, l, h => lastN_last (ls := l' :: ls) (n := l0.length) h
end Nc
end
section
set_option maxRecDepth 100000
set_option maxHeartbeats 4000000
namespace Nc
open PySem PySem.Spec PyProof.Rows L2 Evl
/-! ### sums by a pattern: mathematics -/
def keep (n p : Nat) (ss : List Sum2) : List Sum2 := ss.mapIdx fun j s => if p / 2 ^ j % 2 = 1 then s else flat0 n
theorem keep_len (n p : Nat) (ss : List Sum2) : (keep n p ss).length = ss.length := List.length_mapIdx
theorem keep_at {n p j : Nat} {ss : List Sum2} {s : Sum2} (h : ss[j]? = some s) : (keep n p ss)[j]? = some (if p / 2 ^ j % 2 = 1 then s else flat0 n) := by
  unfold keep
  rw [List.getElem?_mapIdx, h]
  rfl
theorem keep_mem {n p : Nat} {ss : List Sum2} {s : Sum2} (h : s ∈ keep n p ss) : s ∈ ss ∨ s = flat0 n := by
  obtain ⟨j, hj⟩ := List.mem_iff_getElem?.mp h
  cases e : ss[j]? with
  | none =>
    unfold keep at hj
    rw [List.getElem?_mapIdx, e] at hj
    cases hj
  | some t =>
    rw [keep_at e] at hj
    have := Option.some.inj hj
    rw [← this]
    split
    · exact .inl (List.mem_of_getElem? e)
    · exact .inr rfl
def thrRow (n : Nat) (A l : List Sum2) : List Sum2 := l.map fun z => thr z A A n
def byR (n : Nat) : List (List Sum2) → Nat → List Sum2 → List (List Sum2)
  | [], _, _ => []
  | l :: ls, p, A => thrRow n A l :: byR n ls (p / 2 ^ l.length) (keep n p (thrRow n A l))
theorem byR_length {n : Nat} : ∀ {ls : List (List Sum2)} {p : Nat} {A : List Sum2}, (byR n ls p A).length = ls.length
  | [], _, _ => rfl
  | _ :: _, _, _ => by
    show (byR n _ _ _).length + 1 = _
    rw [byR_length]
    rfl
/-- rows of tops below 2 ^ 100 and bottom 6, numbers of bottom 6 M -/
def NumC (M : Nat) (ls : List (List Sum2)) : Prop := ∀ l ∈ ls, ∀ z ∈ l, SvL 100 6 z.1 ∧ Sv 1500 (6 * M) z.2
structure MidC (ls : List (List Sum2)) (n p0 M i : Nat) (dn : List (List Sum2)) (A : List Sum2) (p : Nat) : Prop where
  eq : byR n ls p0 (units n) = dn ++ byR n (ls.drop i) p A
  len : dn.length = i
  over : Over A.length (ls.drop i)
  bd : ∀ s ∈ A, BdS n (2 ^ (1500 + 110 * i)) (6 ^ i) (6 ^ i * M) s
  a4 : A.length ≤ 4
theorem units_bC {n v : Nat} (hv : 1 ≤ v) (Dc Dn : Nat) : ∀ s ∈ units n, BdS n v Dc Dn s := fun s hs => by
  obtain ⟨p, _, rfl⟩ := List.mem_map.mp hs
  refine ⟨by show (unit n p).length = n; unfold unit; rw [List.length_map, List.length_range], fun r hr => ?_, bd_zero _ _⟩
  obtain ⟨i, _, rfl⟩ := List.mem_map.mp hr
  have h1 : (1 : Rat) ≤ ((v : Nat) : Rat) := by
    have : ((1 : Nat) : Rat) ≤ ((v : Nat) : Rat) := by exact_mod_cast hv
    exact this
  split
  · refine ⟨⟨?_, h1⟩, Nat.one_dvd _⟩
    generalize ((v : Nat) : Rat) = T at h1
    grind
  · exact bd_zero _ _
theorem midC0 {ls : List (List Sum2)} {n p0 M : Nat} (h3 : n ≤ 3) (ov : Over n ls) : MidC ls n p0 M 0 [] (units n) p0 := by
  refine ⟨rfl, rfl, by rw [units_len]; exact ov, units_bC (Nat.one_le_two_pow) _ _, by rw [units_len]; omega⟩
/-- what one layer needs -/
structure LkC (n M i : Nat) (A l : List Sum2) : Prop where
  len : ∀ z ∈ l, z.1.length = A.length
  many : l.length ≤ 4
  row : ∀ z ∈ l, BdL (2 ^ 100) 6 z.1
  num : ∀ z ∈ l, Bd (2 ^ 1500) (6 * (6 ^ i * M)) z.2
  c0 : 0 < 6 ^ i
  n0 : 0 < 6 ^ i * M
  cl : 6 * 6 ^ i < 2 ^ 1342
  nl : 6 * (6 ^ i * M) < 2 ^ 1342
  ml : 2 ^ (1500 + 110 * i) ≤ 2 ^ 2000
  sl : 2 ^ 1500 + 4 * (2 ^ 100 * 2 ^ (1500 + 110 * i)) ≤ 2 ^ 2000
  bd : ∀ s ∈ thrRow n A l, BdS n (2 ^ (1500 + 110 * (i + 1))) (6 ^ (i + 1)) (6 ^ (i + 1) * M) s
theorem pw_step (i : Nat) : 2 ^ 1500 + 4 * (2 ^ 100 * 2 ^ (1500 + 110 * i)) ≤ 2 ^ (1500 + 110 * (i + 1)) := by
  have e1 : (2 : Nat) ^ (1500 + 110 * (i + 1)) = 2 ^ (1500 + 110 * i) * 2 ^ 110 := by rw [← Nat.pow_add, show 1500 + 110 * (i + 1) = 1500 + 110 * i + 110 by omega]
  have e2 : (2 : Nat) ^ 110 = 2 ^ 100 * 1024 := Nat.pow_add 2 100 10
  have h1 : (2 : Nat) ^ 1500 ≤ 2 ^ (1500 + 110 * i) := Nat.pow_le_pow_right (by decide) (by omega)
  have h2 : 1 ≤ (2 : Nat) ^ 100 := Nat.one_le_two_pow
  rw [e1, e2]
  generalize (2 : Nat) ^ (1500 + 110 * i) = P at *
  generalize (2 : Nat) ^ 1500 = T at *
  generalize (2 : Nat) ^ 100 = S at *
  have h3 : P * 1 ≤ P * S := Nat.mul_le_mul_left _ h2
  have h4 : P * (S * 1024) = 1024 * (P * S) := by rw [← Nat.mul_assoc, Nat.mul_comm]
  have h5 : 4 * (S * P) = 4 * (P * S) := by rw [Nat.mul_comm S P]
  omega
theorem midC_step {ls : List (List Sum2)} {n p0 M i p : Nat} {dn : List (List Sum2)} {A l : List Sum2} (M0 : 0 < M) (hM : M ≤ 2 ^ 1330) (l4 : ls.length ≤ 4) (nu : NumC M ls) (m : MidC ls n p0 M i dn A p) (hl : ls[i]? = some l) :
    LkC n M i A l ∧ (byR n ls p0 (units n))[i]? = some (thrRow n A l) ∧ MidC ls n p0 M (i + 1) (dn ++ [thrRow n A l]) (keep n p (thrRow n A l)) (p / 2 ^ l.length) := by
  have hi := (List.getElem?_eq_some_iff.mp hl).1
  have i3 : i ≤ 3 := by omega
  obtain ⟨eq, len, over, bd, a4⟩ := m
  rw [drop_at hl] at eq over
  have six : 6 ^ i ≤ 6 ^ 3 := Nat.pow_le_pow_right (by decide) i3
  have six0 : 0 < 6 ^ i := Nat.pow_pos (by decide)
  have e6 : 6 ^ (i + 1) = 6 * 6 ^ i := by rw [Nat.pow_succ, Nat.mul_comm]
  have hn : 6 * (6 ^ i * M) < 2 ^ 1342 := by
    have h1 : 6 * (6 ^ i * M) ≤ 6 * (6 ^ 3 * 2 ^ 1330) := Nat.mul_le_mul_left 6 (Nat.mul_le_mul six hM)
    have e : (2 : Nat) ^ 1342 = 2 ^ 1330 * 4096 := Nat.pow_add 2 1330 12
    have h0 : 0 < (2 : Nat) ^ 1330 := Nat.pow_pos (by decide)
    rw [e]
    generalize (2 : Nat) ^ 1330 = T at *
    have e3 : (6 : Nat) ^ 3 = 216 := by decide
    rw [e3] at h1
    omega
  have num : ∀ z ∈ l, Bd (2 ^ 1500) (6 * (6 ^ i * M)) z.2 := fun z hz => by
    have h := sv_bd (nu l (List.mem_of_getElem? hl) z hz).2
    exact h.mono (Nat.le_refl _) (Nat.mul_dvd_mul_left 6 (Nat.dvd_mul_left _ _))
  have row : ∀ z ∈ l, BdL (2 ^ 100) 6 z.1 := fun z hz r hr => sv_bd ((nu l (List.mem_of_getElem? hl) z hz).1 r hr)
  have bds : ∀ s ∈ thrRow n A l, BdS n (2 ^ (1500 + 110 * (i + 1))) (6 ^ (i + 1)) (6 ^ (i + 1) * M) s := fun s hs => by
    obtain ⟨z, hz, rfl⟩ := List.mem_map.mp hs
    have h := bds_thr (n := n) (a := 2 ^ 1500) (v := 2 ^ 100) (u := 2 ^ (1500 + 110 * i)) (D := 6) (Dc := 6 ^ i) (Dn := 6 ^ i * M) (z := z) (A := A) (B := A) (by omega) (Nat.mul_pos (by decide) (Nat.mul_pos six0 M0)) (row z hz) (num z hz) bd bd (over.1 z hz) rfl
    refine h.mono (Nat.le_trans ?_ (pw_step i)) (by rw [e6]; exact Nat.dvd_refl _) (by rw [e6, Nat.mul_assoc]; exact Nat.dvd_refl _)
    exact Nat.add_le_add_left (Nat.mul_le_mul_right _ (by rw [over.1 z hz]; exact a4)) _
  refine ⟨⟨over.1, over.2.1.2, row, num, six0, Nat.mul_pos six0 M0, ?_, hn, ?_, ?_, bds⟩, ?_, ?_⟩
  · refine Nat.lt_of_le_of_lt (Nat.mul_le_mul_left 6 six) (Nat.lt_of_lt_of_le (m := 2 ^ 11) (by decide) (Nat.pow_le_pow_right (by decide) (by decide)))
  · exact Nat.pow_le_pow_right (by decide) (by omega)
  · exact Nat.le_trans (pw_step i) (Nat.pow_le_pow_right (by decide) (by omega))
  · rw [eq]
    rw [List.getElem?_append_right (by omega), len, Nat.sub_self]
    rfl
  · refine ⟨?_, by simp [len], ?_, fun s hs => ?_, by rw [keep_len]; show (l.map _).length ≤ 4; rw [List.length_map]; exact over.2.1.2⟩
    · rw [eq, List.append_assoc]
      rfl
    · rw [keep_len]
      show Over (l.map _).length _
      rw [List.length_map]
      exact over.2.2
    · rcases keep_mem hs with h | rfl
      · exact bds s h
      · exact bds_flat0 _ _ _ _
/-! ### the pattern of a row of numbers -/
def patN : List Rat → Nat
  | [] => 0
  | r :: rs => (if 0 < r.num then 1 else 0) + 2 * patN rs
theorem patN_lt : ∀ rs : List Rat, patN rs < 2 ^ rs.length
  | [] => by decide
  | r :: rs => by
    have := patN_lt rs
    have e : 2 ^ (r :: rs).length = 2 * 2 ^ rs.length := by rw [List.length_cons, Nat.pow_succ, Nat.mul_comm]
    rw [e]
    show (if 0 < r.num then 1 else 0) + 2 * patN rs < _
    split <;> omega
theorem patN_snoc (r : Rat) : ∀ rs : List Rat, patN (rs ++ [r]) = patN rs + (if 0 < r.num then 2 ^ rs.length else 0)
  | [] => by
    show (if 0 < r.num then 1 else 0) + 2 * 0 = 0 + _
    split <;> simp
  | q :: rs => by
    show (if 0 < q.num then 1 else 0) + 2 * patN (rs ++ [r]) = (if 0 < q.num then 1 else 0) + 2 * patN rs + _
    rw [patN_snoc r rs, List.length_cons, Nat.pow_succ]
    split <;> split <;> omega
theorem patN_drop (ys : List Rat) : ∀ xs : List Rat, patN (xs ++ ys) / 2 ^ xs.length = patN ys
  | [] => by
    show patN ys / 1 = _
    rw [Nat.div_one]
  | x :: xs => by
    have ih := patN_drop ys xs
    rw [List.length_cons, Nat.pow_succ, Nat.mul_comm, ← Nat.div_div_eq_div_mul]
    have e : patN (x :: xs ++ ys) / 2 = patN (xs ++ ys) := by
      show ((if 0 < x.num then 1 else 0) + 2 * patN (xs ++ ys)) / 2 = _
      split <;> omega
    rw [e, ih]
theorem patN_bit {r : Rat} : ∀ {rs : List Rat} {j : Nat}, rs[j]? = some r → (patN rs / 2 ^ j % 2 = 1 ↔ 0 < r.num)
  | [], _, h => by simp at h
  | x :: xs, 0, h => by
    have e : x = r := by simpa using h
    subst e
    show ((if 0 < x.num then 1 else 0) + 2 * patN xs) / 1 % 2 = 1 ↔ _
    rw [Nat.div_one]
    split
    · next h0 => exact ⟨fun _ => h0, fun _ => by omega⟩
    · next h0 => exact ⟨fun z => by omega, fun z => absurd z h0⟩
  | x :: xs, j + 1, h => by
    have ih := patN_bit (rs := xs) (j := j) (by simpa using h)
    rw [Nat.pow_succ, Nat.mul_comm, ← Nat.div_div_eq_div_mul]
    have e : patN (x :: xs) / 2 = patN xs := by
      show ((if 0 < x.num then 1 else 0) + 2 * patN xs) / 2 = _
      split <;> omega
    rw [e]
    exact ih
theorem tells_flat0 {n : Nat} {x : List Rat} : tells (flat0 n) x = 0 := by
  have e : ∀ (k : Nat) (x : List Rat), weighs ((List.replicate k (0 : Rat)).zip x) = 0 := by
    intro k
    induction k with
    | zero => intro x; rfl
    | succ k ih =>
      intro x
      cases x with
      | nil => rfl
      | cons y x =>
        rw [List.replicate_succ]
        show weighs ((0, y) :: (List.replicate k 0).zip x) = 0
        rw [weighs_cons, ih x, Rat.zero_mul, Rat.add_zero]
  show weighs ((List.replicate n (0 : Rat)).zip x) + 0 = 0
  rw [e, Rat.add_zero]
theorem tells_units {n : Nat} {x : List Rat} (h : x.length = n) : (units n).map (fun s => tells s x) = x := by
  refine List.ext_getElem (by rw [List.length_map, units_len, h]) fun k h1 h2 => ?_
  have b := btw_units h
  have hk : k < (units n).length := by rw [List.length_map] at h1; exact h1
  have hz : ((units n).zip (units n))[k]? = some ((units n)[k], (units n)[k]) := by
    rw [List.getElem?_zip_eq_some]
    exact ⟨List.getElem?_eq_getElem hk, List.getElem?_eq_getElem hk⟩
  obtain ⟨r, hr, _, _, b1, b2⟩ := pget b hz
  have e := Option.some.inj ((List.getElem?_eq_getElem h2).symm.trans hr)
  subst e
  rw [List.getElem_map]
  exact Rat.le_antisymm b1 b2
theorem by_spot {n : Nat} {x : List Rat} : ∀ {ls : List (List Sum2)} {A : List Sum2} {p : Nat}, Over A.length ls → (∀ a ∈ A, a.1.length = n) → p = patN (rowsAt ls (A.map fun s => tells s x)).dropLast.flatten →
    (byR n ls p A).map (fun l => l.map fun s => tells s x) = rowsAt ls (A.map fun s => tells s x)
  | [], _, _, _, _, _ => rfl
  | l :: ls, A, p, ov, hA, hp => by
    have e1 : (thrRow n A l).map (fun s => tells s x) = l.map fun z => tells z (A.map fun s => tells s x) := by
      unfold thrRow
      rw [List.map_map]
      refine List.map_congr_left fun z hz => ?_
      exact thr_tells (ov.1 z hz) hA
    show (thrRow n A l).map (fun s => tells s x) :: (byR n ls (p / 2 ^ l.length) (keep n p (thrRow n A l))).map _ = (l.map fun z => tells z (A.map fun s => tells s x)) :: rowsAt ls ((l.map fun z => tells z (A.map fun s => tells s x)).map cutQ)
    rw [e1]
    cases ls with
    | nil => rfl
    | cons l2 ls =>
      generalize hrow : (l.map fun z => tells z (A.map fun s => tells s x)) = row at e1
      have hrl : row.length = l.length := by rw [← hrow, List.length_map]
      have hp2 : p = patN (row ++ (rowsAt (l2 :: ls) (row.map cutQ)).dropLast.flatten) := by
        rw [hp]
        show patN ((l.map fun z => tells z (A.map fun s => tells s x)) :: rowsAt (l2 :: ls) ((l.map fun z => tells z (A.map fun s => tells s x)).map cutQ)).dropLast.flatten = _
        rw [hrow]
        rfl
      have kA : (keep n p (thrRow n A l)).map (fun s => tells s x) = row.map cutQ := by
        refine List.ext_getElem? fun j => ?_
        rw [List.getElem?_map, List.getElem?_map]
        cases hs : (thrRow n A l)[j]? with
        | none =>
          have hlen := List.getElem?_eq_none_iff.mp hs
          have l1 : (thrRow n A l).length = l.length := List.length_map ..
          rw [List.getElem?_eq_none (by rw [keep_len]; exact hlen), List.getElem?_eq_none (by omega)]
          rfl
        | some s =>
          have hr : row[j]? = some (tells s x) := by
            rw [← e1, List.getElem?_map, hs]
            rfl
          rw [keep_at hs, hr]
          have hjl := (List.getElem?_eq_some_iff.mp hr).1
          have hb := patN_bit (rs := row ++ (rowsAt (l2 :: ls) (row.map cutQ)).dropLast.flatten) (j := j) (r := tells s x) (by rw [List.getElem?_append_left hjl]; exact hr)
          rw [← hp2] at hb
          show some (tells (if p / 2 ^ j % 2 = 1 then s else flat0 n) x) = some (cutQ (tells s x))
          congr 1
          unfold cutQ
          by_cases h0 : 0 < (tells s x).num
          · rw [if_pos (hb.mpr h0), if_neg (by omega)]
          · rw [if_neg (fun z => h0 (hb.mp z)), tells_flat0]
            split
            · rfl
            · exact (Rat.num_eq_zero.mp (by omega)).symm
      have hq : p / 2 ^ l.length = patN (rowsAt (l2 :: ls) (row.map cutQ)).dropLast.flatten := by
        rw [← hrl, hp2, patN_drop]
      congr 1
      rw [← kA] at hq ⊢
      refine by_spot ?_ (fun a ha => ?_) hq
      · rw [keep_len]
        show Over (l.map _).length _
        rw [List.length_map]
        exact ov.2.2
      · rcases keep_mem ha with h | rfl
        · obtain ⟨z, hz, rfl⟩ := List.mem_map.mp h
          rw [thr_melt (ov.1 z hz) hA]
          show ((List.range n).map _).length = n
          rw [List.length_map, List.length_range]
        · exact List.length_replicate ..
/-- how many nodes are hidden -/
def hid (ls : List (List Sum2)) : Nat := (ls.dropLast.map List.length).sum
theorem rows_hid {x : List Rat} : ∀ {ls : List (List Sum2)} {X : List Rat}, (rowsAt ls X).dropLast.flatten.length = hid ls
  | [], _ => rfl
  | [_], _ => rfl
  | l :: l2 :: ls, X => by
    show ((l.map fun z => tells z X) :: rowsAt (l2 :: ls) ((l.map fun z => tells z X).map cutQ)).dropLast.flatten.length = _
    have ih := rows_hid (x := x) (ls := l2 :: ls) (X := (l.map fun z => tells z X).map cutQ)
    show ((l.map fun z => tells z X) ++ (rowsAt (l2 :: ls) _).dropLast.flatten).length = l.length + hid (l2 :: ls)
    rw [List.length_append, List.length_map, ih]
theorem hid_le : ∀ {ls : List (List Sum2)} {n : Nat}, Over n ls → hid ls ≤ 4 * (ls.length - 1)
  | [], _, _ => Nat.le_refl _
  | [_], _, _ => Nat.le_refl _
  | l :: l2 :: ls, n, ov => by
    have ih := hid_le (ls := l2 :: ls) ov.2.2
    show l.length + hid (l2 :: ls) ≤ _
    have := ov.2.1.2
    simp only [List.length_cons] at *
    omega
end Nc
end
section
set_option maxRecDepth 100000
/-! NcL3: comprehensions with any number of fors, clause by clause; three as a value. -/
namespace L2
open PySem PySem.Spec PyProof.Rows

/-- a clause's turn: its tests, then what is done behind them (told by what follows it) -/
def turnBy (e : Expr) (d : Nat) (tg src : Expr) (ifs : List Expr) (work : Sem Fin → Sem Fin) (it acc : Value) (env : Env) : Sem Fin := do
  standAt src.pos
  match ← pyNext it with
  | none => pure (.done .next)
  | some u =>
    letOwnedTupleGo tg it u
    assign tg env u
    let mut good := true
    for t in ifs do
      if good then good ← isTrue t env (eval t env)
    if good then work (again (.compLoop e d it acc env)) else again (.compLoop e d it acc env)
/-- an item is appended -/
def putOne (elt : Expr) (acc : Value) (env : Env) (k : Sem Fin) : Sem Fin := (do let _ ← call (.builtin "list.append") [acc, ← eval elt env]) >>= fun _ => k
/-- the next clause -/
def goDeep (e : Expr) (d : Nat) (src : Expr) (acc : Value) (env : Env) (k : Sem Fin) : Sem Fin := do
  let u ← eval src env
  standAt src.pos
  let u ← foldedSetIterable src env u
  let _ ← runOwn (.compStart e d (← holding [u] (pyIter u)) acc env) env
  k
section
variable (elt t0 i0 t1 i1 t2 i2 : Expr) (f0 f1 f2 : List Expr) (scope : Scope) (pos : Pos) (it acc : Value) (env : Env)
theorem turn3_0 : compTurn (.ListComp elt [⟨t0, i0, f0, 0⟩, ⟨t1, i1, f1, 0⟩, ⟨t2, i2, f2, 0⟩] scope pos) 0 it acc env =
    turnBy (.ListComp elt [⟨t0, i0, f0, 0⟩, ⟨t1, i1, f1, 0⟩, ⟨t2, i2, f2, 0⟩] scope pos) 0 t0 i0 f0 (goDeep (.ListComp elt [⟨t0, i0, f0, 0⟩, ⟨t1, i1, f1, 0⟩, ⟨t2, i2, f2, 0⟩] scope pos) 1 i1 acc env) it acc env := by rfl
theorem turn3_1 : compTurn (.ListComp elt [⟨t0, i0, f0, 0⟩, ⟨t1, i1, f1, 0⟩, ⟨t2, i2, f2, 0⟩] scope pos) 1 it acc env =
    turnBy (.ListComp elt [⟨t0, i0, f0, 0⟩, ⟨t1, i1, f1, 0⟩, ⟨t2, i2, f2, 0⟩] scope pos) 1 t1 i1 f1 (goDeep (.ListComp elt [⟨t0, i0, f0, 0⟩, ⟨t1, i1, f1, 0⟩, ⟨t2, i2, f2, 0⟩] scope pos) 2 i2 acc env) it acc env := by rfl
theorem turn3_2 : compTurn (.ListComp elt [⟨t0, i0, f0, 0⟩, ⟨t1, i1, f1, 0⟩, ⟨t2, i2, f2, 0⟩] scope pos) 2 it acc env =
    turnBy (.ListComp elt [⟨t0, i0, f0, 0⟩, ⟨t1, i1, f1, 0⟩, ⟨t2, i2, f2, 0⟩] scope pos) 2 t2 i2 f2 (putOne elt acc env) it acc env := by rfl
end

/-- what a clause's work needs, that Nx be reached -/
abbrev TB := St → Hp → (Hp → Prop) → Prop
def WorkOk (X : Cx) (vs : List Nat) (work : Sem Fin → Sem Fin) (tb : TB) : Prop :=
  ∀ (pins : List (Addr × Obj)) (s : Shared) (σ : St) (H : Hp) (Nx : Hp → Prop) (k : Sem Fin) (Qf : Fin → Shared → Prop) (E : Value → Shared → Prop), Inv X pins σ H s → tb σ H Nx →
    (∀ σ' H' s', Inv X pins σ' H' s' → wipe σ' vs = wipe σ vs → Nx H' → wpAny (model X.prog X.w) X.A k Qf E s') → wpAny (model X.prog X.w) X.A (work k) Qf E s
theorem noErr {α : Type} {X : Cx} {t : Sem α} {Q Q' : α → Shared → Prop} {A : Around} {E : Value → Shared → Prop} {s : Shared} (hx : ∀ v s, ¬ X.xe v s) (h : wpAny (model X.prog X.w) A t Q X.xe s) (hQ : ∀ a s, Q a s → Q' a s) : wpAny (model X.prog X.w) A t Q' E s :=
  wpAny_mono h hQ fun v s z => (hx v s z).elim
/-- a clause's walk, from the iterator J on: each turn reaches Nx, and Nx the next turn; behind the last Last holds -/
def Walk (J : It) (g : TG) (tt : TT) (tb : TB) (vs : List Nat) (σ : St) (Last : Hp → Prop) (W : Nat → Nat → Hp → Prop) : Prop := ∀ i m H, W i m H →
  (J.stop i H ∧ Last H) ∨ (J.go i H ∧ ∃ Nx : Hp → Prop, (∀ H', Nx H' → ∃ m', m' < m ∧ W (i + 1) m' H') ∧ ∀ x H', J.yld i H x H' → g x (wipe σ vs) H' fun σ2 H2 => wipe σ2 vs = wipe σ vs ∧ tt σ2 H2 fun b H3 => if b = true then tb σ2 H3 Nx else Nx H3)
theorem wipe_sub {vs : List Nat} : ∀ {us : List Nat} {σ τ : St}, (∀ i ∈ us, i ∈ vs) → wipe σ us = wipe τ us → wipe σ vs = wipe τ vs := by
  intro us σ τ hs h
  have hl : σ.length = τ.length := by rw [← wipe_length σ us, h, wipe_length]
  refine List.ext_getElem? fun i => ?_
  by_cases hi : i ∈ vs
  · have hn : ∀ ρ : St, (wipe ρ vs)[i]? = if i < ρ.length then some none else none := by
      intro ρ
      by_cases hl : i < ρ.length
      · rw [if_pos hl]
        have h2 : i < (wipe ρ vs).length := by rw [wipe_length]; exact hl
        cases hv : (wipe ρ vs)[i]? with
        | none => rw [List.getElem?_eq_none_iff] at hv; omega
        | some o =>
          cases o with
          | none => rfl
          | some x => exact absurd hi (wipe_some hv).2
      · rw [if_neg hl]
        exact List.getElem?_eq_none (by rw [wipe_length]; omega)
    rw [hn, hn, hl]
  · rw [wipe_out hi, wipe_out hi]
    have hu : i ∉ us := fun z => hi (hs i z)
    rw [← wipe_out (σ := σ) hu, ← wipe_out (σ := τ) hu, h]
theorem wipe_wipe (σ : St) (vs : List Nat) : wipe (wipe σ vs) vs = wipe σ vs := by
  refine List.ext_getElem? fun i => ?_
  by_cases hi : i ∈ vs
  · have h1 : ∀ ρ : St, ρ.length = σ.length → (wipe ρ vs)[i]? = if i < σ.length then some none else none := by
      intro ρ e
      by_cases hl : i < σ.length
      · rw [if_pos hl]
        cases hv : (wipe ρ vs)[i]? with
        | none =>
          have := List.getElem?_eq_none_iff.mp hv
          rw [wipe_length] at this
          omega
        | some o =>
          cases o with
          | none => rfl
          | some x => exact absurd hi (wipe_some hv).2
      · rw [if_neg hl]
        exact List.getElem?_eq_none (by rw [wipe_length]; omega)
    rw [h1 _ (wipe_length σ vs), h1 σ rfl]
  · rw [wipe_out hi]
theorem Inv.wiped {X : Cx} {pins : List (Addr × Obj)} {σ τ : St} {H : Hp} {s : Shared} {vs : List Nat} (I : Inv X pins τ H s) (h : wipe τ vs = wipe σ vs) : Inv X pins (wipe σ vs) H s :=
  I.weak (by rw [← h, wipe_length]) fun i v e => by
    rw [← h] at e
    exact (wipe_some e).1
section
variable {X : Cx}
/-- the loop of the clause at depth d -/
theorem loop_by (hx : ∀ v s, ¬ X.xe v s) (hc : X.calm = true) {elt : Expr} {gens : List Comprehension} {scope : Scope} {pos : Pos} {d : Nat} {tg src : Expr} {ifs : List Expr} {work : Sem Fin → Sem Fin} {acc : Value} {vs us : List Nat} {g : TG} {tt : TT} {tb : TB}
    (heq : ∀ it, compTurn (.ListComp elt gens scope pos) d it acc X.env = turnBy (.ListComp elt gens scope pos) d tg src ifs work it acc X.env)
    (hg : PG X tg g) (ht : PTs X ifs tt) (hw : WorkOk X us work tb) (hs : ∀ i ∈ us, i ∈ vs)
    {J : It} {fp : List Addr} {it : Addr} {tn : Nat → Heap → Prop} (T : Turn X.prog X.w X.K tg J fp it tn) {pins : List (Addr × Obj)} {σ : St} {H : Hp} {s : Shared} {Last : Hp → Prop} {W : Nat → Nat → Hp → Prop} {R : Result → Shared → Prop} {m0 : Nat}
    (hW : Walk J g tt tb vs σ Last W) (I : Inv X pins (wipe σ vs) H s) (st : tn 0 s.heap) (hf : ∀ b ∈ fp, FpOk X pins H b) (w0 : W 0 m0 H)
    (hR : ∀ s' H', Inv X pins (wipe σ vs) H' s' → Last H' → R (.ok .next) s') :
    codeAny (model X.prog X.w) X.A (.compLoop (.ListComp elt gens scope pos) d (.ref it) acc X.env) R s := by
  have keepF : ∀ {H' : Hp}, (∀ b ∈ fp, H' b = none) → ∀ b ∈ fp, FpOk X pins H' b := fun hn b hb => ⟨hn b hb, (hf b hb).2⟩
  refine codeAny_loop rfl (fun n t => ∃ i H', Inv X pins (wipe σ vs) H' t ∧ tn i t.heap ∧ (∀ b ∈ fp, H' b = none) ∧ W i n H') (fun n t hI => ?_) m0 ⟨0, H, I, st, fun b hb => (hf b hb).1, w0⟩
  show wpAny _ X.A ((compTurn (.ListComp elt gens scope pos) d (.ref it) acc X.env).onRaise (fun z => do noteFrame z X.env; theTreesLotGoes z)) _ _ t
  refine wpAny_noted ?_
  rw [heq]
  unfold turnBy
  obtain ⟨i, H1, I1, st1, n1, w1⟩ := hI
  refine wpAny_bind (wpAny_standAt (wpAny_bind ?_))
  rcases hW i n H1 w1 with ⟨stop, lst⟩ | ⟨go, Nx, hNx, step⟩
  · refine thnF (T.done X rfl rfl rfl hc i pins t _ H1 (fun _ _ => False) I1 (keepF n1) st1 stop) fun r t2 ⟨hr, I2⟩ => ?_
    subst hr
    exact wpAny_pure (hR t2 H1 I2 lst)
  refine thnF (T.item X rfl rfl rfl hc i pins t _ H1 (fun _ _ => False) I1 (keepF n1) st1 go) fun r t2 ⟨u, hr, h2⟩ => ?_
  subst hr
  refine wpAny_bind (thnF h2 fun _ t3 ⟨x, H3, I3, r3, y3, st3, n3⟩ => ?_)
  have I3' := I3.pinned (keepF n3) (T.obj _ _ st3)
  refine wpAny_bind (noErr hx (hg.run _ t3 _ H3 x u _ I3' r3 (step x H3 y3)) fun _ t4 ⟨σ4, H4, I4, e4, q4⟩ => ?_)
  -- the turn is over
  have over : ∀ {σ' : St} {t' : Shared} {H' : Hp}, Inv X (pins ++ pinsAt fp t3.heap) σ' H' t' → wipe σ' vs = wipe σ vs → Nx H' → ∃ m, m < n ∧ ∃ i H', Inv X pins (wipe σ vs) H' t' ∧ tn i t'.heap ∧ (∀ b ∈ fp, H' b = none) ∧ W i m H' := by
    intro σ' t' H' I' e' nx
    obtain ⟨m', hm, w'⟩ := hNx H' nx
    have stands : ∀ b ∈ fp, ∀ o, t3.heap.get? b = some o → t'.heap.get? b = some o ∧ H' b = none := fun b hb o e =>
      have z := I'.pin (b, o) (List.mem_append_right _ (List.mem_append_right _ (mem_pinsAt hb e)))
      ⟨z.1, z.2.1⟩
    refine ⟨m', hm, i + 1, H', I'.unpinned.wiped e', T.keep _ _ _ st3 fun b hb o e => (stands b hb o e).1, fun b hb => ?_, w'⟩
    obtain ⟨o, e, _⟩ := T.obj _ _ st3 b hb
    exact (stands b hb o e).2
  refine wpAny_bind (noErr hx (ht.run _ t4 σ4 H4 _ I4 q4) fun b t5 ⟨H5, I5, q5⟩ => ?_)
  cases b with
  | false => exact wpAny_pure ⟨rfl, over I5 e4 q5⟩
  | true =>
    refine hw _ t5 σ4 H5 Nx _ _ _ I5 q5 fun σ6 H6 t6 I6 e6 nx => ?_
    exact wpAny_pure ⟨rfl, over I6 ((wipe_sub hs e6).trans e4) nx⟩
/-- an item is appended -/
theorem work_put (hx : ∀ v s, ¬ X.xe v s) {elt : Expr} {te : TE} {D : Addr} {us : List Nat} (he : PE X elt te) :
    WorkOk X us (putOne elt (.ref D) X.env) fun σ H Nx => te σ H fun y H1 => ∃ acc, H1 D = some (.lst acc) ∧ acc.length < sizeLine ∧ Nx (upd H1 D (.lst (acc ++ [y]))) := by
  intro pins s σ H Nx k Qf E I h hk
  unfold putOne
  refine wpAny_bind (wpAny_bind (noErr hx (he.run _ s σ H _ I h) fun z s1 ⟨y, H1, I1, r1, acc, hD, hz, nx⟩ => ?_))
  exact wpAny_bind (app_ok (X := X) I1 hD hz r1 fun s2 I2 => wpAny_pure (hk σ _ s2 I2 rfl nx))
/-- the start of a clause behind the first -/
theorem start_by {elt : Expr} {gens : List Comprehension} {scope : Scope} {pos : Pos} {d : Nat} {tg src : Expr} {ifs : List Expr} {prog : Program} {w : World} {A : Around} {acc it : Value} {env : Env} {R : Result → Shared → Prop} {s : Shared} (hd : gens[d]? = some ⟨tg, src, ifs, 0⟩)
    (h0 : codeAny (model prog w) A (.compLoop (.ListComp elt gens scope pos) d it acc env) R s)
    (h : ∀ E, wpAny (model prog w) A (pyIter it) (fun it' s' => codeAny (model prog w) A (.compLoop (.ListComp elt gens scope pos) d it' acc env) R s') E s) :
    codeAny (model prog w) A (.compStart (.ListComp elt gens scope pos) d it acc env) R s := by
  refine codeAny_of_tree ?_
  show wpAny _ _ ((compStart (.ListComp elt gens scope pos) d it acc env).onRaise (fun z => do noteFrame z env; standAt theWindowsPlace)) _ _ s
  refine wpAny_notedAt ?_
  have hcl : clausesOf (.ListComp elt gens scope pos) = gens := rfl
  unfold compStart
  rw [hcl, hd]
  show wpAny _ _ (ask >>= _) _ _ s
  refine wpAny_bind (wpAny_askSetting (wpAny_ite ?_))
  split
  · first
      | exact wpAny_bind (wpAny_pure (wpAny_pure ⟨rfl, h0⟩))
      | exact wpAny_pure ⟨rfl, h0⟩
  · refine wpAny_bind (wpAny_rule ?_)
    show wpAny _ _ (standAt src.pos >>= _) _ _ s
    exact wpAny_bind (wpAny_standAt (wpAny_bind (wpAny_mono (h _) (fun it' s' h' => wpAny_pure ⟨rfl, h'⟩) fun _ _ z => z)))
/-- a clause behind the first, with what is behind it -/
theorem work_deep (hx : ∀ v s, ¬ X.xe v s) (hc : X.calm = true) {elt : Expr} {gens : List Comprehension} {scope : Scope} {pos : Pos} {d : Nat} {tg src : Expr} {ifs : List Expr} {work : Sem Fin → Sem Fin} {D : Addr} {vs us : List Nat} {wi : TI} {g : TG} {tt : TT} {tb : TB}
    (hd : gens[d]? = some ⟨tg, src, ifs, 0⟩) (heq : ∀ it, compTurn (.ListComp elt gens scope pos) d it (.ref D) X.env = turnBy (.ListComp elt gens scope pos) d tg src ifs work it (.ref D) X.env)
    (hi : PI X tg src wi) (hg : PG X tg g) (ht : PTs X ifs tt) (hw : WorkOk X us work tb) (hs : ∀ i ∈ us, i ∈ vs) (hfold : ∀ env x, foldedSetIterable src env x = pure x) :
    WorkOk X vs (goDeep (.ListComp elt gens scope pos) d src (.ref D) X.env) fun σ H Nx => wi σ H fun J H1 => ∃ W : Nat → Nat → Hp → Prop, (∃ m, W 0 m H1) ∧ Walk J g tt tb vs σ Nx W := by
  intro pins s σ H Nx k Qf E I h hk
  unfold goDeep
  refine wpAny_bind (noErr hx (hi.run pins s σ H _ I h) fun xv s1 hxv => ?_)
  refine wpAny_bind (wpAny_standAt (wpAny_bind (wpAny_of_eq (hfold _ xv) (wpAny_bind (wpAny_holding (noErr hx hxv fun itv s2 h2 => ?_))))))
  obtain ⟨it, fp, tn, J, H2, e, I2, T, st2, f2, W, ⟨m0, w0⟩, hW⟩ := h2
  subst e
  refine wpAny_bind (wpAny_runOwn ?_)
  rw [Around.mark_none]
  have lp := loop_by (R := fun r s' => match r with | .ok f => wpAny (model X.prog X.w) X.A k Qf E s' | .error _ => False) hx hc heq hg ht hw hs T hW (I2.wiped rfl) st2 f2 w0 fun s' H' I' lst => hk _ H' s' I' (wipe_wipe _ _) lst
  refine codeAny_mono (start_by hd lp fun E' => T.self X.A 0 s2 _ E' st2 lp) fun r s' hr => ?_
  cases r with
  | ok f => exact hr
  | error e => exact hr.elim
/-- the whole: the first clause's source in the def's own context, all else within the block -/
def tLcs (wi : TI) (g : TG) (tt : TT) (tb : Addr → TB) (vs : List Nat) : TE := fun σ H Q => wi σ H fun J H1 => ∀ D, H1 D = none → ∃ W : Nat → Nat → Hp → Prop, (∃ m, W 0 m (upd H1 D (.lst []))) ∧ Walk J g tt (tb D) vs σ (fun H => Q (.ref D) H) W
theorem pe_lcs {elt tg iter : Expr} {ifs : List Expr} {rest : List Comprehension} {scope : Scope} {own : List (Str × Nat)} {us : List Nat} {pos : Pos} {wi : TI} {g : TG} {tt : TT} {tb : Addr → TB} {work : Value → Env → Sem Fin → Sem Fin} (hc : X.calm = true) (hN : X.N.Nodup) (hi : PI X tg iter wi) (ok : BlkOk X.N X.env.scope scope own) (hv : ∀ i ∈ us, i ∈ own.map (·.2))
    (heq : ∀ it acc env, compTurn (.ListComp elt (⟨tg, iter, ifs, 0⟩ :: rest) scope pos) 0 it acc env = turnBy (.ListComp elt (⟨tg, iter, ifs, 0⟩ :: rest) scope pos) 0 tg iter ifs (work acc env) it acc env)
    (hin : ∀ (s : Shared) (H : Hp) (C : Addr) (cl : List (Str × Addr)) (fp : List Addr), PG (X.blk s H scope (compEnvC scope cl C X.env) fp) tg g ∧ PTs (X.blk s H scope (compEnvC scope cl C X.env) fp) ifs tt ∧ ∀ D, WorkOk (X.blk s H scope (compEnvC scope cl C X.env) fp) us (work (.ref D) (compEnvC scope cl C X.env)) (tb D))
    (hs : ∀ x, foldedSetIterable iter X.env x = pure x) : PE X (.ListComp elt (⟨tg, iter, ifs, 0⟩ :: rest) scope pos) (tLcs wi g tt tb (own.map (·.2))) := by
  refine ⟨fun pins s σ H Q I h => ?_⟩
  rw [eval_ListComp]
  have free : ∀ y ∈ scope.names, y.2 = .free → ∃ c, X.env.cells.lookup y.1 = some c := fun y hy e => I.ok.has _ (ok.free y hy e)
  refine wpAny_comprehension_free (use := none) rfl hs (closure_ok free) ok.kind (fun y hy e => (ok.uniq y hy).trans (congrArg some e)) ?_
  refine thn (hi.run pins s σ H _ I h) fun xv s1 hxv => thn hxv fun itv s2 h2 => ?_
  obtain ⟨it, fp, tn, J, H2, rfl, I2, T, st2, f2, q⟩ := h2
  refine wpAny_newObj_type (newEnv_comp ?_) (by show 0 ≤ sizeLine; decide)
  -- the list that is made
  obtain ⟨D, hD⟩ : ∃ D, s2.heap.objs.size = D := ⟨_, rfl⟩
  obtain ⟨W, ⟨m0, w0⟩, hW⟩ := q D (I2.hok.fresh (Nat.le_of_eq hD))
  rw [hD]
  obtain ⟨s3, hs3⟩ : ∃ t : Shared, { s2 with heap := s2.heap.push { cls := .type "list", data := .seq ([] : List Value).toArray } } = t := ⟨_, rfl⟩
  have grows : ∀ b o, s2.heap.get? b = some o → s3.heap.get? b = some o := fun b o e => by
    rw [← hs3]
    exact Heap.get?_push_of_some _ e
  have size3 : s3.heap.objs.size = s2.heap.objs.size + 1 := by
    rw [← hs3]
    exact Heap.size_push ..
  have I3 : Inv X pins σ (upd H2 D (.lst [])) s3 := by
    subst hs3
    refine I2.laid (t' := s2.toks) (fun b o e => Heap.get?_push_of_some _ e) (Nat.le_of_eq hD) ⟨Nat.zero_le _, [], 0, .nil, ?_⟩
    subst hD
    exact Heap.get?_push_size _ rfl
  have f3 : ∀ b ∈ fp, FpOk X pins (upd H2 D (.lst [])) b ∧ b < s3.heap.objs.size := fun b hb => by
    obtain ⟨o, e, _⟩ := T.obj _ _ st2 b hb
    have lt := Heap.lt_size e
    obtain ⟨z0, z⟩ := f2 b hb
    have nD : b ≠ D := fun z => by
      rw [z, ← hD] at lt
      exact Nat.lt_irrefl _ lt
    exact ⟨⟨by rw [upd_ne nD]; exact z0, z⟩, by rw [size3]; exact Nat.lt_succ_of_lt lt⟩
  have I4 := block_start I3 ok hN f3
  obtain ⟨pg, pt, pw⟩ := hin s3 (upd H2 D (.lst [])) s3.heap.objs.size (cellsFrom (s3.heap.objs.size + 1) scope.names (cloFrom X.env.cells scope.names [])) fp
  have goal : codeAny (model X.prog X.w) X.A (.compStart (.ListComp elt (⟨tg, iter, ifs, 0⟩ :: rest) scope pos) 0 (.ref it) (.ref D) (compEnvC scope (cellsFrom (s3.heap.objs.size + 1) scope.names (cloFrom X.env.cells scope.names [])) s3.heap.objs.size X.env))
      (compPost (model X.prog X.w) X.A X.xe none (EP X pins σ Q) (.ref D) s3.heap.objs.size) { s3 with heap := pushCells (s3.heap.push { cls := .type "dict", data := .dict #[] }) scope.names } := by
    generalize hce : compEnvC scope (cellsFrom (s3.heap.objs.size + 1) scope.names (cloFrom X.env.cells scope.names [])) s3.heap.objs.size X.env = ce at I4 pg pt pw ⊢
    have cL : ce.locals = s3.heap.objs.size := hce ▸ rfl
    generalize hH3 : upd H2 D (.lst []) = H3 at I3 I4 pg pt pw w0 f3
    generalize hs4 : ({ s3 with heap := pushCells (s3.heap.push { cls := .type "dict", data := .dict #[] }) scope.names } : Shared) = s4 at I4 ⊢
    have st4 : tn 0 s4.heap := T.keep _ _ _ st2 fun b _ o e => by
      subst hs4
      exact pushCells_keeps _ _ _ _ (Heap.get?_push_of_some _ (grows b o e))
    have f4 : ∀ b ∈ fp, FpOk (X.blk s3 H3 scope ce fp) [] H3 b := fun b hb =>
      ⟨(f3 b hb).1.1, (I4.ok.exf b hb).1, I4.ok.exfs b hb, .inl hb, fun x c e => (I4.ok.exf b hb).2 x c e, fun p hp => absurd (show p ∈ ([] : List (Addr × Obj)) ++ [] from hp) (by simp)⟩
    have lp := loop_by (X := X.blk s3 H3 scope ce fp) (R := compPost (model X.prog X.w) X.A X.xe none (EP X pins σ Q) (.ref D) s3.heap.objs.size) (fun _ _ z => z) hc (fun it => heq it (.ref D) ce) pg pt (pw D) hv T hW (I4.wiped (wipe_wipe _ _)) st4 f4 w0 fun s' H' I' qq => ?_
    · exact codeAny_compStart_list lp (T.self X.A 0 _ _ _ st4 lp)
    -- back in the def's own context
    have I5 : Inv X pins σ H' s' := I3.call' (ch := fp) I'.os I'.base I'.hok I'.bare fun b hb => have z := (f3 b hb).1; ⟨z.2.2.2.1, z.2.1, z.2.2.2.2.1, z.2.2.2.2.2⟩
    have none5 : H' s3.heap.objs.size = none := by
      have z : H' ce.locals = none := I'.free
      rwa [cL] at z
    obtain ⟨m, hn, _⟩ := I'.loc
    have hn : s'.heap.Ns ce.locals m := hn
    rw [cL] at hn
    refine ⟨m, hn, fun h'' sb => ?_⟩
    obtain ⟨y0, y1, y2, y3, y4, y5⟩ : FpOk X pins H' s3.heap.objs.size := I3.fpOk (Nat.le_refl _) none5
    exact ⟨.ref D, H', I5.turned (t' := s'.toks) (fun b o hb e => (sb.2 b hb).trans e) y0 y1 y3 y4 y5, rfl, qq⟩
  subst hs3
  exact goal
/-- [elt for .. for .. for ..] -/
def tLc3 (wi : TI) (g : TG) (tt : TT) (wi1 : TI) (g1 : TG) (tt1 : TT) (wi2 : TI) (g2 : TG) (tt2 : TT) (te : TE) (vs vs1 vs2 : List Nat) : TE :=
  tLcs wi g tt (fun D σ H Nx => wi1 σ H fun J H1 => ∃ W : Nat → Nat → Hp → Prop, (∃ m, W 0 m H1) ∧ Walk J g1 tt1 (fun σ H Nx => wi2 σ H fun J H1 => ∃ W : Nat → Nat → Hp → Prop, (∃ m, W 0 m H1) ∧ Walk J g2 tt2 (fun σ H Nx => te σ H fun y H1 => ∃ acc, H1 D = some (.lst acc) ∧ acc.length < sizeLine ∧ Nx (upd H1 D (.lst (acc ++ [y])))) vs2 σ Nx W) vs1 σ Nx W) vs
theorem pe_lc3 {elt tg iter tg1 iter1 tg2 iter2 : Expr} {ifs ifs1 ifs2 : List Expr} {scope : Scope} {own : List (Str × Nat)} {vs1 vs2 : List Nat} {pos : Pos} {wi wi1 wi2 : TI} {g g1 g2 : TG} {tt tt1 tt2 : TT} {te : TE} (hc : X.calm = true) (hN : X.N.Nodup) (hi : PI X tg iter wi) (ok : BlkOk X.N X.env.scope scope own) (hv : ∀ i ∈ vs1, i ∈ own.map (·.2)) (hv2 : ∀ i ∈ vs2, i ∈ vs1)
    (hin : ∀ (s : Shared) (H : Hp) (C : Addr) (cl : List (Str × Addr)) (fp : List Addr), (PG (X.blk s H scope (compEnvC scope cl C X.env) fp) tg g ∧ PTs (X.blk s H scope (compEnvC scope cl C X.env) fp) ifs tt) ∧
      (PI (X.blk s H scope (compEnvC scope cl C X.env) fp) tg1 iter1 wi1 ∧ PG (X.blk s H scope (compEnvC scope cl C X.env) fp) tg1 g1 ∧ PTs (X.blk s H scope (compEnvC scope cl C X.env) fp) ifs1 tt1) ∧
      (PI (X.blk s H scope (compEnvC scope cl C X.env) fp) tg2 iter2 wi2 ∧ PG (X.blk s H scope (compEnvC scope cl C X.env) fp) tg2 g2 ∧ PTs (X.blk s H scope (compEnvC scope cl C X.env) fp) ifs2 tt2) ∧ PE (X.blk s H scope (compEnvC scope cl C X.env) fp) elt te)
    (hs : ∀ x, foldedSetIterable iter X.env x = pure x := by intro _; rfl) (hs1 : ∀ env x, foldedSetIterable iter1 env x = pure x := by intro _ _; rfl) (hs2 : ∀ env x, foldedSetIterable iter2 env x = pure x := by intro _ _; rfl) :
    PE X (.ListComp elt [⟨tg, iter, ifs, 0⟩, ⟨tg1, iter1, ifs1, 0⟩, ⟨tg2, iter2, ifs2, 0⟩] scope pos) (tLc3 wi g tt wi1 g1 tt1 wi2 g2 tt2 te (own.map (·.2)) vs1 vs2) := by
  refine pe_lcs (us := vs1) (work := fun acc env => goDeep (.ListComp elt [⟨tg, iter, ifs, 0⟩, ⟨tg1, iter1, ifs1, 0⟩, ⟨tg2, iter2, ifs2, 0⟩] scope pos) 1 iter1 acc env) hc hN hi ok hv (fun it acc env => turn3_0 elt tg iter tg1 iter1 tg2 iter2 ifs ifs1 ifs2 scope pos it acc env) (fun s H C cl fp => ?_) hs
  obtain ⟨⟨a1, a2⟩, ⟨b0, b1, b2⟩, ⟨c0, c1, c2⟩, e1⟩ := hin s H C cl fp
  refine ⟨a1, a2, fun D => ?_⟩
  refine work_deep (X := X.blk s H scope (compEnvC scope cl C X.env) fp) (us := vs2) (fun _ _ z => z) hc rfl (fun it => turn3_1 elt tg iter tg1 iter1 tg2 iter2 ifs ifs1 ifs2 scope pos it (.ref D) _) b0 b1 b2 ?_ hv2 hs1
  refine work_deep (X := X.blk s H scope (compEnvC scope cl C X.env) fp) (us := []) (fun _ _ z => z) hc rfl (fun it => turn3_2 elt tg iter tg1 iter1 tg2 iter2 ifs ifs1 ifs2 scope pos it (.ref D) _) c0 c1 c2 ?_ (fun i hi => by cases hi) hs2
  exact work_put (X := X.blk s H scope (compEnvC scope cl C X.env) fp) (fun _ _ z => z) e1
end
end L2
end
section
set_option maxRecDepth 100000
set_option maxHeartbeats 4000000
namespace Nc
open PySem PySem.Spec PyProof.Rows L2 Evl
/-! ### hidden sums of several nets; wishes of a case -/
theorem low_bits (p a b : Nat) : p % 2 ^ (a + b) / 2 ^ a = p / 2 ^ a % 2 ^ b := by
  rw [Nat.pow_add, Nat.mod_mul_right_div_self]
theorem bit_low {p m j : Nat} (h : j < m) : p % 2 ^ m / 2 ^ j % 2 = p / 2 ^ j % 2 := by
  have e : m = j + ((m - j - 1) + 1) := by omega
  rw [e, low_bits]
  exact Nat.mod_mod_of_dvd _ ⟨2 ^ (j + (m - j - 1 + 1) - j - 1), by rw [Nat.pow_succ, Nat.mul_comm]; congr 2; omega⟩
theorem keep_mod {n p m : Nat} {ss : List Sum2} (h : ss.length ≤ m) : keep n (p % 2 ^ m) ss = keep n p ss := by
  refine List.ext_getElem? fun j => ?_
  cases hs : ss[j]? with
  | none =>
    have := List.getElem?_eq_none_iff.mp hs
    rw [List.getElem?_eq_none (by rw [keep_len]; exact this), List.getElem?_eq_none (by rw [keep_len]; exact this)]
  | some s =>
    have := (List.getElem?_eq_some_iff.mp hs).1
    rw [keep_at hs, keep_at hs, bit_low (by omega)]
theorem byR_mod {n : Nat} : ∀ {ls : List (List Sum2)} {p : Nat} {A : List Sum2}, byR n ls (p % 2 ^ hid ls) A = byR n ls p A
  | [], _, _ => rfl
  | [_], _, _ => rfl
  | l :: l2 :: ls, p, A => by
    have e : hid (l :: l2 :: ls) = l.length + hid (l2 :: ls) := rfl
    have ih := byR_mod (n := n) (ls := l2 :: ls) (p := p / 2 ^ l.length) (A := keep n p (thrRow n A l))
    show thrRow n A l :: byR n (l2 :: ls) (p % 2 ^ hid (l :: l2 :: ls) / 2 ^ l.length) (keep n (p % 2 ^ hid (l :: l2 :: ls)) (thrRow n A l)) = thrRow n A l :: byR n (l2 :: ls) (p / 2 ^ l.length) (keep n p (thrRow n A l))
    rw [e, low_bits, keep_mod (by show (l.map _).length ≤ _; rw [List.length_map]; omega), ih]
/-- the hidden sums of one net, in a row -/
def hidR (n : Nat) (ls : List (List Sum2)) (p : Nat) : List Sum2 := (byR n ls p (units n)).dropLast.flatten
theorem byR_hid {n : Nat} : ∀ {ls : List (List Sum2)} {p : Nat} {A : List Sum2}, (byR n ls p A).dropLast.flatten.length = hid ls
  | [], _, _ => rfl
  | [_], _, _ => rfl
  | l :: l2 :: ls, p, A => by
    have ih := byR_hid (n := n) (ls := l2 :: ls) (p := p / 2 ^ l.length) (A := keep n p (thrRow n A l))
    show (thrRow n A l ++ (byR n (l2 :: ls) (p / 2 ^ l.length) (keep n p (thrRow n A l))).dropLast.flatten).length = l.length + hid (l2 :: ls)
    rw [List.length_append, ih]
    show (l.map _).length + _ = _
    rw [List.length_map]
def eachR (n : Nat) : List (List (List Sum2)) → Nat → List (List (List Sum2))
  | [], _ => []
  | ls :: lss, p => byR n ls p (units n) :: eachR n lss (p / 2 ^ hid ls)
theorem eachR_length {n : Nat} : ∀ {lss : List (List (List Sum2))} {p : Nat}, (eachR n lss p).length = lss.length
  | [], _ => rfl
  | _ :: lss, p => by
    show (eachR n lss _).length + 1 = _
    rw [eachR_length]
    rfl
def flatR (R : List (List (List Sum2))) : List Sum2 := (R.map fun r => r.dropLast.flatten).flatten
def hidS (n : Nat) (lss : List (List (List Sum2))) (p : Nat) : List Sum2 := flatR (eachR n lss p)
def tot (lss : List (List (List Sum2))) : Nat := (lss.map hid).sum
theorem tot_cons (ls : List (List Sum2)) (lss : List (List (List Sum2))) : tot (ls :: lss) = hid ls + tot lss := rfl
theorem hidS_cons (n : Nat) (ls : List (List Sum2)) (lss : List (List (List Sum2))) (p : Nat) : hidS n (ls :: lss) p = hidR n ls p ++ hidS n lss (p / 2 ^ hid ls) := rfl
theorem hidS_len {n : Nat} : ∀ {lss : List (List (List Sum2))} {p : Nat}, (hidS n lss p).length = tot lss
  | [], _ => rfl
  | ls :: lss, p => by
    rw [hidS_cons, List.length_append, hidS_len, tot_cons]
    show (byR n ls p (units n)).dropLast.flatten.length + _ = _
    rw [byR_hid]
/-- a walk's place in the nets -/
structure MidE (n : Nat) (lss : List (List (List Sum2))) (p0 i : Nat) (dn : List (List (List Sum2))) (p : Nat) : Prop where
  eq : eachR n lss p0 = dn ++ eachR n (lss.drop i) p
  len : dn.length = i
theorem midE0 {n p0 : Nat} {lss : List (List (List Sum2))} : MidE n lss p0 0 [] p0 := ⟨rfl, rfl⟩
theorem midE_step {n p0 i p : Nat} {lss : List (List (List Sum2))} {dn : List (List (List Sum2))} {ls : List (List Sum2)} (m : MidE n lss p0 i dn p) (h : lss[i]? = some ls) : MidE n lss p0 (i + 1) (dn ++ [byR n ls p (units n)]) (p / 2 ^ hid ls) := by
  refine ⟨?_, by rw [List.length_append, m.len]; rfl⟩
  rw [m.eq, drop_at h, List.append_assoc]
  rfl
theorem midE_end {n p0 p : Nat} {lss : List (List (List Sum2))} {dn : List (List (List Sum2))} (m : MidE n lss p0 lss.length dn p) : eachR n lss p0 = dn := by
  have e := m.eq
  rw [List.drop_length] at e
  rw [e]
  exact List.append_nil dn
/-! the wishes -/
def wishOne (b : Bool) (s : Sum2) : Sum2 := if b = true then stimes (-1) (s.1, -1 * s.2) else (s.1, -1 * s.2)
def caseW (p : Nat) (S : List Sum2) : List Sum2 := S.mapIdx fun j s => wishOne (decide (p / 2 ^ j % 2 = 1)) s
theorem caseW_len (p : Nat) (S : List Sum2) : (caseW p S).length = S.length := List.length_mapIdx
theorem caseW_at {p j : Nat} {S : List Sum2} {s : Sum2} (h : S[j]? = some s) : (caseW p S)[j]? = some (wishOne (decide (p / 2 ^ j % 2 = 1)) s) := by
  unfold caseW
  rw [List.getElem?_mapIdx, h]
  rfl
def hiW (sp : List Span) : List Sum2 := sp.mapIdx fun k q => (unit sp.length k, q.2)
def loW (sp : List Span) : List Sum2 := sp.mapIdx fun k q => stimes (-1) (unit sp.length k, q.1)
theorem hiW_len (sp : List Span) : (hiW sp).length = sp.length := List.length_mapIdx
theorem loW_len (sp : List Span) : (loW sp).length = sp.length := List.length_mapIdx
theorem hiW_at {k : Nat} {sp : List Span} {q : Span} (h : sp[k]? = some q) : (hiW sp)[k]? = some (unit sp.length k, q.2) := by
  unfold hiW
  rw [List.getElem?_mapIdx, h]
  rfl
theorem loW_at {k : Nat} {sp : List Span} {q : Span} (h : sp[k]? = some q) : (loW sp)[k]? = some (stimes (-1) (unit sp.length k, q.1)) := by
  unfold loW
  rw [List.getElem?_mapIdx, h]
  rfl
def boxW (sp : List Span) : List Sum2 := hiW sp ++ loW sp
theorem boxW_len (sp : List Span) : (boxW sp).length = 2 * sp.length := by
  unfold boxW
  rw [List.length_append, hiW_len, loW_len]
  omega
def wishW (n : Nat) (lss : List (List (List Sum2))) (sp : List Span) (p many : Nat) : List Sum2 := boxW sp ++ caseW p ((hidS n lss p).take many)
/-! they hold at a spot with that pattern -/
def allR (lss : List (List (List Sum2))) (x : List Rat) : List Rat := (lss.map fun ls => (rowsAt ls x).dropLast.flatten).flatten
theorem allR_len {x : List Rat} : ∀ {lss : List (List (List Sum2))}, (allR lss x).length = tot lss
  | [] => rfl
  | ls :: lss => by
    show ((rowsAt ls x).dropLast.flatten ++ allR lss x).length = _
    rw [List.length_append, rows_hid (x := x), allR_len, tot_cons]
theorem patN_append (ys : List Rat) : ∀ xs : List Rat, patN (xs ++ ys) = patN xs + 2 ^ xs.length * patN ys
  | [] => by
    show patN ys = 0 + 1 * patN ys
    omega
  | x :: xs => by
    have ih := patN_append ys xs
    show (if 0 < x.num then 1 else 0) + 2 * patN (xs ++ ys) = (if 0 < x.num then 1 else 0) + 2 * patN xs + 2 ^ (xs.length + 1) * patN ys
    rw [ih, Nat.pow_succ, Nat.mul_assoc, Nat.mul_left_comm]
    omega
theorem patN_mod (xs ys : List Rat) : patN (xs ++ ys) % 2 ^ xs.length = patN xs := by
  rw [patN_append, Nat.add_mul_mod_self_left]
  exact Nat.mod_eq_of_lt (patN_lt xs)
theorem hid_tells {n : Nat} {x : List Rat} (hx : x.length = n) : ∀ {lss : List (List (List Sum2))}, (∀ ls ∈ lss, Over n ls) → (hidS n lss (patN (allR lss x))).map (fun s => tells s x) = allR lss x
  | [], _ => rfl
  | ls :: lss, ov => by
    have e : allR (ls :: lss) x = (rowsAt ls x).dropLast.flatten ++ allR lss x := rfl
    have hl : (rowsAt ls x).dropLast.flatten.length = hid ls := rows_hid (x := x)
    rw [hidS_cons, List.map_append, e]
    congr 1
    · unfold hidR
      rw [← byR_mod, ← hl, patN_mod]
      have b := by_spot (n := n) (x := x) (ls := ls) (A := units n) (p := patN (rowsAt ls x).dropLast.flatten) (by rw [units_len]; exact ov ls (by simp)) (fun a ha => (units_bC (Nat.le_refl 1) 1 1 a ha).len) (by rw [tells_units hx])
      rw [tells_units hx] at b
      generalize byR n ls (patN (rowsAt ls x).dropLast.flatten) (units n) = R at b ⊢
      rw [← b, ← List.map_dropLast, List.map_flatten]
    · rw [← hl, patN_drop]
      exact hid_tells hx fun l h => ov l (by simp [h])
theorem wish_holds {x : List Rat} {s : Sum2} {b : Bool} (h : b = true ↔ 0 < (tells s x).num) : weighs ((wishOne b s).1.zip x) ≤ (wishOne b s).2 := by
  have e : tells s x = weighs (s.1.zip x) + s.2 := rfl
  cases b with
  | true =>
    have h0 : 0 < tells s x := numPos.mp (h.mp rfl)
    rw [e] at h0
    show weighs ((s.1.map fun y => -1 * y).zip x) ≤ -1 * (-1 * s.2)
    rw [weighs_mul]
    generalize weighs (s.1.zip x) = w at h0
    grind
  | false =>
    have h0 : ¬ 0 < tells s x := fun z => by
      have := h.mpr (numPos.mpr z)
      cases this
    rw [e] at h0
    show weighs (s.1.zip x) ≤ -1 * s.2
    generalize weighs (s.1.zip x) = w at h0
    grind
theorem wish_all {n many : Nat} {x : List Rat} {sp : List Span} {lss : List (List (List Sum2))} (hx : Within x sp) (hn : sp.length = n) (ov : ∀ ls ∈ lss, Over n ls) : ∀ z ∈ wishW n lss sp (patN (allR lss x)) many, weighs (z.1.zip x) ≤ z.2 := by
  intro z hz
  have xl : x.length = n := by rw [Paired.length hx, hn]
  have un : ∀ {k : Nat} {r : Rat}, x[k]? = some r → weighs ((unit sp.length k).zip x) = r := fun {k r} h => by
    have t := tells_unit (n := sp.length) (p := k) (x := x) (by rw [xl, hn])
    have e : tells (unit sp.length k, 0) x = weighs ((unit sp.length k).zip x) + 0 := rfl
    rw [e, Rat.add_zero] at t
    rw [t, List.getD_eq_getElem?_getD, h]
    rfl
  rcases List.mem_append.mp hz with h | h
  · rcases List.mem_append.mp h with h | h
    · obtain ⟨k, hk⟩ := List.mem_iff_getElem?.mp h
      have kl := (List.getElem?_eq_some_iff.mp hk).1
      rw [hiW_len] at kl
      obtain ⟨q, hq⟩ : ∃ q, sp[k]? = some q := ⟨_, List.getElem?_eq_getElem kl⟩
      rw [hiW_at hq] at hk
      have e := Option.some.inj hk
      subst e
      obtain ⟨r, hr, h1, h2⟩ := pget' hx hq
      show weighs ((unit sp.length k).zip x) ≤ q.2
      rw [un hr]
      exact h2
    · obtain ⟨k, hk⟩ := List.mem_iff_getElem?.mp h
      have kl := (List.getElem?_eq_some_iff.mp hk).1
      rw [loW_len] at kl
      obtain ⟨q, hq⟩ : ∃ q, sp[k]? = some q := ⟨_, List.getElem?_eq_getElem kl⟩
      rw [loW_at hq] at hk
      have e := Option.some.inj hk
      subst e
      obtain ⟨r, hr, h1, h2⟩ := pget' hx hq
      show weighs (((unit sp.length k).map fun y => -1 * y).zip x) ≤ -1 * q.1
      rw [weighs_mul, un hr]
      grind
  · obtain ⟨k, hk⟩ := List.mem_iff_getElem?.mp h
    have kl := (List.getElem?_eq_some_iff.mp hk).1
    rw [caseW_len] at kl
    obtain ⟨s, hs⟩ : ∃ s, ((hidS n lss (patN (allR lss x))).take many)[k]? = some s := ⟨_, List.getElem?_eq_getElem kl⟩
    rw [caseW_at hs] at hk
    have e := Option.some.inj hk
    subst e
    have hs2 : (hidS n lss (patN (allR lss x)))[k]? = some s := by
      rw [List.getElem?_take] at hs
      split at hs
      · exact hs
      · cases hs
    refine wish_holds ?_
    have ht := hid_tells xl ov
    have hv : (allR lss x)[k]? = some (tells s x) := by
      have := congrArg (fun l => l[k]?) ht
      simp only [List.getElem?_map, hs2, Option.map_some] at this
      exact this.symm
    rw [← patN_bit hv, decide_eq_true_eq]
/-! sizes -/
structure HidSz (n : Nat) (s : Sum2) : Prop where
  len : s.1.length = n
  row : ∀ r ∈ s.1, Sz 3350 1350 r
  num : Sz 3350 1350 s.2
/-! walks -/
theorem walk_list {K : PySem.W.Frag} {a : Addr} {xs : List V} {g : TG} {tt : TT} {tb : TB} {vs : List Nat} {σ : L2.St} {H1 : Hp} {Last : Hp → Prop} (Pv : Nat → Hp → Prop) (h0 : Pv 0 H1) (hk : ∀ i H, Pv i H → SqL K H a xs)
    (hs : ∀ i x H, xs[i]? = some x → Pv i H → g x (wipe σ vs) H fun σ2 H2 => wipe σ2 vs = wipe σ vs ∧ tt σ2 H2 fun b H3 => if b = true then tb σ2 H3 (Pv (i + 1)) else Pv (i + 1) H3) (hd : ∀ H, Pv xs.length H → Last H) :
    ∃ W : Nat → Nat → Hp → Prop, (∃ m, W 0 m H1) ∧ Walk (Itl K a) g tt tb vs σ Last W := by
  refine ⟨fun i m H => m = xs.length - i ∧ i ≤ xs.length ∧ Pv i H, ⟨xs.length, by simp, Nat.zero_le _, h0⟩, ?_⟩
  rintro i m H ⟨rfl, hi, p⟩
  have q := hk i H p
  by_cases h : i < xs.length
  · refine .inr ⟨⟨xs, xs[i], q, List.getElem?_eq_getElem h⟩, Pv (i + 1), fun H' p' => ⟨xs.length - (i + 1), by omega, rfl, h, p'⟩, ?_⟩
    rintro x H' ⟨rfl, hx⟩
    exact hs i x H' (hx xs q) p
  · have e : i = xs.length := by omega
    subst e
    exact .inl ⟨⟨xs, q, Nat.le_refl _⟩, hd H p⟩
end Nc
namespace Nc
open PySem PySem.Spec PyProof.Rows L2 Evl
def Its (K : PySem.W.Frag) (c : Bool) (a : Addr) : It := match c with | true => Itt K a | false => Itl K a
/-- a walk over a name that holds a list or a tuple -/
theorem pi_sqv {X : Cx} {tg e : Expr} {i : Nat} (K : PySem.W.Frag) (h : PE X e (tVar i)) (hK : X.K = K := by rfl) : PI X tg e (fun σ H R => ∃ v, σ[i]? = some (some v) ∧ ∃ (c : Bool) (a : Addr) (xs : List V), v = .ref a ∧ SqX K c H a xs ∧ R (Its K c a) H) := by
  subst hK
  refine ⟨fun pins s σ H R I hw => ?_⟩
  obtain ⟨v, hv, c, a, xs, rfl, q, r⟩ := hw
  cases c
  · exact (pi_list h).run pins s σ H R I ⟨_, hv, a, rfl, ⟨xs, q⟩, r⟩
  · exact (pi_tup h).run pins s σ H R I ⟨_, hv, a, rfl, ⟨xs, q⟩, r⟩
theorem for_sq {K : PySem.W.Frag} {c : Bool} {a : Addr} {xs : List V} {g : TG} {tb : TS} {D : Ends} {σ : L2.St} {H : Hp} (Pv : Nat → L2.St → Hp → Prop) (h0 : Pv 0 σ H) (hk : ∀ (i : Nat) (σ : L2.St) (H : Hp), i ≤ xs.length → Pv i σ H → SqX K c H a xs)
    (hs : ∀ (i : Nat) (x : V) (σ : L2.St) (H : Hp), xs[i]? = some x → Pv i σ H → g x σ H fun σ2 H2 => tb { nx := Pv (i + 1), rt := D.rt, bk := D.nx, ct := Pv (i + 1) } σ2 H2) (hd : ∀ (σ : L2.St) (H : Hp), Pv xs.length σ H → D.nx σ H) :
    ∃ W : Nat → Nat → L2.St → Hp → Prop, (∃ m, W 0 m σ H) ∧ ∀ (i m : Nat) (σ : L2.St) (H : Hp), W i m σ H → (Its K c a).stop i H ∧ D.nx σ H ∨ (Its K c a).go i H ∧ ∃ N : L2.St → Hp → Prop, (∀ (σ' : L2.St) (H' : Hp), N σ' H' → ∃ m', m' < m ∧ W (i + 1) m' σ' H') ∧
      ∀ (x : V) (H' : Hp), (Its K c a).yld i H x H' → g x σ H' fun σ2 H2 => tb { nx := N, rt := D.rt, bk := D.nx, ct := N } σ2 H2 := by
  cases c
  · exact for_list Pv h0 hk hs hd
  · exact for_tup Pv h0 hk hs hd
theorem lc_sq {K : PySem.W.Frag} {c : Bool} {a : Addr} {xs : List V} {g : TG} {tt : TT} {te : TE} {vs : List Nat} {σ : L2.St} {H1 : Hp} {D : Addr} {Qd : Hp → Prop} (Pv : Nat → Hp → Prop) (h0 : Pv 0 (upd H1 D (HO.lst []))) (hk : ∀ (i : Nat) (H : Hp), i ≤ xs.length → Pv i H → SqX K c H a xs)
    (hs : ∀ (i : Nat) (x : V) (H : Hp), xs[i]? = some x → Pv i H → g x (wipe σ vs) H fun σ2 H2 => wipe σ2 vs = wipe σ vs ∧ tt σ2 H2 fun b H3 => if b = true then te σ2 H3 fun y H4 => ∃ acc, H4 D = some (HO.lst acc) ∧ acc.length < PySem.sizeLine ∧ Pv (i + 1) (upd H4 D (HO.lst (acc ++ [y]))) else Pv (i + 1) H3)
    (hd : ∀ (H : Hp), Pv xs.length H → Qd H) :
    ∃ W : Nat → Nat → Hp → Prop, (∃ m, W 0 m (upd H1 D (HO.lst []))) ∧ ∀ (i m : Nat) (H : Hp), W i m H → (Its K c a).stop i H ∧ Qd H ∨ (Its K c a).go i H ∧ ∃ Nx : Hp → Prop, (∀ (H' : Hp), Nx H' → ∃ m', m' < m ∧ W (i + 1) m' H') ∧
      ∀ (x : V) (H' : Hp), (Its K c a).yld i H x H' → g x (wipe σ vs) H' fun σ2 H2 => wipe σ2 vs = wipe σ vs ∧ tt σ2 H2 fun b H3 => if b = true then te σ2 H3 fun y H4 => ∃ acc, H4 D = some (HO.lst acc) ∧ acc.length < PySem.sizeLine ∧ Nx (upd H4 D (HO.lst (acc ++ [y]))) else Nx H3 := by
  cases c
  · exact lc_list Pv h0 hk hs hd
  · exact lc_tup Pv h0 hk hs hd
theorem ix_sK {X : Cx} (K : PySem.W.Frag) (h : X.K = K := by rfl) : IxR X (fun x y H Q => rIxL K x y H Q ∨ rIxT K x y H Q) := by
  subst h
  intro value slice pins s σ H x y v u Q I r1 r2 h e
  rcases h with h | h
  · exact ix_list value slice pins s σ H x y v u Q I r1 r2 h e
  · exact ix_tup value slice pins s σ H x y v u Q I r1 r2 h e
/-- an item of a list or a tuple -/
theorem ix_sq {K : PySem.W.Frag} {c : Bool} {H : Hp} {a : Addr} {xs : List V} {i : Int} {y : V} {Q : VK} (q : SqX K c H a xs) (h : atI xs i = some y) (hq : Q y H) : rIxL K (.ref a) (.int i) H Q ∨ rIxT K (.ref a) (.int i) H Q := by
  cases c
  · exact .inl ⟨a, xs, i, y, rfl, rfl, q, h, hq⟩
  · exact .inr ⟨a, xs, i, y, rfl, rfl, q, h, hq⟩
end Nc
end
section
set_option maxHeartbeats 1000000
/-! Settling: from wishes of fractions to whole numbers, and what a corner tells of them. -/
namespace Nc
/-- over a shared bottom, a top no greater -/
def Ov (B : Nat) (N : Int) (r : Rat) : Prop := ∃ t : Int, r = Rat.divInt t N ∧ t.natAbs ≤ B
theorem Ov.add {A B : Nat} {N : Int} {r s : Rat} (hN : N ≠ 0) (hr : Ov A N r) (hs : Ov B N s) : Ov (A + B) N (r + s) := by
  obtain ⟨a, rfl, ha⟩ := hr
  obtain ⟨b, rfl, hb⟩ := hs
  refine ⟨a + b, ?_, ?_⟩
  · rw [Rat.divInt_add_divInt _ _ hN hN, ← Int.add_mul, Rat.divInt_mul_right hN]
  · have := Int.natAbs_add_le a b
    omega
theorem Ov.mono {A B : Nat} {N : Int} {r : Rat} (h : A ≤ B) (hr : Ov A N r) : Ov B N r := by
  obtain ⟨a, e, ha⟩ := hr
  exact ⟨a, e, by omega⟩
theorem Ov.zero {B : Nat} {N : Int} : Ov B N 0 := ⟨0, by rw [Rat.zero_divInt], by simp⟩
theorem Ov.sz {B n d : Nat} {N : Int} {r : Rat} (hN : 0 < N) (hr : Ov B N r) (hB : B < 2 ^ n) (hd : N.natAbs < 2 ^ d) : Sz n d r := by
  obtain ⟨t, rfl, ht⟩ := hr
  exact sz_div hN (by omega) hd
/-! ### the size of a wish -/
def szS (l : List Rat) : Nat := l.foldl (fun s r => Nat.lcm s r.den) 1
theorem szS_aux : ∀ (l : List Rat) (s : Nat), 0 < s → 0 < l.foldl (fun s r => Nat.lcm s r.den) s ∧ s ∣ l.foldl (fun s r => Nat.lcm s r.den) s ∧ (∀ r ∈ l, r.den ∣ l.foldl (fun s r => Nat.lcm s r.den) s) ∧ ∀ D, s ∣ D → (∀ r ∈ l, r.den ∣ D) → l.foldl (fun s r => Nat.lcm s r.den) s ∣ D
  | [], s, hs => ⟨hs, Nat.dvd_refl s, fun r hr => by simp at hr, fun D h _ => h⟩
  | x :: l, s, hs => by
    have hx : 0 < x.den := Nat.pos_of_ne_zero x.den_nz
    obtain ⟨a, b, c, d⟩ := szS_aux l (Nat.lcm s x.den) (Nat.lcm_pos hs hx)
    refine ⟨a, Nat.dvd_trans (Nat.dvd_lcm_left s x.den) b, fun r hr => ?_, fun D h1 h2 => d D (Nat.lcm_dvd h1 (h2 x (by simp))) fun r hr => h2 r (by simp [hr])⟩
    rcases List.mem_cons.mp hr with rfl | hr
    · exact Nat.dvd_trans (Nat.dvd_lcm_right s r.den) b
    · exact c r hr
theorem szS_pos (l : List Rat) : 0 < szS l := (szS_aux l 1 (by decide)).1
theorem szS_dvd {l : List Rat} {r : Rat} (h : r ∈ l) : r.den ∣ szS l := (szS_aux l 1 (by decide)).2.2.1 r h
theorem szS_le {l : List Rat} {D : Nat} (h : ∀ r ∈ l, r.den ∣ D) (hD : 0 < D) : szS l ≤ D := Nat.le_of_dvd hD ((szS_aux l 1 (by decide)).2.2.2 D (Nat.one_dvd D) h)
theorem szS_take {l : List Rat} {i : Nat} {r : Rat} (h : l[i]? = some r) : szS (l.take (i + 1)) = Nat.lcm (szS (l.take i)) r.den := by
  unfold szS
  rw [List.take_add_one, h, List.foldl_append]
  rfl
theorem divI {t D : Int} (h : D ≠ 0) : Rat.divInt t D = (t : Rat) / (D : Rat) := Rat.divInt_eq_div t D
theorem cast_ne {D : Int} (h : D ≠ 0) : (D : Rat) ≠ 0 := fun z => h (by exact_mod_cast z)
theorem mulD {t D : Int} (h : D ≠ 0) : Rat.divInt t D * (D : Rat) = t := by
  rw [divI h]
  exact Rat.div_mul_cancel (cast_ne h)
/-- a fraction, taken so many times, where that is whole -/
def topI (r : Rat) (s : Nat) : Int := r.num * ((s / r.den : Nat) : Int)
theorem topI_eq {r : Rat} {s : Nat} (h : r.den ∣ s) : ((topI r s : Int) : Rat) = r * s := by
  obtain ⟨c, rfl⟩ := h
  have hd : 0 < r.den := Nat.pos_of_ne_zero r.den_nz
  unfold topI
  rw [Nat.mul_div_cancel_left c hd, Rat.intCast_mul]
  have e : r * ((r.den : Nat) : Rat) = (r.num : Rat) := by
    have := mulD (t := r.num) (D := (r.den : Int)) (by omega)
    rwa [Rat.num_divInt_den] at this
  have : (((c : Nat) : Int) : Rat) = ((c : Nat) : Rat) := rfl
  rw [this, Rat.natCast_mul, ← Rat.mul_assoc, e]
theorem topI_ov {r : Rat} {s : Nat} (h : r.den ∣ s) (hs : 0 < s) : r = Rat.divInt (topI r s) s := by
  obtain ⟨c, rfl⟩ := h
  have hd : 0 < r.den := Nat.pos_of_ne_zero r.den_nz
  have hc : 0 < c := Nat.pos_of_mul_pos_left hs
  unfold topI
  rw [Nat.mul_div_cancel_left c hd, Int.natCast_mul, Rat.divInt_mul_right (by omega), Rat.num_divInt_den]
def pad3 (l : List Int) : I3 := (l.getD 0 0, l.getD 1 0, l.getD 2 0)
def intR (row : List Rat) (s : Nat) : I3 := pad3 (row.map fun r => topI r s)
def szW (w : Sum2) : Nat := szS (w.1 ++ [w.2])
def intW (w : Sum2) : W4 := (intR w.1 (szW w), topI w.2 (szW w))
theorem szW_pos (w : Sum2) : 0 < szW w := szS_pos _
theorem szW_row {w : Sum2} {r : Rat} (h : r ∈ w.1) : r.den ∣ szW w := szS_dvd (by simp [h])
theorem szW_num (w : Sum2) : w.2.den ∣ szW w := szS_dvd (by simp)
/-- three whole numbers as fractions over a bottom, the first so many -/
def overN (n : Nat) (S : I3) (D : Int) : List Rat := ([S.1, S.2.1, S.2.2].take n).map fun t => Rat.divInt t D
theorem overN_len {n : Nat} {S : I3} {D : Int} (h : n ≤ 3) : (overN n S D).length = n := by
  unfold overN
  rw [List.length_map, List.length_take]
  show min n 3 = n
  omega
theorem eq_of_mul {a b c : Rat} (h : c ≠ 0) (e : a * c = b * c) : a = b := by
  have := congrArg (· * c⁻¹) e
  simpa [Rat.mul_assoc, Rat.mul_inv_cancel c h, Rat.mul_one] using this
/-- what a row weighs a spot, in whole numbers -/
theorem dt_over {row : List Rat} {s : Nat} {S : I3} {D : Int} (hl : row.length ≤ 3) (hd : ∀ r ∈ row, r.den ∣ s) (hD : D ≠ 0) : ((dt (intR row s) S : Int) : Rat) = (s : Rat) * (D : Rat) * weighs (row.zip (overN row.length S D)) := by
  obtain ⟨a, b, c⟩ := S
  have ha := mulD (t := a) hD
  have hb := mulD (t := b) hD
  have hc := mulD (t := c) hD
  match row, hl, hd with
  | [], _, _ =>
    show (((0 : Int) * a + 0 * b + 0 * c : Int) : Rat) = _ * 0
    simp [Rat.mul_zero]
  | [x], _, hd =>
    have hx := topI_eq (hd x (by simp))
    show ((topI x s * a + 0 * b + 0 * c : Int) : Rat) = s * D * weighs [(x, Rat.divInt a D)]
    simp only [weighs, List.foldl, Int.zero_mul, Int.add_zero, Rat.intCast_mul, hx]
    generalize Rat.divInt a D = u at ha ⊢
    grind
  | [x, y], _, hd =>
    have hx := topI_eq (hd x (by simp))
    have hy := topI_eq (hd y (by simp))
    show ((topI x s * a + topI y s * b + 0 * c : Int) : Rat) = s * D * weighs [(x, Rat.divInt a D), (y, Rat.divInt b D)]
    simp only [weighs, List.foldl, Int.zero_mul, Int.add_zero, Rat.intCast_mul, Rat.intCast_add, hx, hy]
    generalize Rat.divInt a D = u at ha ⊢
    generalize Rat.divInt b D = v at hb ⊢
    grind
  | [x, y, z], _, hd =>
    have hx := topI_eq (hd x (by simp))
    have hy := topI_eq (hd y (by simp))
    have hz := topI_eq (hd z (by simp))
    show ((topI x s * a + topI y s * b + topI z s * c : Int) : Rat) = s * D * weighs [(x, Rat.divInt a D), (y, Rat.divInt b D), (z, Rat.divInt c D)]
    simp only [weighs, List.foldl, Rat.intCast_mul, Rat.intCast_add, hx, hy, hz]
    generalize Rat.divInt a D = u at ha ⊢
    generalize Rat.divInt b D = v at hb ⊢
    generalize Rat.divInt c D = w at hc ⊢
    grind
/-! ### sums of so many times -/
def wsum : List Int → List Int → Int
  | a :: as, f :: fs => a * f + wsum as fs
  | _, _ => 0
theorem wsum_rep : ∀ (n : Nat) (fs : List Int), wsum (List.replicate n 0) fs = 0
  | 0, _ => rfl
  | n + 1, [] => rfl
  | n + 1, f :: fs => by
    show 0 * f + wsum (List.replicate n 0) fs = 0
    rw [wsum_rep n fs]
    omega
theorem wsum_set : ∀ (as fs : List Int) (i : Nat) (v : Int), i < as.length → i < fs.length → wsum (as.set i v) fs = wsum as fs + (v - as.getD i 0) * fs.getD i 0
  | [], _, _, _, h, _ => absurd h (by simp)
  | _ :: _, [], _, _, _, h => absurd h (by simp)
  | a :: as, f :: fs, 0, v, _, _ => by
    show v * f + wsum as fs = a * f + wsum as fs + (v - a) * f
    grind
  | a :: as, f :: fs, i + 1, v, h, h' => by
    have ih := wsum_set as fs i v (by simpa using h) (by simpa using h')
    show a * f + wsum (as.set i v) fs = a * f + wsum as fs + (v - as.getD i 0) * fs.getD i 0
    omega
theorem wsum_zeros : ∀ (ts fs : List Int) (k : Nat), wsum ts (fs ++ List.replicate k 0) = wsum ts fs
  | [], fs, k => by cases fs <;> cases k <;> rfl
  | t :: ts, [], 0 => rfl
  | t :: ts, [], k + 1 => by
    have := wsum_zeros ts [] k
    show t * 0 + wsum ts (List.replicate k 0) = 0
    rw [show wsum ts (List.replicate k 0) = wsum ts ([] ++ List.replicate k 0) from rfl, this]
    cases ts <;> simp [wsum]
  | t :: ts, f :: fs, k => by
    show t * f + wsum ts (fs ++ List.replicate k 0) = t * f + wsum ts fs
    rw [wsum_zeros ts fs k]
/-- the shares of three at their places -/
def plc (N : Nat) (h : F3 Nat) (y : F3 Int) : List Int := (((List.replicate N (0 : Int)).set (h 0) (y 0)).set (h 1) (y 1)).set (h 2) (y 2)
theorem plc_len {N : Nat} {h : F3 Nat} {y : F3 Int} : (plc N h y).length = N := by simp [plc]
theorem plc_sum {N : Nat} {h : F3 Nat} {y : F3 Int} {fs : List Int} (hl : ∀ p, h p < N) (hf : fs.length = N) (inj : ∀ p q, h p = h q → p = q) :
    wsum (plc N h y) fs = y 0 * fs.getD (h 0) 0 + y 1 * fs.getD (h 1) 0 + y 2 * fs.getD (h 2) 0 := by
  have n01 : h 0 ≠ h 1 := fun e => absurd (inj 0 1 e) (by decide)
  have n02 : h 0 ≠ h 2 := fun e => absurd (inj 0 2 e) (by decide)
  have n12 : h 1 ≠ h 2 := fun e => absurd (inj 1 2 e) (by decide)
  have l0 := hl 0
  have l1 := hl 1
  have l2 := hl 2
  unfold plc
  rw [wsum_set _ _ _ _ (by simpa using l2) (by omega), wsum_set _ _ _ _ (by simpa using l1) (by omega), wsum_set _ _ _ _ (by simpa using l0) (by omega), wsum_rep]
  have z0 : (List.replicate N (0 : Int)).getD (h 0) 0 = 0 := by simp [List.getD_eq_getElem?_getD, List.getElem?_replicate, l0]
  have z1 : ((List.replicate N (0 : Int)).set (h 0) (y 0)).getD (h 1) 0 = 0 := by simp [List.getD_eq_getElem?_getD, List.getElem?_set, List.getElem?_replicate, n01, l1]
  have z2 : (((List.replicate N (0 : Int)).set (h 0) (y 0)).set (h 1) (y 1)).getD (h 2) 0 = 0 := by simp [List.getD_eq_getElem?_getD, List.getElem?_set, List.getElem?_replicate, n02, n12, l2]
  rw [z0, z1, z2, Int.sub_zero, Int.sub_zero, Int.sub_zero]
  omega
theorem plc_at {N : Nat} {h : F3 Nat} {y : F3 Int} {e : Nat} (hn : ∀ p, h p ≠ e) : (plc N h y).getD e 0 = 0 := by
  have n0 := hn 0
  have n1 := hn 1
  have n2 := hn 2
  unfold plc
  simp [List.getD_eq_getElem?_getD, List.getElem?_set, List.getElem?_replicate, n0, n1, n2]
  by_cases he : e < N <;> simp [he]
theorem plc_mem {N : Nat} {h : F3 Nat} {y : F3 Int} {P : Int → Prop} (h0 : P 0) (hy : ∀ p, P (y p)) : ∀ t ∈ plc N h y, P t := by
  intro t ht
  unfold plc at ht
  rcases List.mem_or_eq_of_mem_set ht with ht | rfl
  · rcases List.mem_or_eq_of_mem_set ht with ht | rfl
    · rcases List.mem_or_eq_of_mem_set ht with ht | rfl
      · rw [(List.mem_replicate.mp ht).2]
        exact h0
      · exact hy 0
    · exact hy 1
  · exact hy 2
/-- what wishes come to, each taken so many times: of any one number of each -/
def dotc (f : Sum2 → Rat) : List Sum2 → List Rat → Rat
  | w :: ws, m :: ms => m * f w + dotc f ws ms
  | _, _ => 0
/-- the multiples -/
def mulsOf (tops : List Int) (asked : List Sum2) (B : Int) : List Rat := List.zipWith (fun t w => Rat.divInt (t * (szW w : Int)) B) tops asked
theorem dotc_muls {f : Sum2 → Rat} {fi : Sum2 → Int} {B : Int} (hB : B ≠ 0) : ∀ {asked : List Sum2} {tops : List Int}, (∀ w ∈ asked, ((fi w : Int) : Rat) = f w * (szW w : Rat)) → dotc f asked (mulsOf tops asked B) = Rat.divInt (wsum tops (asked.map fi)) B
  | [], tops, _ => by
    have : wsum tops [] = 0 := by cases tops <;> rfl
    show (0 : Rat) = Rat.divInt (wsum tops []) B
    rw [this, Rat.zero_divInt]
  | w :: asked, [], _ => by
    show (0 : Rat) = Rat.divInt 0 B
    rw [Rat.zero_divInt]
  | w :: asked, t :: tops, h => by
    have ih := dotc_muls hB (asked := asked) (tops := tops) fun w hw => h w (by simp [hw])
    have e := h w (by simp)
    show Rat.divInt (t * (szW w : Int)) B * f w + dotc f asked (mulsOf tops asked B) = Rat.divInt (t * fi w + wsum tops (asked.map fi)) B
    rw [ih]
    refine eq_of_mul (cast_ne hB) ?_
    have h1 := mulD (t := t * (szW w : Int)) hB
    have h2 := mulD (t := wsum tops (asked.map fi)) hB
    have h3 := mulD (t := t * fi w + wsum tops (asked.map fi)) hB
    rw [h3, Rat.intCast_add, Rat.intCast_mul, e, Rat.add_mul, h2]
    rw [Rat.intCast_mul] at h1
    have : (((szW w : Nat) : Int) : Rat) = ((szW w : Nat) : Rat) := rfl
    rw [this] at h1
    generalize Rat.divInt (t * (szW w : Int)) B = u at h1 ⊢
    grind
end Nc
end
section
set_option maxHeartbeats 1000000
/-! What settling tells. -/
namespace Nc
def dumW : List W4 := [((0, 1, 0), 0), ((0, 0, 1), 0)]
def wsOf (n : Nat) (asked : List Sum2) : List W4 := asked.map intW ++ dumW.drop (n - 1)
def aimI (aim : List Rat) : I3 := intR aim (szS aim)
def startN (aim : List Rat) (many : Nat) : List Nat := (aim.mapIdx fun k w => if 0 < w.num then k else aim.length + k) ++ (List.range (3 - aim.length)).map fun j => many + j
def start3 (aim : List Rat) (many : Nat) : F3 Nat := mk3 ((startN aim many).getD 0 0) ((startN aim many).getD 1 0) ((startN aim many).getD 2 0)
/-- fractions over a shared bottom, all small enough -/
def Wb (l : List Rat) : Prop := ∃ D : Nat, 0 < D ∧ D < 2 ^ 1600 ∧ ∀ r ∈ l, Ov (2 ^ 1600 - 1) D r
structure AskOk (sp : List Span) (ws : List Sum2) (aim : List Rat) : Prop where
  n1 : 1 ≤ aim.length
  n3 : aim.length ≤ 3
  sl : sp.length = aim.length
  wl : ∀ w ∈ ws, w.1.length = aim.length
  wn : ws.length ≤ 60
  wb : ∀ w ∈ boxW sp ++ ws, Wb (w.1 ++ [w.2])
  ab : Wb aim
theorem good_diag {r : F3 I3} {a b c : Int} {aim : I3} (h0 : r 0 = (a, 0, 0)) (h1 : r 1 = (0, b, 0)) (h2 : r 2 = (0, 0, c)) (na : a ≠ 0) (nb : b ≠ 0) (nc : c ≠ 0)
    (ua : 0 ≤ aim.1 * a) (ub : 0 ≤ aim.2.1 * b) (uc : 0 ≤ aim.2.2 * c) : 0 < bot r ∧ ∀ p, 0 ≤ dt aim (cols r p) := by
  obtain ⟨ε, hε, e1, e2⟩ := sgn_of r
  have hd : det3 r = a * b * c := by
    simp only [det3, dt, xr, h0, h1, h2]
    grind
  have nd : a * b * c ≠ 0 := Int.mul_ne_zero (Int.mul_ne_zero na nb) nc
  have pb : 0 < bot r := by
    have h1 := bot_nonneg r
    have h2 : bot r ≠ 0 := by
      rw [e1, hd]
      refine Int.mul_ne_zero ?_ nd
      rcases hε with rfl | rfl <;> decide
    omega
  refine ⟨pb, ?_⟩
  have sq : ∀ {x : Int}, x ≠ 0 → 0 < x * x := fun {x} hx => by
    rcases Int.lt_or_gt_of_ne hx with h | h
    · exact Int.mul_pos_of_neg_of_neg h h
    · exact Int.mul_pos h h
  have key : ∀ {X x u : Int}, x ≠ 0 → X * (x * x) = bot r * (u * x) → 0 ≤ u * x → 0 ≤ X := fun {X x u} hx e hu => by
    apply Classical.byContradiction
    intro hn
    have h1 := Int.mul_neg_of_neg_of_pos (show X < 0 by omega) (sq hx)
    have h2 := Int.mul_nonneg (show 0 ≤ bot r by omega) hu
    omega
  refine all3 (key na ?_ ua) (key nb ?_ ub) (key nc ?_ uc)
  · rw [e2, e1, hd]
    show ε * dt aim (xr (r 1) (r 2)) * (a * a) = _
    simp only [dt, xr, h1, h2]
    grind
  · rw [e2, e1, hd]
    show ε * dt aim (xr (r 2) (r 0)) * (b * b) = _
    simp only [dt, xr, h0, h2]
    grind
  · rw [e2, e1, hd]
    show ε * dt aim (xr (r 0) (r 1)) * (c * c) = _
    simp only [dt, xr, h0, h1]
    grind
theorem topI_one (s : Nat) : topI 1 s = s := by
  unfold topI
  rw [show (1 : Rat).num = 1 from rfl, show (1 : Rat).den = 1 from rfl, Nat.div_one, Int.one_mul]
theorem topI_zero (s : Nat) : topI 0 s = 0 := by
  unfold topI
  rw [show (0 : Rat).num = 0 from rfl, Int.zero_mul]
theorem topI_neg1 (s : Nat) : topI (-1) s = -s := by
  unfold topI
  rw [show (-1 : Rat).num = -1 from rfl, show (-1 : Rat).den = 1 from rfl, Nat.div_one]
  omega
theorem m11 : (-1 : Rat) * 1 = -1 := by decide +kernel
theorem m10 : (-1 : Rat) * 0 = 0 := by decide +kernel
theorem wAt_of {ws : List W4} {i : Nat} {w : W4} (h : ws[i]? = some w) : wAt ws i = w := by
  unfold wAt
  rw [List.getD_eq_getElem?_getD, h]
  rfl
theorem pick_row {ask : List Sum2} {n i : Nat} {w : Sum2} (h : ask[i]? = some w) : wAt (wsOf n ask) i = intW w := by
  refine wAt_of ?_
  have := (List.getElem?_eq_some_iff.mp h).1
  unfold wsOf
  rw [List.getElem?_append_left (by rw [List.length_map]; omega), List.getElem?_map, h]
  rfl
theorem pick_dum {ask : List Sum2} {n j : Nat} {w : W4} (h : (dumW.drop (n - 1))[j]? = some w) : wAt (wsOf n ask) (ask.length + j) = w := by
  refine wAt_of ?_
  unfold wsOf
  rw [List.getElem?_append_right (by rw [List.length_map]; omega), List.length_map, Nat.add_sub_cancel_left]
  exact h
/-- at the sign's end: the side that the aim likes -/
theorem side {x : Rat} {s t u : Nat} (hs : 0 < s) (ht : 0 < t) : ((if 0 < x.num then ((s : Nat) : Int) else -((t : Nat) : Int)) ≠ 0) ∧ 0 ≤ topI x u * (if 0 < x.num then ((s : Nat) : Int) else -((t : Nat) : Int)) := by
  have hu : (0 : Int) ≤ ((u / x.den : Nat) : Int) := Int.natCast_nonneg _
  unfold topI
  by_cases h : 0 < x.num
  · rw [if_pos h]
    exact ⟨by omega, Int.mul_nonneg (Int.mul_nonneg (by omega) hu) (by omega)⟩
  · rw [if_neg h]
    exact ⟨by omega, Int.mul_nonneg_of_nonpos_of_nonpos (Int.mul_nonpos_of_nonpos_of_nonneg (by omega) hu) (by omega)⟩
theorem start_good {sp : List Span} {ws : List Sum2} {aim : List Rat} (ok : AskOk sp ws aim) : GoodB (wsOf aim.length (boxW sp ++ ws)) (aimI aim) (start3 aim (boxW sp ++ ws).length) := by
  have h1 := ok.n1
  have h3 := ok.n3
  have hs := ok.sl
  have hi : ∀ {k : Nat} {q : Span}, sp[k]? = some q → wAt (wsOf aim.length (boxW sp ++ ws)) k = intW (unit sp.length k, q.2) := fun {k q} h => by
    have kl := (List.getElem?_eq_some_iff.mp h).1
    refine pick_row ?_
    rw [List.getElem?_append_left (by rw [boxW_len]; omega)]
    unfold boxW
    rw [List.getElem?_append_left (by rw [hiW_len]; omega)]
    exact hiW_at h
  have lo : ∀ {k : Nat} {q : Span}, sp[k]? = some q → wAt (wsOf aim.length (boxW sp ++ ws)) (aim.length + k) = intW (stimes (-1) (unit sp.length k, q.1)) := fun {k q} h => by
    have kl := (List.getElem?_eq_some_iff.mp h).1
    refine pick_row ?_
    rw [List.getElem?_append_left (by rw [boxW_len]; omega)]
    unfold boxW
    rw [List.getElem?_append_right (by rw [hiW_len]; omega), hiW_len, ← hs, Nat.add_sub_cancel_left]
    exact loW_at h
  have dm : ∀ {j : Nat} {w : W4}, (dumW.drop (aim.length - 1))[j]? = some w → wAt (wsOf aim.length (boxW sp ++ ws)) ((boxW sp ++ ws).length + j) = w := fun {j w} h => pick_dum h
  have both : ∀ {k : Nat} {q : Span} {x : Rat}, sp[k]? = some q → (wAt (wsOf aim.length (boxW sp ++ ws)) (if 0 < x.num then k else aim.length + k)).1 = intR (if 0 < x.num then unit sp.length k else (unit sp.length k).map fun x => -1 * x) (if 0 < x.num then szW (unit sp.length k, q.2) else szW (stimes (-1) (unit sp.length k, q.1))) := fun {k q x} h => by
    by_cases hx : 0 < x.num
    · simp only [if_pos hx, hi h]
      rfl
    · simp only [if_neg hx, lo h]
      rfl
  have tl : (boxW sp ++ ws).length = 2 * aim.length + ws.length := by rw [List.length_append, boxW_len, hs]
  have wl : (wsOf aim.length (boxW sp ++ ws)).length = 2 * aim.length + ws.length + (3 - aim.length) := by
    unfold wsOf
    rw [List.length_append, List.length_map, tl, List.length_drop]
    show _ + (2 - (aim.length - 1)) = _
    omega
  have idx : ∀ {x : Rat} {k n : Nat}, k < n → (if 0 < x.num then k else n + k) < 2 * n := fun {x k n} h => by split <;> omega
  clear ok hi lo
  generalize boxW sp ++ ws = ask at dm both tl wl ⊢
  match sp, aim, hs, h1, h3 with
  | [q0], [a0], _, _, _ =>
    have b0 := both (k := 0) (q := q0) (x := a0) rfl
    have d0 := dm (j := 0) rfl
    have d1 := dm (j := 1) rfl
    have ⟨s1, s2⟩ := side (x := a0) (u := szS [a0]) (szW_pos (unit [q0].length 0, q0.2)) (szW_pos (stimes (-1) (unit [q0].length 0, q0.1)))
    have g := good_diag (r := rowsOf (wsOf [a0].length ask) (start3 [a0] ask.length)) (aim := aimI [a0]) (a := if 0 < a0.num then ((szW (unit [q0].length 0, q0.2) : Nat) : Int) else -((szW (stimes (-1) (unit [q0].length 0, q0.1)) : Nat) : Int)) (b := 1) (c := 1)
      (by
        show (wAt (wsOf [a0].length ask) (if 0 < a0.num then 0 else 1 + 0)).1 = _
        rw [show (1 + 0 : Nat) = [a0].length + 0 from rfl, b0]
        by_cases hx : 0 < a0.num
        · simp only [if_pos hx]
          show (topI 1 _, (0 : Int), (0 : Int)) = _
          rw [topI_one]
        · simp only [if_neg hx]
          show (topI (-1 * 1) _, (0 : Int), (0 : Int)) = _
          rw [m11, topI_neg1])
      (by
        show (wAt (wsOf [a0].length ask) (ask.length + 0)).1 = _
        rw [d0])
      (by
        show (wAt (wsOf [a0].length ask) (ask.length + 1)).1 = _
        rw [d1])
      s1 (by decide) (by decide) s2 (by show 0 ≤ (0 : Int) * 1; decide) (by show 0 ≤ (0 : Int) * 1; decide)
    refine ⟨g.1, g.2, ?_⟩
    rw [wl]
    have i0 := idx (x := a0) (k := 0) (n := 1) (by decide)
    refine all3 ?_ ?_ ?_
    · show (if 0 < a0.num then 0 else 1 + 0) < 2 * 1 + _ + (3 - 1)
      omega
    · show ask.length + 0 < 2 * 1 + _ + (3 - 1)
      have tl : ask.length = 2 * 1 + ws.length := tl
      omega
    · show ask.length + 1 < 2 * 1 + _ + (3 - 1)
      have tl : ask.length = 2 * 1 + ws.length := tl
      omega
  | [q0, q1], [a0, a1], _, _, _ =>
    have b0 := both (k := 0) (q := q0) (x := a0) rfl
    have b1 := both (k := 1) (q := q1) (x := a1) rfl
    have d0 := dm (j := 0) rfl
    have ⟨s1, s2⟩ := side (x := a0) (u := szS [a0, a1]) (szW_pos (unit [q0, q1].length 0, q0.2)) (szW_pos (stimes (-1) (unit [q0, q1].length 0, q0.1)))
    have ⟨t1, t2⟩ := side (x := a1) (u := szS [a0, a1]) (szW_pos (unit [q0, q1].length 1, q1.2)) (szW_pos (stimes (-1) (unit [q0, q1].length 1, q1.1)))
    have g := good_diag (r := rowsOf (wsOf [a0, a1].length ask) (start3 [a0, a1] ask.length)) (aim := aimI [a0, a1])
      (a := if 0 < a0.num then ((szW (unit [q0, q1].length 0, q0.2) : Nat) : Int) else -((szW (stimes (-1) (unit [q0, q1].length 0, q0.1)) : Nat) : Int))
      (b := if 0 < a1.num then ((szW (unit [q0, q1].length 1, q1.2) : Nat) : Int) else -((szW (stimes (-1) (unit [q0, q1].length 1, q1.1)) : Nat) : Int)) (c := 1)
      (by
        show (wAt (wsOf [a0, a1].length ask) (if 0 < a0.num then 0 else 2 + 0)).1 = _
        rw [show (2 + 0 : Nat) = [a0, a1].length + 0 from rfl, b0]
        by_cases hx : 0 < a0.num
        · simp only [if_pos hx]
          show (topI 1 _, topI 0 _, (0 : Int)) = _
          rw [topI_one, topI_zero]
        · simp only [if_neg hx]
          show (topI (-1 * 1) _, topI (-1 * 0) _, (0 : Int)) = _
          rw [m11, m10, topI_neg1, topI_zero])
      (by
        show (wAt (wsOf [a0, a1].length ask) (if 0 < a1.num then 1 else 2 + 1)).1 = _
        rw [show (2 + 1 : Nat) = [a0, a1].length + 1 from rfl, b1]
        by_cases hx : 0 < a1.num
        · simp only [if_pos hx]
          show (topI 0 _, topI 1 _, (0 : Int)) = _
          rw [topI_one, topI_zero]
        · simp only [if_neg hx]
          show (topI (-1 * 0) _, topI (-1 * 1) _, (0 : Int)) = _
          rw [m11, m10, topI_neg1, topI_zero])
      (by
        show (wAt (wsOf [a0, a1].length ask) (ask.length + 0)).1 = _
        rw [d0])
      s1 t1 (by decide) s2 t2 (by show 0 ≤ (0 : Int) * 1; decide)
    refine ⟨g.1, g.2, ?_⟩
    rw [wl]
    have i0 := idx (x := a0) (k := 0) (n := 2) (by decide)
    have i1 := idx (x := a1) (k := 1) (n := 2) (by decide)
    have tl : ask.length = 2 * 2 + ws.length := tl
    refine all3 ?_ ?_ ?_
    · show (if 0 < a0.num then 0 else 2 + 0) < 2 * 2 + _ + (3 - 2)
      omega
    · show (if 0 < a1.num then 1 else 2 + 1) < 2 * 2 + _ + (3 - 2)
      omega
    · show ask.length + 0 < 2 * 2 + _ + (3 - 2)
      omega
  | [q0, q1, q2], [a0, a1, a2], _, _, _ =>
    have b0 := both (k := 0) (q := q0) (x := a0) rfl
    have b1 := both (k := 1) (q := q1) (x := a1) rfl
    have b2 := both (k := 2) (q := q2) (x := a2) rfl
    have ⟨s1, s2⟩ := side (x := a0) (u := szS [a0, a1, a2]) (szW_pos (unit [q0, q1, q2].length 0, q0.2)) (szW_pos (stimes (-1) (unit [q0, q1, q2].length 0, q0.1)))
    have ⟨t1, t2⟩ := side (x := a1) (u := szS [a0, a1, a2]) (szW_pos (unit [q0, q1, q2].length 1, q1.2)) (szW_pos (stimes (-1) (unit [q0, q1, q2].length 1, q1.1)))
    have ⟨u1, u2⟩ := side (x := a2) (u := szS [a0, a1, a2]) (szW_pos (unit [q0, q1, q2].length 2, q2.2)) (szW_pos (stimes (-1) (unit [q0, q1, q2].length 2, q2.1)))
    have g := good_diag (r := rowsOf (wsOf [a0, a1, a2].length ask) (start3 [a0, a1, a2] ask.length)) (aim := aimI [a0, a1, a2])
      (a := if 0 < a0.num then ((szW (unit [q0, q1, q2].length 0, q0.2) : Nat) : Int) else -((szW (stimes (-1) (unit [q0, q1, q2].length 0, q0.1)) : Nat) : Int))
      (b := if 0 < a1.num then ((szW (unit [q0, q1, q2].length 1, q1.2) : Nat) : Int) else -((szW (stimes (-1) (unit [q0, q1, q2].length 1, q1.1)) : Nat) : Int))
      (c := if 0 < a2.num then ((szW (unit [q0, q1, q2].length 2, q2.2) : Nat) : Int) else -((szW (stimes (-1) (unit [q0, q1, q2].length 2, q2.1)) : Nat) : Int))
      (by
        show (wAt (wsOf [a0, a1, a2].length ask) (if 0 < a0.num then 0 else 3 + 0)).1 = _
        rw [show (3 + 0 : Nat) = [a0, a1, a2].length + 0 from rfl, b0]
        by_cases hx : 0 < a0.num
        · simp only [if_pos hx]
          show (topI 1 _, topI 0 _, topI 0 _) = _
          rw [topI_one, topI_zero]
        · simp only [if_neg hx]
          show (topI (-1 * 1) _, topI (-1 * 0) _, topI (-1 * 0) _) = _
          rw [m11, m10, topI_neg1, topI_zero])
      (by
        show (wAt (wsOf [a0, a1, a2].length ask) (if 0 < a1.num then 1 else 3 + 1)).1 = _
        rw [show (3 + 1 : Nat) = [a0, a1, a2].length + 1 from rfl, b1]
        by_cases hx : 0 < a1.num
        · simp only [if_pos hx]
          show (topI 0 _, topI 1 _, topI 0 _) = _
          rw [topI_one, topI_zero]
        · simp only [if_neg hx]
          show (topI (-1 * 0) _, topI (-1 * 1) _, topI (-1 * 0) _) = _
          rw [m11, m10, topI_neg1, topI_zero])
      (by
        show (wAt (wsOf [a0, a1, a2].length ask) (if 0 < a2.num then 2 else 3 + 2)).1 = _
        rw [show (3 + 2 : Nat) = [a0, a1, a2].length + 2 from rfl, b2]
        by_cases hx : 0 < a2.num
        · simp only [if_pos hx]
          show (topI 0 _, topI 0 _, topI 1 _) = _
          rw [topI_one, topI_zero]
        · simp only [if_neg hx]
          show (topI (-1 * 0) _, topI (-1 * 0) _, topI (-1 * 1) _) = _
          rw [m11, m10, topI_neg1, topI_zero])
      s1 t1 u1 s2 t2 u2
    refine ⟨g.1, g.2, ?_⟩
    rw [wl]
    have i0 := idx (x := a0) (k := 0) (n := 3) (by decide)
    have i1 := idx (x := a1) (k := 1) (n := 3) (by decide)
    have i2 := idx (x := a2) (k := 2) (n := 3) (by decide)
    refine all3 ?_ ?_ ?_
    · show (if 0 < a0.num then 0 else 3 + 0) < 2 * 3 + _ + (3 - 3)
      omega
    · show (if 0 < a1.num then 1 else 3 + 1) < 2 * 3 + _ + (3 - 3)
      omega
    · show (if 0 < a2.num then 2 else 3 + 2) < 2 * 3 + _ + (3 - 3)
      omega
  | [], aim, hs, h1, _ =>
    simp at hs
    omega
  | _ :: _ :: _ :: _ :: _, aim, hs, _, h3 =>
    simp at hs
    omega
  | [_], [], hs, _, _ => exact absurd hs (by simp)
  | [_], _ :: _ :: _, hs, _, _ => exact absurd hs (by simp)
  | [_, _], [], hs, _, _ => exact absurd hs (by simp)
  | [_, _], [_], hs, _, _ => exact absurd hs (by simp)
  | [_, _], _ :: _ :: _ :: _, hs, _, _ => exact absurd hs (by simp)
  | [_, _, _], [], hs, _, _ => exact absurd hs (by simp)
  | [_, _, _], [_], hs, _, _ => exact absurd hs (by simp)
  | [_, _, _], [_, _], hs, _, _ => exact absurd hs (by simp)
  | [_, _, _], _ :: _ :: _ :: _ :: _, hs, _, _ => exact absurd hs (by simp)
end Nc
end
section
set_option maxHeartbeats 1000000
/-! What settling tells: right, and of what size. -/
namespace Nc
def fiRow (j : Fin 3) (w : Sum2) : Int := match j with | 0 => (intW w).1.1 | 1 => (intW w).1.2.1 | 2 => (intW w).1.2.2
def fiNum (w : Sum2) : Int := (intW w).2
def c3 (j : Fin 3) (u : I3) : Int := match j with | 0 => u.1 | 1 => u.2.1 | 2 => u.2.2
def unit3 (j : Fin 3) : I3 := match j with | 0 => (1, 0, 0) | 1 => (0, 1, 0) | 2 => (0, 0, 1)
theorem dt_unit (u : I3) : ∀ j, dt u (unit3 j) = c3 j u := all3 (by show u.1 * 1 + u.2.1 * 0 + u.2.2 * 0 = u.1; omega) (by show u.1 * 0 + u.2.1 * 1 + u.2.2 * 0 = u.2.1; omega) (by show u.1 * 0 + u.2.1 * 0 + u.2.2 * 1 = u.2.2; omega)
theorem fiRow_eq {w : Sum2} {j : Fin 3} (hl : w.1.length ≤ 3) : ((fiRow j w : Int) : Rat) = w.1.getD j.val 0 * (szW w : Rat) := by
  have go : ∀ k : Nat, (((w.1.map fun r => topI r (szW w)).getD k 0 : Int) : Rat) = w.1.getD k 0 * (szW w : Rat) := by
    intro k
    rw [List.getD_eq_getElem?_getD, List.getD_eq_getElem?_getD, List.getElem?_map]
    cases hk : w.1[k]? with
    | none => show ((0 : Int) : Rat) = 0 * _; grind
    | some r => exact topI_eq (szW_row (List.mem_of_getElem? hk))
  exact match j with | 0 => go 0 | 1 => go 1 | 2 => go 2
theorem fiNum_eq (w : Sum2) : ((fiNum w : Int) : Rat) = w.2 * (szW w : Rat) := topI_eq (szW_num w)
/-- all tops of something -/
def fsum (ws : List W4) (f : W4 → Int) (tops : List Int) : Int := wsum tops (ws.map f)
theorem map_at {ws : List W4} {f : W4 → Int} {i : Nat} (h : i < ws.length) : (ws.map f).getD i 0 = f (wAt ws i) := by
  unfold wAt
  rw [List.getD_eq_getElem?_getD, List.getD_eq_getElem?_getD, List.getElem?_map, List.getElem?_eq_getElem h]
  rfl
theorem fsum_plc {ws : List W4} {aim : I3} {h : F3 Nat} (g : GoodB ws aim h) (f : W4 → Int) (y : F3 Int) : fsum ws f (plc ws.length h y) = y 0 * f (wAt ws (h 0)) + y 1 * f (wAt ws (h 1)) + y 2 * f (wAt ws (h 2)) := by
  unfold fsum
  rw [plc_sum g.lt (by rw [List.length_map]) g.inj, map_at (g.lt 0), map_at (g.lt 1), map_at (g.lt 2)]
/-- the tops where the corner keeps all -/
def topsM (ws : List W4) (aim : I3) (h : F3 Nat) : List Int := plc ws.length h (loadsOf ws aim h)
/-- the tops where nothing keeps all -/
def topsE (ws : List W4) (h : F3 Nat) (e : Nat) : List Int := (plc ws.length h fun p => - sharesOf ws h e p).set e (botOf ws h)
theorem most_row {ws : List W4} {aim : I3} {h : F3 Nat} (g : GoodB ws aim h) (j : Fin 3) : fsum ws (fun w => c3 j w.1) (topsM ws aim h) = botOf ws h * c3 j aim := by
  unfold topsM
  rw [fsum_plc g]
  have f := full (rowsOf ws h) aim (unit3 j)
  rw [dt_unit, dt_unit, dt_unit, dt_unit] at f
  exact f.symm
theorem most_num {ws : List W4} {aim : I3} {h : F3 Nat} (g : GoodB ws aim h) : fsum ws (fun w => w.2) (topsM ws aim h) = dt aim (spotOf ws h) := by
  unfold topsM
  rw [fsum_plc g, dt_spotOf]
  show dt aim (colsOf ws h 0) * _ + dt aim (colsOf ws h 1) * _ + dt aim (colsOf ws h 2) * _ = _
  grind
theorem not_held {ws : List W4} {aim : I3} {h : F3 Nat} {e : Nat} (g : GoodB ws aim h) (he : firstB ws h = some e) : ∀ p, h p ≠ e := by
  intro p hp
  have h1 := (first_some he).2.1
  have h2 := tight_b (ws := ws) (h := h) p
  rw [hp] at h2
  omega
theorem fsum_E {ws : List W4} {aim : I3} {h : F3 Nat} {e : Nat} (g : GoodB ws aim h) (he : firstB ws h = some e) (f : W4 → Int) :
    fsum ws f (topsE ws h e) = botOf ws h * f (wAt ws e) - (sharesOf ws h e 0 * f (wAt ws (h 0)) + sharesOf ws h e 1 * f (wAt ws (h 1)) + sharesOf ws h e 2 * f (wAt ws (h 2))) := by
  have hl := (first_some he).1
  have e1 := fsum_plc g f fun p => - sharesOf ws h e p
  unfold fsum topsE at *
  rw [wsum_set _ _ _ _ (by rw [plc_len]; exact hl) (by rw [List.length_map]; exact hl), plc_at (not_held g he), map_at hl, e1]
  grind
theorem empty_row {ws : List W4} {aim : I3} {h : F3 Nat} {e : Nat} (g : GoodB ws aim h) (he : firstB ws h = some e) (j : Fin 3) : fsum ws (fun w => c3 j w.1) (topsE ws h e) = 0 := by
  rw [fsum_E g he]
  have f := full (rowsOf ws h) (wAt ws e).1 (unit3 j)
  rw [dt_unit, dt_unit, dt_unit, dt_unit] at f
  have f : botOf ws h * c3 j (wAt ws e).1 = sharesOf ws h e 0 * c3 j (wAt ws (h 0)).1 + sharesOf ws h e 1 * c3 j (wAt ws (h 1)).1 + sharesOf ws h e 2 * c3 j (wAt ws (h 2)).1 := f
  omega
theorem empty_num {ws : List W4} {aim : I3} {h : F3 Nat} {e : Nat} (g : GoodB ws aim h) (he : firstB ws h = some e) : fsum ws (fun w => w.2) (topsE ws h e) < 0 := by
  rw [fsum_E g he]
  have h1 := (first_some he).2.1
  have h2 := dt_spotOf (ws := ws) (h := h) (wAt ws e).1
  have h2 : dt (wAt ws e).1 (spotOf ws h) = (wAt ws (h 0)).2 * sharesOf ws h e 0 + (wAt ws (h 1)).2 * sharesOf ws h e 1 + (wAt ws (h 2)).2 * sharesOf ws h e 2 := h2
  have e1 : botOf ws h * (wAt ws e).2 - (sharesOf ws h e 0 * (wAt ws (h 0)).2 + sharesOf ws h e 1 * (wAt ws (h 1)).2 + sharesOf ws h e 2 * (wAt ws (h 2)).2) = (wAt ws e).2 * botOf ws h - dt (wAt ws e).1 (spotOf ws h) := by
    rw [h2]
    grind
  rw [e1]
  omega
theorem topsM_nonneg {ws : List W4} {aim : I3} {h : F3 Nat} (g : GoodB ws aim h) : ∀ t ∈ topsM ws aim h, 0 ≤ t := plc_mem (P := fun t => 0 ≤ t) (Int.le_refl 0) g.load
theorem topsE_nonneg {ws : List W4} {aim : I3} {h : F3 Nat} {e : Nat} (g : GoodB ws aim h) (hl : leave h (sharesOf ws h e) (loadsOf ws aim h) = none) : ∀ t ∈ topsE ws h e, 0 ≤ t := by
  have ok := leave_ok h (sharesOf ws h e) (loadsOf ws aim h)
  rw [hl] at ok
  intro t ht
  rcases List.mem_or_eq_of_mem_set ht with ht | rfl
  · exact plc_mem (P := fun t => 0 ≤ t) (Int.le_refl 0) (fun p => by have := ok p trivial; omega) t ht
  · have := g.pos
    omega
theorem topsM_len {ws : List W4} {aim : I3} {h : F3 Nat} : (topsM ws aim h).length = ws.length := plc_len
theorem topsE_len {ws : List W4} {h : F3 Nat} {e : Nat} : (topsE ws h e).length = ws.length := by
  unfold topsE
  rw [List.length_set, plc_len]
/-! ### in fractions -/
theorem muls_len {tops : List Int} {asked : List Sum2} {B : Int} (h : asked.length ≤ tops.length) : (mulsOf tops asked B).length = asked.length := by
  unfold mulsOf
  rw [List.length_zipWith]
  omega
theorem muls_at {tops : List Int} {asked : List Sum2} {B : Int} {i : Nat} {m : Rat} (h : (mulsOf tops asked B)[i]? = some m) : ∃ t w, tops[i]? = some t ∧ asked[i]? = some w ∧ m = Rat.divInt (t * (szW w : Int)) B := by
  unfold mulsOf at h
  rw [List.getElem?_zipWith] at h
  cases ht : tops[i]? with
  | none => simp [ht] at h
  | some t =>
    cases hw : asked[i]? with
    | none => simp [ht, hw] at h
    | some w =>
      simp [ht, hw] at h
      exact ⟨t, w, rfl, rfl, h.symm⟩
theorem muls_nonneg {tops : List Int} {asked : List Sum2} {B : Int} (hB : 0 < B) (h : ∀ t ∈ tops, 0 ≤ t) : ∀ m ∈ mulsOf tops asked B, 0 ≤ m := by
  intro m hm
  obtain ⟨i, hi⟩ := List.mem_iff_getElem?.mp hm
  obtain ⟨t, w, ht, hw, rfl⟩ := muls_at hi
  exact Rat.divInt_nonneg (Int.mul_nonneg (h t (List.mem_of_getElem? ht)) (Int.natCast_nonneg _)) (by omega)
theorem dum_zero {n : Nat} (h1 : 1 ≤ n) (h3 : n ≤ 3) {asked : List Sum2} {j : Fin 3} (hj : j.val < n) (tops : List Int) : fsum (wsOf n asked) (fun w => c3 j w.1) tops = wsum tops (asked.map (fiRow j)) := by
  unfold fsum wsOf
  rw [List.map_append, List.map_map]
  have e : (dumW.drop (n - 1)).map (fun w => c3 j w.1) = List.replicate (3 - n) 0 := by
    have : n = 1 ∨ n = 2 ∨ n = 3 := by omega
    rcases this with rfl | rfl | rfl
    · match j, hj with
      | 0, _ => rfl
    · match j, hj with
      | 0, _ => rfl
      | 1, _ => rfl
    · rfl
  rw [e, wsum_zeros]
  congr 1
theorem dum_num {n : Nat} (h1 : 1 ≤ n) (h3 : n ≤ 3) {asked : List Sum2} (tops : List Int) : fsum (wsOf n asked) (fun w => w.2) tops = wsum tops (asked.map fiNum) := by
  unfold fsum wsOf
  rw [List.map_append, List.map_map]
  have e : (dumW.drop (n - 1)).map (fun w => w.2) = List.replicate (3 - n) 0 := by
    have : n = 1 ∨ n = 2 ∨ n = 3 := by omega
    rcases this with rfl | rfl | rfl <;> rfl
  rw [e, wsum_zeros]
  first | done | rfl
def xOf (n : Nat) (ws : List W4) (h : F3 Nat) : List Rat := overN n (spotOf ws h) (botOf ws h)
theorem divI_mul {a b c : Int} (hb : b ≠ 0) (hc : c ≠ 0) : Rat.divInt (b * a) (b * c) = Rat.divInt a c := by
  rw [Int.mul_comm b a, Int.mul_comm b c, Rat.divInt_mul_right hb]
theorem num_neg_of {t B : Int} (hB : 0 < B) (ht : t < 0) : (Rat.divInt t B).num < 0 := by
  rw [← num_div hB]
  have g := gcd_pos (t := t) hB
  exact Int.ediv_neg_of_neg_of_pos ht g
/-- where the corner keeps all wishes -/
structure MostR (asked : List Sum2) (aim x : List Rat) (ms : List Rat) : Prop where
  xl : x.length = aim.length
  ml : ms.length = asked.length
  keeps : ∀ w ∈ asked, weighs (w.1.zip x) ≤ w.2
  nn : ∀ m ∈ ms, 0 ≤ m
  row : ∀ j, j < aim.length → dotc (fun w => w.1.getD j 0) asked ms = aim.getD j 0
  num : dotc (fun w => w.2) asked ms = weighs (aim.zip x)
/-- where nothing keeps them all -/
structure EmptyR (n : Nat) (asked : List Sum2) (ms : List Rat) : Prop where
  ml : ms.length = asked.length
  nn : ∀ m ∈ ms, 0 ≤ m
  row : ∀ j, j < n → dotc (fun w => w.1.getD j 0) asked ms = 0
  num : (dotc (fun w => w.2) asked ms).num < 0
theorem ask_len {sp : List Span} {ws : List Sum2} {aim : List Rat} (ok : AskOk sp ws aim) : ∀ w ∈ boxW sp ++ ws, w.1.length = aim.length := by
  intro w hw
  rcases List.mem_append.mp hw with hw | hw
  · unfold boxW at hw
    rcases List.mem_append.mp hw with hw | hw
    · obtain ⟨i, hi⟩ := List.mem_iff_getElem?.mp hw
      unfold hiW at hi
      rw [List.getElem?_mapIdx] at hi
      cases hq : sp[i]? with
      | none => simp [hq] at hi
      | some q =>
        simp [hq] at hi
        rw [← hi, ← ok.sl]
        unfold unit
        simp
    · obtain ⟨i, hi⟩ := List.mem_iff_getElem?.mp hw
      unfold loW at hi
      rw [List.getElem?_mapIdx] at hi
      cases hq : sp[i]? with
      | none => simp [hq] at hi
      | some q =>
        simp [hq] at hi
        rw [← hi, ← ok.sl]
        unfold stimes unit
        simp
  · exact ok.wl w hw
theorem most_r {sp : List Span} {ws : List Sum2} {aim : List Rat} {h : F3 Nat} (ok : AskOk sp ws aim) (g : GoodB (wsOf aim.length (boxW sp ++ ws)) (aimI aim) h) (hf : firstB (wsOf aim.length (boxW sp ++ ws)) h = none) :
    MostR (boxW sp ++ ws) aim (xOf aim.length (wsOf aim.length (boxW sp ++ ws)) h) (mulsOf (topsM (wsOf aim.length (boxW sp ++ ws)) (aimI aim) h) (boxW sp ++ ws) (botOf (wsOf aim.length (boxW sp ++ ws)) h * (szS aim : Int))) := by
  have n1 := ok.n1
  have n3 := ok.n3
  have al := ask_len ok
  generalize boxW sp ++ ws = asked at *
  have pos := g.pos
  have sp0 : (0 : Int) < (szS aim : Int) := by
    have := szS_pos aim
    omega
  have hB : 0 < botOf (wsOf aim.length asked) h * (szS aim : Int) := Int.mul_pos pos sp0
  have wl : (wsOf aim.length asked).length ≥ asked.length := by
    unfold wsOf
    rw [List.length_append, List.length_map]
    omega
  have aimf : ∀ j : Fin 3, ((c3 j (aimI aim) : Int) : Rat) = aim.getD j.val 0 * (szS aim : Rat) := by
    have go : ∀ k : Nat, (((aim.map fun r => topI r (szS aim)).getD k 0 : Int) : Rat) = aim.getD k 0 * (szS aim : Rat) := by
      intro k
      rw [List.getD_eq_getElem?_getD, List.getD_eq_getElem?_getD, List.getElem?_map]
      cases hk : aim[k]? with
      | none => show ((0 : Int) : Rat) = 0 * _; grind
      | some r => exact topI_eq (szS_dvd (List.mem_of_getElem? hk))
    exact all3 (go 0) (go 1) (go 2)
  refine ⟨overN_len n3, muls_len (by rw [topsM_len]; exact wl), fun w hw => ?_, muls_nonneg hB (topsM_nonneg g), fun j hj => ?_, ?_⟩
  · have hk := first_none hf (intW w) (by unfold wsOf; exact List.mem_append_left _ (List.mem_map_of_mem hw))
    have e1 := dt_over (row := w.1) (s := szW w) (S := spotOf (wsOf aim.length asked) h) (D := botOf (wsOf aim.length asked) h) (by rw [al w hw]; exact n3) (fun r hr => szW_row hr) (by omega)
    rw [al w hw] at e1
    have e2 := fiNum_eq w
    have hk : dt (intR w.1 (szW w)) (spotOf (wsOf aim.length asked) h) ≤ fiNum w * botOf (wsOf aim.length asked) h := hk
    have hk := Rat.intCast_le_intCast.mpr hk
    rw [e1, Rat.intCast_mul, e2] at hk
    have s0 : (0 : Rat) < (szW w : Rat) * (botOf (wsOf aim.length asked) h : Rat) := Rat.mul_pos (by have := szW_pos w; exact_mod_cast this) (by exact_mod_cast pos)
    refine Rat.le_of_mul_le_mul_right ?_ s0
    show weighs (w.1.zip (overN aim.length _ _)) * _ ≤ _
    grind
  · have hj3 : j < 3 := by omega
    rw [dotc_muls (fi := fiRow ⟨j, hj3⟩) (by omega) fun w hw => fiRow_eq (by rw [al w hw]; exact n3), ← dum_zero n1 n3 (j := ⟨j, hj3⟩) hj, most_row g, divI_mul (by omega) (by omega)]
    have e := aimf ⟨j, hj3⟩
    refine eq_of_mul (cast_ne (D := (szS aim : Int)) (by omega)) ?_
    rw [mulD (by omega), e]
    rfl
  · rw [dotc_muls (fi := fiNum) (by omega) fun w _ => fiNum_eq w, ← dum_num n1 n3, most_num g]
    refine eq_of_mul (cast_ne (D := botOf (wsOf aim.length asked) h * (szS aim : Int)) (by omega)) ?_
    have e1 := dt_over (row := aim) (s := szS aim) (S := spotOf (wsOf aim.length asked) h) (D := botOf (wsOf aim.length asked) h) n3 (fun r hr => szS_dvd hr) (by omega)
    rw [mulD (by omega), Rat.intCast_mul]
    have e1 : ((dt (aimI aim) (spotOf (wsOf aim.length asked) h) : Int) : Rat) = _ := e1
    rw [e1]
    have : (((szS aim : Nat) : Int) : Rat) = ((szS aim : Nat) : Rat) := rfl
    rw [this]
    unfold xOf
    grind
theorem empty_r {sp : List Span} {ws : List Sum2} {aim : List Rat} {h : F3 Nat} {e : Nat} (ok : AskOk sp ws aim) (g : GoodB (wsOf aim.length (boxW sp ++ ws)) (aimI aim) h) (hf : firstB (wsOf aim.length (boxW sp ++ ws)) h = some e)
    (hl : leave h (sharesOf (wsOf aim.length (boxW sp ++ ws)) h e) (loadsOf (wsOf aim.length (boxW sp ++ ws)) (aimI aim) h) = none) :
    EmptyR aim.length (boxW sp ++ ws) (mulsOf (topsE (wsOf aim.length (boxW sp ++ ws)) h e) (boxW sp ++ ws) (botOf (wsOf aim.length (boxW sp ++ ws)) h)) := by
  have n1 := ok.n1
  have n3 := ok.n3
  have al := ask_len ok
  generalize boxW sp ++ ws = asked at *
  have pos := g.pos
  have wl : (wsOf aim.length asked).length ≥ asked.length := by
    unfold wsOf
    rw [List.length_append, List.length_map]
    omega
  refine ⟨muls_len (by rw [topsE_len]; exact wl), muls_nonneg pos (topsE_nonneg g hl), fun j hj => ?_, ?_⟩
  · have hj3 : j < 3 := by omega
    rw [dotc_muls (fi := fiRow ⟨j, hj3⟩) (by omega) fun w hw => fiRow_eq (by rw [al w hw]; exact n3), ← dum_zero n1 n3 (j := ⟨j, hj3⟩) hj, empty_row g hf, Rat.zero_divInt]
  · rw [dotc_muls (fi := fiNum) (by omega) fun w _ => fiNum_eq w, ← dum_num n1 n3]
    exact num_neg_of pos (empty_num g hf)
/-- how many turns the walk takes, and where it ends -/
noncomputable def endK (ws : List W4) (aim : I3) (h0 : F3 Nat) : Nat := by
  classical exact if g : GoodB ws aim h0 then Classical.choose (walk_ends g) else 0
noncomputable def endB (ws : List W4) (aim : I3) (h0 : F3 Nat) : F3 Nat := stB ws aim h0 (endK ws aim h0)
theorem end_b {ws : List W4} {aim : I3} {h0 : F3 Nat} (g : GoodB ws aim h0) : (∀ k, k < endK ws aim h0 → stepB ws aim (stB ws aim h0 k) = some (stB ws aim h0 (k + 1))) ∧ stepB ws aim (endB ws aim h0) = none ∧ ∀ k, k ≤ endK ws aim h0 → GoodB ws aim (stB ws aim h0 k) := by
  have := Classical.choose_spec (walk_ends g)
  have e : endK ws aim h0 = Classical.choose (walk_ends g) := by
    unfold endK
    rw [dif_pos g]
  unfold endB
  rw [e]
  exact this
/-- what is told of all wishes and an aim: a spot, or none, and multiples -/
noncomputable def tellB (asked : List Sum2) (aim : List Rat) (h : F3 Nat) : Option (List Rat) × List Rat :=
  match firstB (wsOf aim.length asked) h with
  | none => (some (xOf aim.length (wsOf aim.length asked) h), mulsOf (topsM (wsOf aim.length asked) (aimI aim) h) asked (botOf (wsOf aim.length asked) h * (szS aim : Int)))
  | some e => (none, mulsOf (topsE (wsOf aim.length asked) h e) asked (botOf (wsOf aim.length asked) h))
noncomputable def settleR (asked : List Sum2) (aim : List Rat) : Option (List Rat) × List Rat := tellB asked aim (endB (wsOf aim.length asked) (aimI aim) (start3 aim asked.length))
theorem settle_r {sp : List Span} {ws : List Sum2} {aim : List Rat} (ok : AskOk sp ws aim) :
    (∃ x ms, settleR (boxW sp ++ ws) aim = (some x, ms) ∧ MostR (boxW sp ++ ws) aim x ms) ∨ ∃ ms, settleR (boxW sp ++ ws) aim = (none, ms) ∧ EmptyR aim.length (boxW sp ++ ws) ms := by
  have g0 := start_good ok
  obtain ⟨_, h2, h3⟩ := end_b g0
  have g := h3 _ (Nat.le_refl _)
  unfold settleR tellB
  have e0 : stB (wsOf aim.length (boxW sp ++ ws)) (aimI aim) (start3 aim (boxW sp ++ ws).length) (endK (wsOf aim.length (boxW sp ++ ws)) (aimI aim) (start3 aim (boxW sp ++ ws).length)) = endB (wsOf aim.length (boxW sp ++ ws)) (aimI aim) (start3 aim (boxW sp ++ ws).length) := rfl
  rw [e0] at g
  generalize endB (wsOf aim.length (boxW sp ++ ws)) (aimI aim) (start3 aim (boxW sp ++ ws).length) = h at g h2
  cases hf : firstB (wsOf aim.length (boxW sp ++ ws)) h with
  | none =>
    simp only [hf]
    exact .inl ⟨_, _, rfl, most_r ok g hf⟩
  | some e =>
    simp only [hf]
    refine .inr ⟨_, rfl, empty_r ok g hf ?_⟩
    cases hl : leave h (sharesOf (wsOf aim.length (boxW sp ++ ws)) h e) (loadsOf (wsOf aim.length (boxW sp ++ ws)) (aimI aim) h) with
    | none => rfl
    | some r =>
      unfold stepB at h2
      simp only [hf, hl] at h2
      cases h2
end Nc
end
section
set_option maxRecDepth 100000
set_option maxHeartbeats 4000000
namespace Nc
open PySem PySem.Spec PyProof.Rows L2 Evl
/-! ### C.m(..), C an own class of the top, m a plain def of its body -/
/-- what the top has written of such a def -/
structure CFn (K : PySem.W.Frag) (mg : Str → Option Value) (x : Str) (C : Addr) (m : Str) (f : Addr) : Prop where
  gC : mg x = some (.ref C)
  rd : ClX.CRead K C (.type "type")
  at_ : PySem.W.findCls K (.ref C) (.type "type") m = some (.val (.ref f))
  kf : PySem.W.keepIn K (.ref f) = true
section
variable {X : Cx} {k : Nat} {C f : Addr} {fd : FuncData} {x m : Str} {ps : List Str} {sp : Sp} {e : Expr} {es : List Expr} {t : TA} {p1 p2 pos : Pos} {pl : Sem Bool}
theorem pe_cfn (c : CFn X.K X.mg x C m f) (F : FnOk X.prog X.w X.K X.mg X.base CX0 k f fd ps sp) (hr : Room k X.A) (hb : Binds X.K fd ps []) (ha : PA X (e :: es) t) (hgl : Gl X x := by rfl) (hdb : (x == ("__debug__" : Str)) = false := by decide)
    (ht : eval (.Call (.Attribute (.Name x p1) m p2) (e :: es) [] pos) X.env = (do
      let ov ← eval (.Name x p1) X.env
      standAt p2.atName
      let (f, first) ← holding [ov] (getMethod ov m pl)
      callWith pos f first (backTo pos (starEach (e :: es) X.env)) (backToKw pos (keywordEach [] X.env))) := by rfl)
    (hst : starEach (e :: es) X.env = (false, eval e X.env) :: starEach es X.env := by rfl) (hpl : (backTo pos (starEach es X.env)).any (·.1) = false := by rfl) :
    PE X (.Call (.Attribute (.Name x p1) m p2) (e :: es) [] pos) (tCall sp [] E0 t) := by
  constructor
  intro pins s σ H Q I h
  refine PySem.W.methodCall_KW (pl := pl) (ld_glob I hgl c.gC ?_ hdb) ht
  refine PySem.W.method_cls I.kIn c.rd.ga (ClX.getcval_ok (v := .ref f) I c.rd ⟨c.at_, rfl⟩ fun s2 J => ?_)
  refine PySem.W.callWith_K (h₀ := X.base) J.ok.mod.kin c.kf (thn (ha.run pos pins s2 σ H _ J h) ?_) hst hpl
  rintro us s3 ⟨vs, H2, J2, rv, z⟩
  exact ⟨J2.kIn, run_fn F hr hb .nil pass0 J2 rv z⟩
end
/-! ### the making of own errors -/
/-- the base's __init__(self, text) -/
def spVeI (K : PySem.W.Frag) : Sp := fun vs H Q _ => ∃ (a C : Addr) (x : Str), vs = [.ref a, .str x] ∧ OexC K C ∧ H a = some (exo a C none) ∧ Q .non H
/-- an own error's __init__(self, v): the field f is v -/
def spErI (K : PySem.W.Frag) (C : Addr) (f : Str) : Sp := fun vs H Q _ => ∃ (a : Addr) (v : V), vs = [.ref a, v] ∧ OexC K C ∧ PySem.W.findIn K (.ref C) f = some none ∧ H a = some (exo a C none) ∧
  ∀ dx, H dx = none → dx ≠ a → Q .non (upd (upd H dx (exd dx [(f, v)])) a (exo a C (some dx)))
/-! ### an own error as a value -/
/-- C(e, ..), the error stays: R is what is wanted of the arguments -/
def tErR (R : List V → Hp → VK → Prop) (ta : TA) : TE := fun σ H Q => ta σ H fun vs H1 => R vs H1 Q
section
variable {X : Cx} {k : Nat} {C fI : Addr} {fd : FuncData} {x : Str} {ps : List Str} {sp : Sp} {e : Expr} {es : List Expr} {ta : TA} {p pos : Pos} {R : List V → Hp → VK → Prop}
theorem pe_erv (T : OexC X.K C) (iC : PySem.W.findIn X.K (.ref C) "__init__" = some (some (.ref fI))) (tI : PySem.W.typeIn X.K (.ref fI) = some (.type "function")) (G : FnOk X.prog X.w X.K X.mg X.base CX0 k fI fd ps sp) (hr : Room (k + 1) X.A) (hb : Binds X.K fd ps [])
    (hm : X.mg x = some (.ref C)) (ha : PA X (e :: es) ta)
    (hR : ∀ vs H Q, R vs H Q → vs.length ≤ 1000 ∧ ∀ a, H a = none → sp (.ref a :: vs) (upd H a (exo a C none)) (fun v H2 => v = .non ∧ Q (.ref a) H2) E0) (hg : Gl X x := by rfl) (hdb : (x == ("__debug__" : Str)) = false := by decide) (he : starEach (e :: es) X.env = (false, eval e X.env) :: starEach es X.env := by rfl) (hpl : (backTo pos (starEach es X.env)).any (·.1) = false := by rfl) :
    PE X (.Call (.Name x p) (e :: es) [] pos) (tErR R ta) := by
  constructor
  intro pins s σ H Q I h
  obtain ⟨nm, q, N, bs, bm, sn, sub, ab, col, dd, k0, k1, k2, k3, k5, hC, hbm⟩ := T.cls
  refine wpAny_Call_Name_kw (ld_glob I hg hm ?_ hdb)
  refine PySem.W.callWith_K (h₀ := X.base) I.ok.mod.kin T.kC (thn (ha.run pos pins s σ H _ I h) ?_) he hpl
  rintro us s1 ⟨vs, H1, J, rv, z⟩
  obtain ⟨sz, k⟩ := hR _ _ _ z
  refine ⟨J.kIn, ?_⟩
  show wpAny _ _ (call (.ref C) us) _ _ _
  obtain ⟨hp, g, dr, tk, os⟩ := s1
  have hn : H1 (hp.objs.size + 1) = none := J.hok.fresh (Nat.le_succ _)
  have hq := k _ hn
  have hget : ((hp.push (PySem.W.kdv_tup us)).push (PySem.HandSPX.excO C hp.objs.size)).get? (hp.objs.size + 1) = some (PySem.HandSPX.excO C hp.objs.size) := by heap_get
  have J2 : Inv X pins σ (upd H1 (hp.objs.size + 1) (exo (hp.objs.size + 1) C none)) ⟨(hp.push (PySem.W.kdv_tup us)).push (PySem.HandSPX.excO C hp.objs.size), g, dr, tk, os⟩ :=
    J.laid (t' := tk) (fun b o z => Heap.get?_push_of_some _ (Heap.get?_push_of_some _ z)) (Nat.le_succ _) (exo_ok hget)
  have r2 : Vals (V.ref (hp.objs.size + 1) :: vs) (Value.ref (hp.objs.size + 1) :: us) := .cons rfl rv
  have hl : (Value.ref (hp.objs.size + 1) :: us).length = ps.length := by
    rw [← r2.length]
    exact G.len _ _ _ _ hq
  have hus : us.length ≤ sizeLine := by
    rw [← Paired.length rv, sizeLine_eq]
    omega
  have hb' := hb _ (Value.ref (hp.objs.size + 1) :: us) J2.kIn (by simpa using hl)
  simp only [List.append_nil] at hb'
  refine wpAny_call (PySem.HandSPX.call_own F.excBase_ValueError (fun Y => PySem.HandSPX.refsVE_contains Y bm hbm) (J.kIn _ _ hC) (PySem.W.looks_findIn J.kIn iC) (fun self => PySem.W.bind_fn J.kIn self tI) hus
    (codeAny_mono (G.run _ X.stack _ _ ⟨Value.ref (hp.objs.size + 1) :: us, []⟩ _ _ _ E0 (hr.make C us []) (J2.env0.make C us []) hb' r2 hq) ?_))
  rintro (_ | (_ | _ | _ | u)) s' hr'
  all_goals first
    | (obtain ⟨v, H2, J3, r3, ev, qq⟩ := J2.after hr'
       subst ev
       exact ⟨r3, .ref _, H2, J3, rfl, qq⟩)
    | exact hr'.elim
end
/-! ### isinstance of, a field of an own error -/
structure ErC (K : PySem.W.Frag) (C : Addr) : Prop where
  oex : OexC K C
  cl : (PySem.W.clsIn K C).isSome = true
  hd : PySem.W.hasDictIn K C = true
  ga : PySem.W.findIn K (.ref C) "__getattribute__" = some (some (.builtin "BaseException.__getattribute__"))
  gt : PySem.W.findIn K (.ref C) "__getattr__" = some none
  ca : PySem.W.findIn K (.ref C) "__class__" = some (some (.builtin "object.__class__"))
  cg : PySem.W.specialIn K (.builtin "object.__class__") "__get__" = some (some (.builtin "getset_descriptor.__get__"))
  ct : PySem.W.takesIn K (.builtin "object.__class__") = some true
  ob : PySem.W.mroIn K C (.type "object") = some true
/-- an own error of the class at C with the fields fs -/
def ErV (H : Hp) (a C : Addr) (fs : List (Str × V)) : Prop := ∃ d, H a = some (exo a C (some d)) ∧ H d = some (exd d fs)
def ErA (H : Hp) (a C : Addr) : Prop := H a = some (exo a C none) ∨ ∃ fs, ErV H a C fs
theorem ErV.ex {H H' : Hp} {a C : Addr} {fs : List (Str × V)} (e : Ex H H') (h : ErV H a C fs) : ErV H' a C fs := by
  obtain ⟨d, h1, h2⟩ := h
  exact ⟨d, e _ _ h1, e _ _ h2⟩
section
variable {X : Cx} {pins : List (Addr × Obj)} {σ : L2.St} {H : Hp} {s : Shared} {a C : Addr} {fs : List (Str × V)}
theorem ErV.look (I : Inv X pins σ H s) (h : ErV H a C fs) : ∃ (ox od : Obj) (mA : Str → Option Value), PySem.W.InstAt s.heap a ox C (some od) ∧ (∀ n, PySem.W.lookIn n od = some (mA n)) ∧ ∀ f, RelO (fs.lookup f) (mA f) := by
  obtain ⟨d, h1, h2⟩ := h
  obtain ⟨t1, ho⟩ := exo_at I.hok h1
  obtain ⟨mA, ns, rel⟩ := exd_at I.hok h2
  obtain ⟨od, hd, lk⟩ := lookIn_ns ns
  exact ⟨_, od, mA, ⟨ho, rfl, rfl, hd⟩, lk, rel⟩
theorem ErA.inst (I : Inv X pins σ H s) (h : ErA H a C) : ∃ ox od, PySem.W.InstAt s.heap a ox C od := by
  rcases h with h | ⟨fs, h⟩
  · obtain ⟨t1, ho⟩ := exo_at I.hok h
    exact ⟨_, none, ⟨ho, rfl, rfl, trivial⟩⟩
  · obtain ⟨ox, od, mA, J, _⟩ := h.look I
    exact ⟨ox, some od, J⟩
end
def rIsX (K : PySem.W.Frag) : List V → Hp → VK → Prop := fun xs H Q => ∃ (a C : Addr) (c : V) (u : Value) (b : Bool), xs = [.ref a, c] ∧ ClsV c u ∧ ErA H a C ∧ ErC K C ∧ PySem.W.kitOne K (.ref C) u = some b ∧ Q (.bl b) H
theorem call_isX {X : Cx} : CallR X (.builtin "isinstance") (rIsX X.K) := by
  intro pins s σ H xs us Q I r h
  obtain ⟨a, C, c, u, b, rfl, kc, ea, ec, e, q⟩ := h
  obtain ⟨u1, u2, rfl, r1, r2⟩ := vals2 r
  cases (show u1 = Value.ref a from r1)
  cases kc.eq r2
  obtain ⟨ox, od, J⟩ := ea.inst I
  exact PySem.W.kia_one (PySem.W.kitx_exc ec.cl ec.ga ec.gt ec.oex.exC ec.ca ec.cg ec.ct ec.ob) I.kIn J e (fun z => nomatch z) fun tk => ⟨.bl b, H, I.tok tk, rfl, q⟩
/-- e.f, e an own error -/
def tErF (K : PySem.W.Frag) (ta : TE) (f : Str) : TE := fun σ H Q => ta σ H fun x H1 => ∃ (a C : Addr) (fs : List (Str × V)) (v : V), x = .ref a ∧ ErV H1 a C fs ∧ ErC K C ∧ PySem.W.findIn K (.ref C) f = some none ∧ fs.lookup f = some v ∧ Q v H1
theorem pe_erf {X : Cx} {e : Expr} {f : Str} {pos : Pos} {ta : TE} (he : PE X e ta) (hb : attributeBase e f X.env (eval e X.env) = eval e X.env := by rfl) : PE X (.Attribute e f pos) (tErF X.K ta f) := by
  constructor
  intro pins s σ H Q I h
  refine attr_of hb (thn (he.run pins s σ H _ I h) ?_)
  rintro u s1 ⟨x, H1, J, rx, a, C, fs, v, ex, ev, ec, hf, lk, q⟩
  subst ex
  cases (show u = Value.ref a from rx)
  obtain ⟨ox, od, mA, K1, l1, rel⟩ := ev.look J
  have r2 := rel f
  rw [lk] at r2
  obtain ⟨y, hy, ry⟩ := r2.some_of
  refine PySem.HandSPX.exc_get J.kIn K1 ec.ga ec.gt ec.oex.exC (PySem.W.findObj_own ec.hd hf rfl (by rw [l1, hy])) (handed_of ry) ?_
  exact ⟨v, H1, J.tok _, ry, q⟩
/-- what is known of an own error's class: its name, its object, its one field, its __init__ -/
structure Er (P : Program) (w : World) (K : PySem.W.Frag) (mg : Str → Option Value) (base : Heap) (x : Str) (C : Addr) (f : Str) (ps : List Str) : Prop where
  ec : ErC K C
  no : PySem.W.findIn K (.ref C) f = some none
  gm : mg x = some (.ref C)
  ini : ∃ fI fd, PySem.W.findIn K (.ref C) "__init__" = some (some (.ref fI)) ∧ PySem.W.typeIn K (.ref fI) = some (.type "function") ∧ FnOk P w K mg base CX0 2 fI fd ps (spErI K C f) ∧ Binds K fd ps []
def rEr (C : Addr) (f : Str) : List V → Hp → VK → Prop := fun vs H Q => ∃ v, vs = [v] ∧ ∀ a H2, H a = none → Ex H H2 → ErV H2 a C [(f, v)] → Q (.ref a) H2
theorem pe_er {X : Cx} {x f : Str} {C : Addr} {ps : List Str} {e : Expr} {ta : TA} {p pos : Pos} (E : Er X.prog X.w X.K X.mg X.base x C f ps) (hr : Room 3 X.A) (ha : PA X [e] ta) (hg : Gl X x := by rfl) (hdb : (x == ("__debug__" : Str)) = false := by decide)
    (he : starEach [e] X.env = (false, eval e X.env) :: starEach [] X.env := by rfl) (hpl : (backTo pos (starEach [] X.env)).any (·.1) = false := by rfl) : PE X (.Call (.Name x p) [e] [] pos) (tErR (rEr C f) ta) := by
  obtain ⟨fI, fd, iC, tI, G, hb⟩ := E.ini
  refine pe_erv E.ec.oex iC tI G hr hb E.gm ha ?_ hg hdb he hpl
  rintro vs H Q ⟨v, rfl, q⟩
  refine ⟨by show 1 ≤ 1000; decide, fun a ha => ⟨a, v, rfl, E.ec.oex, E.no, upd_same, fun dx h1 h2 => ⟨rfl, ?_⟩⟩⟩
  have hd : H dx = none := by rwa [upd_ne h2] at h1
  refine q a _ ha (fun b o hb => ?_) ⟨dx, upd_same, by rw [upd_ne h2]; exact upd_same⟩
  rw [upd_ne (ne_of_none hb ha), upd_ne (ne_of_none hb hd), upd_ne (ne_of_none hb ha)]
  exact hb
end Nc
end
section
set_option maxRecDepth 100000
set_option maxHeartbeats 4000000
namespace Nc
open PySem PySem.Spec PyProof.Rows L2 Evl
theorem elemC (v a : Value) (l : List Value) : (a :: l).contains v = (v == a || l.contains v) := by
  show (match v == a with | true => true | false => List.elem v l) = _
  cases v == a <;> rfl
/-- an own error's class, as it stands written, bm its bases to the last -/
structure ErX (K : PySem.W.Frag) (C : Addr) (bm : List Value) : Prop where
  lk : ∃ nm q N bs sn sub ab col dd k0 k1 k2 k3 k5, K.lookup C = some (excClassObj nm q C N bs bm true sn sub ab col dd k0 k1 k2 k3 k5 "ValueError.__new__")
  ve : PySem.HandSPX.refsVE bm = true
  ty : PySem.W.typeIn K (.ref C) = some (.type "type")
section
variable {K : PySem.W.Frag} {C D : Addr} {bm bn : List Value}
theorem ErX.cls (h : ErX K C bm) : ∃ cd, PySem.W.clsIn K C = some cd ∧ cd.mro = .ref C :: bm ∧ cd.hasDict = true := by
  obtain ⟨nm, q, N, bs, sn, sub, ab, col, dd, k0, k1, k2, k3, k5, e⟩ := h.lk
  unfold PySem.W.clsIn
  rw [e]
  exact ⟨_, rfl, rfl, rfl⟩
theorem ErX.sub (h : ErX K C bm) (v : Value) : PySem.W.subIn K (.ref C) v = some ((Value.ref C :: bm).contains v) := by
  obtain ⟨cd, e, em, _⟩ := h.cls
  show PySem.W.mroIn K C v = _
  unfold PySem.W.mroIn
  rw [e, Option.bind_some, em]
  rfl
theorem ErX.kit (h : ErX K C bm) (g : ErX K D bn) : PySem.W.kitOne K (.ref C) (.ref D) = some (decide (C = D) || bm.contains (.ref D)) := by
  unfold PySem.W.kitOne
  by_cases e : C = D
  · subst e
    rw [if_pos (beq_self_eq_true _), decide_eq_true rfl, Bool.true_or]
  · have ne : (Value.ref C == Value.ref D) = false := beq_eq_false_iff_ne.mpr fun z => e (Value.ref.inj z)
    obtain ⟨cd, ec, _⟩ := g.cls
    rw [if_neg (by rw [ne]; decide)]
    show (if ((PySem.W.clsIn K D).isSome && PySem.W.typeIn K (.ref D) == some (.type "type")) = true then PySem.W.subIn K (.ref C) (.ref D) else none) = _
    rw [ec, g.ty, if_pos (by simp), h.sub, decide_eq_false e, Bool.false_or]
    have ne2 : (Value.ref D == Value.ref C) = false := beq_eq_false_iff_ne.mpr fun z => e (Value.ref.inj z).symm
    rw [elemC, ne2, Bool.false_or]
theorem ErX.kitT (h : ErX K C bm) {T : String} (m : PySem.W.kitMeta T = true) : PySem.W.kitOne K (.ref C) (.type T) = some (bm.contains (.type T)) := by
  unfold PySem.W.kitOne
  have ne : (Value.ref C == Value.type T) = false := beq_eq_false_iff_ne.mpr fun z => by cases z
  rw [if_neg (by rw [ne]; decide)]
  show (if PySem.W.kitMeta T = true then PySem.W.subIn K (.ref C) (.type T) else none) = _
  rw [if_pos m, h.sub]
  have ne2 : (Value.type T == Value.ref C) = false := beq_eq_false_iff_ne.mpr fun z => by cases z
  rw [elemC, ne2, Bool.false_or]
theorem ErX.erc (h : ErX K C bm) (sa : PySem.W.findIn K (.ref C) "__setattr__" = some (some (.builtin "object.__setattr__"))) (kc : PySem.W.keepIn K (.ref C) = true)
    (ga : PySem.W.findIn K (.ref C) "__getattribute__" = some (some (.builtin "BaseException.__getattribute__"))) (gt : PySem.W.findIn K (.ref C) "__getattr__" = some none) (ca : PySem.W.findIn K (.ref C) "__class__" = some (some (.builtin "object.__class__")))
    (cg : PySem.W.specialIn K (.builtin "object.__class__") "__get__" = some (some (.builtin "getset_descriptor.__get__"))) (ct : PySem.W.takesIn K (.builtin "object.__class__") = some true) (b1 : bm.contains (.type "BaseException") = true) (b2 : bm.contains (.type "object") = true)
    (hd : PySem.W.hasDictIn K C = true) : ErC K C := by
  have cons : ∀ v, bm.contains v = true → (Value.ref C :: bm).contains v = true := fun v hv => by
    rw [elemC, hv, Bool.or_true]
  refine ⟨⟨?_, sa, ?_, h.ty, kc⟩, ?_, hd, ga, gt, ca, cg, ct, ?_⟩
  · obtain ⟨nm, q, N, bs, sn, sub, ab, col, dd, k0, k1, k2, k3, k5, e⟩ := h.lk
    exact ⟨nm, q, N, bs, bm, sn, sub, ab, col, dd, k0, k1, k2, k3, k5, e, h.ve⟩
  · rw [h.sub, cons _ b1]
  · obtain ⟨cd, ec, _⟩ := h.cls
    rw [ec]
    rfl
  · have := h.sub (.type "object")
    rw [cons _ b2] at this
    exact this
end
/-- the bases of an error over CutError, of CutError -/
def bmB : List Value := [.type "ValueError", .type "Exception", .type "BaseException", .type "object"]
def bmE (CB : Addr) : List Value := .ref CB :: bmB
theorem bmB_ref (D : Addr) : bmB.contains (.ref D) = false := rfl
theorem bmE_ref (CB D : Addr) : (bmE CB).contains (.ref D) = decide (D = CB) := by
  show (Value.ref CB :: bmB).contains (Value.ref D) = _
  rw [elemC, bmB_ref, Bool.or_false]
  by_cases h : D = CB
  · subst h
    rw [decide_eq_true rfl]
    exact beq_self_eq_true _
  · rw [decide_eq_false h]
    exact beq_eq_false_iff_ne.mpr fun z => h (Value.ref.inj z)
theorem bmE_ty (CB : Addr) (T : String) : (bmE CB).contains (.type T) = bmB.contains (.type T) := by
  show (Value.ref CB :: bmB).contains (Value.type T) = _
  have ne2 : (Value.type T == Value.ref CB) = false := beq_eq_false_iff_ne.mpr fun z => by cases z
  rw [elemC, ne2, Bool.false_or]
end Nc
end
section
set_option maxRecDepth 100000
/-! NcTry: a try with any number of clauses, each with a name or without. -/
namespace L2
open PySem PySem.Spec PyProof.Rows
section
variable {X : Cx} {pins : List (Addr × Obj)} {σ : St} {H : Hp} {sI t : Shared} {B : Heap} {a : Addr} {cls : Value} {d : Option Addr}
/-- an error has come to the clauses: what stands then -/
structure Caught (X : Cx) (pins : List (Addr × Obj)) (σ : St) (H : Hp) (sI : Shared) (B : Heap) (a : Addr) (cls : Value) (d : Option Addr) (t : Shared) : Prop where
  inv : Inv X pins σ H sI
  near : ∀ b o, sI.heap.get? b = some o → b ∉ frs X.stack → B.get? b = some o
  upto : sI.heap.UpToSlots t.heap
  held : HandSPX.FlyingZ B (X.env :: X.outer) a (Zc cls d) t.heap
  none : H a = none
  os : t.os = sI.os
  bare : AllBare t.gens
theorem Caught.now (c : Caught X pins σ H sI B a cls d t) : Inv X pins σ H t := c.inv.landed c.near c.held.1 c.upto c.os c.bare
theorem Caught.apart (hf : X.env.frame = some X.env.locals) (c : Caught X pins σ H sI B a cls d t) : a ≠ X.env.locals ∧ a ∉ X.fs := by
  obtain ⟨o1, v1, g1, _, f1⟩ := c.held.there
  have out : a ∉ frs (X.env :: X.outer) := fun hm => by
    obtain ⟨_, o2, g2, notF⟩ := c.held.2.2.1.mem hm
    rw [g1] at g2
    cases g2
    exact notF _ f1
  refine ⟨fun z => out (List.mem_filterMap.mpr ⟨X.env, List.mem_cons_self, by rw [hf, z]⟩), fun hm => ?_⟩
  obtain ⟨e1, he1, q1⟩ := List.mem_filterMap.mp hm
  exact out (List.mem_filterMap.mpr ⟨e1, List.mem_cons_of_mem _ he1, q1⟩)
/-- the ways out of a clause with a name in slot i: the name is gone behind it -/
def Ends.off (D : Ends) (i : Nat) : Ends := { nx := fun τ G => D.nx (τ.set i .none) G, rt := D.rt, bk := fun τ G => D.bk (τ.set i .none) G, ct := fun τ G => D.ct (τ.set i .none) G }
/-- clauses, and what they wish of an error of the body -/
inductive Clauses (X : Cx) : List ExceptHandler → (Ends → WX) → Prop
  | nil {Wout : WX} (tk : Takes X Wout) : Clauses X [] fun _ => Wout
  | plain {x : Str} {c : Value} {ts : Addr → Value → Option Addr → TS} {b0 : Stmt} {rest : List Stmt} {np ps : Pos} {hds : List ExceptHandler} {W : Ends → WX} (hc : Names X x c)
      (run : ∀ (a : Addr) (o : Obj) (cls : Value) (d : Option Addr) (pn : List (Addr × Obj)), Zc cls d o → (∃ vs, o.data = .fields vs) → PSs (X.suite a ((a, o) :: pn)) (b0 :: rest) (ts a cls d)) (more : Clauses X hds W) :
      Clauses X (.ExceptHandler (some (.Name x np)) .none (b0 :: rest) ps :: hds) fun D cls d σ H => ∃ b, PySem.W.exmOne X.K cls c = some b ∧ (b = true → ∀ a, H a = .none → ts a cls d D σ H) ∧ (b = false → W D cls d σ H)
  | named {x n : Str} {c : Value} {i : Nat} {ts : Addr → Value → Option Addr → TS} {b0 : Stmt} {rest : List Stmt} {np ps : Pos} {hds : List ExceptHandler} {W : Ends → WX} (hN : X.N.Nodup) (hi : X.N[i]? = some n) (hl : X.env.kindOf n = some .local) (hc : Names X x c)
      (run : ∀ (a : Addr) (o : Obj) (cls : Value) (d : Option Addr) (pn : List (Addr × Obj)), Zc cls d o → (∃ vs, o.data = .fields vs) → PSs (X.suite a ((a, o) :: pn)) (b0 :: rest) (ts a cls d)) (more : Clauses X hds W) :
      Clauses X (.ExceptHandler (some (.Name x np)) (some n) (b0 :: rest) ps :: hds) fun D cls d σ H => ∃ b, PySem.W.exmOne X.K cls c = some b ∧ (b = true → ∀ a, H a = .none → ts a cls d (D.off i) (σ.set i (some (.ref a))) H) ∧ (b = false → W D cls d σ H)
/-- a clause's class is asked -/
theorem asked {x : Str} {c : Value} {np : Pos} {b : Bool} {α : Type} {k : Bool → Sem α} {Q : α → Shared → Prop} (hf : X.env.frame = some X.env.locals) (cc : Caught X pins σ H sI B a cls d t) (hc : Names X x c) {Qv : Value → Shared → Prop} {E : Value → Shared → Prop} (hq : Qv c t) :
    wpAny (model X.prog X.w) (X.A.mark (some (.ref a))) (eval (.Name x np) X.env) Qv E t := by
  obtain ⟨o1, v1, g1, z1, f1⟩ := cc.held.there
  have ap := cc.apart hf
  have S := cc.now.suite g1 f1 cc.none ap.1 ap.2
  obtain ⟨hg, hdb, hm | ⟨hm, hv, hnn⟩⟩ := hc
  · exact ld_glob (X := X.suite a ((a, o1) :: (X.pn ++ pins))) S hg hm hq hdb
  · exact ld_blt (X := X.suite a ((a, o1) :: (X.pn ++ pins))) S hg hm hv hq hnn hdb
theorem clauses_ok (hs : X.stack = X.env :: X.outer) (hf : X.env.frame = some X.env.locals) {D : Ends} (cc : Caught X pins σ H sI B a cls d t) {hds : List ExceptHandler} {W : Ends → WX} (hk : Clauses X hds W) (w : W D cls d σ H) :
    wpAny (model X.prog X.w) X.A (handleBy (.ref a) X.env hds) (SP X pins D) X.xe t := by
  have ok := cc.inv.ok
  have ap := cc.apart hf
  induction hk with
  | @nil Wout tk =>
    refine wpAny_handleBy_nil ?_
    obtain ⟨u1, u2, u3, o1, v1, T1, oT, tT, g1, z1, f1, r1, r2⟩ := id cc.held
    unfold PySem.passOn
    refine wpAny_bind (wpAny_field g1 f1 r1 ?_)
    rw [if_neg (show ¬ ((Value.ref T1 == Value.none) = true) from by simp)]
    have go : wpAny (model X.prog X.w) X.A (setFlight (.ref a) X.env.frame) (fun _ s4 => wpAny (model X.prog X.w) X.A (throw (.ref a) : Sem Flow) (SP X pins D) X.xe s4) X.xe t := by
      rw [hf]
      refine HandSPX.setFlight_upZ cc.held fun h4 held4 up4 => wpAny_throw (tk _ _ ?_)
      exact ⟨a, B, sI, pins, σ, H, cls, d, rfl, cc.inv, cc.near, cc.upto.trans up4, .inr (.inr (by rw [hs]; exact held4)), cc.none, cc.os, cc.bare, w⟩
    first
      | exact wpAny_bind (wpAny_pure (wpAny_bind go))
      | exact wpAny_bind go
  | @plain x c ts b0 rest np ps hds2 W2 hc run more ih =>
    obtain ⟨b, hb, yes, no⟩ := w
    obtain ⟨o1, v1, g1, z1, f1⟩ := cc.held.there
    refine wpAny_handleBy_cons (codeAny_handlers_test ?_) (by intro q; cases q)
    have cl : PySem.W.Looks (model X.prog X.w) t.heap (typeOf (.ref a)) cls := fun A' Q' E' s' k' q' => wpAny_typeOf_ref (k' _ _ g1) (by rw [z1.1]; exact q')
    have said := PySem.W.exm_one (M := model X.prog X.w) (cc.now.kIn) cl hb
    refine asked (b := b) (k := fun _ => (throw .none : Sem Unit)) (Q := fun _ _ => True) hf cc hc (said.here ?_)
    cases b with
    | true =>
      refine codeAny_handlers_suite ?_
      refine HandSPX.lands_againZ cc.held fun h4 held4 up4 => ?_
      have c4 : Caught X pins σ H sI B a cls d { t with heap := h4 } := ⟨cc.inv, cc.near, cc.upto.trans up4, held4, cc.none, cc.os, cc.bare⟩
      obtain ⟨o4, v4, g4, z4, f4⟩ := held4.there
      have S4 := c4.now.suite g4 f4 cc.none ap.1 ap.2
      refine wpAny_mono ((run a o4 cls d (X.pn ++ pins) z4 ⟨_, f4⟩).run [] _ _ H _ S4 (yes rfl a cc.none)) (fun f s6 hsp => ?_) (fun _ _ z => z.elim)
      cases f with
      | next => exact let ⟨τ, G, S6, q6⟩ := hsp; ⟨τ, G, S6.unsuite ok, q6⟩
      | brk => exact let ⟨τ, G, S6, q6⟩ := hsp; ⟨τ, G, S6.unsuite ok, q6⟩
      | cont => exact let ⟨τ, G, S6, q6⟩ := hsp; ⟨τ, G, S6.unsuite ok, q6⟩
      | ret u => exact let ⟨v6, τ, G, S6, r6, q6⟩ := hsp; ⟨v6, τ, G, S6.unsuite ok, r6, q6⟩
    | false =>
      show wpAny _ X.A (handleBy (.ref a) X.env hds2) _ _ _
      exact ih (no rfl)
  | @named x n c i ts b0 rest np ps hds2 W2 hN hi hl hc run more ih =>
    obtain ⟨b, hb, yes, no⟩ := w
    obtain ⟨o1, v1, g1, z1, f1⟩ := cc.held.there
    refine wpAny_handleBy_cons (codeAny_handlers_test ?_) (by intro q; cases q)
    have cl : PySem.W.Looks (model X.prog X.w) t.heap (typeOf (.ref a)) cls := fun A' Q' E' s' k' q' => wpAny_typeOf_ref (k' _ _ g1) (by rw [z1.1]; exact q')
    have said := PySem.W.exm_one (M := model X.prog X.w) (cc.now.kIn) cl hb
    refine asked (b := b) (k := fun _ => (throw .none : Sem Unit)) (Q := fun _ _ => True) hf cc hc (said.here ?_)
    cases b with
    | true =>
      refine codeAny_handlers_suite_as ?_
      refine HandSPX.lands_againZ cc.held fun h4 held4 up4 => ?_
      have c4 : Caught X pins σ H sI B a cls d { t with heap := h4 } := ⟨cc.inv, cc.near, cc.upto.trans up4, held4, cc.none, cc.os, cc.bare⟩
      obtain ⟨o4, v4, g4, z4, f4⟩ := held4.there
      have S4 := c4.now.suite g4 f4 cc.none ap.1 ap.2
      refine store_ok (X := X.suite a ((a, o4) :: (X.pn ++ pins))) (v := .ref a) S4 hN hi (.inl hl) rfl (fun s5 S5 => ?_) (.inr hl)
      refine wpAny_mono ((run a o4 cls d (X.pn ++ pins) z4 ⟨_, f4⟩).run [] s5 _ H _ S5 (yes rfl a cc.none)) (fun f s6 hsp => ?_) (fun _ _ z => z.elim)
      have leave : ∀ {τ : St} {G : Hp} {Q : Shared → Prop}, Inv (X.suite a ((a, o4) :: (X.pn ++ pins))) [] τ G s6 → (∀ s7, Inv X pins (τ.set i .none) G s7 → Q s7) →
          wpAny (model X.prog X.w) X.A (do bindName X.env n .none; unbindBehindTheSuite X.env n ps) (fun _ s7 => Q s7) X.xe s6 := fun {τ G Q} S6 hq => gone_ok (S6.unsuite ok) hN hi hl hq
      cases f with
      | next => exact let ⟨τ, G, S6, q6⟩ := hsp; leave S6 fun s7 J7 => ⟨_, _, J7, q6⟩
      | brk => exact let ⟨τ, G, S6, q6⟩ := hsp; leave S6 fun s7 J7 => ⟨_, _, J7, q6⟩
      | cont => exact let ⟨τ, G, S6, q6⟩ := hsp; leave S6 fun s7 J7 => ⟨_, _, J7, q6⟩
      | ret u => exact let ⟨v6, τ, G, S6, r6, q6⟩ := hsp; leave S6 fun s7 J7 => ⟨_, _, _, J7, r6, q6⟩
    | false =>
      show wpAny _ X.A (handleBy (.ref a) X.env hds2) _ _ _
      exact ih (no rfl)
/-- try: body, except clauses -/
theorem ps_tryX {body : List Stmt} {h0 : ExceptHandler} {hds : List ExceptHandler} {W : Ends → WX} {tb : WX → TS} {pos : Pos} (hs : X.stack = X.env :: X.outer) (hf : X.env.frame = some X.env.locals) (hk : Clauses X (h0 :: hds) W)
    (hb : ∀ (W : WX) (pn : List (Addr × Obj)) (xe : Value → Shared → Prop), Takes (X.tr pn xe) W → PassesOwn (model X.prog X.w) X.A X.env xe → PSs (X.tr pn xe) body (tb W)) :
    PS X (.Try body (h0 :: hds) [] [] pos) (fun D σ H => tb (W D) D σ H) := by
  refine ⟨fun pins s σ H D I h => ?_⟩
  have ok := I.ok
  have stk : X.A.frames = some (X.env :: X.outer) := by rw [ok.frames, hs]
  refine wpAny_Try_except ?_
  have caught : Takes (X.tr (X.pn ++ pins) (fun e s1 => wpAny (model X.prog X.w) X.A (noteFrame e X.env) (fun _ s2 => wpAny (model X.prog X.w) X.A (setFlight e .none) (fun _ s3 => wpAny (model X.prog X.w) X.A (handleBy e X.env (h0 :: hds)) (SP X pins D) X.xe s3) X.xe s2) X.xe s1)) (W D) := by
    rintro u s' ⟨a, B, sI, p2, τ, G, cls, d, rfl, J, nb, up, sky, na, os, ag, w⟩
    have sky2 : Sky B (X.env :: X.outer) a (Zc cls d) X.env.locals s'.heap := by rw [← hs]; exact sky
    show wpAny (model X.prog X.w) X.A (noteFrame (.ref a) X.env) _ _ _
    refine Sky.land Zc.steady stk hf sky2 fun h3 held3 up3 => ?_
    exact clauses_ok (t := { s' with heap := h3 }) hs hf ⟨J.ofTry ok, nb, up.trans up3, held3, na, os, ag⟩ hk w
  refine wpAny_mono ((hb (W D) (X.pn ++ pins) _ caught PassesOwn.looking).run [] s σ H D (I.toTry _) h) (fun f s1 hsp => ?_) (fun e s1 he => he)
  cases f with
  | next => exact let ⟨τ, G, J, q⟩ := hsp; wpAny_execs_nil ⟨τ, G, J.ofTry ok, q⟩
  | brk => exact let ⟨τ, G, J, q⟩ := hsp; ⟨τ, G, J.ofTry ok, q⟩
  | cont => exact let ⟨τ, G, J, q⟩ := hsp; ⟨τ, G, J.ofTry ok, q⟩
  | ret u => exact let ⟨v, τ, G, J, r, q⟩ := hsp; ⟨v, τ, G, J.ofTry ok, r, q⟩
end
end L2
end
section
set_option maxRecDepth 100000
set_option maxHeartbeats 4000000
namespace Nc
open PySem PySem.Spec PyProof.Rows L2 Evl
/-! ### defs that may let an own error out -/
structure OkX (P : Program) (w : World) (K : PySem.W.Frag) (mg : Str → Option Value) (base : Heap) (k : Nat) (x : Str) (ps : List Str) (sp : Sp) : Prop where
  ex : ∃ f fd, mg x = some (.ref f) ∧ PySem.W.keepIn K (.ref f) = true ∧ FnOk P w K mg base (L2.CX P w) k f fd ps sp ∧ Binds K fd ps []
theorem Df.okX {P : Program} {w : World} {K : PySem.W.Frag} {mg : Str → Option Value} {base : Heap} {k : Nat} {x : Str} {st : Stmt} {ps : List Str} {sp : Sp} (D : Df K mg x st ps)
    (h : ∀ f fd, Fun K x x st f fd → FnOk P w K mg base (L2.CX P w) k f fd ps sp) : OkX P w K mg base k x ps sp := by
  obtain ⟨f, fd, g, F, b⟩ := D.ex
  exact ⟨f, fd, g, F.kp, h f fd F, b⟩
section
variable {X : Cx} {k : Nat} {x : Str} {ps : List Str} {sp : Sp} {e : Expr} {es : List Expr} {t : TA} {p pos : Pos} {W : WX}
/-- a call of such a def: what it lets out is wished of by W -/
theorem clX (D : OkX X.prog X.w X.K X.mg X.base k x ps sp) (hr : Room k X.A) (tk : Takes X W) (ha : PA X (e :: es) t) (hg : Gl X x := by rfl) (hdb : (x == ("__debug__" : Str)) = false := by decide)
    (he : starEach (e :: es) X.env = (false, eval e X.env) :: starEach es X.env := by rfl) (hpl : (backTo pos (starEach es X.env)).any (·.1) = false := by rfl) : PE X (.Call (.Name x p) (e :: es) [] pos) (tCallS sp (WE W) t) := by
  obtain ⟨f, fd, g, kp, F, b⟩ := D.ex
  exact pe_callS F hr hg g kp b (fun σ => passAt tk σ) ha hdb he hpl
end
/-- raise C(x), x in slot i: the error's own dict is new and holds x -/
def tRz (C : Addr) (f : Str) (i : Nat) (W : WX) : TS := fun _ σ H => ∃ v, σ[i]? = some (some v) ∧ ∀ d H2, H d = none → Ex H H2 → H2 d = some (.xd [(f, v)]) → W (.ref C) (some d) σ H2
theorem ps_rz {X : Cx} {C : Addr} {x f y : Str} {ps : List Str} {i : Nat} {W : WX} {q p pos pos' : Pos} (E : Er X.prog X.w X.K X.mg X.base x C f ps) (hc : X.calm = true) (tk : Takes X W) (hr : Room 3 X.A) (hv : PE X (.Name y q) (tVar i)) (hg : Gl X x := by rfl) (hdb : (x == ("__debug__" : Str)) = false := by decide)
    (he : starEach [.Name y q] X.env = (false, eval (.Name y q) X.env) :: starEach [] X.env := by rfl) (hpl : (backTo pos (starEach [] X.env)).any (·.1) = false := by rfl) :
    PS X (.Raise (some (.Call (.Name x p) [.Name y q] [] pos)) none pos') (tRz C f i W) := by
  obtain ⟨fI, fd, iC, tI, G, hb⟩ := E.ini
  refine ⟨fun pins s σ H D I h => ?_⟩
  obtain ⟨v, hσ, k⟩ := h
  refine (ps_raise hc tk (pmk_oex (CX := CX0) (dvs := []) E.ec.oex iC tI G hr hb .nil pass0 hg E.gm (pa_cons hv pa_nil) hdb he hpl)).run pins s σ H D I ?_
  refine ⟨v, hσ, (by show 1 ≤ 1000; decide), fun a ha => ⟨a, v, rfl, E.ec.oex, E.no, upd_same, fun dx h1 h2 => ⟨rfl, dx, [(f, v)], upd_same, by rw [upd_ne h2]; exact upd_same, ?_, ?_⟩⟩⟩
  · rwa [upd_ne h2] at h1
  · have hd : H dx = none := by rwa [upd_ne h2] at h1
    refine k dx _ hd (fun b o hb => ?_) upd_same
    have b1 := ne_of_none hb hd
    have b2 := ne_of_none hb ha
    rw [upd_ne b1, del_ne b2, upd_ne b2, upd_ne b1, upd_ne b2]
    exact hb
/-! ### data that stays beside the stream -/
mutual
inductive Dz (K : PySem.W.Frag) (s : Addr) (H : Hp) : V → PyData → Prop
  | non : Dz K s H .non .none
  | bl (b : Bool) : Dz K s H (.bl b) (.bool b)
  | int (i : Int) : Dz K s H (.int i) (.int i)
  | str (x : Str) : Dz K s H (.str x) (.str x)
  | lst {a : Addr} {xs : List V} {ds : List PyData} : a ≠ s → H a = some (.lst xs) → DzA K s H xs ds → Dz K s H (.ref a) (.list ds)
  | tup {a : Addr} {xs : List V} {ds : List PyData} : SqT K H a xs → DzA K s H xs ds → Dz K s H (.ref a) (.tuple ds)
inductive DzA (K : PySem.W.Frag) (s : Addr) (H : Hp) : List V → List PyData → Prop
  | nil : DzA K s H [] []
  | cons {v : V} {vs : List V} {d : PyData} {ds : List PyData} : Dz K s H v d → DzA K s H vs ds → DzA K s H (v :: vs) (d :: ds)
end
section
variable {K : PySem.W.Frag} {s : Addr} {H H' : Hp}
mutual
theorem Dz.dk (h0 : Lst s H) (r : Dk s H H') : ∀ (d : PyData) (v : V), Dz K s H v d → Dz K s H' v d
  | .none, _, h => by cases h; exact .non
  | .bool b, _, h => by cases h; exact .bl b
  | .int i, _, h => by cases h; exact .int i
  | .str x, _, h => by cases h; exact .str x
  | .list ds, _, h => by
    cases h with
    | lst n q p => exact .lst n (r.keep _ _ n q) (DzA.dk h0 r ds _ p)
  | .tuple ds, _, h => by
    cases h with
    | tup q p => exact .tup (sqt_dk h0 r q) (DzA.dk h0 r ds _ p)
  | .dict _, _, h => by cases h
theorem DzA.dk (h0 : Lst s H) (r : Dk s H H') : ∀ (ds : List PyData) (vs : List V), DzA K s H vs ds → DzA K s H' vs ds
  | [], _, h => by cases h; exact .nil
  | d :: ds, _, h => by
    cases h with
    | cons p q => exact .cons (Dz.dk h0 r d _ p) (DzA.dk h0 r ds _ q)
end
mutual
theorem Dz.ex (r : Ex H H') : ∀ (d : PyData) (v : V), Dz K s H v d → Dz K s H' v d
  | .none, _, h => by cases h; exact .non
  | .bool b, _, h => by cases h; exact .bl b
  | .int i, _, h => by cases h; exact .int i
  | .str x, _, h => by cases h; exact .str x
  | .list ds, _, h => by
    cases h with
    | lst n q p => exact .lst n (r _ _ q) (DzA.ex r ds _ p)
  | .tuple ds, _, h => by
    cases h with
    | tup q p => exact .tup (ex_t r q) (DzA.ex r ds _ p)
  | .dict _, _, h => by cases h
theorem DzA.ex (r : Ex H H') : ∀ (ds : List PyData) (vs : List V), DzA K s H vs ds → DzA K s H' vs ds
  | [], _, h => by cases h; exact .nil
  | d :: ds, _, h => by
    cases h with
    | cons p q => exact .cons (Dz.ex r d _ p) (DzA.ex r ds _ q)
end
mutual
theorem Dz.dp : ∀ (d : PyData) (v : V), Dz K s H v d → Dp K H v d
  | .none, _, h => by cases h; exact .non
  | .bool b, _, h => by cases h; exact .bl b
  | .int i, _, h => by cases h; exact .int i
  | .str x, _, h => by cases h; exact .str x
  | .list ds, _, h => by
    cases h with
    | lst n q p => exact .lst (sq_of q) (DzA.dp ds _ p)
  | .tuple ds, _, h => by
    cases h with
    | tup q p => exact .tup q (DzA.dp ds _ p)
  | .dict _, _, h => by cases h
theorem DzA.dp : ∀ (ds : List PyData) (vs : List V), DzA K s H vs ds → DpAll K H vs ds
  | [], _, h => by cases h; exact .nil
  | d :: ds, _, h => by
    cases h with
    | cons p q => exact .cons (Dz.dp d _ p) (DzA.dp ds _ q)
end
theorem DzA.app {xs ys : List V} {ds es : List PyData} (h : DzA K s H xs ds) (g : DzA K s H ys es) : DzA K s H (xs ++ ys) (ds ++ es) := by
  induction xs generalizing ds with
  | nil => cases h; exact g
  | cons x xs ih =>
    cases h with
    | cons p q => exact .cons p (ih q)
theorem DzA.len {xs : List V} {ds : List PyData} (h : DzA K s H xs ds) : xs.length = ds.length := by
  induction xs generalizing ds with
  | nil => cases h; rfl
  | cons x xs ih =>
    cases h with
    | cons p q => rw [List.length_cons, List.length_cons, ih q]
theorem DzA.drop {xs : List V} {ds : List PyData} (k : Nat) (h : DzA K s H xs ds) : DzA K s H (xs.drop k) (ds.drop k) := by
  induction k generalizing xs ds with
  | zero => exact h
  | succ k ih =>
    cases h with
    | nil => exact .nil
    | cons p q => exact ih q
theorem DzA.take {xs : List V} {ds : List PyData} (k : Nat) (h : DzA K s H xs ds) : DzA K s H (xs.take k) (ds.take k) := by
  induction k generalizing xs ds with
  | zero => exact .nil
  | succ k ih =>
    cases h with
    | nil => exact .nil
    | cons p q => exact .cons p (ih q)
end
/-! ### sizes of what is shown -/
structure Sw (d : PyData) (b k : Nat) : Prop where
  sh : d.showable = true
  nd : d.hasDict = false
  lv : d.leavesShort 92 = true
  bk : d.bulk ≤ b
  dp : d.depth ≤ k
structure SwA (ds : List PyData) (b k : Nat) : Prop where
  sh : PyData.showableAll ds = true
  nd : PyData.hasDictAll ds = false
  lv : PyData.leavesShortAll 92 ds = true
  bk : PyData.bulkAll ds ≤ b
  dp : PyData.depthAll ds ≤ k
theorem swa_nil (k : Nat) : SwA [] 0 k := ⟨rfl, rfl, rfl, Nat.le_refl _, Nat.zero_le _⟩
theorem swa_cons {d : PyData} {ds : List PyData} {b B k : Nat} (h : Sw d b k) (g : SwA ds B k) : SwA (d :: ds) (b + B + 1) k := by
  obtain ⟨a1, a2, a3, a4, a5⟩ := h
  obtain ⟨b1, b2, b3, b4, b5⟩ := g
  refine ⟨?_, ?_, ?_, ?_, ?_⟩
  · simp only [PyData.showableAll, a1, b1, Bool.and_self]
  · simp only [PyData.hasDictAll, a2, b2, Bool.or_self]
  · simp only [PyData.leavesShortAll, a3, b3, Bool.and_self]
  · simp only [PyData.bulkAll]
    omega
  · simp only [PyData.depthAll]
    omega
theorem sw_tup {ds : List PyData} {b k : Nat} (h : SwA ds b k) : Sw (.tuple ds) b (k + 1) := by
  obtain ⟨b1, b2, b3, b4, b5⟩ := h
  refine ⟨b1, b2, b3, b4, ?_⟩
  show PyData.depthAll ds + 1 ≤ k + 1
  omega
theorem sw_lst {ds : List PyData} {b k : Nat} (h : SwA ds b k) : Sw (.list ds) b (k + 1) := by
  obtain ⟨b1, b2, b3, b4, b5⟩ := h
  refine ⟨b1, b2, b3, b4, ?_⟩
  show PyData.depthAll ds + 1 ≤ k + 1
  omega
theorem Sw.mono {d : PyData} {b k b' k' : Nat} (h : Sw d b k) (hb : b ≤ b') (hk : k ≤ k') : Sw d b' k' := ⟨h.sh, h.nd, h.lv, Nat.le_trans h.bk hb, Nat.le_trans h.dp hk⟩
theorem SwA.mono {d : List PyData} {b k b' k' : Nat} (h : SwA d b k) (hb : b ≤ b') (hk : k ≤ k') : SwA d b' k' := ⟨h.sh, h.nd, h.lv, Nat.le_trans h.bk hb, Nat.le_trans h.dp hk⟩
theorem sw_lf {v : V} (h : Lf v) : Sw (lfD v) 4 0 := by
  obtain ⟨a1, a2, a3, a4, a5⟩ := h.sh
  exact ⟨a1, a2, a4, a5, by rw [a3]; exact Nat.le_refl _⟩
theorem Sw.rp {K : PySem.W.Frag} {H : Hp} {a : Addr} {d : PyData} {b k : Nat} (h : Sw d b k) (hd : Dp K H (.ref a) d) (hb : b ≤ 60) (hk : k ≤ 60) : Rp K H (.ref a) d.shown :=
  .dat hd h.sh h.nd (Nat.le_trans h.dp hk) (shown_fits h.lv (Nat.le_trans h.bk hb))
end Nc
end
section
set_option maxRecDepth 100000
set_option maxHeartbeats 4000000
namespace Nc
open PySem PySem.Spec PyProof.Rows L2 Evl
/-! ### what is shown, an empty dict within a pair too -/
inductive Rp2 (K : PySem.W.Frag) (H : Hp) : V → Str → Prop
  | old {v x} (h : Rp K H v x) : Rp2 K H v x
  | tag {t a : Addr} {y : Str} (q : SqT K H t [.str y, .ref a]) (e : H a = some (.dK [])) (n : (PyData.tuple [.str y, .dict []]).shown.length ≤ sizeLine) (m : (PyData.tuple [.str y, .dict []]).showable = true) : Rp2 K H (.ref t) (PyData.tuple [.str y, .dict []]).shown
def rRp2 (K : PySem.W.Frag) : List V → Hp → VK → Prop := fun vs H Q => ∃ v x, vs = [v] ∧ Rp2 K H v x ∧ Q (.str x) H
theorem room2 {u : Nat} {y : Str} (hu : u + 64 < cLine) : u + ((PyData.tuple [.str y, .dict []]).depth + 1) < cLine := by
  have : (PyData.tuple [.str y, .dict []]).depth ≤ 3 := by
    have e : (PyData.tuple [.str y, .dict []]).depth = (PyData.tuple [.str ("" : Str), .dict []]).depth := rfl
    rw [e]
    decide
  omega
theorem call_rp2 {X : Cx} (hG : X.A.guards = some []) (hu : X.A.units + 64 < cLine) : CallR X (.builtin "repr") (rRp2 X.K) := by
  intro pins s σ H xs us Q I r h
  obtain ⟨v, x, rfl, h, q⟩ := h
  cases h with
  | old h => exact call_rp hG hu pins s σ H _ us Q I r ⟨_, _, rfl, h, q⟩
  | @tag t a y hq he hn hm =>
    obtain ⟨u, rfl, rx⟩ := vals1 r
    cases (show u = Value.ref t from rx)
    obtain ⟨its, rv, ⟨o1, g1, c1, n1, d1⟩, _⟩ := I.tuple hq
    obtain ⟨_, ya, va, ra, o, es, ep, h1, h2, h3, h4⟩ := (show ObjOk X.prog X.w H s.heap a (.dK []) from I.hok a _ he)
    cases ra
    have hes : es.toList = [] := by
      have hp := h4.2.1
      generalize es.toList = l at hp
      cases hp
      rfl
    have R : Reads s.heap (.ref a) (.dict []) ([a] ++ [] ++ []) := by
      refine Reads.dict h1 h2.1 h3 ?_ ?_
      · rw [hes]
        exact .nil
      · rw [hes]
        exact .nil
    cases rv with
    | @cons _ u1 _ us1 r1 rest =>
      cases rest with
      | @cons _ u2 _ us2 r2 rest =>
        cases rest
        obtain ⟨t1, rfl⟩ := r1
        cases (show u2 = Value.ref a from r2)
        have R2 : Reads s.heap (.ref t) (.tuple [.str y, .dict []]) ([] ++ (([a] ++ [] ++ []) ++ [])) := Reads.tuple g1 c1 d1 (.cons (Reads.str y t1) (.cons R .nil))
        refine repr_of_reads' R2 hm (fun _ hmm => ?_) hG (room2 hu) (fun _ _ z => z) (fun h' u tk kp => ⟨.str _, H, I.kept (t' := tk) kp, ⟨u, rfl⟩, q⟩) hn
        simp only [List.append_nil, List.nil_append, List.mem_singleton] at hmm
        subst hmm
        simp at ya
/-! ### lists of small data -/
theorem dz_els {K : PySem.W.Frag} {s : Addr} {H : Hp} {b k : Nat} : ∀ {ys : List V}, (∀ x ∈ ys, ∃ d, Dz K s H x d ∧ Sw d b k) → ∃ ds, DzA K s H ys ds ∧ SwA ds ((b + 1) * ys.length) k
  | [], _ => ⟨[], .nil, swa_nil k⟩
  | y :: ys, h => by
    obtain ⟨d, h1, h2⟩ := h y (by simp)
    obtain ⟨ds, g1, g2⟩ := dz_els (ys := ys) fun z hz => h z (by simp [hz])
    refine ⟨d :: ds, .cons h1 g1, (swa_cons h2 g2).mono ?_ (Nat.le_refl _)⟩
    rw [List.length_cons, Nat.mul_add (b + 1) ys.length 1]
    omega
theorem dz_tup {K : PySem.W.Frag} {s t : Addr} {H : Hp} {b k c : Nat} {ys : List V} (q : SqT K H t ys) (h : ∀ x ∈ ys, ∃ d, Dz K s H x d ∧ Sw d b k) (hc : (b + 1) * ys.length ≤ c) : ∃ d, Dz K s H (.ref t) d ∧ Sw d c (k + 1) := by
  obtain ⟨ds, h1, h2⟩ := dz_els h
  exact ⟨_, .tup q h1, (sw_tup h2).mono hc (Nat.le_refl _)⟩
theorem dz_lst {K : PySem.W.Frag} {s t : Addr} {H : Hp} {b k c : Nat} {ys : List V} (q : H t = some (.lst ys)) (n : t ≠ s) (h : ∀ x ∈ ys, ∃ d, Dz K s H x d ∧ Sw d b k) (hc : (b + 1) * ys.length ≤ c) : ∃ d, Dz K s H (.ref t) d ∧ Sw d c (k + 1) := by
  obtain ⟨ds, h1, h2⟩ := dz_els h
  exact ⟨_, .lst n q h1, (sw_lst h2).mono hc (Nat.le_refl _)⟩
theorem dz_mono {K : PySem.W.Frag} {s : Addr} {H : Hp} {v : V} {b k b' k' : Nat} (h : ∃ d, Dz K s H v d ∧ Sw d b k) (hb : b ≤ b') (hk : k ≤ k') : ∃ d, Dz K s H v d ∧ Sw d b' k' := by
  obtain ⟨d, h1, h2⟩ := h
  exact ⟨d, h1, h2.mono hb hk⟩
theorem sw_int {i : Int} (h : i.natAbs < 2 ^ 250) : Sw (.int i) 0 0 := by
  obtain ⟨a1, a2, a3, a4, a5⟩ := (Lf.int i h).sh
  exact ⟨a1, a2, a4, Nat.le_refl 0, Nat.le_refl 0⟩
theorem dz_fr {K : PySem.W.Frag} {s : Addr} {H : Hp} {v : V} {r : Rat} (h : FrV K H v r) (z : Sz 250 250 r) : ∃ d, Dz K s H v d ∧ Sw d 2 1 := by
  obtain ⟨t, rfl, q⟩ := h
  exact dz_tup q (b := 0) (k := 0) (fun x hx => by
    simp only [List.mem_cons, List.not_mem_nil, or_false] at hx
    rcases hx with rfl | rfl
    · exact ⟨_, .int _, sw_int z.1⟩
    · exact ⟨_, .int _, sw_int z.den⟩) (by show (0 + 1) * 2 ≤ 2; decide)
/-- data small enough to be shown, or an empty dict -/
def Shv (K : PySem.W.Frag) (s : Addr) (H : Hp) (v : V) : Prop := (∃ d, Dz K s H v d ∧ Sw d 50 4) ∨ ∃ a, v = .ref a ∧ H a = some (.dK [])
theorem Shv.ex {K : PySem.W.Frag} {s : Addr} {H H' : Hp} {v : V} (e : Ex H H') (h : Shv K s H v) : Shv K s H' v := by
  rcases h with ⟨d, h1, h2⟩ | ⟨a, h1, h2⟩
  · exact .inl ⟨d, Dz.ex e d v h1, h2⟩
  · exact .inr ⟨a, h1, e _ _ h2⟩
theorem Shv.dk {K : PySem.W.Frag} {s : Addr} {H H' : Hp} {v : V} (h0 : Lst s H) (r : Dk s H H') (h : Shv K s H v) : Shv K s H' v := by
  rcases h with ⟨d, h1, h2⟩ | ⟨a, h1, h2⟩
  · exact .inl ⟨d, Dz.dk h0 r d v h1, h2⟩
  · refine .inr ⟨a, h1, r.keep _ _ (fun z => ?_) h2⟩
    obtain ⟨xs, e⟩ := h0
    rw [z, e] at h2
    cases h2
end Nc
end
section
set_option maxRecDepth 100000
set_option maxHeartbeats 4000000
namespace Nc
open PySem PySem.Spec PyProof.Rows L2 Evl
/-! ### a list != [] -/
def rNeNil (K : PySem.W.Frag) : R2 := fun x y H Q => ∃ a b xs, x = .ref a ∧ y = .ref b ∧ SqL K H a xs ∧ SqL K H b [] ∧ Q (.bl (!xs.isEmpty)) H
theorem op_neNil {X : Cx} (hu : X.A.units + 64 < cLine) : OpR X (compareOp .NotEq) (rNeNil X.K) := by
  intro pins s σ H x y v u Q I rx ry h
  obtain ⟨a, b, xs, rfl, rfl, ha, hb, q⟩ := h
  cases rx
  cases ry
  obtain ⟨its, r1, p1, _⟩ := I.list ha
  obtain ⟨its2, r2, p2, _⟩ := I.list hb
  cases r2
  cases r1 with
  | nil =>
    refine SeqAt.RcNeAt.lists (e := fun _ => true) p1.isList p2.isList rfl (by omega) (fun j h1 _ => absurd h1 (Nat.not_lt_zero j)) _ _ _ _ ?_
    exact ⟨.bl false, H, I, rfl, q⟩
  | cons h1 h2 =>
    refine SeqAt.RcNeAt.lists_lengths p1.isList p2.isList (by simp) (by omega) _ _ _ _ ?_
    exact ⟨.bl true, H, I, rfl, q⟩
/-! ### what a comprehension with an `if` keeps: whether it is none -/
def Kp (c : Nat → Bool) (H0 : Hp) (G : Addr) (j : Nat) (H' : Hp) : Prop := Ex H0 H' ∧ ∃ ys : List V, H' G = some (.lst ys) ∧ ys.length ≤ j ∧ ys.isEmpty = (List.range j).all fun i => !c i
theorem kp0 {c : Nat → Bool} {H0 : Hp} {G : Addr} (hG : H0 G = none) : Kp c H0 G 0 (upd H0 G (.lst [])) := ⟨Ex.new hG, [], upd_same, Nat.le_refl _, rfl⟩
theorem kp_miss {c : Nat → Bool} {H0 H' H2 : Hp} {G : Addr} {j : Nat} (b : Kp c H0 G j H') (e : Ex H' H2) (hc : c j = false) : Kp c H0 G (j + 1) H2 := by
  obtain ⟨e0, ys, k, l, h⟩ := b
  refine ⟨e0.trans e, ys, e _ _ k, by omega, ?_⟩
  rw [h, List.range_succ, List.all_append]
  show _ = (_ && (!c j && true))
  rw [hc]
  simp
theorem kp_hit {c : Nat → Bool} {H0 H' H2 : Hp} {G : Addr} {j : Nat} {v : V} (hG : H0 G = none) (b : Kp c H0 G j H') (e : Ex H' H2) (hc : c j = true) (hj : j < 1000) : ∃ xs, H2 G = some (.lst xs) ∧ xs.length < sizeLine ∧ Kp c H0 G (j + 1) (upd H2 G (.lst (xs ++ [v]))) := by
  obtain ⟨e0, ys, k, l, h⟩ := b
  refine ⟨ys, e _ _ k, sz_lt (by omega), Ex.mut (e0.trans e) hG, ys ++ [v], upd_same, by rw [List.length_append]; show _ + 1 ≤ _; omega, ?_⟩
  rw [List.range_succ, List.all_append]
  show _ = (_ && (!c j && true))
  rw [hc]
  simp
theorem kp_end {c : Nat → Bool} {H0 H' : Hp} {G : Addr} {j : Nat} {b : Bool} (h : Kp c H0 G j H') (hb : ((List.range j).all fun i => !c i) = b) : Ex H0 H' ∧ ∃ ys : List V, H' G = some (.lst ys) ∧ ys.isEmpty = b := by
  obtain ⟨e0, ys, k, l, h⟩ := h
  exact ⟨e0, ys, k, by rw [h, hb]⟩
/-- over truths: none is kept if all hold -/
theorem range_all {bs : List Bool} {c : Nat → Bool} (h : ∀ i b, bs[i]? = some b → c i = !b) : ((List.range bs.length).all fun i => !c i) = bs.all id := by
  induction bs generalizing c with
  | nil => rfl
  | cons b bs ih =>
    rw [List.length_cons, List.range_succ_eq_map, List.all_cons, List.all_cons, List.all_map]
    have h0 := h 0 b rfl
    have h1 := ih (c := fun i => c (i + 1)) fun i x hx => h (i + 1) x hx
    rw [h0]
    show (!!b && (List.range bs.length).all fun i => !c (i + 1)) = _
    rw [h1, Bool.not_not]
    rfl
/-! ### sizes of what is shown -/
theorem shown_fits2 {d : PyData} (h : d.leavesShort 92 = true) (hb : d.bulk ≤ 900) : d.shown.length ≤ sizeLine := by
  have h1 := PyData.shown_le_bulk 92 (by decide) d h
  have h2 : (92 + 2) * d.bulk + 92 ≤ 90000 := by omega
  have h3 : 90000 ≤ sizeLine := by decide
  omega
theorem Sw.rp2 {K : PySem.W.Frag} {H : Hp} {a : Addr} {d : PyData} {b k : Nat} (h : Sw d b k) (hd : Dp K H (.ref a) d) (hb : b ≤ 900) (hk : k ≤ 60) : Rp K H (.ref a) d.shown :=
  .dat hd h.sh h.nd (Nat.le_trans h.dp hk) (shown_fits2 h.lv (Nat.le_trans h.bk hb))
/-! data of tuples, whole numbers and empty dicts -/
mutual
inductive Dt (K : PySem.W.Frag) (H : Hp) : V → PyData → Prop
  | non : Dt K H .non .none
  | bl (b : Bool) : Dt K H (.bl b) (.bool b)
  | int (i : Int) : Dt K H (.int i) (.int i)
  | str (x : Str) : Dt K H (.str x) (.str x)
  | dic {a : Addr} : H a = some (.dK []) → Dt K H (.ref a) (.dict [])
  | tup {a : Addr} {xs : List V} {ds : List PyData} : SqT K H a xs → DtA K H xs ds → Dt K H (.ref a) (.tuple ds)
inductive DtA (K : PySem.W.Frag) (H : Hp) : List V → List PyData → Prop
  | nil : DtA K H [] []
  | cons {v : V} {vs : List V} {d : PyData} {ds : List PyData} : Dt K H v d → DtA K H vs ds → DtA K H (v :: vs) (d :: ds)
end
section
variable {K : PySem.W.Frag} {s : Addr} {H H' : Hp}
mutual
theorem Dt.ex (r : Ex H H') : ∀ (d : PyData) (v : V), Dt K H v d → Dt K H' v d
  | .none, _, h => by cases h; exact .non
  | .bool b, _, h => by cases h; exact .bl b
  | .int i, _, h => by cases h; exact .int i
  | .str x, _, h => by cases h; exact .str x
  | .list ds, _, h => by cases h
  | .tuple ds, _, h => by
    cases h with
    | tup q p => exact .tup (ex_t r q) (DtA.ex r ds _ p)
  | .dict _, _, h => by
    cases h with
    | dic q => exact .dic (r _ _ q)
theorem DtA.ex (r : Ex H H') : ∀ (ds : List PyData) (vs : List V), DtA K H vs ds → DtA K H' vs ds
  | [], _, h => by cases h; exact .nil
  | d :: ds, _, h => by
    cases h with
    | cons p q => exact .cons (Dt.ex r d _ p) (DtA.ex r ds _ q)
end
mutual
theorem Dt.dk (h0 : Lst s H) (r : Dk s H H') : ∀ (d : PyData) (v : V), Dt K H v d → Dt K H' v d
  | .none, _, h => by cases h; exact .non
  | .bool b, _, h => by cases h; exact .bl b
  | .int i, _, h => by cases h; exact .int i
  | .str x, _, h => by cases h; exact .str x
  | .list ds, _, h => by cases h
  | .tuple ds, _, h => by
    cases h with
    | tup q p => exact .tup (sqt_dk h0 r q) (DtA.dk h0 r ds _ p)
  | .dict _, _, h => by
    cases h with
    | dic q =>
      refine .dic (r.keep _ _ (fun z => ?_) q)
      obtain ⟨xs, e⟩ := h0
      rw [z, e] at q
      cases q
theorem DtA.dk (h0 : Lst s H) (r : Dk s H H') : ∀ (ds : List PyData) (vs : List V), DtA K H vs ds → DtA K H' vs ds
  | [], _, h => by cases h; exact .nil
  | d :: ds, _, h => by
    cases h with
    | cons p q => exact .cons (Dt.dk h0 r d _ p) (DtA.dk h0 r ds _ q)
end
end
section
variable {X : Cx} {pins : List (Addr × Obj)} {σ : L2.St} {H : Hp} {s : Shared}
mutual
theorem Dt.reads (I : L2.Inv X pins σ H s) : ∀ (d : PyData) (v : V) (u : Value), Dt X.K H v d → RelV v u → ∃ as, Reads s.heap u d as ∧ sysModules ∉ as
  | .none, _, _, h, r => by
    cases h
    cases r
    exact ⟨_, Reads.none, by simp⟩
  | .bool b, _, _, h, r => by
    cases h
    cases r
    exact ⟨_, Reads.bool b, by simp⟩
  | .int i, _, _, h, r => by
    cases h
    obtain ⟨t, rfl⟩ := r
    exact ⟨_, Reads.int i t, by simp⟩
  | .str x, _, _, h, r => by
    cases h
    obtain ⟨t, rfl⟩ := r
    exact ⟨_, Reads.str x t, by simp⟩
  | .list ds, _, _, h, _ => by cases h
  | .tuple ds, _, _, h, r => by
    cases h with
    | tup hs ha =>
      cases r
      obtain ⟨its, rv, ⟨o, ho, hc, n, hd⟩, _⟩ := I.tuple hs
      obtain ⟨as, hr, hn⟩ := DtA.readsAll I ds _ its ha rv
      exact ⟨_, Reads.tuple ho hc hd hr, hn⟩
  | .dict _, _, _, h, r => by
    cases h with
    | @dic a he =>
      cases r
      obtain ⟨_, ya, va, ra, o, es, ep, h1, h2, h3, h4⟩ := (show ObjOk X.prog X.w H s.heap a (.dK []) from I.hok a _ he)
      cases ra
      have hes : es.toList = [] := by
        have hp := h4.2.1
        generalize es.toList = l at hp
        cases hp
        rfl
      have R : Reads s.heap (.ref a) (.dict []) ([a] ++ [] ++ []) := by
        refine Reads.dict h1 h2.1 h3 ?_ ?_
        · rw [hes]
          exact .nil
        · rw [hes]
          exact .nil
      refine ⟨_, R, fun hm => ?_⟩
      simp only [List.append_nil, List.mem_singleton] at hm
      subst hm
      simp at ya
theorem DtA.readsAll (I : L2.Inv X pins σ H s) : ∀ (ds : List PyData) (vs : List V) (us : List Value), DtA X.K H vs ds → Vals vs us → ∃ as, ReadsAll s.heap us ds as ∧ sysModules ∉ as
  | [], _, _, h, r => by
    cases h
    cases r
    exact ⟨[], .nil, by simp⟩
  | d :: ds, _, _, h, r => by
    cases h with
    | cons p q =>
      cases r with
      | cons r1 r2 =>
        obtain ⟨as, h1, n1⟩ := Dt.reads I d _ _ p r1
        obtain ⟨bs, h2, n2⟩ := DtA.readsAll I ds _ _ q r2
        exact ⟨_, .cons h1 h2, fun hm => (List.mem_append.mp hm).elim n1 n2⟩
end
end
/-- sizes, dicts too -/
structure Sx (d : PyData) (b k : Nat) : Prop where
  sh : d.showable = true
  lv : d.leavesShort 92 = true
  bk : d.bulk ≤ b
  dp : d.depth ≤ k
structure SxA (ds : List PyData) (b k : Nat) : Prop where
  sh : PyData.showableAll ds = true
  lv : PyData.leavesShortAll 92 ds = true
  bk : PyData.bulkAll ds ≤ b
  dp : PyData.depthAll ds ≤ k
theorem sxa_nil (k : Nat) : SxA [] 0 k := ⟨rfl, rfl, Nat.le_refl _, Nat.zero_le _⟩
theorem sxa_cons {d : PyData} {ds : List PyData} {b B k : Nat} (h : Sx d b k) (g : SxA ds B k) : SxA (d :: ds) (b + B + 1) k := by
  obtain ⟨a1, a3, a4, a5⟩ := h
  obtain ⟨b1, b3, b4, b5⟩ := g
  refine ⟨?_, ?_, ?_, ?_⟩
  · simp only [PyData.showableAll, a1, b1, Bool.and_self]
  · simp only [PyData.leavesShortAll, a3, b3, Bool.and_self]
  · simp only [PyData.bulkAll]
    omega
  · simp only [PyData.depthAll]
    omega
theorem sx_tup {ds : List PyData} {b k : Nat} (h : SxA ds b k) : Sx (.tuple ds) b (k + 1) := by
  obtain ⟨b1, b3, b4, b5⟩ := h
  refine ⟨b1, b3, b4, ?_⟩
  show PyData.depthAll ds + 1 ≤ k + 1
  omega
theorem sx_lst {ds : List PyData} {b k : Nat} (h : SxA ds b k) : Sx (.list ds) b (k + 1) := by
  obtain ⟨b1, b3, b4, b5⟩ := h
  refine ⟨b1, b3, b4, ?_⟩
  show PyData.depthAll ds + 1 ≤ k + 1
  omega
theorem Sx.mono {d : PyData} {b k b' k' : Nat} (h : Sx d b k) (hb : b ≤ b') (hk : k ≤ k') : Sx d b' k' := ⟨h.sh, h.lv, Nat.le_trans h.bk hb, Nat.le_trans h.dp hk⟩
theorem Sw.sx {d : PyData} {b k : Nat} (h : Sw d b k) : Sx d b k := ⟨h.sh, h.lv, h.bk, h.dp⟩
theorem sx_dic : Sx (.dict []) 0 2 := ⟨by decide, by decide, by decide, by decide⟩
/-- data small enough to be shown, without dicts, or without lists -/
def Shw (K : PySem.W.Frag) (s : Addr) (H : Hp) (v : V) : Prop := (∃ d, Dz K s H v d ∧ Sw d 500 6) ∨ ∃ d, Dt K H v d ∧ Sx d 500 6
theorem Shw.ex {K : PySem.W.Frag} {s : Addr} {H H' : Hp} {v : V} (e : Ex H H') (h : Shw K s H v) : Shw K s H' v := by
  rcases h with ⟨d, h1, h2⟩ | ⟨d, h1, h2⟩
  · exact .inl ⟨d, Dz.ex e d v h1, h2⟩
  · exact .inr ⟨d, Dt.ex e d v h1, h2⟩
def tLstN (t : TA) : TE := fun σ H Q => t σ H fun xs H1 => xs.length ≤ sizeLine ∧ ∀ p H2, H1 p = none → (p == sysModules) = false → Ex H1 H2 → H2 p = some (.lst xs) → Q (.ref p) H2
theorem pe_lstN {X : Cx} {es : List Expr} {t : TA} {pos : Pos} (h : PA X es t) : PE X (.List es pos) (tLstN t) := by
  constructor
  intro pins s σ H Q I hq
  refine wpAny_List_spliced (thn (h.run _ pins s σ H _ I hq) ?_)
  rintro us s2 ⟨vs, H2, J, rv, sz, k⟩
  have fr := J.fresh
  have hm : (s2.heap.objs.size == sysModules) = false := beq_eq_false_iff_ne.mpr (Nat.ne_of_gt J.big)
  refine ⟨rv.length ▸ sz, .ref _, _, J.laid (o := .lst vs) (t' := s2.toks) (fun _ _ => Heap.get?_push_of_some _) (Nat.le_refl _) ⟨sz, us, 0, rv, Heap.get?_push_size _ rfl⟩, rfl, k _ _ fr hm (Ex.new fr) upd_same⟩
/-- repr, a list of an empty dict too -/
inductive Rp3 (K : PySem.W.Frag) (H : Hp) : V → Str → Prop
  | old {v x} (h : Rp K H v x) : Rp3 K H v x
  | one {t : Addr} {v : V} {d : PyData} (q : H t = some (.lst [v])) (n : (t == sysModules) = false) (e : Dt K H v d) (z : Sx (.list [d]) 800 20) : Rp3 K H (.ref t) (PyData.list [d]).shown
def rRp3 (K : PySem.W.Frag) : List V → Hp → VK → Prop := fun vs H Q => ∃ v x, vs = [v] ∧ Rp3 K H v x ∧ Q (.str x) H
theorem call_rp3 {X : Cx} (hG : X.A.guards = some []) (hu : X.A.units + 64 < cLine) : CallR X (.builtin "repr") (rRp3 X.K) := by
  intro pins s σ H xs us Q I r h
  obtain ⟨v, x, rfl, h, q⟩ := h
  cases h with
  | old h => exact call_rp hG hu pins s σ H _ us Q I r ⟨_, _, rfl, h, q⟩
  | @one t v d hq yt he z =>
    obtain ⟨u, rfl, rx⟩ := vals1 r
    cases (show u = Value.ref t from rx)
    obtain ⟨its, rv, ⟨o1, n1, g1, c1, _, d1⟩, _⟩ := I.list (sq_of hq)
    obtain ⟨as, R, hn⟩ := DtA.readsAll I [d] _ _ (.cons he .nil) rv
    have hroom : X.A.units + ((PyData.list [d]).depth + 1) < cLine := by
      have := z.dp
      omega
    refine repr_of_reads' (Reads.list g1 c1 d1 R) z.sh (fun _ hmm => ?_) hG hroom (fun _ _ z => z) (fun h' u tk kp => ⟨.str _, H, I.kept (t' := tk) kp, ⟨u, rfl⟩, q⟩) (shown_fits2 z.lv (Nat.le_trans z.bk (by decide)))
    rcases List.mem_cons.mp hmm with hmm | hmm
    · rw [← hmm] at yt
      simp at yt
    · exact hn hmm
theorem shw_rp {K : PySem.W.Frag} {s : Addr} {H : Hp} {v : V} (h : Shw K s H v) : ∃ x, ∀ t H', Ex H H' → H' t = some (.lst [v]) → (t == sysModules) = false → Rp3 K H' (.ref t) x := by
  rcases h with ⟨d, h1, h2⟩ | ⟨d, h1, h2⟩
  · exact ⟨(PyData.list [d]).shown, fun t H' e q _ => .old (Sw.rp2 (b := 600) (k := 20) ((sw_lst (swa_cons h2 (swa_nil 6))).mono (by decide) (by decide)) (.lst (sq_of q) (.cons (Dz.dp _ _ (Dz.ex e d v h1)) .nil)) (by decide) (by decide))⟩
  · exact ⟨(PyData.list [d]).shown, fun t H' e q n => .one q n (Dt.ex e d v h1) ((sx_lst (sxa_cons h2 (sxa_nil 6))).mono (by decide) (by decide))⟩
end Nc
end
section
set_option maxRecDepth 100000
set_option maxHeartbeats 4000000
namespace Nc
open PySem PySem.Spec PyProof.Rows L2
/-! enumerate of a list or a tuple -/
theorem meets_enum_new1 {v : Value} {o : Obj} {H : Heap → Prop} (B : Begins v o H) :
    Meets (Builtin.«enumerate.__new__» ⟨[.type "enumerate", v], []⟩) (fun _ R s => H s.heap ∧
      R (.ok (.ret (.ref (s.heap.push o).objs.size))) { s with heap := (s.heap.push o).push { cls := .type "enumerate", data := .fields #[.none, .bool false, .ref s.heap.objs.size, rawInt 0, .none, .none] } }) :=
  .of_wp fun prog w A R s h => by
    obtain ⟨hp, g, d, tk, os⟩ := s; obtain ⟨h1, h⟩ := h
    have hsub := sub_enumerate
    have q1 : ∀ {A' : Around} {E : Value → Shared → Prop} {Q : Value → Shared → Prop}, Q (.ref hp.objs.size) ⟨hp.push o, g, d, tk, os⟩ → wpAny (model prog w) A' (pyIter v) Q E ⟨hp, g, d, tk, os⟩ :=
      fun q => B.iter prog w _ _ ⟨hp, g, d, tk, os⟩ _ h1 q
    wp_walk using q1
    refine wpAny_stack_any fun st => wpAny_pure ?_
    split
    · rename_i c _ _ _ _ _
      cases (c == Value.type "enumerate")
      · wp_walk using q1
        exact ⟨_, rfl, h⟩
      · wp_walk using q1
        exact ⟨_, rfl, h⟩
    · wp_walk using q1
      exact ⟨_, rfl, h⟩
theorem enum_begins1 {prog : Program} {w : World} {A : Around} {E : Value → Shared → Prop} {s : Shared} {v : Value} {o : Obj} {H : Heap → Prop} {Q : Value → Shared → Prop} (B : Begins v o H) (h1 : H s.heap)
    (h : ∀ h', IsEnum h' (s.heap.objs.size + 1) s.heap.objs.size 0 .none → h'.get? s.heap.objs.size = some o → h'.objs.size = s.heap.objs.size + 2 →
      (∀ b o, s.heap.get? b = some o → h'.get? b = some o) → Q (.ref (s.heap.objs.size + 1)) { s with heap := h' }) :
    wpAny (model prog w) A (call (.type "enumerate") [v]) Q E s := by
  refine callType_new F.called_enumerate (by decide) (F.typeCall_enumerate_1 _) (F.newCall_enumerate_1 _) (fun obj => F.args_object_init_2 obj _) F.entry_enumerate_new
    (meets_enum_new1 B) ⟨h1, ?_⟩
  have hz : (s.heap.push o).objs.size = s.heap.objs.size + 1 := Heap.size_push ..
  show _ ∧ _
  rw [hz]
  have he : IsEnum ((s.heap.push o).push { cls := .type "enumerate", data := .fields #[.none, .bool false, .ref s.heap.objs.size, rawInt 0, .none, .none] }) (s.heap.objs.size + 1) s.heap.objs.size 0 .none := by
    have := Heap.get?_push_size (s.heap.push o) (o := { cls := .type "enumerate", data := .fields #[.none, .bool false, .ref s.heap.objs.size, rawInt 0, .none, .none] }) rfl
    rw [hz] at this; exact this
  refine ⟨⟨_, he, rfl⟩, h _ he (Heap.get?_push_of_some _ (Heap.get?_push_size _ B.free)) (by rw [Heap.size_push, hz]) fun b o x => Heap.get?_push_of_some _ (Heap.get?_push_of_some _ x)⟩
def IteX (K : PySem.W.Frag) (c : Bool) (a : Addr) : It :=
  ⟨fun i H => ∃ (xs : List V) (x : V), SqX K c H a xs ∧ xs[i]? = some x, fun i H v H' => ∃ T x, v = .ref T ∧ H T = none ∧ H' = upd H T (.tup [.int (i : Nat), x]) ∧ ∀ xs, SqX K c H a xs → xs[i]? = some x, fun i H => ∃ xs : List V, SqX K c H a xs ∧ xs.length = i⟩
theorem turn_enumX {c : Bool} {P : Program} {w : World} {K : PySem.W.Frag} {elts : List Expr} {kk : Nat} {tpos : Pos} (a e it : Addr) (n1 : a ≠ it) :
    Turn P w K (.Tuple elts kk tpos) (IteX K c a) [e, it] e (fun i h => (∃ old, IsEnum h e it ((i : Nat) : Int) old) ∧ JX c it a h i ∧ e ≠ it ∧ e ≠ a) where
  mem := by simp
  obj := fun i h st b hb => by
    obtain ⟨⟨old, he⟩, hj, _⟩ := st
    have e' : b = e ∨ b = it := by simpa using hb
    rcases e' with z | z
    · rw [z]; exact ⟨_, he, fun v q => nomatch q⟩
    · rw [z]
      cases c
      · obtain ⟨o1, e1, _, d1⟩ := hj
        exact ⟨o1, e1, fun v q => by rw [d1] at q; cases q⟩
      · obtain ⟨o1, e1, _, d1⟩ := hj
        exact ⟨o1, e1, fun v q => by rw [d1] at q; cases q⟩
  keep := fun i h h' st k => by
    obtain ⟨⟨old, he⟩, hi, hne⟩ := st
    exact ⟨⟨old, k e (by simp) _ he⟩, hi.at' fun o q => k it (by simp) o q, hne⟩
  item := by
    intro X hP hw hK hc i pins s σ H E I hf st hg
    subst hP hw hK
    obtain ⟨⟨old, he⟩, hit, hne, hnea⟩ := st
    obtain ⟨xs, x, hq, hx⟩ := hg
    obtain ⟨its, rv, p⟩ := invX I hq
    obtain ⟨u, hu, ru⟩ := rv.get hx
    have hel : e < s.heap.objs.size := Heap.lt_size he
    have hil : it < s.heap.objs.size := hit.lt
    have hh : X.A.in1.handled = none := I.ok.hd hc
    have g1 := (List.getElem?_eq_some_iff.mp hu).1
    have hnm : e ∉ [it, a] := fun z => by
      rcases List.mem_cons.mp z with z | z
      · exact hne z
      · exact hnea (List.mem_singleton.mp z)
    refine wpAny_pyNext_enum_itemD (drX hh it a n1 its.toArray c) he ⟨hit, p⟩ (by simpa using g1) hne hnm fun x1 h' tk y1 ho s1 hT hsz hk => ?_
    have e1 : x1 = u := by
      have : its[i]? = some x1 := by simpa using y1
      rw [hu] at this
      exact (Option.some.inj this).symm
    subst e1
    refine ⟨_, rfl, wpAny_letOwnedTupleGo_enum (s := { s with heap := h', toks := tk + 1 }) ho fun h'' he' sb => ?_⟩
    have hT2 : h''.get? s.heap.objs.size = some { cls := .type "tuple", data := .seq #[.int i tk, x1] } := (sb.2 _ (Nat.ne_of_gt hel)).trans hT
    have new : ObjOk X.prog X.w (upd H s.heap.objs.size (.tup [.int (i : Nat), x])) h'' s.heap.objs.size (.tup [.int (i : Nat), x]) :=
      ⟨by show 2 ≤ sizeLine; decide, [.int i tk, x1], .cons ⟨_, rfl⟩ (.cons ru .nil), ⟨_, hT2, rfl, _, rfl⟩⟩
    have I1 : Inv X pins σ (upd H s.heap.objs.size (.tup [.int (i : Nat), x])) { s with heap := h'', toks := tk + 1 } :=
      I.turnedNew (t' := tk + 1) (ch := [e, it]) (fun b ob hb q => (sb.2 b (fun z => hb (by simp [z]))).trans (hk b ob (fun z => hb (by simp [z])) (fun z => hb (by simp [z])) q)) hf (Nat.le_refl _) new
    refine ⟨.ref s.heap.objs.size, _, I1, rfl, ⟨_, x, rfl, I.hok.fresh (Nat.le_refl _), rfl, fun ys hy => by rw [injX I hy hq]; exact hx⟩, ⟨⟨x1, ?_⟩, s1.1.at' fun o q => (sb.2 it (Ne.symm hne)).trans q, hne, hnea⟩, fun b hb => ?_⟩
    · have e1 : ((i + 1 : Nat) : Int) = (i : Int) + 1 := by omega
      rw [e1]; exact he'
    · have hb' : b < s.heap.objs.size := by
        have e' : b = e ∨ b = it := by simpa using hb
        rcases e' with z | z
        · rw [z]; exact hel
        · rw [z]; exact hil
      rw [upd_ne (Nat.ne_of_lt hb')]
      exact (hf b hb).1
  done := by
    intro X hP hw hK hc i pins s σ H E I hf st hg
    subst hP hw hK
    obtain ⟨⟨old, he⟩, hit, hne, hnea⟩ := st
    obtain ⟨xs, hq, hx⟩ := hg
    obtain ⟨its, rv, p⟩ := invX I hq
    obtain ⟨f0, f1, f2, f3, f4, f5⟩ := hf it (by simp)
    have hl := rv.length
    have hh : X.A.in1.handled = none := I.ok.hd hc
    have m1 : its.toArray.size = its.length := rfl
    have ei : i = its.toArray.size := by omega
    exact wpAny_pyNext_enum_endD (drX hh it a n1 its.toArray c) he ⟨ei ▸ hit, p⟩ fun h' eb => ⟨rfl, I.turned (t' := s.toks) (fun b o hb q => eb b o hb q) f0 f1 f3 f4 f5⟩
  self := fun A i s Q E st h => let ⟨⟨_, he⟩, _⟩ := st; wpAny_pyIter_enum he h
def iEnumX (K : PySem.W.Frag) (ta : TA) : TI := fun σ H R => ta σ H fun vs H1 => ∃ (c : Bool) (a : Addr) (xs : List V), vs = [.ref a] ∧ SqX K c H1 a xs ∧ R (IteX K c a) H1
theorem pi_enumX {X : Cx} {e : Expr} {ta : TA} {p pos tpos : Pos} {elts : List Expr} {kk : Nat} (hg : Gl X "enumerate") (hm : X.mg "enumerate" = none) (ha : PA X [e] ta) (hs : starEach [e] X.env = [(false, eval e X.env)] := by rfl) :
    PI X (.Tuple elts kk tpos) (.Call (.Name "enumerate" p) [e] [] pos) (iEnumX X.K ta) := by
  refine ⟨fun pins s σ H R I h => ?_⟩
  refine Call_ (ld_blt I hg hm boot_enumerate (PyProof.Rows.callWith_type1 (thn (ha.run pos pins s σ H _ I h) fun us s1 ⟨vs, H1, I1, r1, q1⟩ => ?_) hs rfl))
  obtain ⟨c, a, xs, ex, hq, q⟩ := q1
  subst ex
  cases r1 with
  | cons r rr =>
    cases rr
    cases r
    obtain ⟨its, rv, p'⟩ := invX I1 hq
    refine enum_begins1 (bgX a its.toArray c) p' fun h' he hit hsz hk => wpAny_pyIter_enum he ?_
    have I2 : Inv X pins σ H1 { s1 with heap := h' } := I1.kept (t' := s1.toks) hk
    have la := p'.lt
    refine ⟨s1.heap.objs.size + 1, [s1.heap.objs.size + 1, s1.heap.objs.size], _, _, H1, rfl, I2, turn_enumX a (s1.heap.objs.size + 1) s1.heap.objs.size (Nat.ne_of_lt la), ⟨⟨.none, he⟩, JX.new hit, Nat.succ_ne_self _, Nat.ne_of_gt (Nat.lt_succ_of_lt la)⟩, fun b hb => ?_, q⟩
    have e' : b = s1.heap.objs.size + 1 ∨ b = s1.heap.objs.size := by simpa using hb
    have hle : s1.heap.objs.size ≤ b := by
      rcases e' with z | z
      · rw [z]; exact Nat.le_add_right _ _
      · rw [z]; exact Nat.le_refl _
    exact I1.fpOk hle (I1.hok.fresh hle)
theorem for_enumX {c : Bool} {K : PySem.W.Frag} {a : Addr} {xs : List V} {g : TG} {tb : TS} {D : Ends} {σ : L2.St} {H : Hp} (Pv : Nat → L2.St → Hp → Prop) (h0 : Pv 0 σ H) (hq : ∀ i σ H, Pv i σ H → SqX K c H a xs)
    (hs : ∀ (i : Nat) (x : V) (T : Addr) (σ : L2.St) (H : Hp), xs[i]? = some x → Pv i σ H → H T = none → g (.ref T) σ (upd H T (.tup [.int (i : Nat), x])) fun σ2 H2 => tb { D with nx := Pv (i + 1), ct := Pv (i + 1), bk := D.nx } σ2 H2) (hd : ∀ σ H, Pv xs.length σ H → D.nx σ H) :
    ∃ W : Nat → Nat → L2.St → Hp → Prop, (∃ m, W 0 m σ H) ∧ ∀ i m σ H, W i m σ H →
      ((IteX K c a).stop i H ∧ D.nx σ H) ∨ ((IteX K c a).go i H ∧ ∃ N : L2.St → Hp → Prop, (∀ σ' H', N σ' H' → ∃ m', m' < m ∧ W (i + 1) m' σ' H') ∧ ∀ v H', (IteX K c a).yld i H v H' → g v σ H' fun σ2 H2 => tb { D with nx := N, ct := N, bk := D.nx } σ2 H2) := by
  refine ⟨fun i m σ H => m = xs.length - i ∧ i ≤ xs.length ∧ Pv i σ H, ⟨xs.length, rfl, Nat.zero_le _, h0⟩, ?_⟩
  rintro i m σ H ⟨rfl, hi, p⟩
  have qx := hq i σ H p
  by_cases hlt : i < xs.length
  · have hx : xs[i]? = some xs[i] := List.getElem?_eq_getElem hlt
    refine .inr ⟨⟨xs, _, qx, hx⟩, Pv (i + 1), fun σ' H' p' => ⟨xs.length - (i + 1), by omega, rfl, hlt, p'⟩, fun v H' y => ?_⟩
    obtain ⟨T, x', rfl, hT, rfl, f1⟩ := y
    exact hs i x' T σ H (f1 xs qx) p hT
  · have e : i = xs.length := by omega
    subst e
    exact .inl ⟨⟨xs, qx, rfl⟩, hd σ H p⟩
/-- a comprehension over enumerate of a list or a tuple -/
theorem lc_enumX {c : Bool} {K : PySem.W.Frag} {a : Addr} {xs : List V} {g : TG} {tt : TT} {te : TE} {vs : List Nat} {σ : L2.St} {H1 : Hp} {D : Addr} {Qd : Hp → Prop} (Pv : Nat → Hp → Prop) (h0 : Pv 0 (upd H1 D (.lst []))) (hq : ∀ i H, Pv i H → SqX K c H a xs)
    (hs : ∀ (i : Nat) (x : V) (T : Addr) (H : Hp), xs[i]? = some x → Pv i H → H T = none → g (.ref T) (wipe σ vs) (upd H T (.tup [.int (i : Nat), x])) fun σ2 H2 => wipe σ2 vs = wipe σ vs ∧ tt σ2 H2 fun b H3 =>
      if b = true then te σ2 H3 fun y H4 => ∃ acc, H4 D = some (.lst acc) ∧ acc.length < sizeLine ∧ Pv (i + 1) (upd H4 D (.lst (acc ++ [y]))) else Pv (i + 1) H3) (hd : ∀ H, Pv xs.length H → Qd H) :
    ∃ W : Nat → Nat → Hp → Prop, (∃ m, W 0 m (upd H1 D (.lst []))) ∧ ∀ i m H, W i m H →
      ((IteX K c a).stop i H ∧ Qd H) ∨ ((IteX K c a).go i H ∧ ∃ Nx : Hp → Prop, (∀ H', Nx H' → ∃ m', m' < m ∧ W (i + 1) m' H') ∧ ∀ x H', (IteX K c a).yld i H x H' → g x (wipe σ vs) H' fun σ2 H2 => wipe σ2 vs = wipe σ vs ∧ tt σ2 H2 fun b H3 =>
        if b = true then te σ2 H3 fun y H4 => ∃ acc, H4 D = some (.lst acc) ∧ acc.length < sizeLine ∧ Nx (upd H4 D (.lst (acc ++ [y]))) else Nx H3) := by
  refine ⟨fun i m H => m = xs.length - i ∧ i ≤ xs.length ∧ Pv i H, ⟨xs.length, rfl, Nat.zero_le _, h0⟩, ?_⟩
  rintro i m H ⟨rfl, hi, p⟩
  have qx := hq i H p
  by_cases hlt : i < xs.length
  · have hx : xs[i]? = some xs[i] := List.getElem?_eq_getElem hlt
    refine .inr ⟨⟨xs, _, qx, hx⟩, Pv (i + 1), fun H' p' => ⟨xs.length - (i + 1), by omega, rfl, hlt, p'⟩, fun v H' y => ?_⟩
    obtain ⟨T, x', rfl, hT, rfl, f1⟩ := y
    exact hs i x' T H (f1 xs qx) p hT
  · have e : i = xs.length := by omega
    subst e
    exact .inl ⟨⟨xs, qx, rfl⟩, hd H p⟩
end Nc
end
section
set_option maxRecDepth 100000
set_option maxHeartbeats 4000000
namespace Nc
open PySem PySem.Spec PyProof.Rows L2
/-! a, b = a list -/
def gLst (K : PySem.W.Frag) (n : Nat) (t : TGs) : TG := fun v σ H Q => ∃ (a : Addr) (xs : List V), v = .ref a ∧ SqL K H a xs ∧ xs.length = n ∧ t xs σ H Q
theorem pg_lst {X : Cx} {es : List Expr} {k n : Nat} {pos : Pos} {t : TGs} (hc : X.calm = true) (g : PGs X es t) (hn : (assignEach es X.env).length = n := by rfl) (hst : (assignEach es X.env).findIdx? (·.1) = none := by rfl) :
    PG X (.Tuple es k pos) (gLst X.K n t) := by
  refine ⟨fun pins s σ H v u Q I r hw => ?_⟩
  obtain ⟨a, xs, ev, hq, hl, go⟩ := hw
  subst ev
  cases r
  obtain ⟨its, rv, hp, _⟩ := I.list hq
  have hlen : (assignEach es X.env).length = its.toArray.size := by
    have := rv.length
    have m : its.toArray.size = its.length := rfl
    omega
  rw [assign_Tuple]
  refine wpAny_bind (wpAny_standAt ?_)
  unfold unpack
  rw [hlen, hst]
  refine wpAny_bind (wpAny_holding (PySem.W.kun_itemsOf (I.ok.hd hc) hp.isList fun h' hx => ?_))
  have I1 : Inv X pins σ H { s with heap := h' } := I.kept (t' := s.toks) fun b o e => hx b o (Nat.ne_of_lt (Heap.lt_size e)) e
  exact g.run pins _ σ H xs _ Q I1 (by simpa using rv) go
end Nc
end
section
set_option maxRecDepth 100000
set_option maxHeartbeats 4000000
namespace Nc
open PySem PySem.Spec PyProof.Rows L2 Evl
/-! math.lcm of two whole numbers, not too great -/
theorem lcm_call {prog : Program} {w : World} {A : Around} {E : Value → Shared → Prop} {s : Shared} {Q : Value → Shared → Prop} {a b : Int} {t u : Tok} (ha : a.natAbs < 2 ^ 13400) (hb : b.natAbs < 2 ^ 13400)
    (h : Q (.int ((Nat.lcm a.natAbs b.natAbs : Nat) : Int) s.toks) { s with toks := s.toks + 1 }) : wpAny (model prog w) A (call (.builtin "math.lcm") [.int a t, .int b u]) Q E s := by
  have e : Nat.lcm 1 a.natAbs = a.natAbs := Nat.lcm_one_left _
  have lg : ∀ {n : Nat}, n < 2 ^ 13400 → n.log2 < 13400 := fun {n} hn => by
    by_cases h0 : n = 0
    · subst h0
      rw [Nat.log2_zero]
      decide
    · exact (Nat.log2_lt h0).mpr hn
  have p1 : 1 < (2 : Nat) ^ 13400 := Nat.one_lt_two_pow (by decide)
  have m1 : max 1 a.natAbs < 2 ^ 13400 := by
    generalize (2 : Nat) ^ 13400 = P at ha p1 ⊢
    omega
  have m2 : max a.natAbs b.natAbs < 2 ^ 13400 := by
    generalize (2 : Nat) ^ 13400 = P at ha hb ⊢
    omega
  have l1 := lg m1
  have l2 := lg m2
  have sz : ((((Nat.lcm 1 a.natAbs).lcm b.natAbs : Nat) : Int)).natAbs.log2 < bitsLine := by
    rw [e, Int.natAbs_natCast]
    have hle : Nat.lcm a.natAbs b.natAbs ≤ a.natAbs * b.natAbs := by
      by_cases h0 : a.natAbs * b.natAbs = 0
      · rcases Nat.mul_eq_zero.mp h0 with z | z
        · rw [z, Nat.lcm_zero_left]
          omega
        · rw [z, Nat.lcm_zero_right]
          omega
      · exact Nat.le_of_dvd (by omega) (Nat.lcm_dvd_mul _ _)
    have hlt : a.natAbs * b.natAbs < 2 ^ 26800 := by
      rw [show (26800 : Nat) = 13400 + 13400 from rfl, Nat.pow_add]
      exact Nat.mul_lt_mul'' ha hb
    have hl : Nat.lcm a.natAbs b.natAbs < 2 ^ 26800 := Nat.lt_of_le_of_lt hle hlt
    have : (Nat.lcm a.natAbs b.natAbs).log2 < 26800 := by
      by_cases h0 : Nat.lcm a.natAbs b.natAbs = 0
      · rw [h0, Nat.log2_zero]
        decide
      · exact (Nat.log2_lt h0).mpr hl
    rw [show bitsLine = 134217728 by decide]
    omega
  have g := PySem.W.mg_run_lcm a t b u (by omega) (by omega) sz
  rw [e] at g
  exact PySem.call_function_meets PySem.W.MGF.kind_lcm PySem.W.MGF.plain_lcm PySem.W.MGF.entry_lcm (PySem.W.MGF.args_lcm _ _) g.meets h
def rLcm : List V → Hp → VK → Prop := fun vs H Q => ∃ a b : Int, vs = [.int a, .int b] ∧ a.natAbs < 2 ^ 13400 ∧ b.natAbs < 2 ^ 13400 ∧ Q (.int ((Nat.lcm a.natAbs b.natAbs : Nat) : Int)) H
theorem cr_lcm {X : Cx} : CallR X (.builtin "math.lcm") rLcm := by
  intro pins s σ H vs us Q I r h
  obtain ⟨a, b, rfl, ha, hb, q⟩ := h
  obtain ⟨t, u, rfl⟩ := Vals.int2 r
  exact lcm_call ha hb ⟨.int _, H, I.tok _, ⟨_, rfl⟩, q⟩
/-! ### three whole numbers -/
def Bi (n : Nat) (u : I3) : Prop := u.1.natAbs < 2 ^ n ∧ u.2.1.natAbs < 2 ^ n ∧ u.2.2.natAbs < 2 ^ n
/-- the first three of a list or a tuple -/
def Sq3 (K : PySem.W.Frag) (H : Hp) (v : V) (u : I3) : Prop := ∃ (c : Bool) (a : Addr) (xs : List V), v = .ref a ∧ SqX K c H a xs ∧ xs[0]? = some (.int u.1) ∧ xs[1]? = some (.int u.2.1) ∧ xs[2]? = some (.int u.2.2)
def I3V (K : PySem.W.Frag) (H : Hp) (v : V) (u : I3) : Prop := ∃ t, v = .ref t ∧ SqT K H t [.int u.1, .int u.2.1, .int u.2.2]
def W4V (K : PySem.W.Frag) (H : Hp) (v : V) (w : W4) : Prop := ∃ t, v = .ref t ∧ SqT K H t [.int w.1.1, .int w.1.2.1, .int w.1.2.2, .int w.2]
variable {K : PySem.W.Frag} {H H' : Hp}
theorem Sq3.ex {v : V} {u : I3} (e : Ex H H') (h : Sq3 K H v u) : Sq3 K H' v u := by
  obtain ⟨c, a, xs, rfl, q, r⟩ := h
  exact ⟨c, a, xs, rfl, sqX_ex e q, r⟩
theorem I3V.ex {v : V} {u : I3} (e : Ex H H') (h : I3V K H v u) : I3V K H' v u := by
  obtain ⟨t, rfl, q⟩ := h
  exact ⟨t, rfl, ex_t e q⟩
theorem W4V.ex {v : V} {u : W4} (e : Ex H H') (h : W4V K H v u) : W4V K H' v u := by
  obtain ⟨t, rfl, q⟩ := h
  exact ⟨t, rfl, ex_t e q⟩
theorem I3V.sq {v : V} {u : I3} (h : I3V K H v u) : Sq3 K H v u := by
  obtain ⟨t, rfl, q⟩ := h
  exact ⟨true, t, _, rfl, q, rfl, rfl, rfl⟩
theorem W4V.sq {v : V} {w : W4} (h : W4V K H v w) : Sq3 K H v w.1 := by
  obtain ⟨t, rfl, q⟩ := h
  exact ⟨true, t, _, rfl, q, rfl, rfl, rfl⟩
theorem at0q {xs : List V} {y : V} (h : xs[0]? = some y) : atI xs 0 = some y := atI_nat (j := 0) h
theorem at1q {xs : List V} {y : V} (h : xs[1]? = some y) : atI xs 1 = some y := atI_nat (j := 1) h
theorem at2q {xs : List V} {y : V} (h : xs[2]? = some y) : atI xs 2 = some y := atI_nat (j := 2) h
theorem ix3_0 {v : V} {u : I3} {Q : VK} (h : Sq3 K H v u) (q : Q (.int u.1) H) : rIxL K v (.int 0) H Q ∨ rIxT K v (.int 0) H Q := by
  obtain ⟨c, a, xs, rfl, qa, h0, h1, h2⟩ := h
  exact ix_sq qa (at0q h0) q
theorem ix3_1 {v : V} {u : I3} {Q : VK} (h : Sq3 K H v u) (q : Q (.int u.2.1) H) : rIxL K v (.int 1) H Q ∨ rIxT K v (.int 1) H Q := by
  obtain ⟨c, a, xs, rfl, qa, h0, h1, h2⟩ := h
  exact ix_sq qa (at1q h1) q
theorem ix3_2 {v : V} {u : I3} {Q : VK} (h : Sq3 K H v u) (q : Q (.int u.2.2) H) : rIxL K v (.int 2) H Q ∨ rIxT K v (.int 2) H Q := by
  obtain ⟨c, a, xs, rfl, qa, h0, h1, h2⟩ := h
  exact ix_sq qa (at2q h2) q
/-- three columns in a list -/
def ColsV (K : PySem.W.Frag) (H : Hp) (v : V) (C : F3 I3) : Prop := ∃ a xs, v = .ref a ∧ SqL K H a xs ∧ Paired (Sq3 K H) xs [C 0, C 1, C 2]
theorem ColsV.ex {v : V} {C : F3 I3} (e : Ex H H') (h : ColsV K H v C) : ColsV K H' v C := by
  obtain ⟨a, xs, rfl, q, p⟩ := h
  exact ⟨a, xs, rfl, ex_l e q, pmono (fun _ _ => Sq3.ex e) p⟩
/-- three whole numbers in a list -/
def Ns3 (K : PySem.W.Frag) (H : Hp) (v : V) (y : F3 Int) : Prop := ∃ a, v = .ref a ∧ SqL K H a [.int (y 0), .int (y 1), .int (y 2)]
theorem Ns3.ex {v : V} {y : F3 Int} (e : Ex H H') (h : Ns3 K H v y) : Ns3 K H' v y := by
  obtain ⟨a, rfl, q⟩ := h
  exact ⟨a, rfl, ex_l e q⟩
theorem Ns3.sq {v : V} {y : F3 Int} (h : Ns3 K H v y) : Sq3 K H v (y 0, y 1, y 2) := by
  obtain ⟨a, rfl, q⟩ := h
  exact ⟨false, a, _, rfl, q, rfl, rfl, rfl⟩
/-- whole numbers in a list, as new -/
def spDot3 (K : PySem.W.Frag) : Sp := fun vs H Q _ => ∃ (x y : V) (u s : I3) (n : Nat), vs = [x, y] ∧ Sq3 K H x u ∧ Sq3 K H y s ∧ Bi n u ∧ Bi n s ∧ 0 < n ∧ n ≤ 20000 ∧ Q (.int (dt u s)) H
def spCross3 (K : PySem.W.Frag) : Sp := fun vs H Q _ => ∃ (x y : V) (u s : I3) (n : Nat), vs = [x, y] ∧ Sq3 K H x u ∧ Sq3 K H y s ∧ Bi n u ∧ Bi n s ∧ 0 < n ∧ n ≤ 20000 ∧ ∀ v H', Ex H H' → I3V K H' v (xr u s) → Q v H'
def spCols3 (K : PySem.W.Frag) : Sp := fun vs H Q _ => ∃ (a : Addr) (xs : List V) (r : F3 I3) (n : Nat), vs = [.ref a] ∧ SqL K H a xs ∧ Paired (Sq3 K H) xs [r 0, r 1, r 2] ∧ (∀ p, Bi n (r p)) ∧ 0 < n ∧ n ≤ 9000 ∧
  ∀ t v H', Ex H H' → SqT K H' t [v, .int (bot r)] → ColsV K H' v (cols r) → Q (.ref t) H'
def spSpotC (K : PySem.W.Frag) : Sp := fun vs H Q _ => ∃ (x y : V) (b : F3 Int) (C : F3 I3) (n : Nat), vs = [x, y] ∧ Ns3 K H x b ∧ ColsV K H y C ∧ Bi n (b 0, b 1, b 2) ∧ (∀ p, Bi n (C p)) ∧ 0 < n ∧ n ≤ 20000 ∧ ∀ v H', Ex H H' → I3V K H' v (spotT b C) → Q v H'
def spShares3 (K : PySem.W.Frag) : Sp := fun vs H Q _ => ∃ (x y : V) (u : I3) (C : F3 I3) (n : Nat), vs = [x, y] ∧ Sq3 K H x u ∧ ColsV K H y C ∧ Bi n u ∧ (∀ p, Bi n (C p)) ∧ 0 < n ∧ n ≤ 20000 ∧ ∀ v H', Ex H H' → Ns3 K H' v (fun p => dt u (C p)) → Q v H'
/-- a list of wishes in whole numbers -/
def W4s (K : PySem.W.Frag) (H : Hp) (v : V) (ws : List W4) : Prop := ∃ a xs, v = .ref a ∧ SqL K H a xs ∧ Paired (W4V K H) xs ws
theorem W4s.ex {v : V} {ws : List W4} (e : Ex H H') (h : W4s K H v ws) : W4s K H' v ws := by
  obtain ⟨a, xs, rfl, q, p⟩ := h
  exact ⟨a, xs, rfl, ex_l e q, pmono (fun _ _ => W4V.ex e) p⟩
def Bw (n : Nat) (w : W4) : Prop := Bi n w.1 ∧ w.2.natAbs < 2 ^ n
def onV : Option Nat → V
  | none => .non
  | some i => .int (i : Int)
def spFirstB (K : PySem.W.Frag) : Sp := fun vs H Q _ => ∃ (x y : V) (ws : List W4) (S : I3) (D : Int) (n : Nat), vs = [x, y, .int D] ∧ W4s K H x ws ∧ I3V K H y S ∧ (∀ w ∈ ws, Bw n w) ∧ Bi n S ∧ D.natAbs < 2 ^ n ∧ 0 < n ∧ n ≤ 20000 ∧ ws.length ≤ 1000 ∧ ∀ H', Ex H H' → Q (onV (ws.findIdx? (isBroken S D))) H'
def nat3 (h : F3 Nat) : F3 Int := fun p => (h p : Int)
def By (n : Nat) (y : F3 Int) : Prop := ∀ p, (y p).natAbs < 2 ^ n
def finV : Option (Fin 3) → V
  | none => .non
  | some i => .int ((i.val : Nat) : Int)
def spSooner (K : PySem.W.Frag) : Sp := fun vs H Q _ => ∃ (a b : Fin 3) (x y z : V) (h : F3 Nat) (s l : F3 Int) (n : Nat), vs = [.int ((a.val : Nat) : Int), .int ((b.val : Nat) : Int), x, y, z] ∧ Ns3 K H x (nat3 h) ∧ Ns3 K H y s ∧ Ns3 K H z l ∧ By n s ∧ By n l ∧ 0 < n ∧ n ≤ 20000 ∧ Q (.bl (isSooner h s l a b)) H
def spLeaving (K : PySem.W.Frag) : Sp := fun vs H Q _ => ∃ (x y z : V) (h : F3 Nat) (s l : F3 Int) (n : Nat), vs = [x, y, z] ∧ Ns3 K H x (nat3 h) ∧ Ns3 K H y s ∧ Ns3 K H z l ∧ By n s ∧ By n l ∧ 0 < n ∧ n ≤ 20000 ∧ ∀ H', Ex H H' → Q (finV (leave h s l)) H'
/-- whole numbers in a list that is new -/
def spPlaced (K : PySem.W.Frag) : Sp := fun vs H Q _ => ∃ (N : Nat) (x y : V) (h : F3 Nat) (s : F3 Int), vs = [.int (N : Int), x, y] ∧ Ns3 K H x (nat3 h) ∧ Ns3 K H y s ∧ (∀ p, h p < N) ∧ N ≤ 1000 ∧ ∀ F H', H F = none → Ex H H' → H' F = some (.lst ((plc N h s).map V.int)) → Q (.ref F) H'
/-- what the walk tells -/
def spWalk (K : PySem.W.Frag) : Sp := fun vs H Q _ => ∃ (x y : V) (c : Addr) (ws : List W4) (aim : I3) (h0 : F3 Nat) (n : Nat), vs = [x, y, .ref c] ∧ W4s K H x ws ∧ I3V K H y aim ∧ SqL K H c [.int (h0 0), .int (h0 1), .int (h0 2)] ∧ (∀ w ∈ ws, Bw n w) ∧ Bi n aim ∧ 0 < n ∧ n ≤ 2000 ∧ ws.length ≤ 500 ∧ GoodB ws aim h0 ∧
  (firstB ws (endB ws aim h0) = none → ∀ t v F H', Ex H H' → SqT K H' t [v, .int (botOf ws (endB ws aim h0)), .ref F] → I3V K H' v (spotOf ws (endB ws aim h0)) → SqL K H' F ((topsM ws aim (endB ws aim h0)).map V.int) → Q (.ref t) H') ∧
  ∀ e, firstB ws (endB ws aim h0) = some e → ∀ t F H', Ex H H' → SqT K H' t [.non, .int (botOf ws (endB ws aim h0)), .ref F] → SqL K H' F ((topsE ws (endB ws aim h0) e).map V.int) → Q (.ref t) H'
theorem paired3 {α : Type} {R : V → α → Prop} {xs : List V} {a b c : α} (p : Paired R xs [a, b, c]) : ∃ x y z, xs = [x, y, z] ∧ R x a ∧ R y b ∧ R z c := by
  cases p with
  | cons h0 p => cases p with
    | cons h1 p => cases p with
      | cons h2 p => cases p with
        | nil => exact ⟨_, _, _, rfl, h0, h1, h2⟩
/-! sizes -/
theorem bi_mono {n m : Nat} {u : I3} (h : Bi n u) (hm : n ≤ m) : Bi m u := ⟨lt_mono h.1 hm, lt_mono h.2.1 hm, lt_mono h.2.2 hm⟩
theorem sub_lt {n : Nat} {i j : Int} (ha : i.natAbs < 2 ^ n) (hb : j.natAbs < 2 ^ n) : (i - j).natAbs < 2 ^ (n + 1) := by
  have := Int.natAbs_sub_le i j
  rw [Nat.pow_succ]
  omega
theorem bi_xr {n m : Nat} {u v : I3} (hu : Bi n u) (hv : Bi m v) : Bi (n + m + 1) (xr u v) := by
  obtain ⟨a, b, c⟩ := hu
  obtain ⟨d, e, f⟩ := hv
  refine ⟨sub_lt (lt_mul b f) (lt_mul c e), sub_lt (lt_mul c d) (lt_mul a f), sub_lt (lt_mul a e) (lt_mul b d)⟩
theorem bi_dt {n m : Nat} {u v : I3} (hu : Bi n u) (hv : Bi m v) : (dt u v).natAbs < 2 ^ (n + m + 2) := by
  obtain ⟨a, b, c⟩ := hu
  obtain ⟨d, e, f⟩ := hv
  have h1 := lt_add (lt_mul a d) (lt_mul b e)
  have h2 := lt_mono (lt_mul c f) (show n + m ≤ n + m + 1 by omega)
  exact lt_add h1 h2
theorem bi_ng {n : Nat} {u : I3} (h : Bi n u) : Bi n (ng u) := by
  obtain ⟨a, b, c⟩ := h
  refine ⟨?_, ?_, ?_⟩
  · show (-u.1).natAbs < _
    rwa [Int.natAbs_neg]
  · show (-u.2.1).natAbs < _
    rwa [Int.natAbs_neg]
  · show (-u.2.2).natAbs < _
    rwa [Int.natAbs_neg]
theorem bi_cols {n : Nat} {r : F3 I3} (h : ∀ p, Bi n (r p)) : ∀ p, Bi (n + n + 1) (cols r p) := by
  have hu : ∀ p, Bi (n + n + 1) (colU r p) := all3 (bi_xr (h 1) (h 2)) (bi_xr (h 2) (h 0)) (bi_xr (h 0) (h 1))
  intro p
  unfold cols
  split
  · exact bi_ng (hu p)
  · exact hu p
theorem bot_lt {n : Nat} {r : F3 I3} (h : ∀ p, Bi n (r p)) : (bot r).natAbs < 2 ^ (3 * n + 3) := by
  have h1 : (det3 r).natAbs < 2 ^ (n + (n + n + 1) + 2) := bi_dt (h 0) (bi_xr (h 1) (h 2))
  have h2 : (bot r).natAbs = (det3 r).natAbs := by
    unfold bot
    split
    · exact Int.natAbs_neg _
    · rfl
  rw [h2]
  exact lt_mono h1 (by omega)
theorem spot_lt {n m : Nat} {b : F3 Int} {C : F3 I3} (hb : ∀ p, (b p).natAbs < 2 ^ n) (hC : ∀ p, Bi m (C p)) : Bi (n + m + 2) (spotT b C) := by
  have one : ∀ {x y z : Int}, x.natAbs < 2 ^ m → y.natAbs < 2 ^ m → z.natAbs < 2 ^ m → (b 0 * x + b 1 * y + b 2 * z).natAbs < 2 ^ (n + m + 2) := fun {x y z} hx hy hz => by
    have h1 := lt_add (lt_mul (hb 0) hx) (lt_mul (hb 1) hy)
    have h2 := lt_mono (lt_mul (hb 2) hz) (show n + m ≤ n + m + 1 by omega)
    exact lt_add h1 h2
  exact ⟨one (hC 0).1 (hC 1).1 (hC 2).1, one (hC 0).2.1 (hC 1).2.1 (hC 2).2.1, one (hC 0).2.2 (hC 1).2.2 (hC 2).2.2⟩
theorem wAt_bw {ws : List W4} {n i : Nat} (h : ∀ w ∈ ws, Bw n w) (hi : i < ws.length) : Bw n (wAt ws i) := by
  unfold wAt
  rw [List.getD_eq_getElem?_getD, List.getElem?_eq_getElem hi]
  exact h _ (List.getElem_mem _)
/-- a comprehension over zip, the second one no longer than the first -/
theorem lc_zipM {c c' : Bool} {K : PySem.W.Frag} {a b : Addr} {xs ys : List V} {g : TG} {tt : TT} {te : TE} {vs : List Nat} {σ : L2.St} {H1 : Hp} {D : Addr} {Qd : Hp → Prop} (hl : ys.length ≤ xs.length) (Pv : Nat → Hp → Prop) (h0 : Pv 0 (upd H1 D (.lst []))) (hq : ∀ i H, Pv i H → SqX K c H a xs ∧ SqX K c' H b ys)
    (hs : ∀ (i : Nat) (x y : V) (T : Addr) (H : Hp), xs[i]? = some x → ys[i]? = some y → Pv i H → H T = none → g (.ref T) (wipe σ vs) (upd H T (.tup [x, y])) fun σ2 H2 => wipe σ2 vs = wipe σ vs ∧ tt σ2 H2 fun b H3 =>
      if b = true then te σ2 H3 fun y H4 => ∃ acc, H4 D = some (.lst acc) ∧ acc.length < sizeLine ∧ Pv (i + 1) (upd H4 D (.lst (acc ++ [y]))) else Pv (i + 1) H3) (hd : ∀ H, Pv ys.length H → Qd H) :
    ∃ W : Nat → Nat → Hp → Prop, (∃ m, W 0 m (upd H1 D (.lst []))) ∧ ∀ i m H, W i m H →
      ((ItzX K c c' a b).stop i H ∧ Qd H) ∨ ((ItzX K c c' a b).go i H ∧ ∃ Nx : Hp → Prop, (∀ H', Nx H' → ∃ m', m' < m ∧ W (i + 1) m' H') ∧ ∀ x H', (ItzX K c c' a b).yld i H x H' → g x (wipe σ vs) H' fun σ2 H2 => wipe σ2 vs = wipe σ vs ∧ tt σ2 H2 fun b H3 =>
        if b = true then te σ2 H3 fun y H4 => ∃ acc, H4 D = some (.lst acc) ∧ acc.length < sizeLine ∧ Nx (upd H4 D (.lst (acc ++ [y]))) else Nx H3) := by
  refine ⟨fun i m H => m = ys.length - i ∧ i ≤ ys.length ∧ Pv i H, ⟨ys.length, rfl, Nat.zero_le _, h0⟩, ?_⟩
  rintro i m H ⟨rfl, hi, p⟩
  obtain ⟨qx, qy⟩ := hq i H p
  by_cases hlt : i < ys.length
  · have hlt2 : i < xs.length := by omega
    have hx : xs[i]? = some xs[i] := List.getElem?_eq_getElem hlt2
    have hy : ys[i]? = some ys[i] := List.getElem?_eq_getElem hlt
    refine .inr ⟨⟨xs, ys, _, _, qx, qy, hx, hy⟩, Pv (i + 1), fun H' p' => ⟨ys.length - (i + 1), by omega, rfl, hlt, p'⟩, fun v H' y => ?_⟩
    obtain ⟨T, x', y', rfl, hT, rfl, f1, f2⟩ := y
    exact hs i x' y' T H (f1 xs qx) (f2 ys qy) p hT
  · have e : i = ys.length := by omega
    subst e
    exact .inl ⟨⟨xs, ys, qx, qy, Or.inr (Nat.le_refl _)⟩, hd H p⟩
/-- the lists of whole numbers that are built -/
def Bls (L : List V) (H1 : Hp) (D : Addr) (k : Nat) (H' : Hp) : Prop := Ex H1 H' ∧ H' D = some (.lst (L.take k))
theorem bls0 {L : List V} {H1 : Hp} {D : Addr} (hD : H1 D = none) : Bls L H1 D 0 (upd H1 D (.lst [])) := ⟨Ex.new hD, upd_same⟩
theorem bls_step {L : List V} {H1 H' H4 : Hp} {D : Addr} {k : Nat} {v : V} (hD : H1 D = none) (b : Bls L H1 D k H') (e : Ex H' H4) (hi : L[k]? = some v) (hz : L.length < 100000) : ∃ acc, H4 D = some (.lst acc) ∧ acc.length < sizeLine ∧ Bls L H1 D (k + 1) (upd H4 D (.lst (acc ++ [v]))) := by
  have hk := (List.getElem?_eq_some_iff.mp hi).1
  refine ⟨L.take k, e _ _ b.2, sz_lt (by rw [List.length_take]; omega), Ex.mut (b.1.trans e) hD, ?_⟩
  rw [List.take_add_one, hi]
  exact upd_same
theorem bls_end {L : List V} {H1 H' : Hp} {D : Addr} {n : Nat} (hn : n = L.length) (b : Bls L H1 D n H') : Ex H1 H' ∧ H' D = some (.lst L) := by
  obtain ⟨e, k⟩ := b
  rw [hn, List.take_length] at k
  exact ⟨e, k⟩
theorem stI3 {K : PySem.W.Frag} : Stays (I3V K) := ⟨I3V.ex, fun hD ⟨t, h, q⟩ => ⟨t, h, sqt_mut hD q⟩⟩
theorem stW4 {K : PySem.W.Frag} : Stays (W4V K) := ⟨W4V.ex, fun hD ⟨t, h, q⟩ => ⟨t, h, sqt_mut hD q⟩⟩
/-- a place of three -/
def comp (i : Nat) (u : I3) : Int := match i with | 0 => u.1 | 1 => u.2.1 | _ => u.2.2
theorem ix3_at {K : PySem.W.Frag} {H : Hp} {v : V} {u : I3} {Q : VK} {i : Nat} (hi : i < 3) (h : Sq3 K H v u) (q : Q (.int (comp i u)) H) : rIxL K v (.int (i : Int)) H Q ∨ rIxT K v (.int (i : Int)) H Q := by
  match i, hi with
  | 0, _ => exact ix3_0 h q
  | 1, _ => exact ix3_1 h q
  | 2, _ => exact ix3_2 h q
theorem ixN3 {K : PySem.W.Frag} {H : Hp} {v : V} {y : F3 Int} {Q : VK} (p : Fin 3) (h : Ns3 K H v y) (q : Q (.int (y p)) H) : rIxL K v (.int ((p.val : Nat) : Int)) H Q := by
  obtain ⟨a, rfl, qa⟩ := h
  have e : atI [V.int (y 0), .int (y 1), .int (y 2)] ((p.val : Nat) : Int) = some (.int (y p)) := by
    match p with
    | 0 => exact at0
    | 1 => exact at1
    | 2 => exact at2
  exact ⟨a, _, _, _, rfl, rfl, qa, e, q⟩
theorem comp_spot (i : Nat) (b : F3 Int) (C : F3 I3) : comp i (spotT b C) = dt (b 0, b 1, b 2) (comp i (C 0), comp i (C 1), comp i (C 2)) := by
  unfold comp
  split <;> rfl
theorem comp_lt {n i : Nat} {u : I3} (h : Bi n u) : (comp i u).natAbs < 2 ^ n := by
  unfold comp
  split
  · exact h.1
  · exact h.2.1
  · exact h.2.2
/-- the best of the first so many -/
def pkB (h : F3 Nat) (s y : F3 Int) : Nat → Option (Fin 3)
  | 0 => none
  | 1 => pick h s y none 0
  | 2 => pick h s y (pick h s y none 0) 1
  | _ => leave h s y
def fin3 (i : Nat) : Fin 3 := if i = 0 then 0 else if i = 1 then 1 else 2
theorem pkB_step {h : F3 Nat} {s y : F3 Int} {i : Nat} (hi : i < 3) : pkB h s y (i + 1) = pick h s y (pkB h s y i) (fin3 i) := by
  match i, hi with
  | 0, _ => rfl
  | 1, _ => rfl
  | 2, _ => rfl
theorem fin3_val {i : Nat} (hi : i < 3) : (fin3 i).val = i := by
  match i, hi with
  | 0, _ => rfl
  | 1, _ => rfl
  | 2, _ => rfl
theorem ns3_at {y : F3 Int} {i : Nat} {v : V} (h : [V.int (y 0), .int (y 1), .int (y 2)][i]? = some v) : i < 3 ∧ v = .int (y (fin3 i)) := by
  match i, h with
  | 0, h => exact ⟨by decide, (Option.some.inj h).symm⟩
  | 1, h => exact ⟨by decide, (Option.some.inj h).symm⟩
  | 2, h => exact ⟨by decide, (Option.some.inj h).symm⟩
theorem flat_int : ∀ k : Nat, (List.replicate k [V.int 0]).flatten = (List.replicate k (0 : Int)).map V.int
  | 0 => rfl
  | k + 1 => by
    rw [List.replicate_succ, List.flatten_cons, flat_int k, List.replicate_succ]
    rfl
/-- so far placed -/
def plB (N : Nat) (h : F3 Nat) (y : F3 Int) : Nat → List Int
  | 0 => List.replicate N 0
  | 1 => (List.replicate N (0 : Int)).set (h 0) (y 0)
  | 2 => ((List.replicate N (0 : Int)).set (h 0) (y 0)).set (h 1) (y 1)
  | _ => plc N h y
theorem plB_step {N : Nat} {h : F3 Nat} {y : F3 Int} {i : Nat} (hi : i < 3) : plB N h y (i + 1) = (plB N h y i).set (h (fin3 i)) (y (fin3 i)) := by
  match i, hi with
  | 0, _ => rfl
  | 1, _ => rfl
  | 2, _ => rfl
theorem plB_len {N : Nat} {h : F3 Nat} {y : F3 Int} (i : Nat) : (plB N h y i).length = N := by
  unfold plB
  split
  · simp
  · simp
  · simp
  · exact plc_len
end Nc
end
section
set_option maxRecDepth 100000
set_option maxHeartbeats 400000
namespace K20
open PySem Evl Nc PyProof.Rows
open L2 hiding spCell
/-! ### the text -/
def topS (i : Nat) : Stmt := PySem.Challenge.pw_noughtcut_k20_whole_none_better.main.body.getD i (.Pass ⟨0, 0, 0, 0⟩)
abbrev s__wall : Stmt := topS 1
theorem sc__wall : FnScope ["k"] ["k"] (defScope s__wall) := ⟨rfl, rfl, rfl, by decide +kernel, rfl, by decide +kernel, by decide +kernel⟩
abbrev s_is_whole : Stmt := topS 10
theorem sc_is_whole : FnScope ["thing"] ["thing"] (defScope s_is_whole) := ⟨rfl, rfl, rfl, by decide +kernel, rfl, by decide +kernel, by decide +kernel⟩
abbrev s_is_fraction : Stmt := topS 11
theorem sc_is_fraction : FnScope ["thing", "top", "bottom"] ["thing"] (defScope s_is_fraction) := ⟨rfl, rfl, rfl, by decide +kernel, rfl, by decide +kernel, by decide +kernel⟩
abbrev s_is_row : Stmt := topS 12
theorem sc_is_row : FnScope ["thing", "many", "part"] ["thing", "many"] (defScope s_is_row) := ⟨rfl, rfl, rfl, by decide +kernel, rfl, by decide +kernel, by decide +kernel⟩
abbrev s_fraction_of : Stmt := topS 13
theorem sc_fraction_of : FnScope ["top", "bottom", "shared"] ["top", "bottom"] (defScope s_fraction_of) := ⟨rfl, rfl, rfl, by decide +kernel, rfl, by decide +kernel, by decide +kernel⟩
abbrev s_times : Stmt := topS 14
theorem sc_times : FnScope ["one", "other"] ["one", "other"] (defScope s_times) := ⟨rfl, rfl, rfl, by decide +kernel, rfl, by decide +kernel, by decide +kernel⟩
abbrev s_is_less : Stmt := topS 15
theorem sc_is_less : FnScope ["one", "other"] ["one", "other"] (defScope s_is_less) := ⟨rfl, rfl, rfl, by decide +kernel, rfl, by decide +kernel, by decide +kernel⟩
abbrev s_is_sum : Stmt := topS 17
theorem sc_is_sum : FnScope ["thing", "many", "row", "number"] ["thing", "many"] (defScope s_is_sum) := ⟨rfl, rfl, rfl, by decide +kernel, rfl, by decide +kernel, by decide +kernel⟩
abbrev s_sum_times : Stmt := topS 19
theorem sc_sum_times : FnScope ["by", "one", "weights", "number", "weight"] ["by", "one"] (defScope s_sum_times) := ⟨rfl, rfl, rfl, by decide +kernel, rfl, by decide +kernel, by decide +kernel⟩
abbrev s_place_sum : Stmt := topS 20
theorem sc_place_sum : FnScope ["many", "place", "at"] ["many", "place"] (defScope s_place_sum) := ⟨rfl, rfl, rfl, by decide +kernel, rfl, by decide +kernel, by decide +kernel⟩
abbrev s_is_box : Stmt := topS 24
theorem sc_is_box : FnScope ["thing", "part"] ["thing"] (defScope s_is_box) := ⟨rfl, rfl, rfl, by decide +kernel, rfl, by decide +kernel, by decide +kernel⟩
abbrev s_box_wishes : Stmt := topS 25
theorem sc_box_wishes : FnScope ["box", "rows", "at_most", "at_least", "place", "row", "span"] ["box"] (defScope s_box_wishes) := ⟨rfl, rfl, rfl, by decide +kernel, rfl, by decide +kernel, by decide +kernel⟩
abbrev s_check_box : Stmt := topS 26
theorem sc_check_box : FnScope ["thing"] ["thing"] (defScope s_check_box) := ⟨rfl, rfl, rfl, by decide +kernel, rfl, by decide +kernel, by decide +kernel⟩
abbrev s__is_span : Stmt := topS 27
theorem sc__is_span : FnScope ["thing"] ["thing"] (defScope s__is_span) := ⟨rfl, rfl, rfl, by decide +kernel, rfl, by decide +kernel, by decide +kernel⟩
abbrev s_walk : Stmt := topS 29
theorem sc_walk : FnScope ["wishes", "aim", "start", "held", "columns", "bottom", "spot", "broken", "shares", "leaving", "multiples", "at", "share"] ["wishes", "aim", "start"] (defScope s_walk) := ⟨rfl, rfl, rfl, by decide +kernel, rfl, by decide +kernel, by decide +kernel⟩
abbrev s__columns : Stmt := topS 30
theorem sc__columns : FnScope ["rows", "one", "two", "three", "columns", "bottom", "column", "part"] ["rows"] (defScope s__columns) := ⟨rfl, rfl, rfl, by decide +kernel, rfl, by decide +kernel, by decide +kernel⟩
abbrev s__across : Stmt := topS 31
theorem sc__across : FnScope ["one", "other"] ["one", "other"] (defScope s__across) := ⟨rfl, rfl, rfl, by decide +kernel, rfl, by decide +kernel, by decide +kernel⟩
abbrev s__weigh : Stmt := topS 32
theorem sc__weigh : FnScope ["one", "other"] ["one", "other"] (defScope s__weigh) := ⟨rfl, rfl, rfl, by decide +kernel, rfl, by decide +kernel, by decide +kernel⟩
abbrev s__spot : Stmt := topS 33
theorem sc__spot : FnScope ["numbers", "columns", "place", "column"] ["numbers", "columns"] (defScope s__spot) := ⟨rfl, rfl, rfl, by decide +kernel, rfl, by decide +kernel, by decide +kernel⟩
abbrev s__shares : Stmt := topS 34
theorem sc__shares : FnScope ["row", "columns", "column"] ["row", "columns"] (defScope s__shares) := ⟨rfl, rfl, rfl, by decide +kernel, rfl, by decide +kernel, by decide +kernel⟩
abbrev s__first_broken : Stmt := topS 35
theorem sc__first_broken : FnScope ["wishes", "spot", "bottom", "at", "wish"] ["wishes", "spot", "bottom"] (defScope s__first_broken) := ⟨rfl, rfl, rfl, by decide +kernel, rfl, by decide +kernel, by decide +kernel⟩
abbrev s__leaving : Stmt := topS 36
theorem sc__leaving : FnScope ["held", "shares", "loads", "best", "at", "share"] ["held", "shares", "loads"] (defScope s__leaving) := ⟨rfl, rfl, rfl, by decide +kernel, rfl, by decide +kernel, by decide +kernel⟩
abbrev s__is_sooner : Stmt := topS 37
theorem sc__is_sooner : FnScope ["at", "best", "held", "shares", "loads", "one", "other"] ["at", "best", "held", "shares", "loads"] (defScope s__is_sooner) := ⟨rfl, rfl, rfl, by decide +kernel, rfl, by decide +kernel, by decide +kernel⟩
abbrev s__placed : Stmt := topS 38
theorem sc__placed : FnScope ["many", "held", "shares", "multiples", "at", "share"] ["many", "held", "shares"] (defScope s__placed) := ⟨rfl, rfl, rfl, by decide +kernel, rfl, by decide +kernel, by decide +kernel⟩
abbrev s_settle : Stmt := topS 46
theorem sc_settle : FnScope ["box", "wishes", "aim"] ["box", "wishes", "aim"] (defScope s_settle) := ⟨rfl, rfl, rfl, by decide +kernel, rfl, by decide +kernel, by decide +kernel⟩
abbrev s__settled : Stmt := topS 47
theorem sc__settled : FnScope ["asked", "aim", "many", "sizes", "wishes", "size", "spot", "bottom", "tops", "multiples", "wish", "by", "top"] ["asked", "aim"] (defScope s__settled) := ⟨rfl, rfl, rfl, by decide +kernel, rfl, by decide +kernel, by decide +kernel⟩
abbrev s__start : Stmt := topS 48
theorem sc__start : FnScope ["aim", "many", "tight", "place", "weight"] ["aim", "many"] (defScope s__start) := ⟨rfl, rfl, rfl, by decide +kernel, rfl, by decide +kernel, by decide +kernel⟩
abbrev s__size : Stmt := topS 49
theorem sc__size : FnScope ["fractions", "size", "one"] ["fractions"] (defScope s__size) := ⟨rfl, rfl, rfl, by decide +kernel, rfl, by decide +kernel, by decide +kernel⟩
abbrev s__top : Stmt := topS 50
theorem sc__top : FnScope ["one", "size"] ["one", "size"] (defScope s__top) := ⟨rfl, rfl, rfl, by decide +kernel, rfl, by decide +kernel, by decide +kernel⟩
abbrev s__whole : Stmt := topS 51
theorem sc__whole : FnScope ["row", "many", "size", "one"] ["row", "many", "size"] (defScope s__whole) := ⟨rfl, rfl, rfl, by decide +kernel, rfl, by decide +kernel, by decide +kernel⟩
abbrev s__check_box_and_wishes : Stmt := topS 52
theorem sc__check_box_and_wishes : FnScope ["box", "wishes"] ["box", "wishes"] (defScope s__check_box_and_wishes) := ⟨rfl, rfl, rfl, by decide +kernel, rfl, by decide +kernel, by decide +kernel⟩
abbrev s__check_each : Stmt := topS 53
theorem sc__check_each : FnScope ["wishes", "many", "wish"] ["wishes", "many"] (defScope s__check_each) := ⟨rfl, rfl, rfl, by decide +kernel, rfl, by decide +kernel, by decide +kernel⟩
abbrev s__check_aim : Stmt := topS 54
theorem sc__check_aim : FnScope ["box", "wishes", "aim"] ["box", "wishes", "aim"] (defScope s__check_aim) := ⟨rfl, rfl, rfl, by decide +kernel, rfl, by decide +kernel, by decide +kernel⟩
abbrev s__law_cell : Stmt := topS 56
theorem sc__law_cell : FnScope ["_law_script", "_law_k"] ["_law_script", "_law_k"] (defScope s__law_cell) := ⟨rfl, rfl, rfl, by decide +kernel, rfl, by decide +kernel, by decide +kernel⟩
abbrev s__law_stream : Stmt := topS 57
theorem sc__law_stream : FnScope ["_law_cell_here"] ["_law_cell_here"] (defScope s__law_stream) := ⟨rfl, rfl, rfl, by decide +kernel, rfl, by decide +kernel, by decide +kernel⟩
abbrev s__law_take : Stmt := topS 58
theorem sc__law_take : FnScope ["_law_stream_here", "_law_many", "_law_digit", "_law_number_here", "_law_high"] ["_law_stream_here", "_law_many"] (defScope s__law_take) := ⟨rfl, rfl, rfl, by decide +kernel, rfl, by decide +kernel, by decide +kernel⟩
abbrev s__law_common : Stmt := topS 59
theorem sc__law_common : FnScope ["_law_one", "_law_other"] ["_law_one", "_law_other"] (defScope s__law_common) := ⟨rfl, rfl, rfl, by decide +kernel, rfl, by decide +kernel, by decide +kernel⟩
abbrev s__law_fraction : Stmt := topS 60
theorem sc__law_fraction : FnScope ["_law_top", "_law_bottom", "_law_by"] ["_law_top", "_law_bottom"] (defScope s__law_fraction) := ⟨rfl, rfl, rfl, by decide +kernel, rfl, by decide +kernel, by decide +kernel⟩
abbrev s__law_plus : Stmt := topS 61
theorem sc__law_plus : FnScope ["_law_one", "_law_other"] ["_law_one", "_law_other"] (defScope s__law_plus) := ⟨rfl, rfl, rfl, by decide +kernel, rfl, by decide +kernel, by decide +kernel⟩
abbrev s__law_times : Stmt := topS 62
theorem sc__law_times : FnScope ["_law_one", "_law_other"] ["_law_one", "_law_other"] (defScope s__law_times) := ⟨rfl, rfl, rfl, by decide +kernel, rfl, by decide +kernel, by decide +kernel⟩
abbrev s__law_less : Stmt := topS 63
theorem sc__law_less : FnScope ["_law_one", "_law_other"] ["_law_one", "_law_other"] (defScope s__law_less) := ⟨rfl, rfl, rfl, by decide +kernel, rfl, by decide +kernel, by decide +kernel⟩
abbrev s__law_weighed : Stmt := topS 64
theorem sc__law_weighed : FnScope ["_law_row_here", "_law_spot", "_law_total", "_law_one", "_law_other"] ["_law_row_here", "_law_spot"] (defScope s__law_weighed) := ⟨rfl, rfl, rfl, by decide +kernel, rfl, by decide +kernel, by decide +kernel⟩
abbrev s__law_number : Stmt := topS 65
theorem sc__law_number : FnScope ["_law_stream_here"] ["_law_stream_here"] (defScope s__law_number) := ⟨rfl, rfl, rfl, by decide +kernel, rfl, by decide +kernel, by decide +kernel⟩
abbrev s__law_box : Stmt := topS 66
theorem sc__law_box : FnScope ["_law_stream_here", "_law_found", "_law_k", "_law_low"] ["_law_stream_here"] (defScope s__law_box) := ⟨rfl, rfl, rfl, by decide +kernel, rfl, by decide +kernel, by decide +kernel⟩
abbrev s__law_row : Stmt := topS 67
theorem sc__law_row : FnScope ["_law_stream_here", "_law_many", "_law_k"] ["_law_stream_here", "_law_many"] (defScope s__law_row) := ⟨rfl, rfl, rfl, by decide +kernel, rfl, by decide +kernel, by decide +kernel⟩
abbrev s__law_wish : Stmt := topS 68
theorem sc__law_wish : FnScope ["_law_stream_here", "_law_many"] ["_law_stream_here", "_law_many"] (defScope s__law_wish) := ⟨rfl, rfl, rfl, by decide +kernel, rfl, by decide +kernel, by decide +kernel⟩
abbrev s__law_wishes : Stmt := topS 69
theorem sc__law_wishes : FnScope ["_law_stream_here", "_law_box_here", "_law_many", "_law_found", "_law_size", "_law_k", "_law_row_here", "_law_number_here", "_law_way", "_law_top", "_law_bottom", "_law_pair"] ["_law_stream_here", "_law_box_here"] (defScope s__law_wishes) := ⟨rfl, rfl, rfl, by decide +kernel, rfl, by decide +kernel, by decide +kernel⟩
abbrev s__law_box_wishes : Stmt := topS 70
theorem sc__law_box_wishes : FnScope ["_law_box_here", "_law_many", "_law_uppers", "_law_lowers", "_law_at", "_law_low", "_law_place"] ["_law_box_here"] (defScope s__law_box_wishes) := ⟨rfl, rfl, rfl, by decide +kernel, rfl, by decide +kernel, by decide +kernel⟩
abbrev s__law_minus : Stmt := topS 71
theorem sc__law_minus : FnScope ["_law_one", "_law_other"] ["_law_one", "_law_other"] (defScope s__law_minus) := ⟨rfl, rfl, rfl, by decide +kernel, rfl, by decide +kernel, by decide +kernel⟩
abbrev s__law_ratio : Stmt := topS 72
theorem sc__law_ratio : FnScope ["_law_one", "_law_other", "_law_top", "_law_bottom"] ["_law_one", "_law_other"] (defScope s__law_ratio) := ⟨rfl, rfl, rfl, by decide +kernel, rfl, by decide +kernel, by decide +kernel⟩
abbrev s__law_meet : Stmt := topS 73
theorem sc__law_meet : FnScope ["_law_one", "_law_other", "_law_a", "_law_b", "_law_c", "_law_d", "_law_e", "_law_f", "_law_by", "_law_first"] ["_law_one", "_law_other"] (defScope s__law_meet) := ⟨rfl, rfl, rfl, by decide +kernel, rfl, by decide +kernel, by decide +kernel⟩
abbrev s__law_corners : Stmt := topS 74
theorem sc__law_corners : FnScope ["_law_rows", "_law_many", "_law_found", "_law_k", "_law_wish_here", "_law_spot", "_law_other"] ["_law_rows", "_law_many"] (defScope s__law_corners) := ⟨rfl, rfl, rfl, by decide +kernel, rfl, by decide +kernel, by decide +kernel⟩
abbrev s__law_stands : Stmt := topS 75
theorem sc__law_stands : FnScope ["_law_rows", "_law_spot", "_law_row_here", "_law_number_here"] ["_law_rows", "_law_spot"] (defScope s__law_stands) := ⟨rfl, rfl, rfl, by decide +kernel, rfl, by decide +kernel, by decide +kernel⟩
abbrev s__law_box_of : Stmt := topS 76
theorem sc__law_box_of : FnScope ["_law_stream_here"] ["_law_stream_here"] (defScope s__law_box_of) := ⟨rfl, rfl, rfl, by decide +kernel, rfl, by decide +kernel, by decide +kernel⟩
abbrev s_law : Stmt := topS 77
theorem sc_law : FnScope ["_law_script", "_law_k", "_law_stream_here", "_law_box_here", "_law_wishes_here", "_law_rows", "_law_corners_here", "_law_turn", "_law_aim", "_law_answer", "_law_told", "_law_spot"] ["_law_script"] (defScope s_law) := ⟨rfl, rfl, rfl, by decide +kernel, rfl, by decide +kernel, by decide +kernel⟩
abbrev s_CutError___init__ : Stmt := inClass (topS 3) 0
theorem sc_CutError___init__ : FnScope ["self", "text"] ["self", "text"] (defScope s_CutError___init__) := ⟨rfl, rfl, rfl, by decide +kernel, rfl, by decide +kernel, by decide +kernel⟩
abbrev s_NoBox___init__ : Stmt := inClass (topS 4) 0
theorem sc_NoBox___init__ : FnScope ["self", "found"] ["self", "found"] (defScope s_NoBox___init__) := ⟨rfl, rfl, rfl, by decide +kernel, rfl, by decide +kernel, by decide +kernel⟩
abbrev s_NoWish___init__ : Stmt := inClass (topS 5) 0
theorem sc_NoWish___init__ : FnScope ["self", "found"] ["self", "found"] (defScope s_NoWish___init__) := ⟨rfl, rfl, rfl, by decide +kernel, rfl, by decide +kernel, by decide +kernel⟩
abbrev s_NoAim___init__ : Stmt := inClass (topS 6) 0
theorem sc_NoAim___init__ : FnScope ["self", "found"] ["self", "found"] (defScope s_NoAim___init__) := ⟨rfl, rfl, rfl, by decide +kernel, rfl, by decide +kernel, by decide +kernel⟩
abbrev s_Settled_has_spot : Stmt := inClass (topS 43) 0
theorem sc_Settled_has_spot : FnScope ["self"] ["self"] (defScope s_Settled_has_spot) := ⟨rfl, rfl, rfl, by decide +kernel, rfl, by decide +kernel, by decide +kernel⟩
abbrev s_Settled_shows : Stmt := inClass (topS 43) 1
theorem sc_Settled_shows : FnScope ["self", "box", "wishes", "aim"] ["self", "box", "wishes", "aim"] (defScope s_Settled_shows) := ⟨rfl, rfl, rfl, by decide +kernel, rfl, by decide +kernel, by decide +kernel⟩
abbrev s_Most___init__ : Stmt := inClass (topS 44) 0
theorem sc_Most___init__ : FnScope ["self", "spot", "multiples"] ["self", "spot", "multiples"] (defScope s_Most___init__) := ⟨rfl, rfl, rfl, by decide +kernel, rfl, by decide +kernel, by decide +kernel⟩
abbrev s_Most_has_spot : Stmt := inClass (topS 44) 1
theorem sc_Most_has_spot : FnScope ["self"] ["self"] (defScope s_Most_has_spot) := ⟨rfl, rfl, rfl, by decide +kernel, rfl, by decide +kernel, by decide +kernel⟩
abbrev s_Most_shows : Stmt := inClass (topS 44) 2
theorem sc_Most_shows : FnScope ["self", "box", "wishes", "aim"] ["self", "box", "wishes", "aim"] (defScope s_Most_shows) := ⟨rfl, rfl, rfl, by decide +kernel, rfl, by decide +kernel, by decide +kernel⟩
abbrev s_Empty___init__ : Stmt := inClass (topS 45) 0
theorem sc_Empty___init__ : FnScope ["self", "multiples"] ["self", "multiples"] (defScope s_Empty___init__) := ⟨rfl, rfl, rfl, by decide +kernel, rfl, by decide +kernel, by decide +kernel⟩
abbrev s_Empty_has_spot : Stmt := inClass (topS 45) 1
theorem sc_Empty_has_spot : FnScope ["self"] ["self"] (defScope s_Empty_has_spot) := ⟨rfl, rfl, rfl, by decide +kernel, rfl, by decide +kernel, by decide +kernel⟩
abbrev s_Empty_shows : Stmt := inClass (topS 45) 2
theorem sc_Empty_shows : FnScope ["self", "box", "wishes", "aim"] ["self", "box", "wishes", "aim"] (defScope s_Empty_shows) := ⟨rfl, rfl, rfl, by decide +kernel, rfl, by decide +kernel, by decide +kernel⟩

end K20
end
section
set_option maxRecDepth 100000
set_option maxHeartbeats 400000
namespace K20
open PySem Evl Nc PyProof.Rows
open L2 hiding spCell
theorem both {W D n : Nat} (hp : 0 < W * D) (hlt : W * D < 2 ^ n) : 0 < W ∧ 0 < D ∧ W < 2 ^ n ∧ D < 2 ^ n := by
  have w0 : 0 < W := Nat.pos_of_ne_zero fun z => by rw [z, Nat.zero_mul] at hp; omega
  have d0 : 0 < D := Nat.pos_of_ne_zero fun z => by rw [z, Nat.mul_zero] at hp; omega
  exact ⟨w0, d0, Nat.lt_of_le_of_lt (Nat.le_mul_of_pos_right W d0) hlt, Nat.lt_of_le_of_lt (Nat.le_mul_of_pos_left D w0) hlt⟩
section
variable {P : Program} {w : World} {K : PySem.W.Frag} {mg : Str → Option Value} {base : Heap}
theorem ok_fraction_of (D : Df K mg "fraction_of" s_fraction_of ["top", "bottom"]) (mgcd : mg "gcd" = some (.builtin "math.gcd")) : Ok P w K mg base 1 "fraction_of" ["top", "bottom"] (spPart K) := by
  refine D.ok fun f fd F => F.ok sc_fraction_of (fun vs H Q E h => ?_) (fun cdv A outer s H vs Q E hr h => ?_)
  · obtain ⟨t, b, n, rfl, _⟩ := h
    rfl
  · obtain ⟨t, b, n, rfl, hb, hn, h0, h9, q⟩ := h
    refine ⟨_, pss_cons (ps_set (i := 2) sc_fraction_of.nd rfl (.inl rfl) (pe_callBfun cr_gcd (by rfl) mgcd (pa_cons (pv 0) (pa_cons (pv 1) pa_nil))))
      (pss_cons (ps_if (pt_cmpR op_lt (pv 1) pe_int (nomark _)) (pss_one (ps_set (i := 2) sc_fraction_of.nd rfl (.inl rfl) (pe_un un_neg (pv 2)))) pss_nil)
      (pss_one (ps_ret (pe_tup (pa_cons (pe_op op_fdivX (pv 0) (pv 2)) (pa_cons (pe_op op_fdivX (pv 1) (pv 2)) pa_nil)))))), ?_⟩
    have g1 := gcd_pos (t := t) hb
    have g2 := gcd_le (t := t) hb
    have dv : ∀ i : Int, (n ≤ 9000 ∨ i.natAbs < 2 ^ 13500) → CDivX i ((Nat.gcd t.natAbs b.natAbs : Nat) : Int) := fun i hi => wide_divX g1 (wide_le (by omega) g2 hn) h0 hi
    have dt := dv t (h9.imp id (·.2))
    have db := dv b (h9.imp id fun z => Nat.lt_of_lt_of_le hn (Nat.pow_le_pow_right (by decide) z.1))
    refine ⟨_, rfl, _, rfl, t, b, rfl, _, rfl, b, 0, rfl, rfl, _, rfl, ?_⟩
    rw [decide_eq_false (by omega : ¬ b < 0)]
    refine iteF ⟨_, rfl, _, rfl, t, _, rfl, rfl, dt, _, rfl, _, rfl, b, _, rfl, rfl, db, (by show 2 ≤ sizeLine; decide), fun p hp => ?_⟩
    exact q _ _ (Ex.new hp) (made (num_div hb) (den_div hb))
theorem ok_times (D : Df K mg "times" s_times ["one", "other"]) (G : Ok P w K mg base 1 "fraction_of" ["top", "bottom"] (spPart K)) : Ok P w K mg base 2 "times" ["one", "other"] (spTimes K) := by
  refine D.ok fun f fd F => F.ok sc_times (fun vs H Q E h => ?_) (fun cdv A outer s H vs Q E hr h => ?_)
  · obtain ⟨x, y, r, s, n, d, m, e, rfl, _⟩ := h
    rfl
  · obtain ⟨x, y, r, s, n, d, m, e, rfl, hx, hy, ha, hb, ⟨n0, d0, m0, e0, hde, hnm⟩, q⟩ := h
    refine ⟨_, pss_one (ps_ret (cl G hr (pa_cons (pe_op op_mulBig (pe_ix ix_tup (pv 0) pe_int (fun _ _ => rfl)) (pe_ix ix_tup (pv 1) pe_int (fun _ _ => rfl))) (pa_cons (pe_op op_mulBig (pe_ix ix_tup (pv 0) pe_int (fun _ _ => rfl)) (pe_ix ix_tup (pv 1) pe_int (fun _ _ => rfl))) pa_nil)))), ?_⟩
    obtain ⟨t, rfl, h1⟩ := hx
    obtain ⟨u, rfl, h2⟩ := hy
    have hm1 := mulOk ha.1 hb.1
    have hm3 := mulOk ha.den hb.den
    refine ⟨_, rfl, _, _, _, _, rfl, rfl, h1, at0, _, rfl, _, _, _, _, rfl, rfl, h2, at0, _, _, rfl, rfl, hm1, _, rfl, _, _, _, _, rfl, rfl, h1, at1, _, rfl, _, _, _, _, rfl, rfl, h2, at1, _, _, rfl, rfl, hm3, ?_⟩
    refine ⟨_, _, d + e, rfl, Int.mul_pos (den_pos r) (den_pos s), lt_mul ha.den hb.den, by omega, big_mul ha hb hde, fun v H' e hv => ?_⟩
    rw [mul_is] at hv
    exact q v H' e hv
theorem ok__law_common (D : Df K mg "_law_common" s__law_common ["_law_one", "_law_other"]) : Ok P w K mg base 1 "_law_common" ["_law_one", "_law_other"] spCommon := by
  refine D.ok fun f fd F => F.ok sc__law_common (fun vs H Q E h => ?_) (fun cdv A outer s H vs Q E hr h => ?_)
  · obtain ⟨t, b, rfl, _⟩ := h
    rfl
  · obtain ⟨t, b, rfl, ht, hb, q⟩ := h
    refine ⟨_, pss_cons (ps_while PassesOwn.never (pt_cmpR op_ne (pv 1) pe_int (nomark _)) (pss_one (ps_par (i := 0) (j := 1) rfl sc__law_common.nd rfl rfl (by decide) rfl rfl (pa_cons (pv 1) (pa_cons (pe_op op_mod (pv 0) (pv 1)) pa_nil)) (by rfl))))
      (pss_one (ps_ret (pv 0))), ?_⟩
    refine ⟨fun m σ H' => ∃ a c : Int, σ = [some (.int a), some (.int c)] ∧ 0 ≤ a ∧ 0 ≤ c ∧ m = c.toNat ∧ Nat.gcd a.natAbs c.natAbs = Nat.gcd t.natAbs b.natAbs ∧ H' = H,
      ⟨b.toNat, t, b, rfl, ht, by omega, rfl, rfl, rfl⟩, ?_⟩
    rintro m σ H' ⟨a, c, rfl, ha, hc, rfl, hg, rfl⟩
    refine ⟨_, rfl, rfl, _, rfl, ?_⟩
    by_cases hc0 : c = 0
    · subst hc0
      rw [decide_eq_true rfl]
      refine iteF ?_
      have ea : a = ((Nat.gcd t.natAbs b.natAbs : Nat) : Int) := by
        rw [← hg]
        simp
        omega
      subst ea
      exact ⟨_, rfl, q⟩
    · rw [decide_eq_false (fun z => hc0 (V.int.inj z))]
      refine iteT ?_
      have hc1 : 0 < c := by omega
      refine ⟨fun σ' H'' => σ' = [some (.int c), some (.int (a % c))] ∧ H'' = H', ?_, ?_⟩
      · rintro σ' H'' ⟨rfl, rfl⟩
        have z1 := Int.emod_nonneg a (b := c) (by omega)
        have z2 := Int.emod_lt_of_pos a hc1
        exact ⟨(a % c).toNat, by omega, c, a % c, rfl, by omega, z1, rfl, (gcd_step ha hc1).trans hg, rfl⟩
      · exact ⟨_, rfl, _, rfl, _, rfl, a, c, rfl, rfl, hc1, _, _, rfl, rfl, rfl⟩
theorem ok__law_fraction (D : Df K mg "_law_fraction" s__law_fraction ["_law_top", "_law_bottom"]) (GC : Ok P w K mg base 1 "_law_common" ["_law_one", "_law_other"] spCommon) (mabs : mg "abs" = none) : Ok P w K mg base 2 "_law_fraction" ["_law_top", "_law_bottom"] (spPart K) := by
  refine D.ok fun f fd F => F.ok sc__law_fraction (fun vs H Q E h => ?_) (fun cdv A outer s H vs Q E hr h => ?_)
  · obtain ⟨t, b, n, rfl, _⟩ := h
    rfl
  · obtain ⟨t, b, n, rfl, hb, hn, h0, h9, q⟩ := h
    refine ⟨_, pss_cons (ps_set (i := 2) sc__law_fraction.nd rfl (.inl rfl) (cl GC hr (pa_cons (pe_callB call_abs (by rfl) mabs (by decide +kernel) (pa_cons (pv 0) pa_nil)) (pa_cons (pv 1) pa_nil))))
      (pss_one (ps_ret (pe_tup (pa_cons (pe_op op_fdivX (pv 0) (pv 2)) (pa_cons (pe_op op_fdivX (pv 1) (pv 2)) pa_nil))))), ?_⟩
    have g1 := gcd_pos (t := t) hb
    have g2 := gcd_le (t := t) hb
    have dv : ∀ i : Int, (n ≤ 9000 ∨ i.natAbs < 2 ^ 13500) → CDivX i ((Nat.gcd t.natAbs b.natAbs : Nat) : Int) := fun i hi => wide_divX g1 (wide_le (by omega) g2 hn) h0 hi
    have dt := dv t (h9.imp id (·.2))
    have db := dv b (h9.imp id fun z => Nat.lt_of_lt_of_le hn (Nat.pow_le_pow_right (by decide) z.1))
    have ea : Nat.gcd (if t < 0 then -t else t).natAbs b.natAbs = Nat.gcd t.natAbs b.natAbs := by
      split
      · rw [Int.natAbs_neg]
      · rfl
    refine ⟨_, rfl, t, rfl, _, rfl, _, b, rfl, by split <;> omega, hb, ?_⟩
    rw [ea]
    refine ⟨_, rfl, _, rfl, t, _, rfl, rfl, dt, _, rfl, _, rfl, b, _, rfl, rfl, db, (by show 2 ≤ sizeLine; decide), fun p hp => ?_⟩
    exact q _ _ (Ex.new hp) (made (num_div hb) (den_div hb))
theorem ok__law_plus (D : Df K mg "_law_plus" s__law_plus ["_law_one", "_law_other"]) (G : Ok P w K mg base 2 "_law_fraction" ["_law_top", "_law_bottom"] (spPart K)) : Ok P w K mg base 3 "_law_plus" ["_law_one", "_law_other"] (spPlus K) := by
  refine D.ok fun f fd F => F.ok sc__law_plus (fun vs H Q E h => ?_) (fun cdv A outer s H vs Q E hr h => ?_)
  · obtain ⟨x, y, r, s, n, d, m, e, rfl, _⟩ := h
    rfl
  · obtain ⟨x, y, r, s, n, d, m, e, rfl, hx, hy, ha, hb, ⟨n0, d0, m0, e0, hde, hnm⟩, q⟩ := h
    refine ⟨_, pss_one (ps_ret (cl G hr (pa_cons (pe_op op_add (pe_op op_mulBig (pe_ix ix_tup (pv 0) pe_int (fun _ _ => rfl)) (pe_ix ix_tup (pv 1) pe_int (fun _ _ => rfl))) (pe_op op_mulBig (pe_ix ix_tup (pv 1) pe_int (fun _ _ => rfl)) (pe_ix ix_tup (pv 0) pe_int (fun _ _ => rfl)))) (pa_cons (pe_op op_mulBig (pe_ix ix_tup (pv 0) pe_int (fun _ _ => rfl)) (pe_ix ix_tup (pv 1) pe_int (fun _ _ => rfl))) pa_nil)))), ?_⟩
    obtain ⟨t, rfl, h1⟩ := hx
    obtain ⟨u, rfl, h2⟩ := hy
    have hm1 := mulOk ha.1 hb.den
    have hm2 := mulOk hb.1 ha.den
    have hm3 := mulOk ha.den hb.den
    refine ⟨_, rfl, _, _, _, _, rfl, rfl, h1, at0, _, rfl, _, _, _, _, rfl, rfl, h2, at1, _, _, rfl, rfl, hm1, _, rfl, _, _, _, _, rfl, rfl, h2, at0, _, rfl, _, _, _, _, rfl, rfl, h1, at1, _, _, rfl, rfl, hm2, _, _, rfl, rfl, _, rfl, _, _, _, _, rfl, rfl, h1, at1, _, rfl, _, _, _, _, rfl, rfl, h2, at1, _, _, rfl, rfl, hm3, ?_⟩
    refine ⟨_, _, d + e, rfl, Int.mul_pos (den_pos r) (den_pos s), lt_mul ha.den hb.den, by omega, big_add ha hb hde, fun v H' e hv => ?_⟩
    rw [add_is] at hv
    exact q v H' e hv
theorem ok__law_times (D : Df K mg "_law_times" s__law_times ["_law_one", "_law_other"]) (G : Ok P w K mg base 2 "_law_fraction" ["_law_top", "_law_bottom"] (spPart K)) : Ok P w K mg base 3 "_law_times" ["_law_one", "_law_other"] (spTimes K) := by
  refine D.ok fun f fd F => F.ok sc__law_times (fun vs H Q E h => ?_) (fun cdv A outer s H vs Q E hr h => ?_)
  · obtain ⟨x, y, r, s, n, d, m, e, rfl, _⟩ := h
    rfl
  · obtain ⟨x, y, r, s, n, d, m, e, rfl, hx, hy, ha, hb, ⟨n0, d0, m0, e0, hde, hnm⟩, q⟩ := h
    refine ⟨_, pss_one (ps_ret (cl G hr (pa_cons (pe_op op_mulBig (pe_ix ix_tup (pv 0) pe_int (fun _ _ => rfl)) (pe_ix ix_tup (pv 1) pe_int (fun _ _ => rfl))) (pa_cons (pe_op op_mulBig (pe_ix ix_tup (pv 0) pe_int (fun _ _ => rfl)) (pe_ix ix_tup (pv 1) pe_int (fun _ _ => rfl))) pa_nil)))), ?_⟩
    obtain ⟨t, rfl, h1⟩ := hx
    obtain ⟨u, rfl, h2⟩ := hy
    have hm1 := mulOk ha.1 hb.1
    have hm3 := mulOk ha.den hb.den
    refine ⟨_, rfl, _, _, _, _, rfl, rfl, h1, at0, _, rfl, _, _, _, _, rfl, rfl, h2, at0, _, _, rfl, rfl, hm1, _, rfl, _, _, _, _, rfl, rfl, h1, at1, _, rfl, _, _, _, _, rfl, rfl, h2, at1, _, _, rfl, rfl, hm3, ?_⟩
    refine ⟨_, _, d + e, rfl, Int.mul_pos (den_pos r) (den_pos s), lt_mul ha.den hb.den, by omega, big_mul ha hb hde, fun v H' e hv => ?_⟩
    rw [mul_is] at hv
    exact q v H' e hv
theorem ok_is_less (D : Df K mg "is_less" s_is_less ["one", "other"]) : Ok P w K mg base 1 "is_less" ["one", "other"] (spLess K) := by
  refine D.ok fun f fd F => F.ok sc_is_less (fun vs H Q E h => ?_) (fun cdv A outer s H vs Q E hr h => ?_)
  · obtain ⟨x, y, r, s, n, d, m, e, rfl, _⟩ := h
    rfl
  · obtain ⟨x, y, r, s, n, d, m, e, rfl, hx, hy, ha, hb, ⟨n0, d0, m0, e0, hnm⟩, q⟩ := h
    refine ⟨_, pss_one (ps_ret (pe_cmpR op_lt (pe_op op_mulBig (pe_ix ix_tup (pv 0) pe_int (fun _ _ => rfl)) (pe_ix ix_tup (pv 1) pe_int (fun _ _ => rfl))) (pe_op op_mulBig (pe_ix ix_tup (pv 1) pe_int (fun _ _ => rfl)) (pe_ix ix_tup (pv 0) pe_int (fun _ _ => rfl))) (nomark _))), ?_⟩
    obtain ⟨t, rfl, h1⟩ := hx
    obtain ⟨u, rfl, h2⟩ := hy
    exact ⟨_, rfl, _, _, _, _, rfl, rfl, h1, at0, _, rfl, _, _, _, _, rfl, rfl, h2, at1, _, _, rfl, rfl, mulOk ha.1 hb.den, _, rfl, _, _, _, _, rfl, rfl, h2, at0, _, rfl, _, _, _, _, rfl, rfl, h1, at1, _, _, rfl, rfl, mulOk hb.1 ha.den, _, _, rfl, rfl, q⟩
theorem ok__law_less (D : Df K mg "_law_less" s__law_less ["_law_one", "_law_other"]) : Ok P w K mg base 1 "_law_less" ["_law_one", "_law_other"] (spLess K) := by
  refine D.ok fun f fd F => F.ok sc__law_less (fun vs H Q E h => ?_) (fun cdv A outer s H vs Q E hr h => ?_)
  · obtain ⟨x, y, r, s, n, d, m, e, rfl, _⟩ := h
    rfl
  · obtain ⟨x, y, r, s, n, d, m, e, rfl, hx, hy, ha, hb, ⟨n0, d0, m0, e0, hnm⟩, q⟩ := h
    refine ⟨_, pss_one (ps_ret (pe_cmpR op_lt (pe_op op_mulBig (pe_ix ix_tup (pv 0) pe_int (fun _ _ => rfl)) (pe_ix ix_tup (pv 1) pe_int (fun _ _ => rfl))) (pe_op op_mulBig (pe_ix ix_tup (pv 1) pe_int (fun _ _ => rfl)) (pe_ix ix_tup (pv 0) pe_int (fun _ _ => rfl))) (nomark _))), ?_⟩
    obtain ⟨t, rfl, h1⟩ := hx
    obtain ⟨u, rfl, h2⟩ := hy
    exact ⟨_, rfl, _, _, _, _, rfl, rfl, h1, at0, _, rfl, _, _, _, _, rfl, rfl, h2, at1, _, _, rfl, rfl, mulOk ha.1 hb.den, _, rfl, _, _, _, _, rfl, rfl, h2, at0, _, rfl, _, _, _, _, rfl, rfl, h1, at1, _, _, rfl, rfl, mulOk hb.1 ha.den, _, _, rfl, rfl, q⟩
end

end K20
end
section
set_option maxRecDepth 100000
set_option maxHeartbeats 1000000
namespace Nc
/-! sizes of what settling tells -/
theorem Ov.mul {A B : Nat} {M N : Int} {r s : Rat} (hr : Ov A M r) (hs : Ov B N s) : Ov (A * B) (M * N) (r * s) := by
  obtain ⟨a, rfl, ha⟩ := hr
  obtain ⟨b, rfl, hb⟩ := hs
  refine ⟨a * b, by rw [Rat.divInt_mul_divInt], ?_⟩
  rw [Int.natAbs_mul]
  exact Nat.mul_le_mul ha hb
structure WbF (l : List Rat) : Prop where
  sz : szS l < 2 ^ 1600
  top : ∀ r ∈ l, (topI r (szS l)).natAbs < 2 ^ 1600
  each : ∀ r ∈ l, Sz 1600 1600 r
theorem wb_f {l : List Rat} (h : Wb l) : WbF l := by
  obtain ⟨D, D0, hD, hl⟩ := h
  have p0 : 0 < (2 : Nat) ^ 1600 := Nat.two_pow_pos _
  have den : ∀ r ∈ l, r.den ∣ D := fun r hr => by
    obtain ⟨t, rfl, _⟩ := hl r hr
    exact den_of_div D0
  have sd : szS l ∣ D := (szS_aux l 1 (by decide)).2.2.2 D (Nat.one_dvd D) den
  have sp := szS_pos l
  refine ⟨Nat.lt_of_le_of_lt (Nat.le_of_dvd D0 sd) hD, fun r hr => ?_, fun r hr => ?_⟩
  · obtain ⟨t, e, ht⟩ := hl r hr
    obtain ⟨c, hc⟩ := sd
    have c0 : 0 < c := Nat.pos_of_ne_zero fun z => by
      rw [z, Nat.mul_zero] at hc
      omega
    have e1 := topI_ov (szS_dvd hr) sp
    have e2 : Rat.divInt (topI r (szS l) * (c : Int)) (D : Int) = Rat.divInt t (D : Int) := by
      rw [hc, Int.natCast_mul, Rat.divInt_mul_right (by omega), ← e1]
      rw [hc, Int.natCast_mul] at e
      exact e
    have e3 : topI r (szS l) * (c : Int) = t := by
      rw [Rat.divInt_eq_divInt_iff (by omega) (by omega)] at e2
      exact Int.eq_of_mul_eq_mul_right (by omega) e2
    have e4 : (topI r (szS l)).natAbs ≤ t.natAbs := by
      rw [← e3, Int.natAbs_mul, Int.natAbs_natCast]
      exact Nat.le_mul_of_pos_right _ c0
    generalize (2 : Nat) ^ 1600 = P at ht p0 ⊢
    omega
  · exact (hl r hr).sz (by omega) (by generalize (2 : Nat) ^ 1600 = P at p0 ⊢; omega) (by rw [Int.natAbs_natCast]; exact hD)
theorem Wb.sub {l m : List Rat} (h : Wb l) (hm : ∀ r ∈ m, r ∈ l) : Wb m := by
  obtain ⟨D, a, b, c⟩ := h
  exact ⟨D, a, b, fun r hr => c r (hm r hr)⟩
theorem getD_lt {l : List Int} {P : Int → Prop} (h0 : P 0) (h : ∀ t ∈ l, P t) (i : Nat) : P (l.getD i 0) := by
  rw [List.getD_eq_getElem?_getD]
  cases hi : l[i]? with
  | none => exact h0
  | some t => exact h t (List.mem_of_getElem? hi)
theorem pad_bi {l : List Int} {n : Nat} (h : ∀ t ∈ l, t.natAbs < 2 ^ n) : Bi n (pad3 l) := by
  have z : (0 : Int).natAbs < 2 ^ n := Nat.two_pow_pos n
  exact ⟨getD_lt (P := fun t => t.natAbs < 2 ^ n) z h 0, getD_lt (P := fun t => t.natAbs < 2 ^ n) z h 1, getD_lt (P := fun t => t.natAbs < 2 ^ n) z h 2⟩
theorem int_bw {w : Sum2} (h : Wb (w.1 ++ [w.2])) : Bw 1600 (intW w) := by
  have f := wb_f h
  refine ⟨pad_bi fun t ht => ?_, f.top w.2 (by simp)⟩
  obtain ⟨r, hr, rfl⟩ := List.mem_map.mp ht
  exact f.top r (by simp [hr])
theorem ask_bw {sp : List Span} {ws : List Sum2} {aim : List Rat} (ok : AskOk sp ws aim) : ∀ w ∈ wsOf aim.length (boxW sp ++ ws), Bw 1600 w := by
  intro w hw
  unfold wsOf at hw
  rcases List.mem_append.mp hw with hw | hw
  · obtain ⟨z, hz, rfl⟩ := List.mem_map.mp hw
    exact int_bw (ok.wb z hz)
  · have hw := List.mem_of_mem_drop hw
    have p : 1 < (2 : Nat) ^ 1600 := Nat.one_lt_two_pow (by decide)
    have q0 : (0 : Int).natAbs < 2 ^ 1600 := Nat.two_pow_pos _
    rcases List.mem_cons.mp hw with rfl | hw
    · exact ⟨⟨q0, p, q0⟩, q0⟩
    · rcases List.mem_cons.mp hw with rfl | hw
      · exact ⟨⟨q0, q0, p⟩, q0⟩
      · cases hw
theorem aim_bi {sp : List Span} {ws : List Sum2} {aim : List Rat} (ok : AskOk sp ws aim) : Bi 1600 (aimI aim) := by
  have f := wb_f ok.ab
  refine pad_bi fun t ht => ?_
  obtain ⟨r, hr, rfl⟩ := List.mem_map.mp ht
  exact f.top r hr
/-- multiples of a bounded size, with what they are taken of -/
def SolSz (asked : List Sum2) (ms : List Rat) : Prop := ∃ N : Int, 0 < N ∧ N.natAbs < 2 ^ 6403 ∧ ∀ (i : Nat) (w : Sum2) (m : Rat), asked[i]? = some w → ms[i]? = some m → Sz 6403 6403 m ∧ ∀ r ∈ w.1 ++ [w.2], Ov (2 ^ 6403) N (m * r)
def XSz (x : List Rat) : Prop := ∃ D : Int, 0 < D ∧ D.natAbs < 2 ^ 4803 ∧ ∀ r ∈ x, Ov (2 ^ 4803) D r
theorem mulB {a b : Int} {n m k : Nat} (ha : a.natAbs < 2 ^ n) (hb : b.natAbs < 2 ^ m) (h : n + m ≤ k) : (a * b).natAbs < 2 ^ k := lt_mono (lt_mul ha hb) h
theorem muls_sz {asked : List Sum2} {tops : List Int} {N : Int} (hN : 0 < N) (hN2 : N.natAbs < 2 ^ 6403) (ht : ∀ t ∈ tops, t.natAbs < 2 ^ 4803) (hw : ∀ w ∈ asked, Wb (w.1 ++ [w.2])) : SolSz asked (mulsOf tops asked N) := by
  refine ⟨N, hN, hN2, fun i w m hi hm => ?_⟩
  obtain ⟨t, w', h1, h2, rfl⟩ := muls_at hm
  rw [hi] at h2
  cases h2
  have f := wb_f (hw w (List.mem_of_getElem? hi))
  have tt := ht t (List.mem_of_getElem? h1)
  have sw : ((szW w : Nat) : Int).natAbs < 2 ^ 1600 := by
    rw [Int.natAbs_natCast]
    exact f.sz
  have sw0 := szW_pos w
  refine ⟨sz_div hN (mulB tt sw (by decide)) hN2, fun r hr => ?_⟩
  have e : r = Rat.divInt (topI r (szW w)) (szW w) := topI_ov (szS_dvd hr) sw0
  refine ⟨t * topI r (szW w), ?_, Nat.le_of_lt (mulB tt (f.top r hr) (by decide))⟩
  conv => lhs; rw [e]
  rw [Rat.divInt_mul_divInt]
  rw [show t * (szW w : Int) * topI r (szW w) = (szW w : Int) * (t * topI r (szW w)) by rw [Int.mul_comm t (szW w : Int), Int.mul_assoc], show N * (szW w : Int) = (szW w : Int) * N by rw [Int.mul_comm], divI_mul (by omega) (by omega)]
structure TopSz (ws : List W4) (aim : I3) (h : F3 Nat) : Prop where
  bot : (botOf ws h).natAbs < 2 ^ 4803
  spot : Bi 4803 (spotOf ws h)
  load : ∀ t ∈ topsM ws aim h, t.natAbs < 2 ^ 4803
  share : ∀ e, e < ws.length → ∀ t ∈ topsE ws h e, t.natAbs < 2 ^ 4803
theorem top_sz {ws : List W4} {aim : I3} {h : F3 Nat} (hb : ∀ w ∈ ws, Bw 1600 w) (ha : Bi 1600 aim) (hl : ∀ p, h p < ws.length) : TopSz ws aim h := by
  have bw : ∀ p, Bw 1600 (wAt ws (h p)) := fun p => wAt_bw hb (hl p)
  have bC := bi_cols (r := rowsOf ws h) fun p => (bw p).1
  have bB : (bot (rowsOf ws h)).natAbs < 2 ^ (3 * 1600 + 3) := bot_lt fun p => (bw p).1
  have bS : Bi (1600 + (1600 + 1600 + 1) + 2) (spotOf ws h) := spot_lt (fun p => (bw p).2) bC
  have z0 : (0 : Int).natAbs < 2 ^ 4803 := Nat.two_pow_pos _
  refine ⟨bB, bi_mono bS (by decide), plc_mem (P := fun t => t.natAbs < 2 ^ 4803) z0 fun p => bi_dt ha (bC p), fun e he t ht => ?_⟩
  rcases List.mem_or_eq_of_mem_set ht with ht | rfl
  · refine plc_mem (P := fun t => t.natAbs < 2 ^ 4803) z0 (fun p => ?_) t ht
    rw [Int.natAbs_neg]
    exact bi_dt (wAt_bw hb he).1 (bC p)
  · exact bB
theorem tell_sz {sp : List Span} {ws : List Sum2} {aim : List Rat} {h : F3 Nat} (ok : AskOk sp ws aim) (g : GoodB (wsOf aim.length (boxW sp ++ ws)) (aimI aim) h) :
    (∀ x ms, tellB (boxW sp ++ ws) aim h = (some x, ms) → XSz x ∧ SolSz (boxW sp ++ ws) ms) ∧ ∀ ms, tellB (boxW sp ++ ws) aim h = (none, ms) → SolSz (boxW sp ++ ws) ms := by
  have tz := top_sz (ask_bw ok) (aim_bi ok) g.lt
  have pos := g.pos
  have s0 := szS_pos aim
  have s1 : ((szS aim : Nat) : Int).natAbs < 2 ^ 1600 := by
    rw [Int.natAbs_natCast]
    exact (wb_f ok.ab).sz
  unfold tellB
  cases hf : firstB (wsOf aim.length (boxW sp ++ ws)) h with
  | none =>
    refine ⟨fun x ms e => ?_, fun ms e => by simp at e⟩
    simp at e
    obtain ⟨rfl, rfl⟩ := e
    refine ⟨⟨botOf _ h, pos, tz.bot, fun r hr => ?_⟩, muls_sz (Int.mul_pos pos (by omega)) (mulB tz.bot s1 (by decide)) tz.load ok.wb⟩
    unfold xOf overN at hr
    obtain ⟨t, ht, rfl⟩ := List.mem_map.mp hr
    have ht := List.mem_of_mem_take ht
    refine ⟨t, rfl, ?_⟩
    obtain ⟨b1, b2, b3⟩ := tz.spot
    rcases List.mem_cons.mp ht with rfl | ht
    · exact Nat.le_of_lt b1
    · rcases List.mem_cons.mp ht with rfl | ht
      · exact Nat.le_of_lt b2
      · rcases List.mem_cons.mp ht with rfl | ht
        · exact Nat.le_of_lt b3
        · cases ht
  | some e0 =>
    refine ⟨fun x ms e => by simp at e, fun ms e => ?_⟩
    simp at e
    obtain rfl := e
    exact muls_sz pos (Nat.lt_of_lt_of_le tz.bot (Nat.pow_le_pow_right (by decide) (by decide))) (tz.share e0 (first_some hf).1) ok.wb
/-- all that is known of what settling tells -/
theorem settle_all {sp : List Span} {ws : List Sum2} {aim : List Rat} (ok : AskOk sp ws aim) :
    (∃ x ms, settleR (boxW sp ++ ws) aim = (some x, ms) ∧ MostR (boxW sp ++ ws) aim x ms ∧ XSz x ∧ SolSz (boxW sp ++ ws) ms) ∨ ∃ ms, settleR (boxW sp ++ ws) aim = (none, ms) ∧ EmptyR aim.length (boxW sp ++ ws) ms ∧ SolSz (boxW sp ++ ws) ms := by
  have g := (end_b (start_good ok)).2.2 _ (Nat.le_refl _)
  obtain ⟨s1, s2⟩ := tell_sz ok g
  rcases settle_r ok with ⟨x, ms, e, m⟩ | ⟨ms, e, m⟩
  · exact .inl ⟨x, ms, e, m, s1 x ms e⟩
  · exact .inr ⟨ms, e, m, s2 ms e⟩
end Nc
end
section
set_option maxHeartbeats 1000000
/-! The spot that is told is a corner: two wishes just hold at it (one, where there is one place). -/
namespace Nc
theorem held_real {n : Nat} {asked : List Sum2} {h : F3 Nat} {p : Fin 3} (hp : h p < asked.length) : ∃ w, asked[h p]? = some w ∧ wAt (wsOf n asked) (h p) = intW w :=
  ⟨asked[h p], List.getElem?_eq_getElem hp, pick_row (List.getElem?_eq_getElem hp)⟩
theorem tight_real {n : Nat} {asked : List Sum2} {aim : I3} {h : F3 Nat} {p : Fin 3} {w : Sum2} (g : GoodB (wsOf n asked) aim h) (n3 : n ≤ 3) (wl : w.1.length = n) (e : wAt (wsOf n asked) (h p) = intW w) :
    weighs (w.1.zip (xOf n (wsOf n asked) h)) = w.2 := by
  have pos := g.pos
  have t := tight_b (ws := wsOf n asked) (h := h) p
  rw [e] at t
  have e1 := dt_over (row := w.1) (s := szW w) (S := spotOf (wsOf n asked) h) (D := botOf (wsOf n asked) h) (by omega) (fun r hr => szW_row hr) (by omega)
  rw [wl] at e1
  have e2 := fiNum_eq w
  have t : dt (intR w.1 (szW w)) (spotOf (wsOf n asked) h) = fiNum w * botOf (wsOf n asked) h := t
  have t : ((dt (intR w.1 (szW w)) (spotOf (wsOf n asked) h) : Int) : Rat) = ((fiNum w * botOf (wsOf n asked) h : Int) : Rat) := by rw [t]
  rw [e1, Rat.intCast_mul, e2] at t
  have s0 : (0 : Rat) < (szW w : Rat) * (botOf (wsOf n asked) h : Rat) := Rat.mul_pos (by have := szW_pos w; exact_mod_cast this) (by exact_mod_cast pos)
  unfold xOf
  refine Rat.le_antisymm (Rat.le_of_mul_le_mul_right ?_ s0) (Rat.le_of_mul_le_mul_right ?_ s0)
  · have : weighs (w.1.zip (overN n (spotOf (wsOf n asked) h) (botOf (wsOf n asked) h))) * ((szW w : Rat) * (botOf (wsOf n asked) h : Rat)) = w.2 * ((szW w : Rat) * (botOf (wsOf n asked) h : Rat)) := by grind
    rw [this]
    exact Rat.le_refl
  · have : weighs (w.1.zip (overN n (spotOf (wsOf n asked) h) (botOf (wsOf n asked) h))) * ((szW w : Rat) * (botOf (wsOf n asked) h : Rat)) = w.2 * ((szW w : Rat) * (botOf (wsOf n asked) h : Rat)) := by grind
    rw [this]
    exact Rat.le_refl
def cf (z : Sum2) (k : Nat) : Rat := z.1.getD k 0
theorem fi_zero {w : Sum2} {j : Fin 3} (hl : w.1.length ≤ j.val) : fiRow j w = 0 := by
  have h3 := j.isLt
  have e := fiRow_eq (w := w) (j := j) (by omega)
  have : w.1.getD j.val 0 = 0 := by
    rw [List.getD_eq_getElem?_getD, List.getElem?_eq_none hl]
    rfl
  rw [this, Rat.zero_mul] at e
  exact_mod_cast e
theorem fi_cf {w : Sum2} {j : Fin 3} (hl : w.1.length ≤ 3) : ((fiRow j w : Int) : Rat) = cf w j.val * (szW w : Rat) := fiRow_eq hl
theorem det_ne {n : Nat} {asked : List Sum2} {aim : I3} {h : F3 Nat} (g : GoodB (wsOf n asked) aim h) : det3 (rowsOf (wsOf n asked) h) ≠ 0 := by
  have pos := g.pos
  intro z
  have : bot (rowsOf (wsOf n asked) h) = 0 := by
    unfold bot
    rw [z]
    rfl
  have pos : 0 < bot (rowsOf (wsOf n asked) h) := pos
  omega
/-- each place, where rows are -/
theorem row_of {n : Nat} {asked : List Sum2} {h : F3 Nat} {p : Fin 3} {w : W4} (e : wAt (wsOf n asked) (h p) = w) : rowsOf (wsOf n asked) h p = w.1 := by
  show (wAt (wsOf n asked) (h p)).1 = _
  rw [e]
theorem len_ws {n : Nat} {asked : List Sum2} (h1 : 1 ≤ n) (h3 : n ≤ 3) : (wsOf n asked).length = asked.length + (3 - n) := by
  unfold wsOf dumW
  rw [List.length_append, List.length_map, List.length_drop]
  show asked.length + (2 - (n - 1)) = _
  omega
theorem third_zero {u v w : I3} (hu : u.2.2 = 0) (hv : v.2.2 = 0) (hw : w.2.2 = 0) : dt u (xr v w) = 0 := by
  simp only [dt, xr, hu, hv, hw]
  grind
theorem one_real {asked : List Sum2} {aim : I3} {h : F3 Nat} (al : ∀ w ∈ asked, w.1.length = 1) (g : GoodB (wsOf 1 asked) aim h) : ∃ p w, asked[h p]? = some w ∧ wAt (wsOf 1 asked) (h p) = intW w ∧ cf w 0 ≠ 0 := by
  have hd := det_ne g
  have lw := len_ws (n := 1) (asked := asked) (by omega) (by omega)
  have cases_ : ∀ p, (∃ w, asked[h p]? = some w ∧ wAt (wsOf 1 asked) (h p) = intW w ∧ (rowsOf (wsOf 1 asked) h p).1 = fiRow 0 w) ∨ (rowsOf (wsOf 1 asked) h p).1 = 0 := by
    intro p
    by_cases hp : h p < asked.length
    · obtain ⟨w, h1, h2⟩ := held_real (n := 1) hp
      exact .inl ⟨w, h1, h2, by rw [row_of h2]; rfl⟩
    · have hl := g.lt p
      have : h p = asked.length + 0 ∨ h p = asked.length + 1 := by omega
      rcases this with e | e
      · exact .inr (by rw [row_of (w := ((0, 1, 0), 0)) (by rw [e]; exact pick_dum rfl)])
      · exact .inr (by rw [row_of (w := ((0, 0, 1), 0)) (by rw [e]; exact pick_dum rfl)])
  -- some first number is not nought
  have some_ : ∃ p, (rowsOf (wsOf 1 asked) h p).1 ≠ 0 := by
    refine Classical.byContradiction fun hn => hd ?_
    have z : ∀ p, (rowsOf (wsOf 1 asked) h p).1 = 0 := fun p => Classical.byContradiction fun hz => hn ⟨p, hz⟩
    unfold det3
    simp only [dt, xr, z]
    grind
  obtain ⟨p, hp⟩ := some_
  rcases cases_ p with ⟨w, h1, h2, h3⟩ | h
  · refine ⟨p, w, h1, h2, fun z => hp ?_⟩
    have e := fi_cf (w := w) (j := 0) (by rw [al w (List.mem_of_getElem? h1)]; omega)
    have z : cf w ((0 : Fin 3) : Nat) = 0 := z
    rw [z, Rat.zero_mul] at e
    rw [h3]
    exact_mod_cast e
  · exact absurd h hp
theorem two_real {asked : List Sum2} {aim : I3} {h : F3 Nat} (al : ∀ w ∈ asked, w.1.length = 2) (g : GoodB (wsOf 2 asked) aim h) : ∃ p q z y, h p ≠ h q ∧ asked[h p]? = some z ∧ asked[h q]? = some y ∧ wAt (wsOf 2 asked) (h p) = intW z ∧ wAt (wsOf 2 asked) (h q) = intW y ∧ cf z 0 * cf y 1 - cf z 1 * cf y 0 ≠ 0 := by
  have hd := det_ne g
  have lw := len_ws (n := 2) (asked := asked) (by omega) (by omega)
  have dum : ∀ p, ¬ h p < asked.length → h p = asked.length ∧ rowsOf (wsOf 2 asked) h p = (0, 0, 1) := by
    intro p hp
    have hl := g.lt p
    have e : h p = asked.length + 0 := by omega
    exact ⟨e, row_of (w := ((0, 0, 1), 0)) (by rw [e]; exact pick_dum rfl)⟩
  have real : ∀ p, h p < asked.length → ∃ w, asked[h p]? = some w ∧ wAt (wsOf 2 asked) (h p) = intW w ∧ rowsOf (wsOf 2 asked) h p = (fiRow 0 w, fiRow 1 w, 0) := by
    intro p hp
    obtain ⟨w, h1, h2⟩ := held_real (n := 2) hp
    refine ⟨w, h1, h2, ?_⟩
    rw [row_of h2]
    have z := fi_zero (w := w) (j := 2) (by rw [al w (List.mem_of_getElem? h1)]; exact Nat.le_refl 2)
    have e : (intW w).1 = (fiRow 0 w, fiRow 1 w, fiRow 2 w) := rfl
    rw [e, z]
  have fin : ∀ p q r, p ≠ q → p ≠ r → q ≠ r → ¬ h r < asked.length → (∀ a b c d : Int, rowsOf (wsOf 2 asked) h p = (a, b, 0) → rowsOf (wsOf 2 asked) h q = (c, d, 0) → a * d - b * c ≠ 0) →
      ∃ p q z y, h p ≠ h q ∧ asked[h p]? = some z ∧ asked[h q]? = some y ∧ wAt (wsOf 2 asked) (h p) = intW z ∧ wAt (wsOf 2 asked) (h q) = intW y ∧ cf z 0 * cf y 1 - cf z 1 * cf y 0 ≠ 0 := by
    intro p q r pq pr qr hr hdet
    obtain ⟨er, _⟩ := dum r hr
    have hp : h p < asked.length := Classical.byContradiction fun hn => pr (g.inj p r (by rw [er, (dum p hn).1]))
    have hq : h q < asked.length := Classical.byContradiction fun hn => qr (g.inj q r (by rw [er, (dum q hn).1]))
    obtain ⟨z, z1, z2, z3⟩ := real p hp
    obtain ⟨y, y1, y2, y3⟩ := real q hq
    refine ⟨p, q, z, y, fun e => pq (g.inj p q e), z1, y1, z2, y2, fun e0 => hdet _ _ _ _ z3 y3 ?_⟩
    have zl := al z (List.mem_of_getElem? z1)
    have yl := al y (List.mem_of_getElem? y1)
    have a := fi_cf (w := z) (j := 0) (by omega)
    have b := fi_cf (w := z) (j := 1) (by omega)
    have c := fi_cf (w := y) (j := 0) (by omega)
    have d := fi_cf (w := y) (j := 1) (by omega)
    have a : ((fiRow 0 z : Int) : Rat) = cf z 0 * (szW z : Rat) := a
    have b : ((fiRow 1 z : Int) : Rat) = cf z 1 * (szW z : Rat) := b
    have c : ((fiRow 0 y : Int) : Rat) = cf y 0 * (szW y : Rat) := c
    have d : ((fiRow 1 y : Int) : Rat) = cf y 1 * (szW y : Rat) := d
    have : (((fiRow 0 z * fiRow 1 y - fiRow 1 z * fiRow 0 y : Int)) : Rat) = 0 := by
      rw [Rat.intCast_sub, Rat.intCast_mul, Rat.intCast_mul, a, b, c, d]
      grind
    exact_mod_cast this
  by_cases h2 : h 2 < asked.length
  · by_cases h1 : h 1 < asked.length
    · by_cases h0 : h 0 < asked.length
      · exfalso
        obtain ⟨_, _, _, r0⟩ := real 0 h0
        obtain ⟨_, _, _, r1⟩ := real 1 h1
        obtain ⟨_, _, _, r2⟩ := real 2 h2
        exact hd (third_zero (by rw [r0]) (by rw [r1]) (by rw [r2]))
      · refine fin 1 2 0 (by decide) (by decide) (by decide) h0 fun a b c d e1 e2 z => hd ?_
        unfold det3
        rw [e1, e2, (dum 0 h0).2]
        simp only [dt, xr]
        grind
    · refine fin 0 2 1 (by decide) (by decide) (by decide) h1 fun a b c d e1 e2 z => hd ?_
      unfold det3
      rw [e1, e2, (dum 1 h1).2]
      simp only [dt, xr]
      grind
  · refine fin 0 1 2 (by decide) (by decide) (by decide) h2 fun a b c d e1 e2 z => hd ?_
    unfold det3
    rw [e1, e2, (dum 2 h2).2]
    simp only [dt, xr]
    grind
/-! ### all corners -/
def meetR (z y : Sum2) : Option (List Rat) :=
  if cf z 0 * cf y 1 - cf z 1 * cf y 0 = 0 then none
  else some [(z.2 * cf y 1 - cf z 1 * y.2) / (cf z 0 * cf y 1 - cf z 1 * cf y 0), (cf z 0 * y.2 - z.2 * cf y 0) / (cf z 0 * cf y 1 - cf z 1 * cf y 0)]
def cornAt (n : Nat) (rows : List Sum2) (i : Nat) : List (List Rat) :=
  match rows[i]? with
  | none => []
  | some z => if n = 1 then (if cf z 0 = 0 then [] else [[z.2 / cf z 0]]) else (rows.take i).filterMap fun y => meetR z y
def cornTo (n : Nat) (rows : List Sum2) : Nat → List (List Rat)
  | 0 => []
  | i + 1 => cornTo n rows i ++ cornAt n rows i
theorem corn_mem {n : Nat} {rows : List Sum2} {x : List Rat} {i : Nat} (h : x ∈ cornAt n rows i) : ∀ {k : Nat}, i < k → x ∈ cornTo n rows k
  | 0, hk => by omega
  | k + 1, hk => by
    rw [cornTo]
    by_cases e : i = k
    · rw [e] at h
      exact List.mem_append_right _ h
    · exact List.mem_append_left _ (corn_mem h (by omega))
theorem div_of {a b c : Rat} (hb : b ≠ 0) (h : c * b = a) : a / b = c := by
  rw [← h]
  exact Rat.mul_div_cancel hb
theorem weigh2 {z : Sum2} {a b : Rat} (hl : z.1.length = 2) : weighs (z.1.zip [a, b]) = cf z 0 * a + cf z 1 * b := by
  obtain ⟨l, r⟩ := z
  match l, hl with
  | [u, v], _ =>
    show weighs [(u, a), (v, b)] = u * a + v * b
    rw [weighs_cons, weighs_cons, show weighs [] = 0 from rfl, Rat.add_zero]
theorem weigh1 {z : Sum2} {a : Rat} (hl : z.1.length = 1) : weighs (z.1.zip [a]) = cf z 0 * a := by
  obtain ⟨l, r⟩ := z
  match l, hl with
  | [u], _ =>
    show weighs [(u, a)] = u * a
    rw [weighs_cons, show weighs [] = 0 from rfl, Rat.add_zero]
theorem meet_of {z y : Sum2} {a b : Rat} (hd : cf z 0 * cf y 1 - cf z 1 * cf y 0 ≠ 0) (h1 : cf z 0 * a + cf z 1 * b = z.2) (h2 : cf y 0 * a + cf y 1 * b = y.2) : meetR z y = some [a, b] := by
  unfold meetR
  rw [if_neg hd, div_of (c := a) hd (by rw [← h1, ← h2]; grind), div_of (c := b) hd (by rw [← h1, ← h2]; grind)]
/-- the spot that is told is one of the corners -/
theorem told_corner {sp : List Span} {ws : List Sum2} {aim x ms : List Rat} (ok : AskOk sp ws aim) (n2 : aim.length ≤ 2) (hs : settleR (boxW sp ++ ws) aim = (some x, ms)) : x ∈ cornTo aim.length (boxW sp ++ ws) (boxW sp ++ ws).length := by
  have g0 := start_good ok
  obtain ⟨_, _, h3⟩ := end_b g0
  have g := h3 _ (Nat.le_refl _)
  have n1 := ok.n1
  have al := ask_len ok
  unfold settleR tellB at hs
  have e0 : stB (wsOf aim.length (boxW sp ++ ws)) (aimI aim) (start3 aim (boxW sp ++ ws).length) (endK (wsOf aim.length (boxW sp ++ ws)) (aimI aim) (start3 aim (boxW sp ++ ws).length)) = endB (wsOf aim.length (boxW sp ++ ws)) (aimI aim) (start3 aim (boxW sp ++ ws).length) := rfl
  rw [e0] at g
  generalize endB (wsOf aim.length (boxW sp ++ ws)) (aimI aim) (start3 aim (boxW sp ++ ws).length) = h at g hs
  cases hf : firstB (wsOf aim.length (boxW sp ++ ws)) h with
  | some e =>
    simp only [hf] at hs
    cases hs
  | none =>
    simp only [hf] at hs
    have hx : xOf aim.length (wsOf aim.length (boxW sp ++ ws)) h = x := by
      have := (Prod.ext_iff.mp hs).1
      exact Option.some.inj this
    have xl : x.length = aim.length := by
      rw [← hx]
      exact overN_len ok.n3
    clear hs
    generalize boxW sp ++ ws = asked at *
    have : aim.length = 1 ∨ aim.length = 2 := by omega
    rcases this with hn | hn
    · rw [hn] at g hx al xl ⊢
      obtain ⟨p, w, h1, h2, h3⟩ := one_real al g
      have wl := al w (List.mem_of_getElem? h1)
      have t := tight_real g (by omega) wl h2
      rw [hx] at t
      obtain ⟨a, rfl⟩ : ∃ a, x = [a] := match x, xl with | [a], _ => ⟨a, rfl⟩
      rw [weigh1 wl] at t
      refine corn_mem (i := h p) ?_ (List.getElem?_eq_some_iff.mp h1).1
      unfold cornAt
      rw [h1]
      show _ ∈ (if (1 : Nat) = 1 then _ else _)
      rw [if_pos rfl, if_neg h3, div_of (c := a) h3 (by rw [← t]; grind)]
      exact List.mem_singleton.mpr rfl
    · rw [hn] at g hx al xl ⊢
      obtain ⟨p, q, z, y, pq, z1, y1, z2, y2, hd⟩ := two_real al g
      have zl := al z (List.mem_of_getElem? z1)
      have yl := al y (List.mem_of_getElem? y1)
      have tz := tight_real g (by omega) zl z2
      have ty := tight_real g (by omega) yl y2
      rw [hx] at tz ty
      obtain ⟨a, b, rfl⟩ : ∃ a b, x = [a, b] := match x, xl with | [a, b], _ => ⟨a, b, rfl⟩
      rw [weigh2 zl] at tz
      rw [weigh2 yl] at ty
      have done : ∀ {i j : Nat} {z y : Sum2}, asked[i]? = some z → asked[j]? = some y → j < i → meetR z y = some [a, b] → [a, b] ∈ cornTo 2 asked asked.length := by
        intro i j z y hi hj ij hm
        refine corn_mem (i := i) ?_ (List.getElem?_eq_some_iff.mp hi).1
        unfold cornAt
        rw [hi]
        show _ ∈ (if (2 : Nat) = 1 then _ else _)
        rw [if_neg (by decide), List.mem_filterMap]
        refine ⟨y, List.mem_of_getElem? (i := j) ?_, hm⟩
        rw [List.getElem?_take, if_pos ij]
        exact hj
      rcases Nat.lt_or_gt_of_ne pq with lt | gt
      · exact done y1 z1 lt (meet_of (by grind) ty tz)
      · exact done z1 y1 gt (meet_of hd tz ty)
end Nc
end
section
set_option maxRecDepth 100000
set_option maxHeartbeats 4000000
namespace Nc
open PySem PySem.Spec PyProof.Rows L2 Evl
/-! ### settling: promises -/
/-- a Most, an Empty -/
def MostV (K : PySem.W.Frag) (C : Addr) (H : Hp) (v : V) (x ms : List Rat) : Prop := ∃ p dx a b, v = .ref p ∧ H p = some (.ins C dx [(("spot" : Str), a), (("multiples" : Str), b)]) ∧ RowV K H a x ∧ RowV K H b ms
def EmptyV (K : PySem.W.Frag) (C : Addr) (H : Hp) (v : V) (ms : List Rat) : Prop := ∃ p dx b, v = .ref p ∧ H p = some (.ins C dx [(("multiples" : Str), b)]) ∧ RowV K H b ms
variable {K : PySem.W.Frag} {H H' : Hp}
theorem MostV.ex {C : Addr} {v : V} {x ms : List Rat} (e : Ex H H') (h : MostV K C H v x ms) : MostV K C H' v x ms := by
  obtain ⟨p, dx, a, b, rfl, hp, ra, rb⟩ := h
  exact ⟨p, dx, a, b, rfl, e _ _ hp, ra.ex e, rb.ex e⟩
theorem EmptyV.ex {C : Addr} {v : V} {ms : List Rat} (e : Ex H H') (h : EmptyV K C H v ms) : EmptyV K C H' v ms := by
  obtain ⟨p, dx, b, rfl, hp, rb⟩ := h
  exact ⟨p, dx, b, rfl, e _ _ hp, rb.ex e⟩
/-- the size of a row's bottoms -/
def spSizeR (K : PySem.W.Frag) : Sp := fun vs H Q _ => ∃ (x : V) (l : List Rat) (D : Nat), vs = [x] ∧ RowV K H x l ∧ (∀ r ∈ l, r.den ∣ D) ∧ 0 < D ∧ D < 2 ^ 1600 ∧ l.length ≤ 10 ∧ ∀ H', Ex H H' → Q (.int ((szS l : Nat) : Int)) H'
def spTopR (K : PySem.W.Frag) : Sp := fun vs H Q _ => ∃ (x : V) (r : Rat) (s : Nat), vs = [x, .int (s : Int)] ∧ FrV K H x r ∧ Sz 1600 1600 r ∧ s < 2 ^ 1600 ∧ Q (.int (topI r s)) H
def spWholeR (K : PySem.W.Frag) : Sp := fun vs H Q _ => ∃ (x : V) (l : List Rat) (s : Nat), vs = [x, .int ((l.length : Nat) : Int), .int (s : Int)] ∧ RowV K H x l ∧ SzL 1600 1600 l ∧ 1 ≤ l.length ∧ l.length ≤ 3 ∧ s < 2 ^ 1600 ∧ ∀ v H', Ex H H' → I3V K H' v (intR l s) → Q v H'
def spStartR (K : PySem.W.Frag) : Sp := fun vs H Q _ => ∃ (x : V) (aim : List Rat) (m : Nat), vs = [x, .int (m : Int)] ∧ RowV K H x aim ∧ 1 ≤ aim.length ∧ aim.length ≤ 3 ∧ m ≤ 1000 ∧ ∀ F H', Ex H H' → H' F = some (.lst [.int ((start3 aim m 0 : Nat) : Int), .int ((start3 aim m 1 : Nat) : Int), .int ((start3 aim m 2 : Nat) : Int)]) → Q (.ref F) H'
def spSettledR (K : PySem.W.Frag) (CM CE : Addr) : Sp := fun vs H Q _ => ∃ (a : Addr) (y : V) (xs : List V) (sp : List Span) (ws : List Sum2) (aim : List Rat), vs = [.ref a, y] ∧ SqL K H a xs ∧ Paired (SumV K H) xs (boxW sp ++ ws) ∧ RowV K H y aim ∧ AskOk sp ws aim ∧
  (∀ x ms, settleR (boxW sp ++ ws) aim = (some x, ms) → ∀ v H', Ex H H' → MostV K CM H' v x ms → Q v H') ∧ ∀ ms, settleR (boxW sp ++ ws) aim = (none, ms) → ∀ v H', Ex H H' → EmptyV K CE H' v ms → Q v H'
/-- an object made, with two fields, with one -/
def spInitM (C : Addr) : Sp := fun vs H Q _ => ∃ (p dx : Addr) (a b : V), vs = [.ref p, a, b] ∧ H p = some (.ins C dx []) ∧ Q .non (upd (upd H p (.ins C dx [(("spot" : Str), a)])) p (.ins C dx [(("spot" : Str), a), (("multiples" : Str), b)]))
def spInitE (C : Addr) : Sp := fun vs H Q _ => ∃ (p dx : Addr) (b : V), vs = [.ref p, b] ∧ H p = some (.ins C dx []) ∧ Q .non (upd H p (.ins C dx [(("multiples" : Str), b)]))
/-- the module's DUMMIES -/
structure Dum (K : PySem.W.Frag) (mg : Str → Option Value) : Prop where
  ex : ∃ a t1 t2, mg "DUMMIES" = some (.ref a) ∧ ∀ H : Hp, SqT K H a [.ref t1, .ref t2] ∧ SqT K H t1 [.int 0, .int 1, .int 0, .int 0] ∧ SqT K H t2 [.int 0, .int 0, .int 1, .int 0]
/-- that of one class stands for that of another, seen from outside -/
theorem start_at {aim : List Rat} {m : Nat} (h1 : 1 ≤ aim.length) (h3 : aim.length ≤ 3) : startN aim m = [start3 aim m 0, start3 aim m 1, start3 aim m 2] := by
  have hl : (startN aim m).length = 3 := by
    unfold startN
    rw [List.length_append, List.length_mapIdx, List.length_map, List.length_range]
    omega
  unfold start3 mk3
  generalize startN aim m = l at hl ⊢
  match l, hl with
  | [a, b, c], _ => rfl
theorem tight_at {aim : List Rat} {i : Nat} {r : Rat} (h : aim[i]? = some r) : (aim.mapIdx fun k w => if 0 < w.num then k else aim.length + k)[i]? = some (if 0 < r.num then i else aim.length + i) := by
  rw [List.getElem?_mapIdx, h]
  rfl
/-- what a row and a number make -/
theorem row_snoc {t : Addr} {xs : List V} {b : V} {s : Sum2} (q : SqT K H t (xs ++ [b])) (p : FrL K H xs s.1) (f : FrV K H b s.2) : RowV K H (.ref t) (s.1 ++ [s.2]) := ⟨t, _, rfl, q, pair_app p (.cons f .nil)⟩
theorem w4_of {t : Addr} {u : I3} {b : Int} (q : SqT K H t ([V.int u.1, .int u.2.1, .int u.2.2] ++ [.int b])) : W4V K H (.ref t) (u, b) := ⟨t, rfl, q⟩
theorem pad_list {l : List Rat} {s : Nat} (h1 : 1 ≤ l.length) (h3 : l.length ≤ 3) : (l.map fun r => V.int (topI r s)) ++ List.replicate (3 - l.length) (V.int 0) = [V.int (intR l s).1, .int (intR l s).2.1, .int (intR l s).2.2] := by
  match l, h1, h3 with
  | [a], _, _ => rfl
  | [a, b], _, _ => rfl
  | [a, b, c], _, _ => rfl
theorem flat_v {v : V} : ∀ k : Nat, (List.replicate k [v]).flatten = List.replicate k v
  | 0 => rfl
  | k + 1 => by
    rw [List.replicate_succ, List.flatten_cons, flat_v k, List.replicate_succ]
    rfl
theorem top_cast (r : Rat) (s : Nat) : r.num * ((s : Int) / (r.den : Int)) = topI r s := by
  unfold topI
  rw [Int.natCast_ediv]
end Nc
end
section
set_option maxRecDepth 100000
set_option maxHeartbeats 4000000
namespace Nc
open PySem PySem.Spec PyProof.Rows L2 Evl
/-! ### wishes summed, each so many times -/
def addS (t : Sum2) (q : Sum2 × Rat) : Sum2 := splus t (stimes q.2 q.1)
def sumL (n : Nat) (l : List (Sum2 × Rat)) : Sum2 := l.foldl addS (List.replicate n 0, 0)
theorem sumL_take {n i : Nat} {l : List (Sum2 × Rat)} {q : Sum2 × Rat} (h : l[i]? = some q) : sumL n (l.take (i + 1)) = addS (sumL n (l.take i)) q := by
  unfold sumL
  rw [List.take_add_one, h, List.foldl_append]
  rfl
theorem addS_len {n : Nat} {t : Sum2} {q : Sum2 × Rat} (ht : t.1.length = n) (hq : q.1.1.length = n) : (addS t q).1.length = n := by
  unfold addS splus stimes
  simp [ht, hq]
theorem addS_at {n j : Nat} {t : Sum2} {q : Sum2 × Rat} (ht : t.1.length = n) (hq : q.1.1.length = n) (hj : j < n) : (addS t q).1.getD j 0 = t.1.getD j 0 + q.2 * q.1.1.getD j 0 := by
  have a : t.1[j]? = some t.1[j] := List.getElem?_eq_getElem (by omega)
  have b : q.1.1[j]? = some q.1.1[j] := List.getElem?_eq_getElem (by omega)
  have hj' : j < min t.1.length q.1.1.length := by omega
  unfold addS splus stimes
  simp [List.getD_eq_getElem?_getD, List.getElem?_map, List.getElem?_zip_eq_some, a, b, ht, hq, hj]
theorem fold_at {n j : Nat} (hj : j < n) : ∀ (ws : List Sum2) (ms : List Rat) (t : Sum2), t.1.length = n → (∀ w ∈ ws, w.1.length = n) → ((ws.zip ms).foldl addS t).1.getD j 0 = t.1.getD j 0 + dotc (fun w => w.1.getD j 0) ws ms ∧ ((ws.zip ms).foldl addS t).2 = t.2 + dotc (fun w => w.2) ws ms ∧ ((ws.zip ms).foldl addS t).1.length = n
  | [], ms, t, ht, _ => by
    refine ⟨?_, ?_, ht⟩
    · show t.1.getD j 0 = t.1.getD j 0 + 0
      rw [Rat.add_zero]
    · show t.2 = t.2 + 0
      rw [Rat.add_zero]
  | w :: ws, [], t, ht, _ => by
    refine ⟨?_, ?_, ht⟩
    · show t.1.getD j 0 = t.1.getD j 0 + 0
      rw [Rat.add_zero]
    · show t.2 = t.2 + 0
      rw [Rat.add_zero]
  | w :: ws, m :: ms, t, ht, hw => by
    have wl := hw w (by simp)
    obtain ⟨a, b, c⟩ := fold_at hj ws ms (addS t (w, m)) (addS_len ht wl) fun w h => hw w (by simp [h])
    have e := addS_at (q := (w, m)) ht wl hj
    have en : (addS t (w, m)).2 = t.2 + m * w.2 := rfl
    refine ⟨?_, ?_, c⟩
    · show ((ws.zip ms).foldl addS (addS t (w, m))).1.getD j 0 = _
      rw [a, e]
      show _ = t.1.getD j 0 + (m * w.1.getD j 0 + dotc _ ws ms)
      rw [Rat.add_assoc]
    · show ((ws.zip ms).foldl addS (addS t (w, m))).2 = _
      rw [b, en]
      show _ = t.2 + (m * w.2 + dotc _ ws ms)
      rw [Rat.add_assoc]
theorem sumL_eq {n : Nat} (n1 : 1 ≤ n) {ws : List Sum2} {ms : List Rat} {row : List Rat} {b : Rat} (hw : ∀ w ∈ ws, w.1.length = n) (rl : row.length = n) (hr : ∀ j, j < n → dotc (fun w => w.1.getD j 0) ws ms = row.getD j 0) (hb : dotc (fun w => w.2) ws ms = b) : sumL n (ws.zip ms) = (row, b) := by
  have f := fun j hj => fold_at (n := n) (j := j) hj ws ms (List.replicate n 0, 0) (by simp) hw
  refine Prod.ext (List.ext_getElem? fun j => ?_) ?_
  · by_cases hj : j < n
    · obtain ⟨a, _, c⟩ := f j hj
      have e1 : (sumL n (ws.zip ms)).1[j]? = some ((sumL n (ws.zip ms)).1.getD j 0) := by
        rw [List.getD_eq_getElem?_getD, List.getElem?_eq_getElem (by unfold sumL; omega)]
        rfl
      have e2 : row[j]? = some (row.getD j 0) := by
        rw [List.getD_eq_getElem?_getD, List.getElem?_eq_getElem (by omega)]
        rfl
      rw [e1, e2]
      congr 1
      show ((ws.zip ms).foldl addS (List.replicate n 0, 0)).1.getD j 0 = _
      rw [a, hr j hj]
      show (List.replicate n (0 : Rat)).getD j 0 + _ = _
      rw [show (List.replicate n (0 : Rat)).getD j 0 = 0 by simp [List.getD_eq_getElem?_getD, List.getElem?_replicate, hj], Rat.zero_add]
    · have c := (f 0 (by omega)).2.2
      have : (sumL n (ws.zip ms)).1.length = n := c
      rw [List.getElem?_eq_none (by omega), List.getElem?_eq_none (by show row.length ≤ j; omega)]
  · obtain ⟨_, b', _⟩ := f 0 (by omega)
    show ((ws.zip ms).foldl addS (List.replicate n 0, 0)).2 = b
    rw [b', hb]
    exact Rat.zero_add _
theorem addS_zero {n : Nat} {t : Sum2} {w : Sum2} (ht : t.1.length = n) (hw : w.1.length = n) : addS t (w, 0) = t := by
  have key : ∀ (a b : List Rat), a.length = b.length → ((a.zip (b.map fun x => (0 : Rat) * x)).map fun p => p.1 + p.2) = a := by
    intro a
    induction a with
    | nil => intro b _; rfl
    | cons x a ih =>
      intro b hb
      match b, hb with
      | y :: b, hb =>
        have e := ih b (by simpa using hb)
        simp only [List.map_cons, List.zip_cons_cons, e, Rat.zero_mul, Rat.add_zero] at e ⊢
        rw [e]
  unfold addS splus stimes
  refine Prod.ext (key t.1 w.1 (by omega)) ?_
  show t.2 + 0 * w.2 = t.2
  rw [Rat.zero_mul, Rat.add_zero]
/-! sizes -/
def MsP (asked : List Sum2) (ms : List Rat) : Prop := ∃ N : Int, 0 < N ∧ N.natAbs < 2 ^ 6500 ∧ ∀ (i : Nat) (w : Sum2) (m : Rat), asked[i]? = some w → ms[i]? = some m → Sz 6500 6500 m ∧ ∀ r ∈ w.1 ++ [w.2], Ov (2 ^ 6500) N (m * r)
def XsP (x : List Rat) : Prop := ∃ D : Int, 0 < D ∧ D.natAbs < 2 ^ 4900 ∧ ∀ r ∈ x, Ov (2 ^ 4900) D r
theorem SolSz.ms {asked : List Sum2} {ms : List Rat} (h : SolSz asked ms) : MsP asked ms := by
  obtain ⟨N, a, b, c⟩ := h
  refine ⟨N, a, lt_mono b (by decide), fun i w m h1 h2 => ?_⟩
  obtain ⟨s, o⟩ := c i w m h1 h2
  exact ⟨s.mono (by decide) (by decide), fun r hr => (o r hr).mono (Nat.pow_le_pow_right (by decide) (by decide))⟩
theorem XSz.xs {x : List Rat} (h : XSz x) : XsP x := by
  obtain ⟨D, a, b, c⟩ := h
  exact ⟨D, a, lt_mono b (by decide), fun r hr => (c r hr).mono (Nat.pow_le_pow_right (by decide) (by decide))⟩
theorem two_lt {k n : Nat} (h : k < n) : (2 : Nat) ^ k < 2 ^ n := Nat.pow_lt_pow_right (by decide) h
theorem XsP.sz {x : List Rat} (h : XsP x) : SzL 4901 4900 x := by
  obtain ⟨D, a, b, c⟩ := h
  exact fun r hr => (c r hr).sz a (two_lt (by decide)) b
/-- of each product one and the same bottom -/
structure WzP (rs ss : List Rat) : Prop where
  szr : SzL 1600 1600 rs
  szs : SzL 4901 4900 ss
  ov : ∃ N : Int, 0 < N ∧ N.natAbs < 2 ^ 6500 ∧ ∀ p ∈ rs.zip ss, Ov (2 ^ 6500) N (p.1 * p.2)
theorem wz_of {l x : List Rat} (hl : Wb l) (hx : XsP x) : WzP l x := by
  have f := wb_f hl
  obtain ⟨D, D0, hD, hd⟩ := hl
  obtain ⟨E, E0, hE, he⟩ := id hx
  refine ⟨f.each, hx.sz, (D : Int) * E, Int.mul_pos (by omega) E0, ?_, fun p hp => ?_⟩
  · exact mulB (n := 1600) (m := 4900) (by rw [Int.natAbs_natCast]; exact hD) hE (by decide)
  · have hp' := List.of_mem_zip hp
    refine (Ov.mul (hd _ hp'.1) (he _ hp'.2)).mono ?_
    have : (2 : Nat) ^ 6500 = 2 ^ 1600 * 2 ^ 4900 := by rw [← Nat.pow_add]
    rw [this]
    exact Nat.mul_le_mul_right _ (by generalize (2 : Nat) ^ 1600 = P; omega)
theorem ov_weighs {B : Nat} {N : Int} (hN : N ≠ 0) : ∀ (l : List (Rat × Rat)), (∀ p ∈ l, Ov B N (p.1 * p.2)) → Ov (l.length * B) N (weighs l)
  | [], _ => Ov.zero
  | p :: l, h => by
    rw [weighs_cons]
    have := Ov.add hN (h p (by simp)) (ov_weighs hN l fun q hq => h q (by simp [hq]))
    refine this.mono ?_
    rw [List.length_cons, Nat.add_mul]
    omega
theorem few {k B n : Nat} (hk : k ≤ 100) (hB : B ≤ 2 ^ n) : k * B < 2 ^ (n + 7) := by
  have h1 : k * B ≤ 100 * 2 ^ n := Nat.mul_le_mul hk hB
  have h2 : (2 : Nat) ^ (n + 7) = 128 * 2 ^ n := by rw [Nat.pow_add, Nat.mul_comm]
  have h3 := Nat.two_pow_pos n
  omega
theorem WzP.sum {rs ss : List Rat} (h : WzP rs ss) (l : List (Rat × Rat)) (hl : l.length ≤ 100) (hs : ∀ p ∈ l, p ∈ rs.zip ss) : Sz 6507 6500 (weighs l) := by
  obtain ⟨_, _, N, N0, hN, ov⟩ := h
  exact (ov_weighs (by omega) l fun p hp => ov p (hs p hp)).sz N0 (few hl (Nat.le_refl _)) hN
theorem WzP.one {rs ss : List Rat} (h : WzP rs ss) {p : Rat × Rat} (hp : p ∈ rs.zip ss) : Sz 6507 6500 (p.1 * p.2) := by
  obtain ⟨_, _, N, N0, hN, ov⟩ := h
  exact (ov p hp).sz N0 (two_lt (by decide)) hN
/-- a row weighed at a spot -/
def spWeighP (K : PySem.W.Frag) : Sp := fun vs H Q _ => ∃ (x y : V) (rs ss : List Rat), vs = [x, y] ∧ RowV K H x rs ∧ RowV K H y ss ∧ rs.length = ss.length ∧ rs.length ≤ 100 ∧ WzP rs ss ∧ ∀ v H', Ex H H' → FrV K H' v (weighs (rs.zip ss)) → Q v H'
/-- sizes within the sums -/
theorem ov_sumL {n : Nat} {asked : List Sum2} {ms : List Rat} {N : Int} {B : Nat} (hN : N ≠ 0) (hl : asked.length = ms.length) (hov : ∀ (i : Nat) (w : Sum2) (m : Rat), asked[i]? = some w → ms[i]? = some m → ∀ r ∈ w.1 ++ [w.2], Ov B N (m * r)) : ∀ i, i ≤ asked.length → (∀ r ∈ (sumL n ((asked.zip ms).take i)).1, Ov (i * B) N r) ∧ Ov (i * B) N (sumL n ((asked.zip ms).take i)).2
  | 0, _ => by
    refine ⟨fun r hr => ?_, Ov.zero⟩
    rw [(List.mem_replicate.mp hr).2]
    exact Ov.zero
  | i + 1, hi => by
    obtain ⟨a, b⟩ := ov_sumL (n := n) hN hl hov i (by omega)
    have h1 : asked[i]? = some asked[i] := List.getElem?_eq_getElem (by omega)
    have h2 : ms[i]? = some ms[i] := List.getElem?_eq_getElem (by omega)
    have hz : (asked.zip ms)[i]? = some (asked[i], ms[i]) := by rw [List.getElem?_zip_eq_some]; exact ⟨h1, h2⟩
    have o := hov i _ _ h1 h2
    rw [sumL_take hz]
    have e : (i + 1) * B = i * B + B := by rw [Nat.add_mul, Nat.one_mul]
    rw [e]
    refine ⟨fun r hr => ?_, Ov.add hN b (o _ (by simp))⟩
    unfold addS splus stimes at hr
    obtain ⟨p, hp, rfl⟩ := List.mem_map.mp hr
    obtain ⟨h3, h4⟩ := List.of_mem_zip hp
    obtain ⟨u, hu, e4⟩ := List.mem_map.mp h4
    rw [← e4]
    exact Ov.add hN (a _ h3) (o u (by simp [hu]))
structure SzS (s : Sum2) : Prop where
  row : SzL 6507 6500 s.1
  num : Sz 6507 6500 s.2
theorem MsP.pre {n : Nat} {asked : List Sum2} {ms : List Rat} (h : MsP asked ms) (hl : asked.length = ms.length) (h100 : asked.length ≤ 100) {i : Nat} (hi : i ≤ asked.length) : SzS (sumL n ((asked.zip ms).take i)) := by
  obtain ⟨N, N0, hN, hov⟩ := h
  obtain ⟨a, b⟩ := ov_sumL (n := n) (by omega) hl (fun i w m h1 h2 => (hov i w m h1 h2).2) i hi
  have f := few (k := i) (n := 6500) (by omega) (Nat.le_refl _)
  exact ⟨fun r hr => (a r hr).sz N0 f hN, b.sz N0 f hN⟩
theorem MsP.one {asked : List Sum2} {ms : List Rat} (h : MsP asked ms) {i : Nat} {w : Sum2} {m : Rat} (h1 : asked[i]? = some w) (h2 : ms[i]? = some m) : Sz 6500 6500 m ∧ ∀ r ∈ w.1 ++ [w.2], Sz 6507 6500 (m * r) := by
  obtain ⟨N, N0, hN, hov⟩ := h
  obtain ⟨a, b⟩ := hov i w m h1 h2
  exact ⟨a, fun r hr => (b r hr).sz N0 (two_lt (by decide)) hN⟩
/-! promises -/
def AsP (n : Nat) (asked : List Sum2) : Prop := asked.length ≤ 100 ∧ (∀ w ∈ asked, w.1.length = n) ∧ ∀ w ∈ asked, Wb (w.1 ++ [w.2])
def spSummedP (K : PySem.W.Frag) : Sp := fun vs H Q _ => ∃ (x y : V) (n : Nat) (asked : List Sum2) (ms : List Rat), vs = [x, y, .int (n : Int)] ∧ (∃ (c : Bool) (a : Addr) (xs : List V), x = .ref a ∧ SqX K c H a xs ∧ Paired (SumV K H) xs asked) ∧ RowV K H y ms ∧ asked.length = ms.length ∧ n ≤ 3 ∧ AsP n asked ∧ MsP asked ms ∧ ∀ v H', Ex H H' → SumV K H' v (sumL n (asked.zip ms)) → Q v H'
def spHoldsP (K : PySem.W.Frag) : Sp := fun vs H Q _ => ∃ (x y : V) (w : Sum2) (ss : List Rat), vs = [x, y] ∧ SumV K H x w ∧ RowV K H y ss ∧ w.1.length = ss.length ∧ w.1.length ≤ 100 ∧ Wb (w.1 ++ [w.2]) ∧ XsP ss ∧ ∀ H', Ex H H' → Q (.bl (decide (weighs (w.1.zip ss) ≤ w.2))) H'
/-- multiples, or what is none -/
def spAreMulP (K : PySem.W.Frag) : Sp := fun vs H Q _ => ∃ (v : V) (k : Nat), vs = [v, .int (k : Int)] ∧ k ≤ 100 ∧ ((∃ o, Rw K H v o ∧ rwB o (k : Int) = false ∧ ∀ H', Ex H H' → Q (.bl false) H') ∨ ∃ L : List Rat, RowV K H v L ∧ L.length = k ∧ ∀ H', Ex H H' → Q (.bl (L.all fun r => decide (0 ≤ r.num))) H')
def inSp (sp : List Span) (x : List Rat) : Bool := (sp.zip x).all fun q => decide (q.1.1 ≤ q.2) && decide (q.2 ≤ q.1.2)
def inO (sp : List Span) : Option (List Rat) → Bool
  | none => false
  | some l => inSp sp l
/-! equal data, equal fractions -/
theorem fd_inj {r q : Rat} (h : PyData.eqv (fd r) (fd q) = true) : r = q := by
  unfold fd at h
  simp only [PyData.eqv, PyData.eqvAll, Bool.and_eq_true, Bool.and_true, beq_iff_eq, decide_eq_true_eq] at h
  exact Rat.ext h.1 (by omega)
theorem inj_all {α : Type} {f : α → PyData} (hf : ∀ a b, PyData.eqv (f a) (f b) = true → a = b) : ∀ {xs ys : List α}, PyData.eqvAll (xs.map f) (ys.map f) = true → xs = ys
  | [], [], _ => rfl
  | [], _ :: _, h => by simp [PyData.eqvAll] at h
  | _ :: _, [], h => by simp [PyData.eqvAll] at h
  | x :: xs, y :: ys, h => by
    simp only [List.map_cons, PyData.eqvAll, Bool.and_eq_true] at h
    rw [hf x y h.1, inj_all hf h.2]
theorem eqv_fdd {r q : Rat} : PyData.eqv (fd r) (fd q) = decide (r = q) := by
  by_cases h : r = q
  · rw [h, eqv_fd, decide_eq_true rfl]
  · rw [decide_eq_false h]
    cases e : PyData.eqv (fd r) (fd q) with
    | false => rfl
    | true => exact absurd (fd_inj e) h
theorem row_inj {rs qs : List Rat} (h : PyData.eqv (.tuple (rs.map fd)) (.tuple (qs.map fd)) = true) : rs = qs := by
  simp only [PyData.eqv] at h
  exact inj_all (fun a b => fd_inj) h
theorem eqv_rows {rs qs : List Rat} : PyData.eqv (.tuple (rs.map fd)) (.tuple (qs.map fd)) = decide (rs = qs) := by
  by_cases h : rs = qs
  · rw [h, eqv_row, decide_eq_true rfl]
  · rw [decide_eq_false h]
    cases e : PyData.eqv (.tuple (rs.map fd)) (.tuple (qs.map fd)) with
    | false => rfl
    | true => exact absurd (row_inj e) h
theorem eqv_sums {z y : Sum2} : PyData.eqv (sd z) (sd y) = decide (z = y) := by
  by_cases h : z = y
  · rw [h, eqv_sd, decide_eq_true rfl]
  · rw [decide_eq_false h]
    cases e : PyData.eqv (sd z) (sd y) with
    | false => rfl
    | true =>
      exfalso
      unfold sd at e
      simp only [PyData.eqv, PyData.eqvAll, Bool.and_eq_true, Bool.and_true] at e
      exact h (Prod.ext (inj_all (fun a b => fd_inj) e.1) (fd_inj e.2))
/-! in the box, by its wishes -/
theorem unit_weigh {n k : Nat} {x : List Rat} {r : Rat} (xl : x.length = n) (h : x[k]? = some r) : weighs ((unit n k).zip x) = r := by
  have t := tells_unit (n := n) (p := k) (x := x) xl
  have e : tells (unit n k, 0) x = weighs ((unit n k).zip x) + 0 := rfl
  rw [e, Rat.add_zero] at t
  rw [t, List.getD_eq_getElem?_getD, h]
  rfl
theorem box_holds {sp : List Span} {x : List Rat} (xl : x.length = sp.length) : (∀ w ∈ boxW sp, weighs (w.1.zip x) ≤ w.2) ↔ inSp sp x = true := by
  unfold inSp
  rw [List.all_eq_true]
  constructor
  · intro h p hp
    obtain ⟨k, hk⟩ := List.mem_iff_getElem?.mp hp
    rw [List.getElem?_zip_eq_some] at hk
    obtain ⟨h1, h2⟩ := hk
    have a := h (unit sp.length k, p.1.2) (List.mem_append_left _ (List.mem_of_getElem? (hiW_at h1)))
    have b := h (stimes (-1) (unit sp.length k, p.1.1)) (List.mem_append_right _ (List.mem_of_getElem? (loW_at h1)))
    have a : weighs ((unit sp.length k).zip x) ≤ p.1.2 := a
    have b : weighs (((unit sp.length k).map fun y => -1 * y).zip x) ≤ -1 * p.1.1 := b
    rw [unit_weigh xl h2] at a
    rw [weighs_mul, unit_weigh xl h2] at b
    rw [Bool.and_eq_true, decide_eq_true_eq, decide_eq_true_eq]
    exact ⟨by grind, a⟩
  · intro h w hw
    have at_ : ∀ {k : Nat} {q : Span}, sp[k]? = some q → ∃ r, x[k]? = some r ∧ q.1 ≤ r ∧ r ≤ q.2 := fun {k q} hq => by
      have kl := (List.getElem?_eq_some_iff.mp hq).1
      obtain ⟨r, hr⟩ : ∃ r, x[k]? = some r := ⟨_, List.getElem?_eq_getElem (by omega)⟩
      have := h (q, r) (List.mem_of_getElem? (i := k) (by rw [List.getElem?_zip_eq_some]; exact ⟨hq, hr⟩))
      rw [Bool.and_eq_true, decide_eq_true_eq, decide_eq_true_eq] at this
      exact ⟨r, hr, this.1, this.2⟩
    rcases List.mem_append.mp hw with h | h
    · obtain ⟨k, hk⟩ := List.mem_iff_getElem?.mp h
      have kl := (List.getElem?_eq_some_iff.mp hk).1
      rw [hiW_len] at kl
      obtain ⟨q, hq⟩ : ∃ q, sp[k]? = some q := ⟨_, List.getElem?_eq_getElem kl⟩
      rw [hiW_at hq] at hk
      have e := Option.some.inj hk
      subst e
      obtain ⟨r, hr, h1, h2⟩ := at_ hq
      show weighs ((unit sp.length k).zip x) ≤ q.2
      rw [unit_weigh xl hr]
      exact h2
    · obtain ⟨k, hk⟩ := List.mem_iff_getElem?.mp h
      have kl := (List.getElem?_eq_some_iff.mp hk).1
      rw [loW_len] at kl
      obtain ⟨q, hq⟩ : ∃ q, sp[k]? = some q := ⟨_, List.getElem?_eq_getElem kl⟩
      rw [loW_at hq] at hk
      have e := Option.some.inj hk
      subst e
      obtain ⟨r, hr, h1, h2⟩ := at_ hq
      show weighs (((unit sp.length k).map fun y => -1 * y).zip x) ≤ -1 * q.1
      rw [weighs_mul, unit_weigh xl hr]
      grind
/-- a row of so many, or what is none -/
def RwN (K : PySem.W.Frag) (H : Hp) (v : V) (n : Nat) : Option (List Rat) → Prop
  | none => ∃ o, Rw K H v o ∧ rwB o (n : Int) = false
  | some L => RowV K H v L ∧ L.length = n
def nnB (ms : List Rat) : Bool := ms.all fun r => decide (0 ≤ r.num)
def keepB (asked : List Sum2) (x : List Rat) : Bool := asked.all fun w => decide (weighs (w.1.zip x) ≤ w.2)
/-- whether these show the most -/
def mostB (n : Nat) (asked : List Sum2) (aim : List Rat) : Option (List Rat) → Option (List Rat) → Bool
  | some x, some ms => nnB ms && keepB asked x && decide (sumL n (asked.zip ms) = (aim, weighs (aim.zip x)))
  | _, _ => false
/-- whether these show that there is none -/
def emptyB (n : Nat) (asked : List Sum2) : Option (List Rat) → Bool
  | some ms => nnB ms && (decide ((sumL n (asked.zip ms)).1 = List.replicate n 0) && decide ((sumL n (asked.zip ms)).2.num < 0))
  | none => false
theorem nnB_of {ms : List Rat} (h : ∀ m ∈ ms, 0 ≤ m) : nnB ms = true := by
  unfold nnB
  rw [List.all_eq_true]
  intro m hm
  exact decide_eq_true (Rat.num_nonneg.mpr (h m hm))
theorem most_b {sp : List Span} {ws : List Sum2} {aim x ms : List Rat} (ok : AskOk sp ws aim) (m : MostR (boxW sp ++ ws) aim x ms) : mostB aim.length (boxW sp ++ ws) aim (some x) (some ms) = true := by
  show (nnB ms && keepB _ x && decide _) = true
  rw [nnB_of m.nn, decide_eq_true (sumL_eq ok.n1 (ask_len ok) rfl (fun j hj => m.row j hj) m.num), Bool.and_true, Bool.true_and]
  unfold keepB
  rw [List.all_eq_true]
  exact fun w hw => decide_eq_true (m.keeps w hw)
theorem empty_b {sp : List Span} {ws : List Sum2} {aim ms : List Rat} (ok : AskOk sp ws aim) (m : EmptyR aim.length (boxW sp ++ ws) ms) : emptyB aim.length (boxW sp ++ ws) (some ms) = true := by
  have e := sumL_eq (row := List.replicate aim.length 0) (b := dotc (fun w => w.2) (boxW sp ++ ws) ms) ok.n1 (ask_len ok) (by simp) (fun j hj => by rw [m.row j hj]; simp [List.getD_eq_getElem?_getD, List.getElem?_replicate, hj]) rfl
  show (nnB ms && (decide ((sumL aim.length ((boxW sp ++ ws).zip ms)).1 = _) && decide ((sumL aim.length ((boxW sp ++ ws).zip ms)).2.num < 0))) = true
  rw [nnB_of m.nn, e, decide_eq_true rfl, decide_eq_true m.num]
  rfl
theorem keepB_in {sp : List Span} {ws : List Sum2} {x : List Rat} (xl : x.length = sp.length) : (inSp sp x && keepB (boxW sp ++ ws) x) = keepB (boxW sp ++ ws) x := by
  cases h : keepB (boxW sp ++ ws) x with
  | false => rw [Bool.and_false]
  | true =>
    rw [Bool.and_true]
    refine (box_holds xl).mp fun w hw => ?_
    unfold keepB at h
    rw [List.all_eq_true] at h
    exact of_decide_eq_true (h w (List.mem_append_left _ hw))
theorem map_step {α β γ : Type} {f : α → β} {g : β → γ} {l : List α} {j : Nat} {z : α} (h : l[j]? = some z) : ((l.map f).take (j + 1)).map g = ((l.map f).take j).map g ++ [g (f z)] := by
  rw [List.take_add_one, List.getElem?_map, h, List.map_append]
  rfl
/-! promises of what is shown -/
def MostO (C : Addr) (H : Hp) (v a b : V) : Prop := ∃ p dx, v = .ref p ∧ H p = some (.ins C dx [(("spot" : Str), a), (("multiples" : Str), b)])
def EmptyO (C : Addr) (H : Hp) (v b : V) : Prop := ∃ p dx, v = .ref p ∧ H p = some (.ins C dx [(("multiples" : Str), b)])
/-- wishes handed in, a list or a tuple -/
def WsV (K : PySem.W.Frag) (H : Hp) (v : V) (ws : List Sum2) : Prop := ∃ (c : Bool) (a : Addr) (xs : List V), v = .ref a ∧ SqX K c H a xs ∧ Paired (SumV K H) xs ws
theorem WsV.ex {K : PySem.W.Frag} {H H' : Hp} {v : V} {ws : List Sum2} (e : Ex H H') (h : WsV K H v ws) : WsV K H' v ws := by
  obtain ⟨c, a, xs, rfl, q, p⟩ := h
  exact ⟨c, a, xs, rfl, sqX_ex e q, pmono (fun _ _ z => SumV.ex e z) p⟩
structure GoodIn (K : PySem.W.Frag) (H : Hp) (x y z : V) (sp : List Span) (ws : List Sum2) (aim : List Rat) : Prop where
  box : BoxV K 6 H x sp
  wish : WsV K H y ws
  goal : RowV K H z aim
  ok : AskOk sp ws aim
  few : ws.length ≤ 16
theorem GoodIn.ex {K : PySem.W.Frag} {H H' : Hp} {x y z : V} {sp : List Span} {ws : List Sum2} {aim : List Rat} (e : Ex H H') (h : GoodIn K H x y z sp ws aim) : GoodIn K H' x y z sp ws aim := ⟨h.box.ex e, h.wish.ex e, h.goal.ex e, h.ok, h.few⟩
def spCkEach (K : PySem.W.Frag) : Sp := fun vs H Q _ => ∃ (y : V) (n : Nat) (ws : List Sum2), vs = [y, .int (n : Int)] ∧ WsV K H y ws ∧ (∀ w ∈ ws, w.1.length = n) ∧ n ≤ 3 ∧ ∀ H', Ex H H' → Q .non H'
def spCkBW (K : PySem.W.Frag) : Sp := fun vs H Q _ => ∃ (x y z : V) (sp : List Span) (ws : List Sum2) (aim : List Rat), vs = [x, y] ∧ GoodIn K H x y z sp ws aim ∧ ∀ H', Ex H H' → Q .non H'
def spCkAim (K : PySem.W.Frag) : Sp := fun vs H Q _ => ∃ (x y z : V) (sp : List Span) (ws : List Sum2) (aim : List Rat), vs = [x, y, z] ∧ GoodIn K H x y z sp ws aim ∧ ∀ H', Ex H H' → Q .non H'
def spSettle (K : PySem.W.Frag) (CM CE : Addr) : Sp := fun vs H Q _ => ∃ (x y z : V) (sp : List Span) (ws : List Sum2) (aim : List Rat), vs = [x, y, z] ∧ GoodIn K H x y z sp ws aim ∧
  (∀ u ms, settleR (boxW sp ++ ws) aim = (some u, ms) → ∀ v H', Ex H H' → MostV K CM H' v u ms → Q v H') ∧ ∀ ms, settleR (boxW sp ++ ws) aim = (none, ms) → ∀ v H', Ex H H' → EmptyV K CE H' v ms → Q v H'
def spInP (K : PySem.W.Frag) : Sp := fun vs H Q _ => ∃ (x y : V) (sp : List Span) (L : Option (List Rat)), vs = [x, y] ∧ BoxV K 6 H x sp ∧ RwN K H y sp.length L ∧ (∀ l, L = some l → XsP l) ∧ ∀ H', Ex H H' → Q (.bl (inO sp L)) H'
def spShowM (K : PySem.W.Frag) (C : Addr) : Sp := fun vs H Q _ => ∃ (v a b x y z : V) (sp : List Span) (ws : List Sum2) (aim : List Rat) (X M : Option (List Rat)), vs = [v, x, y, z] ∧ MostO C H v a b ∧ GoodIn K H x y z sp ws aim ∧ RwN K H a sp.length X ∧ RwN K H b (boxW sp ++ ws).length M ∧
  (∀ l, X = some l → XsP l) ∧ (∀ l, M = some l → MsP (boxW sp ++ ws) l) ∧ ∀ H', Ex H H' → Q (.bl (mostB sp.length (boxW sp ++ ws) aim X M)) H'
def spShowE (K : PySem.W.Frag) (C : Addr) : Sp := fun vs H Q _ => ∃ (v b x y z : V) (sp : List Span) (ws : List Sum2) (aim : List Rat) (M : Option (List Rat)), vs = [v, x, y, z] ∧ EmptyO C H v b ∧ GoodIn K H x y z sp ws aim ∧ RwN K H b (boxW sp ++ ws).length M ∧
  (∀ l, M = some l → MsP (boxW sp ++ ws) l) ∧ ∀ H', Ex H H' → Q (.bl (emptyB sp.length (boxW sp ++ ws) M)) H'
def spAgainst (K : PySem.W.Frag) : Sp := fun vs H Q _ => ∃ (b y : V) (a : Addr) (n : Nat) (asked : List Sum2) (M : Option (List Rat)), vs = [b, y, .ref a] ∧ H a = some (.lst []) ∧ WsV K H y asked ∧ asked ≠ [] ∧ 1 ≤ n ∧ n ≤ 3 ∧ AsP n asked ∧ RwN K H b asked.length M ∧ (∀ l, M = some l → MsP asked l) ∧ ∀ H', Ex H H' → Q (.bl (emptyB n asked M)) H'
def spTrue1 (v : Bool) (C : Addr) : Sp := fun vs H Q _ => ∃ (p dx : Addr) (fs : List (Str × V)), vs = [.ref p] ∧ H p = some (.ins C dx fs) ∧ Q (.bl v) H
def spFalse4 : Sp := fun vs H Q _ => ∃ x y z u : V, vs = [x, y, z, u] ∧ Q (.bl false) H
end Nc
end
section
set_option maxRecDepth 100000
set_option maxHeartbeats 4000000
namespace Nc
open PySem PySem.Spec PyProof.Rows L2 Evl
/-! ### drawn wishes -/
theorem Bd.ov {v D : Nat} {r : Rat} (h : Bd v D r) (D0 : 0 < D) : Ov (v * D) (D : Int) r := by
  have hn := h.num
  obtain ⟨c, hc⟩ := h.2
  have c0 : 0 < c := Nat.pos_of_ne_zero fun z => by
    rw [z, Nat.mul_zero] at hc
    omega
  refine ⟨r.num * (c : Int), ?_, ?_⟩
  · rw [hc, Int.natCast_mul, Rat.divInt_mul_right (by omega), Rat.num_divInt_den]
  · rw [Int.natAbs_mul, Int.natAbs_natCast, hc, ← Nat.mul_assoc]
    exact Nat.mul_le_mul_right c hn
/-- a row and a number of at most 2 ^ 110, over one bottom -/
def Wd (l : List Rat) : Prop := ∃ D : Nat, 0 < D ∧ D < 2 ^ 1480 ∧ BdL (2 ^ 110) D l
theorem Wd.wb {l : List Rat} (h : Wd l) : Wb l := by
  obtain ⟨D, D0, hD, hb⟩ := h
  refine ⟨D, D0, Nat.lt_trans hD (two_lt (by decide)), fun r hr => ((hb r hr).ov D0).mono ?_⟩
  have h1 : 2 ^ 110 * D < 2 ^ 110 * 2 ^ 1480 := Nat.mul_lt_mul_of_pos_left hD (Nat.two_pow_pos _)
  rw [← Nat.pow_add] at h1
  have h2 := two_lt (show 110 + 1480 < 1600 by decide)
  generalize (2 : Nat) ^ 110 * D = a at h1 ⊢
  generalize (2 : Nat) ^ (110 + 1480) = b at h1 h2
  generalize (2 : Nat) ^ 1600 = c at h2 ⊢
  omega
theorem Wd.of {l : List Rat} {v D : Nat} (D0 : 0 < D) (hD : D < 2 ^ 1480) (hv : v ≤ 2 ^ 110) (h : BdL v D l) : Wd l := ⟨D, D0, hD, h.mono hv (Nat.dvd_refl D)⟩
/-- small wishes over n things -/
structure SmW (n : Nat) (w : Sum2) : Prop where
  len : w.1.length = n
  row : BdL 4 6 w.1
  num : Bd 300 36 w.2
theorem SmW.wd {n : Nat} {w : Sum2} (h : SmW n w) : Wd (w.1 ++ [w.2]) := by
  refine .of (v := 300) (D := 36) (by decide) (Nat.lt_trans (by decide : 36 < 2 ^ 6) (two_lt (by decide))) (Nat.le_trans (by decide : 300 ≤ 2 ^ 9) (Nat.pow_le_pow_right (by decide) (by decide))) fun r hr => ?_
  rcases List.mem_append.mp hr with hr | hr
  · exact (h.row r hr).mono (by decide) ⟨6, rfl⟩
  · rw [List.mem_singleton.mp hr]
    exact h.num
/-- wishes of any size -/
def WdW (n : Nat) (w : Sum2) : Prop := w.1.length = n ∧ Wd (w.1 ++ [w.2])
theorem SmW.w {n : Nat} {w : Sum2} (h : SmW n w) : WdW n w := ⟨h.len, h.wd⟩
theorem boxW_wb {sp : List Span} (h : ∀ p ∈ sp, Bd 21 6 p.1 ∧ Bd 21 6 p.2) : ∀ w ∈ boxW sp, Wb (w.1 ++ [w.2]) := by
  have un : ∀ n k, BdL 21 6 (unit n k) := fun n k r hr => by
    obtain ⟨i, _, rfl⟩ := List.mem_map.mp hr
    split
    · exact ⟨⟨by decide +kernel, by decide +kernel⟩, ⟨6, rfl⟩⟩
    · exact bd_zero 21 6
  have wd : ∀ l : List Rat, BdL 21 6 l → Wb l := fun l hl => (Wd.of (v := 21) (D := 6) (by decide) (Nat.lt_trans (by decide : 6 < 2 ^ 6) (two_lt (by decide))) (Nat.le_trans (by decide : 21 ≤ 2 ^ 9) (Nat.pow_le_pow_right (by decide) (by decide))) hl).wb
  intro w hw
  rcases List.mem_append.mp hw with hw | hw
  · obtain ⟨k, hk⟩ := List.mem_iff_getElem?.mp hw
    have kl := (List.getElem?_eq_some_iff.mp hk).1
    rw [hiW_len] at kl
    have hq : sp[k]? = some sp[k] := List.getElem?_eq_getElem kl
    rw [hiW_at hq] at hk
    have e := Option.some.inj hk
    subst e
    exact wd _ (bdl_snoc (un _ _) (h _ (List.mem_of_getElem? hq)).2)
  · obtain ⟨k, hk⟩ := List.mem_iff_getElem?.mp hw
    have kl := (List.getElem?_eq_some_iff.mp hk).1
    rw [loW_len] at kl
    have hq : sp[k]? = some sp[k] := List.getElem?_eq_getElem kl
    rw [loW_at hq] at hk
    have e := Option.some.inj hk
    subst e
    have neg : ∀ {r : Rat}, Bd 21 6 r → Bd 21 6 (-1 * r) := fun {r} hr => by
      rw [show (-1 : Rat) * r = -r by grind]
      exact hr.neg
    refine wd _ (bdl_snoc (fun r hr => ?_) (neg (h _ (List.mem_of_getElem? hq)).1))
    obtain ⟨u, hu, rfl⟩ := List.mem_map.mp hr
    exact neg (un _ _ u hu)
theorem good_in {K : PySem.W.Frag} {H : Hp} {x y z : V} {sp : List Span} {ws : List Sum2} {aim : List Rat} (hb : BoxV K 6 H x sp) (hw : WsV K H y ws) (ha : RowV K H z aim) (al : aim.length = sp.length) (wo : ∀ w ∈ ws, WdW sp.length w) (ao : Wd aim) (few : ws.length ≤ 16) : GoodIn K H x y z sp ws aim := by
  have hb0 := hb
  obtain ⟨_, l1, l3, hbb, _⟩ := hb
  refine ⟨hb0, hw, ha, ⟨by omega, by omega, al.symm, fun w h => by rw [al]; exact (wo w h).1, by omega, fun w h => ?_, ao.wb⟩, few⟩
  rcases List.mem_append.mp h with h | h
  · exact boxW_wb hbb.bd w h
  · exact (wo w h).2.wb
theorem neg_row {n : Nat} {L : List Rat} (h : BdL 4 6 L) (hl : L.length = n) : BdL 4 6 (L.map fun r => -r) ∧ (L.map fun r => -r).length = n := by
  refine ⟨fun r hr => ?_, by rw [List.length_map]; exact hl⟩
  obtain ⟨u, hu, rfl⟩ := List.mem_map.mp hr
  exact (h u hu).neg
theorem wd_neg {l : List Rat} (h : Wd l) : Wd (l.map fun r => -r) := by
  obtain ⟨D, a, b, c⟩ := h
  refine ⟨D, a, b, fun r hr => ?_⟩
  obtain ⟨u, hu, rfl⟩ := List.mem_map.mp hr
  exact (c u hu).neg
theorem wd_zero (n : Nat) : Wd (List.replicate n 0) := by
  refine .of (v := 1) (D := 1) (by decide) (Nat.one_lt_two_pow (by decide)) (Nat.one_le_two_pow) fun r hr => ?_
  rw [(List.mem_replicate.mp hr).2]
  exact bd_zero 1 1
theorem wd_small {L : List Rat} (h : BdL 4 6 L) : Wd L := .of (v := 4) (D := 6) (by decide) (Nat.lt_trans (by decide : 6 < 2 ^ 6) (two_lt (by decide))) (Nat.le_trans (by decide : 4 ≤ 2 ^ 9) (Nat.pow_le_pow_right (by decide) (by decide))) h
/-- a negative fraction, as it is written -/
theorem neg_fr {K : PySem.W.Frag} {H : Hp} {p : Addr} {r : Rat} (q : SqT K H p [.int (0 - r.num), .int (r.den : Int)]) : FrV K H (.ref p) (-r) := ⟨p, rfl, by
  rw [Rat.neg_num, Rat.neg_den]
  rwa [Int.zero_sub] at q⟩
/-- a spot of corners of a drawn box -/
theorem xs_of {L : List Rat} {v D : Nat} (D0 : 0 < D) (hv : v * D ≤ 2 ^ 4900) (hD : D < 2 ^ 4900) (h : BdL v D L) : XsP L := ⟨(D : Int), by omega, by rw [Int.natAbs_natCast]; exact hD, fun r hr => ((h r hr).ov D0).mono hv⟩
theorem xs_21 {L : List Rat} (h : BdL 21 6 L) : XsP L := xs_of (v := 21) (D := 6) (by decide) (Nat.le_trans (by decide : 21 * 6 ≤ 2 ^ 9) (Nat.pow_le_pow_right (by decide) (by decide))) (Nat.lt_trans (by decide : 6 < 2 ^ 6) (two_lt (by decide))) h
theorem weigh_corner {L x : List Rat} (h : BdL 4 6 L) (hx : BdL 21 6 x) (hl : L.length ≤ 3) : Bd 300 36 (weighs (L.zip x)) := by
  have b := bd_weighs (v := 4) (u := 21) (D := 6) (E := 6) (by decide) (l := L.zip x) fun p hp => ⟨h _ (List.of_mem_zip hp).1, hx _ (List.of_mem_zip hp).2⟩
  refine b.mono ?_ (Nat.dvd_refl _)
  have : (L.zip x).length ≤ 3 := by rw [List.length_zip]; omega
  have := Nat.mul_le_mul_right (4 * 21) this
  omega
/-! great numbers put in -/
/-- a fraction of up to thirty figures, or of four hundred, below one -/
def Gr (r : Rat) : Prop := ∃ b : Nat, 0 < b ∧ b < 2 ^ 100 ∧ Bd (2 ^ 100) b r
def Gt (r : Rat) : Prop := ∃ b : Nat, 0 < b ∧ b < 2 ^ 1330 ∧ Bd 1 b r
/-- two numbers put into a wish, at most one of them of four hundred figures -/
def Two (r s : Rat) : Prop := ∃ a b : Nat, 0 < a ∧ 0 < b ∧ a * b < 2 ^ 1430 ∧ Bd (2 ^ 100) a r ∧ Bd (2 ^ 100) b s
theorem p100 : (1 : Nat) ≤ 2 ^ 100 := Nat.one_le_two_pow
theorem two_gg {r s : Rat} (h : Gr r) (g : Gr s) : Two r s := by
  obtain ⟨a, a0, al, ha⟩ := h
  obtain ⟨b, b0, bl, hb⟩ := g
  refine ⟨a, b, a0, b0, ?_, ha, hb⟩
  refine Nat.lt_trans (Nat.mul_lt_mul'' al bl) ?_
  rw [← Nat.pow_add]
  exact two_lt (by decide)
theorem two_gt {r s : Rat} (h : Gr r) (g : Gt s) : Two r s := by
  obtain ⟨a, a0, al, ha⟩ := h
  obtain ⟨b, b0, bl, hb⟩ := g
  refine ⟨a, b, a0, b0, ?_, ha, hb.mono p100 (Nat.dvd_refl _)⟩
  have := Nat.mul_lt_mul'' al bl
  rwa [← Nat.pow_add] at this
theorem Two.comm {r s : Rat} (h : Two r s) : Two s r := by
  obtain ⟨a, b, a0, b0, l, ha, hb⟩ := h
  exact ⟨b, a, b0, a0, by rwa [Nat.mul_comm], hb, ha⟩
theorem wd_put {n k : Nat} {w : Sum2} {r s : Rat} (h : SmW n w) (t : Two r s) (hk : k < n) : WdW n (w.1.take k ++ [r] ++ w.1.drop (k + 1), s) := by
  obtain ⟨a, b, a0, b0, l, ha, hb⟩ := t
  have hl := h.len
  refine ⟨by simp; omega, 6 * (a * b), Nat.mul_pos (by decide) (Nat.mul_pos a0 b0), ?_, fun u hu => ?_⟩
  · have h1 : 6 * (a * b) < 6 * 2 ^ 1430 := Nat.mul_lt_mul_of_pos_left l (by decide)
    have h2 : (6 : Nat) * 2 ^ 1430 ≤ 2 ^ 3 * 2 ^ 1430 := Nat.mul_le_mul_right _ (by decide)
    rw [← Nat.pow_add] at h2
    exact Nat.lt_trans (Nat.lt_of_lt_of_le h1 h2) (two_lt (by decide))
  · have p110 : (2 : Nat) ^ 100 ≤ 2 ^ 110 := Nat.pow_le_pow_right (by decide) (by decide)
    have p4 : 4 ≤ (2 : Nat) ^ 110 := Nat.le_trans (by decide : 4 ≤ 2 ^ 2) (Nat.pow_le_pow_right (by decide) (by decide))
    have small : ∀ v ∈ w.1, Bd (2 ^ 110) (6 * (a * b)) v := fun v hv => (h.row v hv).mono p4 ⟨a * b, rfl⟩
    have hr : Bd (2 ^ 110) (6 * (a * b)) r := ha.mono p110 ⟨6 * b, by rw [Nat.mul_left_comm]⟩
    have hs : Bd (2 ^ 110) (6 * (a * b)) s := hb.mono p110 ⟨6 * a, by rw [← Nat.mul_assoc, Nat.mul_comm]⟩
    rcases List.mem_append.mp hu with hu | hu
    · rcases List.mem_append.mp hu with hu | hu
      · rcases List.mem_append.mp hu with hu | hu
        · exact small u (List.mem_of_mem_take hu)
        · rw [List.mem_singleton.mp hu]
          exact hr
      · exact small u (List.mem_of_mem_drop hu)
    · rw [List.mem_singleton.mp hu]
      exact hs
theorem wd_aim {n k : Nat} {L : List Rat} {r : Rat} (h : BdL 4 6 L) (hl : L.length = n) (g : Gr r ∨ Gt r) (hk : k < n) : Wd (L.take k ++ [r] ++ L.drop (k + 1)) ∧ (L.take k ++ [r] ++ L.drop (k + 1)).length = n := by
  obtain ⟨b, b0, bl, hb⟩ : ∃ b : Nat, 0 < b ∧ b < 2 ^ 1330 ∧ Bd (2 ^ 100) b r := by
    rcases g with ⟨b, b0, bl, hb⟩ | ⟨b, b0, bl, hb⟩
    · exact ⟨b, b0, Nat.lt_trans bl (two_lt (by decide)), hb⟩
    · exact ⟨b, b0, bl, hb.mono p100 (Nat.dvd_refl _)⟩
  refine ⟨⟨6 * b, Nat.mul_pos (by decide) b0, ?_, fun u hu => ?_⟩, by simp; omega⟩
  · have h1 : 6 * b < 6 * 2 ^ 1330 := Nat.mul_lt_mul_of_pos_left bl (by decide)
    have h2 : (6 : Nat) * 2 ^ 1330 ≤ 2 ^ 3 * 2 ^ 1330 := Nat.mul_le_mul_right _ (by decide)
    rw [← Nat.pow_add] at h2
    exact Nat.lt_trans (Nat.lt_of_lt_of_le h1 h2) (two_lt (by decide))
  · have p110 : (2 : Nat) ^ 100 ≤ 2 ^ 110 := Nat.pow_le_pow_right (by decide) (by decide)
    have p4 : 4 ≤ (2 : Nat) ^ 110 := Nat.le_trans (by decide : 4 ≤ 2 ^ 2) (Nat.pow_le_pow_right (by decide) (by decide))
    have small : ∀ v ∈ L, Bd (2 ^ 110) (6 * b) v := fun v hv => (h v hv).mono p4 ⟨b, rfl⟩
    rcases List.mem_append.mp hu with hu | hu
    · rcases List.mem_append.mp hu with hu | hu
      · exact small u (List.mem_of_mem_take hu)
      · rw [List.mem_singleton.mp hu]
        exact hb.mono p110 ⟨6, by rw [Nat.mul_comm]⟩
    · exact small u (List.mem_of_mem_drop hu)
/-- of three numbers at most one has four hundred figures -/
inductive Three : Rat → Rat → Rat → Prop
  | none {a b c} (ha : Gr a) (hb : Gr b) (hc : Gr c) : Three a b c
  | at0 {a b c} (ha : Gt a) (hb : Gr b) (hc : Gr c) : Three a b c
  | at1 {a b c} (ha : Gr a) (hb : Gt b) (hc : Gr c) : Three a b c
  | at2 {a b c} (ha : Gr a) (hb : Gr b) (hc : Gt c) : Three a b c
theorem Three.two {a b c : Rat} (h : Three a b c) : Two a b ∧ (Gr c ∨ Gt c) := by
  cases h with
  | none ha hb hc => exact ⟨two_gg ha hb, .inl hc⟩
  | at0 ha hb hc => exact ⟨(two_gt hb ha).comm, .inl hc⟩
  | at1 ha hb hc => exact ⟨two_gt ha hb, .inl hc⟩
  | at2 ha hb hc => exact ⟨two_gg ha hb, .inr hc⟩
theorem bd_divInt {t b : Int} {v : Nat} (hb : 0 < b) (h : t.natAbs ≤ v * b.toNat) : Bd v b.toNat (Rat.divInt t b) := by
  have hbn : (b.toNat : Int) = b := by omega
  have hB : 0 < b.toNat := by omega
  have b0 : (0 : Rat) < (b : Rat) := by exact_mod_cast hb
  have e := mulD (t := t) (D := b) (by omega)
  refine ⟨?_, ?_⟩
  · have h1 : t ≤ (v : Int) * b := by
      have : ((v * b.toNat : Nat) : Int) = (v : Int) * b := by rw [Int.natCast_mul, hbn]
      omega
    have h2 : -((v : Int) * b) ≤ t := by
      have : ((v * b.toNat : Nat) : Int) = (v : Int) * b := by rw [Int.natCast_mul, hbn]
      omega
    have h1 := Rat.intCast_le_intCast.mpr h1
    have h2 := Rat.intCast_le_intCast.mpr h2
    rw [← e] at h1 h2
    have cv : (((v : Nat) : Int) : Rat) = ((v : Nat) : Rat) := rfl
    rw [Rat.intCast_mul, cv] at h1
    rw [Rat.intCast_neg, Rat.intCast_mul, cv] at h2
    constructor
    · refine Rat.le_of_mul_le_mul_right ?_ b0
      rw [Rat.neg_mul]
      exact h2
    · exact Rat.le_of_mul_le_mul_right h1 b0
  · have := den_of_div (k := t) (D := b.toNat) hB
    rwa [hbn] at this
end Nc
end
section
set_option maxRecDepth 100000
set_option maxHeartbeats 4000000
namespace Nc
open PySem PySem.Spec PyProof.Rows L2 Evl
/-! C() where __init__ is object's -/
section
variable {X : Cx} {C : Addr} {x : Str} {p pos : Pos}
theorem run_make00 {pins : List (Addr × Obj)} {σ : L2.St} {H : Hp} {s : Shared} {Q : VK} (hmk : PySem.W.makesIn X.K C = true) (hi : PySem.W.findIn X.K (.ref C) "__init__" = some (some (.builtin "object.__init__"))) (I : Inv X pins σ H s)
    (h : ∀ x dx, H x = none → H dx = none → dx ≠ x → Q (.ref x) (upd (upd H dx (.own x)) x (.ins C dx []))) : wpAny (model X.prog X.w) X.A (call (.ref C) []) (EP X pins σ Q) X.xe s := by
  have hq := h (s.heap.objs.size + 1) s.heap.objs.size (I.hok.fresh (Nat.le_succ _)) (I.hok.fresh (Nat.le_refl _)) (Nat.ne_of_lt (Nat.lt_succ_self _))
  have I2 := Inv.made (C := C) I
  have Y := PySem.W.makes_of (M := model X.prog X.w) I.kIn hmk
  have hx : ((s.heap.push PySem.W.emptyDict).push (PySem.W.instObj C s.heap.objs.size)).get? (s.heap.objs.size + 1) = some (PySem.W.instObj C s.heap.objs.size) := by
    have := Heap.get?_push_size (s.heap.push PySem.W.emptyDict) (o := PySem.W.instObj C s.heap.objs.size) rfl
    rwa [Heap.size_push] at this
  have t1 : PySem.W.Looks (model X.prog X.w) ((s.heap.push PySem.W.emptyDict).push (PySem.W.instObj C s.heap.objs.size)) (typeOf (.ref (s.heap.objs.size + 1))) (.ref C) := (PySem.W.Looks.ld hx).andThen .now
  have t2 : PySem.W.Looks (model X.prog X.w) ((s.heap.push PySem.W.emptyDict).push (PySem.W.instObj C s.heap.objs.size)) (isInstance (.ref (s.heap.objs.size + 1)) (.type "object")) true := t1.andThen (Y.top.keeps fun b o e => Heap.get?_push_of_some _ (Heap.get?_push_of_some _ e))
  refine wpAny_call (make_map0 I.kIn hmk hi (fun self => PySem.W.Looks.of_pure (PySem.W.oi_bind self)) ?_)
  refine codeAny_call_builtin PySem.W.oi_plain PySem.W.entry_oi (@PySem.W.check_slot (model X.prog X.w) _ _ _ "object.__init__" "object" "__init__" (.ref (s.heap.objs.size + 1)) [] [] _ PySem.W.oi_kind PySem.W.oi_split t2 (PySem.W.oi_args (.ref (s.heap.objs.size + 1))) ?_)
  rw [PySem.W.oi_run]
  exact wpAny_pure (And.intro rfl (show EP X pins σ Q _ _ from ⟨V.ref (s.heap.objs.size + 1), _, I2, rfl, hq⟩))
def tMake00 (C : Addr) : TE := fun σ H Q => ∀ x dx, H x = none → H dx = none → dx ≠ x → Q (.ref x) (upd (upd H dx (.own x)) x (.ins C dx []))
theorem pe_make00 (hmk : PySem.W.makesIn X.K C = true) (hi : PySem.W.findIn X.K (.ref C) "__init__" = some (some (.builtin "object.__init__"))) (kp : PySem.W.keepIn X.K (.ref C) = true) (hg : Gl X x) (hm : X.mg x = some (.ref C))
    (hdb : (x == ("__debug__" : Str)) = false := by decide) : PE X (.Call (.Name x p) [] [] pos) (tMake00 C) := by
  refine ⟨fun pins s σ H Q I h => ?_⟩
  refine wpAny_Call_Name_kw (ld_glob I hg hm ?_ hdb)
  exact PySem.W.callWith_K0 I.kIn kp (run_make00 hmk hi I h)
end
/-! x not in (a, b): data -/
def rNotInT (K : PySem.W.Frag) : R2 := fun x y H Q => ∃ d ds, Dp K H x d ∧ Dp K H y (.tuple ds) ∧ d.plain = true ∧ PyData.plainAll ds = true ∧ d.depth ≤ 60 ∧ Q (.bl (!ds.any fun z => PyData.eqv z d)) H
theorem op_notInT {X : Cx} (hu : X.A.units + 64 < cLine) : OpR X (compareOp .NotIn) (rNotInT X.K) := by
  intro pins s σ H x y v u Q I rx ry h
  obtain ⟨d, ds, hd, he, sd, se, dd, q⟩ := h
  obtain ⟨as, r1⟩ := Dp.reads I d x v hd rx
  obtain ⟨bs, r2⟩ := Dp.reads I (.tuple ds) y u he ry
  exact SeqAt.notIn_tuple_data r2 r1 se sd (by have := Nat.min_le_right (PyData.depthAll ds) d.depth; omega) ⟨.bl _, H, I, rfl, q⟩
/-- a slice of a list or a tuple, all of it -/
theorem sl_sK {X : Cx} (K : PySem.W.Frag) (h : X.K = K := by rfl) : SlR X (fun x lo hi H Q => rSlE K x lo hi H Q ∨ rSlTE K x lo hi H Q) := by
  subst h
  intro pins s σ H x v vl vu lo hi sl Q I rx hs pl pu h
  rcases h with h | h
  · exact sl_listE pins s σ H x v vl vu lo hi sl Q I rx hs pl pu h
  · exact (sl_tupE X.K) pins s σ H x v vl vu lo hi sl Q I rx hs pl pu h
theorem cut_all {xs : List V} : cutV xs none none = xs := by
  unfold cutV
  simp [HT.sIx]
/-- an object of a class of the text -/
theorem tyO {K : PySem.W.Frag} {C p dx : Addr} {H : Hp} {fs : List (Str × V)} (I : C8.InsC K C) (h : H p = some (.ins C dx fs)) : TyX K H (.ref p) (.ref C) := TyX.base (TyOf.ins h I.cl I.ha I.hn I.htk I.hm)
theorem kit_any2 {K : PySem.W.Frag} {t a b : Value} (h1 : PySem.W.kitOne K t a = some false) (h2 : PySem.W.kitOne K t b = some false) : PySem.W.kitAny K t [a, b] = some false := by
  unfold PySem.W.kitAny
  rw [h1]
  show PySem.W.kitAny K t [b] = some false
  unfold PySem.W.kitAny
  rw [h2]
  rfl
end Nc
end
section
set_option maxRecDepth 100000
set_option maxHeartbeats 4000000
namespace Nc
open PySem PySem.Spec PyProof.Rows L2 Evl
/-! what settling tells, of either kind -/
def AnsV (K : PySem.W.Frag) (CM CE : Addr) (H : Hp) (v : V) : Option (List Rat) × List Rat → Prop
  | (some x, ms) => MostV K CM H v x ms
  | (none, ms) => EmptyV K CE H v ms
theorem AnsV.ex {K : PySem.W.Frag} {CM CE : Addr} {H H' : Hp} {v : V} (e : Ex H H') : ∀ {r : Option (List Rat) × List Rat}, AnsV K CM CE H v r → AnsV K CM CE H' v r
  | (some _, _), h => MostV.ex e h
  | (none, _), h => EmptyV.ex e h
def tdD : Option (List Rat) × List Rat → PyData
  | (some x, ms) => .tuple [.str ("most" : Str), .tuple (x.map fd), .tuple (ms.map fd)]
  | (none, ms) => .tuple [.str ("empty" : Str), .tuple (ms.map fd)]
theorem lay_ad : ∀ r, (tdD r).canLay0 = true
  | (some x, ms) => by
    have h1 : (PyData.str ("most" : Str)).canLay0 = true := by decide +kernel
    show ((PyData.str ("most" : Str)).canLay0 && ((PyData.tuple (x.map fd)).canLay0 && ((PyData.tuple (ms.map fd)).canLay0 && true))) = true
    rw [h1, lay_row, lay_row]
    rfl
  | (none, ms) => by
    have h1 : (PyData.str ("empty" : Str)).canLay0 = true := by decide +kernel
    show ((PyData.str ("empty" : Str)).canLay0 && ((PyData.tuple (ms.map fd)).canLay0 && true)) = true
    rw [h1, lay_row]
    rfl
theorem depth_fds (rs : List Rat) : PyData.depth (.tuple (rs.map fd)) ≤ 2 := by
  have h := depthAll_fd rs
  show PyData.depthAll (rs.map fd) + 1 ≤ 2
  omega
theorem shaped_ad (r : Option (List Rat) × List Rat) : SeqAt.shaped (tdD r) = true := by
  unfold SeqAt.shaped
  rw [lay_ad, Bool.true_and]
  refine decide_eq_true ?_
  match r with
  | (some x, ms) =>
    have h1 := depth_fds x
    have h2 := depth_fds ms
    show max 0 (max (PyData.depth (.tuple (x.map fd))) (max (PyData.depth (.tuple (ms.map fd))) 0)) + 1 ≤ 64
    omega
  | (none, ms) =>
    have h2 := depth_fds ms
    show max 0 (max (PyData.depth (.tuple (ms.map fd))) 0) + 1 ≤ 64
    omega
theorem eqv_ad (r : Option (List Rat) × List Rat) : PyData.eqv (tdD r) (tdD r) = true := SeqAt.eqv_refl _ (lay_ad r)
/-- the five classes -/
structure ADefs (K : PySem.W.Frag) (mg : Str → Option Value) (CM CE CI CO CS : Addr) : Prop where
  IM : C8.InsC K CM
  IE : C8.InsC K CE
  TS : Cls K CS
  nMs : NoAttr K CM "spot"
  nMm : NoAttr K CM "multiples"
  nEm : NoAttr K CE "multiples"
  gM : mg "Most" = some (.ref CM)
  gE : mg "Empty" = some (.ref CE)
  gI : mg "Inside" = some (.ref CI)
  gO : mg "Outside" = some (.ref CO)
  gS : mg "Settled" = some (.ref CS)
  kME : PySem.W.kitOne K (.ref CM) (.ref CE) = some false
  kMI : PySem.W.kitOne K (.ref CM) (.ref CI) = some false
  kMO : PySem.W.kitOne K (.ref CM) (.ref CO) = some false
  kMS : PySem.W.kitOne K (.ref CM) (.ref CS) = some true
  kEM : PySem.W.kitOne K (.ref CE) (.ref CM) = some false
  kEI : PySem.W.kitOne K (.ref CE) (.ref CI) = some false
  kEO : PySem.W.kitOne K (.ref CE) (.ref CO) = some false
  kES : PySem.W.kitOne K (.ref CE) (.ref CS) = some true
theorem ADefs.obj {K : PySem.W.Frag} {mg : Str → Option Value} {CM CE CI CO CS : Addr} (A : ADefs K mg CM CE CI CO CS) {H : Hp} {v : V} : ∀ {r : Option (List Rat) × List Rat}, AnsV K CM CE H v r → ∃ p C dx fs, v = .ref p ∧ H p = some (.ins C dx fs) ∧ C8.InsC K C ∧
    PySem.W.kitOne K (.ref C) (.ref CM) = some r.1.isSome ∧ PySem.W.kitOne K (.ref C) (.ref CE) = some (!r.1.isSome) ∧ PySem.W.kitOne K (.ref C) (.ref CI) = some false ∧ PySem.W.kitOne K (.ref C) (.ref CO) = some false ∧ PySem.W.kitOne K (.ref C) (.ref CS) = some true
  | (some x, ms), ⟨p, dx, a, b, e, hp, _, _⟩ => ⟨p, CM, dx, _, e, hp, A.IM, A.IM.me, A.kME, A.kMI, A.kMO, A.kMS⟩
  | (none, ms), ⟨p, dx, b, e, hp, _⟩ => ⟨p, CE, dx, _, e, hp, A.IE, A.kEM, A.IE.me, A.kEI, A.kEO, A.kES⟩
def spMost19 (K : PySem.W.Frag) : Sp := fun vs H Q _ => ∃ (x y z a b : V) (sp : List Span) (ws : List Sum2) (aim : List Rat) (X M : Option (List Rat)), vs = [x, y, z, a, b] ∧ GoodIn K H x y z sp ws aim ∧ RwN K H a sp.length X ∧ RwN K H b (boxW sp ++ ws).length M ∧
  (∀ l, X = some l → XsP l) ∧ (∀ l, M = some l → MsP (boxW sp ++ ws) l) ∧ ∀ H', Ex H H' → Q (.bl (mostB sp.length (boxW sp ++ ws) aim X M)) H'
def spNone19 (K : PySem.W.Frag) : Sp := fun vs H Q _ => ∃ (x y z b : V) (sp : List Span) (ws : List Sum2) (aim : List Rat) (M : Option (List Rat)), vs = [x, y, b] ∧ GoodIn K H x y z sp ws aim ∧ RwN K H b (boxW sp ++ ws).length M ∧
  (∀ l, M = some l → MsP (boxW sp ++ ws) l) ∧ ∀ H', Ex H H' → Q (.bl (emptyB sp.length (boxW sp ++ ws) M)) H'
def spTold19 (K : PySem.W.Frag) (CM CE : Addr) : Sp := fun vs H Q _ => ∃ (v : V) (r : Option (List Rat) × List Rat), vs = [v] ∧ AnsV K CM CE H v r ∧ ∀ u H', Ex H H' → Dp K H' u (tdD r) → Q u H'
def spKinds19 (K : PySem.W.Frag) (CM CE : Addr) : Sp := fun vs H Q _ => ∃ (v : V) (r : Option (List Rat) × List Rat), vs = [v] ∧ AnsV K CM CE H v r ∧ ∀ H', Ex H H' → Q (.bl r.1.isSome) H'
/-- of what is told, the truths -/
theorem told_ok {sp : List Span} {ws : List Sum2} {aim : List Rat} (ok : AskOk sp ws aim) :
    (∃ x ms, settleR (boxW sp ++ ws) aim = (some x, ms) ∧ x.length = sp.length ∧ ms.length = (boxW sp ++ ws).length ∧ XsP x ∧ MsP (boxW sp ++ ws) ms ∧ mostB sp.length (boxW sp ++ ws) aim (some x) (some ms) = true) ∨
    ∃ ms, settleR (boxW sp ++ ws) aim = (none, ms) ∧ ms.length = (boxW sp ++ ws).length ∧ MsP (boxW sp ++ ws) ms ∧ emptyB sp.length (boxW sp ++ ws) (some ms) = true := by
  have sl := ok.sl
  rcases settle_all ok with ⟨x, ms, e, m, a, b⟩ | ⟨ms, e, m, b⟩
  · exact .inl ⟨x, ms, e, by rw [sl]; exact m.xl, m.ml, a.xs, b.ms, by rw [sl]; exact most_b ok m⟩
  · exact .inr ⟨ms, e, m.ml, b.ms, by rw [sl]; exact empty_b ok m⟩
theorem no_sm {v w : V} {m : Str} (h : ¬ m = "spot") (h2 : ¬ m = "multiples") : List.lookup m [(("spot" : Str), v), (("multiples" : Str), w)] = none := by
  have qw : (m == ("spot" : Str)) = false := by simpa using h
  have qw2 : (m == ("multiples" : Str)) = false := by simpa using h2
  simp [List.lookup, qw, qw2]
theorem no_ms {v : V} {m : Str} (h : ¬ m = "multiples") : List.lookup m [(("multiples" : Str), v)] = none := by
  have qw : (m == ("multiples" : Str)) = false := by simpa using h
  simp [List.lookup, qw]
section
variable {K : PySem.W.Frag} {H H' : Hp}
mutual
theorem dp_ex (e : Ex H H') : ∀ {v : V} {d : PyData}, Dp K H v d → Dp K H' v d
  | _, _, .non => .non
  | _, _, .bl b => .bl b
  | _, _, .int i => .int i
  | _, _, .str x => .str x
  | _, _, .lst q a => .lst (sqX_ex (c := false) e q) (dps_ex e a)
  | _, _, .tup q a => .tup (ex_t e q) (dps_ex e a)
theorem dps_ex (e : Ex H H') : ∀ {vs : List V} {ds : List PyData}, DpAll K H vs ds → DpAll K H' vs ds
  | _, _, .nil => .nil
  | _, _, .cons a t => .cons (dp_ex e a) (dps_ex e t)
end
end
end Nc
end
section
set_option maxRecDepth 100000
set_option maxHeartbeats 4000000
/-! k20: no corner is better; where none keeps all, none is told. -/
namespace Nc
open PySem PySem.Spec PyProof.Rows L2 Evl
/-! multiples bound -/
theorem sum_bound {n : Nat} {c : List Rat} (cl : c.length = n) : ∀ (l : List (Sum2 × Rat)) (t : Sum2), t.1.length = n → weighs (t.1.zip c) ≤ t.2 → (∀ q ∈ l, q.1.1.length = n ∧ 0 ≤ q.2 ∧ weighs (q.1.1.zip c) ≤ q.1.2) → weighs ((l.foldl addS t).1.zip c) ≤ (l.foldl addS t).2
  | [], t, _, h, _ => h
  | q :: l, t, tl, h, hq => by
    obtain ⟨ql, q0, qk⟩ := hq q (by simp)
    refine sum_bound cl l (addS t q) (addS_len tl ql) ?_ fun r hr => hq r (by simp [hr])
    have e : weighs ((addS t q).1.zip c) = weighs (t.1.zip c) + q.2 * weighs (q.1.1.zip c) := by
      show weighs (((t.1.zip (q.1.1.map fun x => q.2 * x)).map fun p => p.1 + p.2).zip c) = _
      rw [weighs_add _ _ _ (by rw [List.length_map]; omega), weighs_mul]
    rw [e]
    have := Rat.mul_le_mul_of_nonneg_left qk q0
    show weighs (t.1.zip c) + _ ≤ t.2 + q.2 * q.1.2
    exact Rat.le_trans (Rat.add_le_add_right.mpr h) (Rat.add_le_add_left.mpr this)
theorem sumL_bound {n : Nat} {asked : List Sum2} {ms c : List Rat} (cl : c.length = n) (al : ∀ w ∈ asked, w.1.length = n) (nn : nnB ms = true) (kc : keepB asked c = true) : weighs ((sumL n (asked.zip ms)).1.zip c) ≤ (sumL n (asked.zip ms)).2 := by
  unfold nnB at nn
  unfold keepB at kc
  rw [List.all_eq_true] at nn kc
  have z0 : weighs ((List.replicate n (0 : Rat)).zip c) ≤ 0 := by
    rw [weighs_reps]
    exact Rat.le_refl
  refine sum_bound cl _ (List.replicate n 0, 0) (by simp) z0 fun q hq => ?_
  have hm := List.of_mem_zip hq
  exact ⟨al _ hm.1, Rat.num_nonneg.mp (of_decide_eq_true (nn _ hm.2)), of_decide_eq_true (kc _ hm.1)⟩
theorem most_best {n : Nat} {asked : List Sum2} {aim x ms c : List Rat} (cl : c.length = n) (al : ∀ w ∈ asked, w.1.length = n) (h : mostB n asked aim (some x) (some ms) = true) (kc : keepB asked c = true) : weighs (aim.zip c) ≤ weighs (aim.zip x) := by
  have h : (nnB ms && keepB asked x && decide (sumL n (asked.zip ms) = (aim, weighs (aim.zip x)))) = true := h
  rw [Bool.and_eq_true, Bool.and_eq_true] at h
  obtain ⟨⟨h1, _⟩, h3⟩ := h
  have b := sumL_bound cl al h1 kc
  rw [of_decide_eq_true h3] at b
  exact b
theorem most_keeps {n : Nat} {asked : List Sum2} {aim x ms : List Rat} (h : mostB n asked aim (some x) (some ms) = true) : keepB asked x = true := by
  have h : (nnB ms && keepB asked x && decide (sumL n (asked.zip ms) = (aim, weighs (aim.zip x)))) = true := h
  rw [Bool.and_eq_true, Bool.and_eq_true] at h
  exact h.1.2
theorem empty_none {n : Nat} {asked : List Sum2} {ms c : List Rat} (cl : c.length = n) (al : ∀ w ∈ asked, w.1.length = n) (h : emptyB n asked (some ms) = true) : keepB asked c = false := by
  have h : (nnB ms && (decide ((sumL n (asked.zip ms)).1 = List.replicate n 0) && decide ((sumL n (asked.zip ms)).2.num < 0))) = true := h
  rw [Bool.and_eq_true, Bool.and_eq_true] at h
  obtain ⟨h1, h2, h3⟩ := h
  cases hk : keepB asked c with
  | false => rfl
  | true =>
    exfalso
    have b := sumL_bound cl al h1 hk
    rw [of_decide_eq_true h2, weighs_reps] at b
    have h3 := of_decide_eq_true h3
    have := Rat.num_nonneg.mpr b
    omega
/-! corners, each of so many places -/
theorem corn_len {n : Nat} (h1 : 1 ≤ n) (h2 : n ≤ 2) {rows : List Sum2} : ∀ {k : Nat} {x : List Rat}, x ∈ cornTo n rows k → x.length = n
  | 0, x, h => by cases h
  | k + 1, x, h => by
    rw [cornTo] at h
    rcases List.mem_append.mp h with h | h
    · exact corn_len h1 h2 h
    · unfold cornAt at h
      cases hz : rows[k]? with
      | none => rw [hz] at h; cases h
      | some z =>
        rw [hz] at h
        simp only at h
        by_cases e : n = 1
        · rw [if_pos e] at h
          by_cases e0 : cf z 0 = 0
          · rw [if_pos e0] at h
            cases h
          · rw [if_neg e0] at h
            rw [List.mem_singleton.mp h, e]
            rfl
        · rw [if_neg e] at h
          obtain ⟨y, _, hy⟩ := List.mem_filterMap.mp h
          unfold meetR at hy
          split at hy
          · cases hy
          · rw [← Option.some.inj hy]
            show 2 = n
            omega
/-! sizes -/
structure RowS (n : Nat) (z : Sum2) : Prop where
  len : z.1.length = n
  row : SzL 15 6 z.1
  num : Sz 15 6 z.2
theorem RowS.cf {n : Nat} {z : Sum2} (h : RowS n z) (k : Nat) : Sz 15 6 (cf z k) := by
  unfold Nc.cf
  rw [List.getD_eq_getElem?_getD]
  cases hk : z.1[k]? with
  | none => exact sz_zero.mono (by decide) (by decide)
  | some r => exact h.row r (List.mem_of_getElem? hk)
theorem SmW.rs {n : Nat} {w : Sum2} (h : SmW n w) : RowS n w := ⟨h.len, fun r hr => ((h.row r hr).sz (k := 2) (b := 6) (by decide) (by decide) (by decide)).mono (by decide) (by decide), (h.num.sz (k := 9) (b := 6) (by decide) (by decide) (by decide)).mono (by decide) (by decide)⟩
theorem Sz.negs {n d : Nat} {r : Rat} (h : Sz n d r) : Sz n d (-r) := by
  refine ⟨?_, ?_⟩
  · rw [Rat.neg_num, Int.natAbs_neg]
    exact h.1
  · rw [Rat.neg_den]
    exact h.2
theorem sz_sub {n d m e N : Nat} {r s : Rat} (hr : Sz n d r) (hs : Sz m e s) (h1 : n + e ≤ N := by omega) (h2 : m + d ≤ N := by omega) : Sz (N + 1) (d + e) (r - s) := by
  rw [Rat.sub_eq_add_neg]
  exact sz_add hr hs.negs h1 h2
theorem subV_is (r s : Rat) : Rat.divInt (r.num * (s.den : Int) - s.num * (r.den : Int)) ((r.den : Int) * (s.den : Int)) = r - s := by
  have h := add_is r (-s)
  rw [Rat.neg_num, Rat.neg_den] at h
  rw [Rat.sub_eq_add_neg, ← h]
  congr 1
  rw [Int.neg_mul]
  omega
theorem num_is (r : Rat) : r * ((r.den : Int) : Rat) = ((r.num : Int) : Rat) := by
  have h1 := den_pos r
  have := mulD (t := r.num) (D := (r.den : Int)) (by omega)
  rwa [Rat.num_divInt_den] at this
theorem ratioV_is {r s : Rat} {t D : Int} {ε : Int} (hs : s ≠ 0) (he : ε = 1 ∨ ε = -1) (ht : t = ε * (r.num * (s.den : Int))) (hD : D = ε * ((r.den : Int) * s.num)) : Rat.divInt t D = r / s := by
  have h1 := den_pos r
  have h2 := den_pos s
  have s0 : s.num ≠ 0 := fun z => hs (Rat.num_eq_zero.mp z)
  have e0 : ε ≠ 0 := by omega
  have D0 : D ≠ 0 := by
    rw [hD]
    exact Int.mul_ne_zero e0 (Int.mul_ne_zero (by omega) s0)
  symm
  refine div_of hs ?_
  have c1 := mulD (t := t) (D := D) D0
  have r1 := num_is r
  have s1 := num_is s
  generalize Rat.divInt t D = c at c1 ⊢
  refine eq_of_mul (c := (ε : Rat) * (((r.den : Int) : Rat) * ((s.den : Int) : Rat))) ?_ ?_
  · exact fun z => by
      rcases Rat.mul_eq_zero.mp z with z | z
      · exact cast_ne e0 z
      · rcases Rat.mul_eq_zero.mp z with z | z
        · exact cast_ne (by omega : (r.den : Int) ≠ 0) z
        · exact cast_ne (by omega : (s.den : Int) ≠ 0) z
  · rw [hD, ht] at c1
    simp only [Rat.intCast_mul] at c1
    rw [← r1, ← s1] at c1
    grind
theorem szV_ratio {r s : Rat} {n d m e : Nat} (hs : s ≠ 0) (hr : Sz n d r) (h : Sz m e s) : Sz (n + e) (d + m) (r / s) := by
  have s0 : s.num ≠ 0 := fun z => hs (Rat.num_eq_zero.mp z)
  have h1 := den_pos r
  rw [← ratioV_is (ε := 1) (r := r) hs (.inl rfl) (by rw [Int.one_mul]) (by rw [Int.one_mul])]
  exact sz_divZ (Int.mul_ne_zero (by omega) s0) (lt_mul hr.1 h.den) (lt_mul hr.den h.1)
/-! promises -/
def spMinusV (K : PySem.W.Frag) : Sp := fun vs H Q _ => ∃ (x y : V) (r s : Rat) (n d m e : Nat), vs = [x, y] ∧ FrV K H x r ∧ FrV K H y s ∧ Sz n d r ∧ Sz m e s ∧ (0 < n ∧ 0 < d ∧ 0 < m ∧ 0 < e ∧ d + e ≤ 8900 ∧ n + m + d + e ≤ 90000000) ∧ ∀ v H', Ex H H' → FrV K H' v (r - s) → Q v H'
def spRatioV (K : PySem.W.Frag) : Sp := fun vs H Q _ => ∃ (x y : V) (r s : Rat) (n d m e : Nat), vs = [x, y] ∧ FrV K H x r ∧ FrV K H y s ∧ s ≠ 0 ∧ Sz n d r ∧ Sz m e s ∧ (0 < n ∧ 0 < d ∧ 0 < m ∧ 0 < e ∧ d + m ≤ 8900 ∧ n + m + d + e ≤ 90000000) ∧ ∀ v H', Ex H H' → FrV K H' v (r / s) → Q v H'
/-- a spot, or None -/
def MtV (K : PySem.W.Frag) (H : Hp) (v : V) : Option (List Rat) → Prop
  | none => v = .non
  | some l => RowV K H v l
theorem MtV.ex {K : PySem.W.Frag} {H H' : Hp} {v : V} (e : Ex H H') : ∀ {o : Option (List Rat)}, MtV K H v o → MtV K H' v o
  | none, h => h
  | some _, h => RowV.ex e h
def spMeet (K : PySem.W.Frag) : Sp := fun vs H Q _ => ∃ (x y : V) (z w : Sum2), vs = [x, y] ∧ SumV K H x z ∧ SumV K H y w ∧ RowS 2 z ∧ RowS 2 w ∧ ∀ v H', Ex H H' → MtV K H' v (meetR z w) → Q v H'
def spCorners (K : PySem.W.Frag) : Sp := fun vs H Q _ => ∃ (a : Addr) (xs : List V) (n : Nat) (rows : List Sum2), vs = [.ref a, .int (n : Int)] ∧ SqL K H a xs ∧ Paired (SumV K H) xs rows ∧ 1 ≤ n ∧ n ≤ 2 ∧ (∀ z ∈ rows, RowS n z) ∧ rows.length ≤ 100 ∧
  ∀ F ys H', Ex H H' → H' F = some (.lst ys) → Paired (RowV K H') ys (cornTo n rows rows.length) → Q (.ref F) H'
/-- corners are of small sizes -/
theorem corn_sz {n : Nat} (h2 : n ≤ 2) {rows : List Sum2} (hz : ∀ z ∈ rows, RowS n z) : ∀ {k : Nat} {x : List Rat}, x ∈ cornTo n rows k → SzL 70 70 x
  | 0, x, h => by cases h
  | k + 1, x, h => by
    rw [cornTo] at h
    rcases List.mem_append.mp h with h | h
    · exact corn_sz h2 hz h
    · unfold cornAt at h
      cases hk : rows[k]? with
      | none => rw [hk] at h; cases h
      | some z =>
        rw [hk] at h
        have sz := hz z (List.mem_of_getElem? hk)
        simp only at h
        by_cases e : n = 1
        · rw [if_pos e] at h
          by_cases e0 : cf z 0 = 0
          · rw [if_pos e0] at h
            cases h
          · rw [if_neg e0] at h
            rw [List.mem_singleton.mp h]
            intro r hr
            rw [List.mem_singleton.mp hr]
            exact (szV_ratio e0 sz.num (sz.cf 0)).mono (by decide) (by decide)
        · rw [if_neg e] at h
          obtain ⟨y, hy0, hy⟩ := List.mem_filterMap.mp h
          have sy := hz y (List.mem_of_mem_take hy0)
          unfold meetR at hy
          split at hy
          · cases hy
          · rename_i hd
            rw [← Option.some.inj hy]
            have pr : ∀ {a b c d : Rat}, Sz 15 6 a → Sz 15 6 b → Sz 15 6 c → Sz 15 6 d → Sz 43 24 (a * b - c * d) := fun ha hb hc hd => (sz_sub (N := 42) (sz_mul ha hb) (sz_mul hc hd)).mono (by decide) (by decide)
            have dd := pr (sz.cf 0) (sy.cf 1) (sz.cf 1) (sy.cf 0)
            intro r hr
            simp only [List.mem_cons, List.not_mem_nil, or_false] at hr
            rcases hr with rfl | rfl
            · exact (szV_ratio hd (pr sz.num (sy.cf 1) (sz.cf 1) sy.num) dd).mono (by decide) (by decide)
            · exact (szV_ratio hd (pr (sz.cf 0) sy.num sz.num (sy.cf 0)) dd).mono (by decide) (by decide)
theorem xs_small {x : List Rat} (h : SzL 70 70 x) (hl : x.length ≤ 2) : XsP x := by
  have two : ∀ a b : Rat, Sz 70 70 a → Sz 70 70 b → XsP [a, b] := by
    intro a b ha hb
    have a1 := den_pos a
    have b1 := den_pos b
    refine ⟨(a.den : Int) * (b.den : Int), Int.mul_pos a1 b1, Nat.lt_of_lt_of_le (lt_mul ha.den hb.den) (Nat.pow_le_pow_right (by decide) (by decide)), fun r hr => ?_⟩
    simp only [List.mem_cons, List.not_mem_nil, or_false] at hr
    have up : ∀ {t : Int} {u : Int}, t.natAbs < 2 ^ 70 → u.natAbs < 2 ^ 70 → (t * u).natAbs ≤ 2 ^ 4900 := fun h1 h2 => Nat.le_of_lt (Nat.lt_of_lt_of_le (lt_mul h1 h2) (Nat.pow_le_pow_right (by decide) (by decide)))
    rcases hr with rfl | rfl
    · exact ⟨r.num * (b.den : Int), by rw [Rat.divInt_mul_right (by omega), Rat.num_divInt_den], up ha.1 hb.den⟩
    · refine ⟨r.num * (a.den : Int), ?_, up hb.1 ha.den⟩
      rw [Int.mul_comm (a.den : Int), Rat.divInt_mul_right (by omega), Rat.num_divInt_den]
  match x, hl with
  | [], _ => exact ⟨1, by decide, by
      show 1 < 2 ^ 4900
      exact Nat.one_lt_two_pow (by decide), fun r hr => by cases hr⟩
  | [a], _ =>
    obtain ⟨D, d0, d1, d2⟩ := two a a (h a (by simp)) (h a (by simp))
    exact ⟨D, d0, d1, fun r hr => d2 r (by simp at hr; simp [hr])⟩
  | [a, b], _ => exact two a b (h a (by simp)) (h b (by simp))
end Nc
end
section
set_option maxRecDepth 100000
set_option maxHeartbeats 4000000
namespace Nc
open PySem PySem.Spec PyProof.Rows L2 Evl
/-! a comprehension that keeps some -/
def Kept {α : Type} (R : Hp → V → α → Prop) (H1 : Hp) (D : Addr) (L : List α) (p : α → Bool) (i : Nat) (H' : Hp) : Prop := Ex H1 H' ∧ ∃ xs, H' D = some (.lst xs) ∧ xs.length ≤ i ∧ Paired (R H') xs ((L.take i).filter p)
section
variable {α : Type} {R : Hp → V → α → Prop} {H1 H' H4 : Hp} {D : Addr} {L : List α} {p : α → Bool} {i : Nat} {v : V} {a : α}
theorem kept0 (hD : H1 D = none) : Kept R H1 D L p 0 (upd H1 D (.lst [])) := ⟨Ex.new hD, [], upd_same, Nat.le_refl _, by simpa using Paired.nil⟩
theorem kept_hit (S : Stays R) (hD : H1 D = none) (b : Kept R H1 D L p i H') (e : Ex H' H4) (hi : L[i]? = some a) (hp : p a = true) (hz : i < 100000) (hv : R H4 v a) :
    ∃ acc, H4 D = some (.lst acc) ∧ acc.length < sizeLine ∧ Kept R H1 D L p (i + 1) (upd H4 D (.lst (acc ++ [v]))) := by
  obtain ⟨e1, xs, hx, hl, pr⟩ := b
  have h4 := e D _ hx
  refine ⟨xs, h4, sz_lt (by omega), Ex.mut (e1.trans e) hD, _, upd_same, by rw [List.length_append]; show xs.length + 1 ≤ i + 1; omega, ?_⟩
  rw [List.take_add_one, hi, List.filter_append]
  have e2 : (Option.toList (some a)).filter p = [a] := by
    show [a].filter p = [a]
    simp [hp]
  rw [e2]
  exact Paired.snoc (pmono (fun _ _ z => S.mt h4 (S.ex e z)) pr) (S.mt h4 hv)
theorem kept_miss (S : Stays R) (b : Kept R H1 D L p i H') (e : Ex H' H4) (hi : L[i]? = some a) (hp : p a = false) : Kept R H1 D L p (i + 1) H4 := by
  obtain ⟨e1, xs, hx, hl, pr⟩ := b
  refine ⟨e1.trans e, xs, e D _ hx, by omega, ?_⟩
  rw [List.take_add_one, hi, List.filter_append]
  have e2 : (Option.toList (some a)).filter p = [] := by
    show [a].filter p = []
    simp [hp]
  rw [e2, List.append_nil]
  exact pmono (fun _ _ z => S.ex e z) pr
theorem kept_end {n : Nat} (hn : n = L.length) (b : Kept R H1 D L p n H') : Ex H1 H' ∧ ∃ xs, H' D = some (.lst xs) ∧ xs.length ≤ n ∧ Paired (R H') xs (L.filter p) := by
  obtain ⟨e1, xs, hx, hl, pr⟩ := b
  refine ⟨e1, xs, hx, hl, ?_⟩
  rwa [hn, List.take_length] at pr
end
theorem stM {K : PySem.W.Frag} : Stays (MtV K) := ⟨fun {H H' v a} e h => MtV.ex e h, fun {H D xs o v a} hD h => by
  cases a with
  | none => exact h
  | some l => exact RowV.mut hD h⟩
theorem somes {K : PySem.W.Frag} {H : Hp} : ∀ {ys : List V} {ms : List (Option (List Rat))}, Paired (MtV K H) ys (ms.filter Option.isSome) → Paired (RowV K H) ys (ms.filterMap id)
  | ys, [], h => by
    have h : Paired (MtV K H) ys [] := h
    cases h
    exact .nil
  | ys, none :: ms, h => somes (ms := ms) h
  | ys, some l :: ms, h => by
    have h : Paired (MtV K H) ys (some l :: ms.filter Option.isSome) := h
    cases h with
    | cons a t => exact .cons a (somes t)
theorem paired2 {α β : Type} {R : α → β → Prop} {xs : List α} {a b : β} (h : Paired R xs [a, b]) : ∃ x y, xs = [x, y] ∧ R x a ∧ R y b := by
  cases h with
  | cons h1 t =>
    cases t with
    | cons h2 t =>
      cases t
      exact ⟨_, _, rfl, h1, h2⟩
theorem paired1 {α β : Type} {R : α → β → Prop} {xs : List α} {a : β} (h : Paired R xs [a]) : ∃ x, xs = [x] ∧ R x a := by
  cases h with
  | cons h1 t =>
    cases t
    exact ⟨_, rfl, h1⟩
def rNN : R2 := fun x y H Q => y = .non ∧ Q (.bl (!decide (x = .non))) H
theorem op_nn {X : Cx} : OpR X (compareOp .IsNot) rNN := op_notN
def spStands (K : PySem.W.Frag) : Sp := fun vs H Q _ => ∃ (a : Addr) (xs : List V) (y : V) (rows : List Sum2) (x : List Rat), vs = [.ref a, y] ∧ SqL K H a xs ∧ Paired (SumV K H) xs rows ∧ RowV K H y x ∧ (∀ z ∈ rows, z.1.length = x.length ∧ Wb (z.1 ++ [z.2])) ∧ x.length ≤ 3 ∧ XsP x ∧ ∀ H', Ex H H' → Q (.bl (keepB rows x)) H'
def spBoxOf (K : PySem.W.Frag) : Sp := fun vs H Q _ => ∃ s : Addr, vs = [.ref s] ∧ St3 s H ∧ ∀ v sp H', Dk s H H' → St3 s H' → BoxV K 6 H' v sp → sp.length ≤ 2 → Q v H'
/-! x not in a list of data -/
def rNotInL (K : PySem.W.Frag) : R2 := fun x y H Q => ∃ d ds, Dp K H x d ∧ Dp K H y (.list ds) ∧ SeqAt.shaped d = true ∧ SeqAt.shaped (.list ds) = true ∧ d.depth ≤ 60 ∧ Q (.bl (!ds.any fun z => PyData.eqv z d)) H
theorem op_notInL {X : Cx} (hu : X.A.units + 64 < cLine) : OpR X (compareOp .NotIn) (rNotInL X.K) := by
  intro pins s σ H x y v u Q I rx ry h
  obtain ⟨d, ds, hd, he, sd, se, dd, q⟩ := h
  obtain ⟨as, r1⟩ := Dp.reads I d x v hd rx
  obtain ⟨bs, r2⟩ := Dp.reads I (.list ds) y u he ry
  exact SeqAt.notIn_list_reads r2 r1 (SeqAt.canLay_of_shaped se) (SeqAt.canLay_of_shaped sd) (by have := Nat.min_le_right (PyData.depthAll ds) d.depth; omega) ⟨.bl _, H, I, rfl, q⟩
theorem cutN {xs : List V} {i : Nat} : cutV xs none (some (i : Int)) = xs.take i := by
  by_cases h : i ≤ xs.length
  · exact cut_to h
  · unfold cutV
    simp only [HT.sIx]
    rw [if_neg (by omega), List.drop_zero, Nat.sub_zero, Int.toNat_natCast, Nat.min_eq_right (by omega), List.take_of_length_le (Nat.le_refl _), List.take_of_length_le (by omega)]
theorem boxW_rs {sp : List Span} (h : ∀ p ∈ sp, Bd 21 6 p.1 ∧ Bd 21 6 p.2) : ∀ w ∈ boxW sp, RowS sp.length w := by
  have un : ∀ n k, BdL 21 6 (unit n k) := fun n k r hr => by
    obtain ⟨i, _, rfl⟩ := List.mem_map.mp hr
    split
    · exact ⟨⟨by decide +kernel, by decide +kernel⟩, ⟨6, rfl⟩⟩
    · exact bd_zero 21 6
  have sz : ∀ {r : Rat}, Bd 21 6 r → Sz 15 6 r := fun {r} hr => (hr.sz (k := 5) (b := 6) (by decide) (by decide) (by decide)).mono (by decide) (by decide)
  intro w hw
  rcases List.mem_append.mp hw with hw | hw
  · obtain ⟨k, hk⟩ := List.mem_iff_getElem?.mp hw
    have kl := (List.getElem?_eq_some_iff.mp hk).1
    rw [hiW_len] at kl
    have hq : sp[k]? = some sp[k] := List.getElem?_eq_getElem kl
    rw [hiW_at hq] at hk
    have e := Option.some.inj hk
    subst e
    exact ⟨unit_len _ _, fun r hr => sz (un _ _ r hr), sz (h _ (List.mem_of_getElem? hq)).2⟩
  · obtain ⟨k, hk⟩ := List.mem_iff_getElem?.mp hw
    have kl := (List.getElem?_eq_some_iff.mp hk).1
    rw [loW_len] at kl
    have hq : sp[k]? = some sp[k] := List.getElem?_eq_getElem kl
    rw [loW_at hq] at hk
    have e := Option.some.inj hk
    subst e
    have neg : ∀ {r : Rat}, Bd 21 6 r → Bd 21 6 (-1 * r) := fun {r} hr => by
      rw [show (-1 : Rat) * r = -r by grind]
      exact hr.neg
    refine ⟨?_, fun r hr => ?_, sz (neg (h _ (List.mem_of_getElem? hq)).1)⟩
    · show ((unit sp.length k).map fun x => -1 * x).length = _
      rw [List.length_map]
      exact unit_len _ _
    · obtain ⟨u, hu, rfl⟩ := List.mem_map.mp hr
      exact sz (neg (un _ _ u hu))
theorem corn_few {n : Nat} {rows : List Sum2} (h : rows.length ≤ 100) : ∀ i, (cornTo n rows i).length ≤ i * 100 := by
  intro i
  induction i with
  | zero => exact Nat.le_refl _
  | succ i ih =>
    rw [cornTo, List.length_append]
    have : (cornAt n rows i).length ≤ 100 := by
      unfold cornAt
      split
      · exact Nat.zero_le _
      · split
        · split
          · exact Nat.zero_le _
          · show 1 ≤ 100
            decide
        · refine Nat.le_trans (List.length_filterMap_le ..) ?_
          rw [List.length_take]
          omega
    omega
end Nc
end
section
set_option maxRecDepth 100000
set_option maxHeartbeats 400000
namespace K20
open PySem Evl Nc PyProof.Rows
open L2 hiding spCell
section
variable {P : Program} {w : World} {K : PySem.W.Frag} {mg : Str → Option Value} {base : Heap}
theorem ok__law_minus (D : Df K mg "_law_minus" s__law_minus ["_law_one", "_law_other"]) (G : Ok P w K mg base 2 "_law_fraction" ["_law_top", "_law_bottom"] (spPart K)) : Ok P w K mg base 3 "_law_minus" ["_law_one", "_law_other"] (spMinusV K) := by
  refine D.ok fun f fd F => F.ok sc__law_minus (fun vs H Q E h => ?_) (fun cdv A outer s H vs Q E hr h => ?_)
  · obtain ⟨x, y, r, s, n, d, m, e, rfl, _⟩ := h
    rfl
  · obtain ⟨x, y, r, s, n, d, m, e, rfl, hx, hy, ha, hb, ⟨n0, d0, m0, e0, hde, hnm⟩, q⟩ := h
    refine ⟨_, pss_one (ps_ret (cl G hr (pa_cons (pe_op op_sub (pe_op op_mulBig (pe_ix ix_tup (pv 0) pe_int (fun _ _ => rfl)) (pe_ix ix_tup (pv 1) pe_int (fun _ _ => rfl))) (pe_op op_mulBig (pe_ix ix_tup (pv 1) pe_int (fun _ _ => rfl)) (pe_ix ix_tup (pv 0) pe_int (fun _ _ => rfl)))) (pa_cons (pe_op op_mulBig (pe_ix ix_tup (pv 0) pe_int (fun _ _ => rfl)) (pe_ix ix_tup (pv 1) pe_int (fun _ _ => rfl))) pa_nil)))), ?_⟩
    obtain ⟨t, rfl, h1⟩ := hx
    obtain ⟨u, rfl, h2⟩ := hy
    have hm1 := mulOk ha.1 hb.den
    have hm2 := mulOk hb.1 ha.den
    have hm3 := mulOk ha.den hb.den
    refine ⟨_, rfl, _, _, _, _, rfl, rfl, h1, at0, _, rfl, _, _, _, _, rfl, rfl, h2, at1, _, _, rfl, rfl, hm1, _, rfl, _, _, _, _, rfl, rfl, h2, at0, _, rfl, _, _, _, _, rfl, rfl, h1, at1, _, _, rfl, rfl, hm2, _, _, rfl, rfl, _, rfl, _, _, _, _, rfl, rfl, h1, at1, _, rfl, _, _, _, _, rfl, rfl, h2, at1, _, _, rfl, rfl, hm3, ?_⟩
    refine ⟨_, _, d + e, rfl, Int.mul_pos (den_pos r) (den_pos s), lt_mul ha.den hb.den, by omega, by omega, fun v H' e hv => ?_⟩
    rw [subV_is] at hv
    exact q v H' e hv
theorem ok__law_ratio (D : Df K mg "_law_ratio" s__law_ratio ["_law_one", "_law_other"]) (G : Ok P w K mg base 2 "_law_fraction" ["_law_top", "_law_bottom"] (spPart K)) : Ok P w K mg base 3 "_law_ratio" ["_law_one", "_law_other"] (spRatioV K) := by
  refine D.ok fun f fd F => F.ok sc__law_ratio (fun vs H Q E h => ?_) (fun cdv A outer s H vs Q E hr h => ?_)
  · obtain ⟨x, y, r, s, n, d, m, e, rfl, _⟩ := h
    rfl
  · obtain ⟨x, y, r, s, n, d, m, e, rfl, hx, hy, s0, ha, hb, ⟨n0, d0, m0, e0, hde, hnm⟩, q⟩ := h
    refine ⟨_, (pss_cons (ps_set (i := 2) sc__law_ratio.nd rfl (.inl rfl) (pe_op op_mulBig (pe_ix ix_tup (pv 0) pe_int (fun _ _ => rfl)) (pe_ix ix_tup (pv 1) pe_int (fun _ _ => rfl))))
      (pss_cons (ps_set (i := 3) sc__law_ratio.nd rfl (.inl rfl) (pe_op op_mulBig (pe_ix ix_tup (pv 0) pe_int (fun _ _ => rfl)) (pe_ix ix_tup (pv 1) pe_int (fun _ _ => rfl))))
      (pss_cons (ps_if (pt_cmpR op_lt (pv 3) pe_int (nomark _)) (pss_one (ps_ret (cl G hr (pa_cons (pe_op op_sub pe_int (pv 2)) (pa_cons (pe_op op_sub pe_int (pv 3)) pa_nil))))) pss_nil)
      (pss_one (ps_ret (cl G hr (pa_cons (pv 2) (pa_cons (pv 3) pa_nil)))))))), ?_⟩
    obtain ⟨t, rfl, h1⟩ := hx
    obtain ⟨u, rfl, h2⟩ := hy
    have hbits := lt_mul ha.den hb.1
    have sn : s.num ≠ 0 := fun z => s0 (Rat.num_eq_zero.mp z)
    have rd := den_pos r
    have B0 : (r.den : Int) * s.num ≠ 0 := Int.mul_ne_zero (by omega) sn
    refine ⟨_, rfl, _, _, _, _, rfl, rfl, h1, at0, _, rfl, _, _, _, _, rfl, rfl, h2, at1, _, _, rfl, rfl, mulOk ha.1 hb.den, _, rfl, _, _, _, _, rfl, rfl, h1, at1, _, rfl, _, _, _, _, rfl, rfl, h2, at0, _, _, rfl, rfl, mulOk ha.den hb.1, _, rfl, _, _, rfl, rfl, _, rfl, ite2 (fun hlt => ?_) (fun hge => ?_)⟩
    · have hlt := of_decide_eq_true hlt
      refine ⟨_, rfl, _, _, rfl, rfl, _, rfl, _, _, rfl, rfl, _, _, d + m, rfl, by omega, by omega, by omega, .inl (by omega), fun v H' e hv => ?_⟩
      rw [ratioV_is (ε := -1) s0 (.inr rfl) (by rw [Int.zero_sub, Int.neg_mul, Int.one_mul]) (by rw [Int.zero_sub, Int.neg_mul, Int.one_mul])] at hv
      exact q v H' e hv
    · have hge : ¬ (r.den : Int) * s.num < 0 := fun z => by exact hge (decide_eq_true z)
      refine ⟨_, rfl, _, rfl, _, _, d + m, rfl, by omega, hbits, by omega, .inl (by omega), fun v H' e hv => ?_⟩
      rw [ratioV_is (ε := 1) s0 (.inl rfl) (by rw [Int.one_mul]) (by rw [Int.one_mul])] at hv
      exact q v H' e hv
theorem ok__law_meet (D : Df K mg "_law_meet" s__law_meet ["_law_one", "_law_other"]) (GT : Ok P w K mg base 3 "_law_times" ["_law_one", "_law_other"] (spTimes K)) (GMi : Ok P w K mg base 3 "_law_minus" ["_law_one", "_law_other"] (spMinusV K)) (GR : Ok P w K mg base 3 "_law_ratio" ["_law_one", "_law_other"] (spRatioV K)) : Ok P w K mg base 4 "_law_meet" ["_law_one", "_law_other"] (spMeet K) := by
  refine D.ok fun f fd F => F.ok sc__law_meet (fun vs H Q E h => ?_) (fun cdv A outer s H vs Q E hr h => ?_)
  · obtain ⟨x, y, z, w, rfl, _⟩ := h
    rfl
  · obtain ⟨x, y, z, w', rfl, hz, hw, sz, sw, q⟩ := h
    refine ⟨_, (pss_cons (ps_asg (pv 0) (pg_tup rfl (pgs_cons (pg_tup rfl (pgs_cons (pg_name (i := 2) sc__law_meet.nd rfl (.inl rfl)) (pgs_cons (pg_name (i := 3) sc__law_meet.nd rfl (.inl rfl)) pgs_nil))) (pgs_cons (pg_name (i := 4) sc__law_meet.nd rfl (.inl rfl)) pgs_nil))))
      (pss_cons (ps_asg (pv 1) (pg_tup rfl (pgs_cons (pg_tup rfl (pgs_cons (pg_name (i := 5) sc__law_meet.nd rfl (.inl rfl)) (pgs_cons (pg_name (i := 6) sc__law_meet.nd rfl (.inl rfl)) pgs_nil))) (pgs_cons (pg_name (i := 7) sc__law_meet.nd rfl (.inl rfl)) pgs_nil))))
      (pss_cons (ps_set (i := 8) sc__law_meet.nd rfl (.inl rfl) (cl GMi hr (pa_cons (cl GT hr (pa_cons (pv 2) (pa_cons (pv 6) pa_nil))) (pa_cons (cl GT hr (pa_cons (pv 3) (pa_cons (pv 5) pa_nil))) pa_nil))))
      (pss_cons (ps_if (pt_cmpR op_eq (pe_ix ix_tup (pv 8) pe_int (fun _ _ => rfl)) pe_int (nomark _)) (pss_one (ps_ret pe_non)) pss_nil)
      (pss_cons (ps_set (i := 9) sc__law_meet.nd rfl (.inl rfl) (cl GMi hr (pa_cons (cl GT hr (pa_cons (pv 4) (pa_cons (pv 6) pa_nil))) (pa_cons (cl GT hr (pa_cons (pv 3) (pa_cons (pv 7) pa_nil))) pa_nil))))
      (pss_one (ps_ret (pe_tupE (pa_cons (cl GR hr (pa_cons (pv 9) (pa_cons (pv 8) pa_nil))) (pa_cons (cl GR hr (pa_cons (cl GMi hr (pa_cons (cl GT hr (pa_cons (pv 2) (pa_cons (pv 7) pa_nil))) (pa_cons (cl GT hr (pa_cons (pv 4) (pa_cons (pv 5) pa_nil))) pa_nil))) (pa_cons (pv 8) pa_nil))) pa_nil)))))))))), ?_⟩
    obtain ⟨t0, ra, vc, rfl, q0, ⟨tr, us, rfl, qr, pr⟩, fc⟩ := hz
    obtain ⟨t1, rb, vf, rfl, q1, ⟨ts, ws, rfl, qs, ps⟩, ff⟩ := hw
    obtain ⟨l, rc⟩ := z
    obtain ⟨l', rf⟩ := w'
    obtain ⟨rra, rrb, rfl⟩ : ∃ a b, l = [a, b] := match l, sz.len with | [a, b], _ => ⟨a, b, rfl⟩
    obtain ⟨rd, re, rfl⟩ : ∃ a b, l' = [a, b] := match l', sw.len with | [a, b], _ => ⟨a, b, rfl⟩
    obtain ⟨va, vb, rfl, fa, fb⟩ := paired2 pr
    obtain ⟨vd, ve, rfl, fd_, fe⟩ := paired2 ps
    have sa : Sz 15 6 rra := sz.row _ (by simp)
    have sb : Sz 15 6 rrb := sz.row _ (by simp)
    have sd_ : Sz 15 6 rd := sw.row _ (by simp)
    have se : Sz 15 6 re := sw.row _ (by simp)
    have sc : Sz 15 6 rc := sz.num
    have sf : Sz 15 6 rf := sw.num
    have em : ∀ o, o = meetR ([rra, rrb], rc) ([rd, re], rf) → ∀ v H', Ex H H' → MtV K H' v o → Q v H' := fun o ho v H' e hv => q v H' e (by rw [← ho]; exact hv)
    have md : meetR ([rra, rrb], rc) ([rd, re], rf) = if rra * re - rrb * rd = 0 then none else some [(rc * re - rrb * rf) / (rra * re - rrb * rd), (rra * rf - rc * rd) / (rra * re - rrb * rd)] := rfl
    refine ⟨_, rfl, t0, [.ref tr, vc], rfl, q0, rfl, .ref tr, [vc], rfl, tr, [va, vb], rfl, qr, rfl, va, [vb], rfl, vb, [], rfl, rfl, vc, [], rfl, rfl, ?_⟩
    refine ⟨_, rfl, t1, [.ref ts, vf], rfl, q1, rfl, .ref ts, [vf], rfl, ts, [vd, ve], rfl, qs, rfl, vd, [ve], rfl, ve, [], rfl, rfl, vf, [], rfl, rfl, ?_⟩
    have E0 := Ex.refl H
    refine ⟨_, rfl, _, rfl, va, ve, rra, re, 15, 6, 15, 6, rfl, fa.ex E0, fe.ex E0, sa, se, ⟨by decide, by decide, by decide, by decide, .inl (by decide), by decide⟩, fun v1a H1a e1a h1a => ⟨_, rfl, _, rfl, vb, vd, rrb, rd, 15, 6, 15, 6, rfl, fb.ex (E0.trans e1a), fd_.ex (E0.trans e1a), sb, sd_, ⟨by decide, by decide, by decide, by decide, .inl (by decide), by decide⟩, fun v1b H1b e1b h1b => ⟨v1a, v1b, _, _, 30, 12, 30, 12, rfl, h1a.ex e1b, h1b, sz_mul sa se, sz_mul sb sd_, ⟨by decide, by decide, by decide, by decide, by decide, by decide⟩, fun v1 H1 e1 h1 => ?_⟩⟩⟩
    have E3 := E0.trans (e1a.trans (e1b.trans e1))
    have sD : Sz 43 24 (rra * re - rrb * rd) := (sz_sub (N := 42) (sz_mul sa se) (sz_mul sb sd_)).mono (by decide) (by decide)
    obtain ⟨tb, rfl, qb⟩ := id h1
    refine ⟨_, rfl, _, _, _, _, rfl, rfl, qb, at0, rfl, _, rfl, ite2 (fun h0 => ?_) (fun h0 => ?_)⟩
    · refine em none ?_ .non H1 E3 rfl
      rw [md, if_pos (Rat.num_eq_zero.mp (V.int.inj (of_decide_eq_true h0)))]
    have hD : rra * re - rrb * rd ≠ 0 := fun zz => by
      have zz := Rat.num_eq_zero.mpr zz
      exact h0 (decide_eq_true (by rw [zz]))
    refine ⟨_, rfl, _, rfl, vc, ve, rc, re, 15, 6, 15, 6, rfl, fc.ex E3, fe.ex E3, sc, se, ⟨by decide, by decide, by decide, by decide, .inl (by decide), by decide⟩, fun v2a H2a e2a h2a => ⟨_, rfl, _, rfl, vb, vf, rrb, rf, 15, 6, 15, 6, rfl, fb.ex (E3.trans e2a), ff.ex (E3.trans e2a), sb, sf, ⟨by decide, by decide, by decide, by decide, .inl (by decide), by decide⟩, fun v2b H2b e2b h2b => ⟨v2a, v2b, _, _, 30, 12, 30, 12, rfl, h2a.ex e2b, h2b, sz_mul sc se, sz_mul sb sf, ⟨by decide, by decide, by decide, by decide, by decide, by decide⟩, fun v2 H2 e2 h2 => ?_⟩⟩⟩
    have E4 := E3.trans (e2a.trans (e2b.trans e2))
    have s1 : Sz 43 24 (rc * re - rrb * rf) := (sz_sub (N := 42) (sz_mul sc se) (sz_mul sb sf)).mono (by decide) (by decide)
    refine ⟨_, rfl, _, rfl, v2, .ref tb, _, _, 43, 24, 43, 24, rfl, h2, h1.ex (e2a.trans (e2b.trans e2)), hD, s1, sD, ⟨by decide, by decide, by decide, by decide, by decide, by decide⟩, fun v5 H5 e5 h5 => ?_⟩
    have E5 := E4.trans e5
    refine ⟨_, rfl, _, rfl, va, vf, rra, rf, 15, 6, 15, 6, rfl, fa.ex E5, ff.ex E5, sa, sf, ⟨by decide, by decide, by decide, by decide, .inl (by decide), by decide⟩, fun v3a H3a e3a h3a => ⟨_, rfl, _, rfl, vc, vd, rc, rd, 15, 6, 15, 6, rfl, fc.ex (E5.trans e3a), fd_.ex (E5.trans e3a), sc, sd_, ⟨by decide, by decide, by decide, by decide, .inl (by decide), by decide⟩, fun v3b H3b e3b h3b => ⟨v3a, v3b, _, _, 30, 12, 30, 12, rfl, h3a.ex e3b, h3b, sz_mul sa sf, sz_mul sc sd_, ⟨by decide, by decide, by decide, by decide, by decide, by decide⟩, fun v3 H3 e3 h3 => ?_⟩⟩⟩
    have E6 := E5.trans (e3a.trans (e3b.trans e3))
    have s3 : Sz 43 24 (rra * rf - rc * rd) := (sz_sub (N := 42) (sz_mul sa sf) (sz_mul sc sd_)).mono (by decide) (by decide)
    refine ⟨_, rfl, v3, .ref tb, _, _, 43, 24, 43, 24, rfl, h3, h1.ex (e2a.trans (e2b.trans (e2.trans (e5.trans (e3a.trans (e3b.trans e3)))))), hD, s3, sD, ⟨by decide, by decide, by decide, by decide, by decide, by decide⟩, fun v6 H6 e6 h6 => ⟨(by show 2 ≤ sizeLine; decide), fun p7 H7 n7 e7 k7 => ?_⟩⟩
    refine em (some [(rc * re - rrb * rf) / (rra * re - rrb * rd), (rra * rf - rc * rd) / (rra * re - rrb * rd)]) ?_ (.ref p7) H7 (E6.trans (e6.trans e7)) ⟨p7, [v5, v6], rfl, st_of k7, .cons (h5.ex (e3a.trans (e3b.trans (e3.trans (e6.trans e7))))) (.cons (h6.ex e7) .nil)⟩
    rw [md, if_neg hD]
end

end K20
end
section
set_option maxRecDepth 100000
set_option maxHeartbeats 400000
namespace K20
open PySem Evl Nc PyProof.Rows
open L2 hiding spCell
section
variable {P : Program} {w : World} {K : PySem.W.Frag} {mg : Str → Option Value} {base : Heap}
theorem ok_sum_times (D : Df K mg "sum_times" s_sum_times ["by", "one"]) (GT : Ok P w K mg base 2 "times" ["one", "other"] (spTimes K)) (mtuple : mg "tuple" = none) : Ok P w K mg base 3 "sum_times" ["by", "one"] (spSumT K) := by
  refine D.ok fun f fd F => F.ok sc_sum_times (fun vs H Q E h => ?_) (fun cdv A outer s H vs Q E hr h => ?_)
  · obtain ⟨x, y, r, t, n, d, m, e, rfl, _⟩ := h
    rfl
  · obtain ⟨x, y, r, t, n, d, m, e, rfl, fx, ⟨ty, ay, by_, rfl, qy, ⟨rb, ys, rfl, qys, ly⟩, fy⟩, h100, z1, z3, z4, hz, q⟩ := h
    refine ⟨_, pss_cons (ps_asg (pv 1) (pg_tup rfl (pgs_cons (pg_name (i := 2) sc_sum_times.nd rfl (.inl rfl)) (pgs_cons (pg_name (i := 3) sc_sum_times.nd rfl (.inl rfl)) pgs_nil))))
      (pss_one (ps_ret (pe_tup (pa_cons (pe_callTy call_tuple_of (by rfl) mtuple (by decide +kernel) (pa_cons (pe_lc (own := [("weight", 4)]) (g := gName 4) (tt := tYes) rfl sc_sum_times.nd (pi_tup (pv 2))
        (blkOk_by (N := ["by", "one", "weights", "number", "weight"]) (sc := defScope s_sum_times) (by decide +kernel)) (fun _ _ _ _ _ => (pg_name (i := 4) sc_sum_times.nd rfl (.inl rfl))) (fun _ _ _ _ _ => pts_nil) (fun _ _ _ _ _ => cl GT hr (pa_cons (pv 0) (pa_cons (pv 4) pa_nil)))) pa_nil)) (pa_cons (cl GT hr (pa_cons (pv 0) (pa_cons (pv 3) pa_nil))) pa_nil))))), ?_⟩
    have ly' := Paired.length ly
    refine ⟨_, rfl, ty, _, rfl, qy, rfl, _, _, rfl, _, _, rfl, rfl, _, rfl, rb, rfl, ⟨ys, qys⟩, fun D hD => ?_⟩
    refine lc_tup (xs := ys) (Bld (FrV K) H D (t.1.map fun x => r * x)) (bld0 hD) (fun i H' _ b => ex_t b.1 qys) ?_ ?_
    · rintro i y H' hy b
      obtain ⟨u, hu1, fu⟩ := pget ly hy
      refine ⟨rfl, ?_⟩
      refine ⟨_, rfl, _, rfl, x, y, r, u, n, d, m, e, rfl, fx.ex b.1, fu.ex b.1, z1, z3 _ (List.mem_of_getElem? hu1), hz, fun v H4 e4 hv => ?_⟩
      refine bld_step stF hD b e4 ?_ ?_ hv
      · rw [List.getElem?_map, hu1]
        rfl
      · have := (List.getElem?_eq_some_iff.mp hu1).1
        omega
    · intro H' b
      obtain ⟨e1, zs, hzs, pz⟩ := bld_end (by simp; omega) b
      refine ⟨D, zs, rfl, .inl ⟨sq_of hzs, fun l hl' => ?_⟩⟩
      have e2 : Ex H (upd H' l (.tup zs)) := e1.trans (Ex.new hl')
      have row := bld_row (n := 0) hzs pz hl'
      refine ⟨_, rfl, _, rfl, x, by_, r, t.2, n, d, m, e, rfl, fx.ex e2, fy.ex e2, z1, z4, hz, fun v H5 e5 hv => ⟨(by show 2 ≤ sizeLine; decide), fun p hp => ?_⟩⟩
      exact q _ _ ((e2.trans e5).trans (Ex.new hp)) ⟨p, _, _, rfl, st_of upd_same, row.ex (e5.trans (Ex.new hp)), hv.ex (Ex.new hp)⟩
theorem ok_place_sum (D : Df K mg "place_sum" s_place_sum ["many", "place"]) (CN : Cst K mg "NOUGHT" 0) (C1 : Cst K mg "ONE" 1) (mrange : mg "range" = none) (mtuple : mg "tuple" = none) : Ok P w K mg base 1 "place_sum" ["many", "place"] (spPlace K) := by
  refine D.ok fun f fd F => F.ok sc_place_sum (fun vs H Q E h => ?_) (fun cdv A outer s H vs Q E hr h => ?_)
  · obtain ⟨k, p, rfl, _⟩ := h
    rfl
  · obtain ⟨k, p, rfl, hk, q⟩ := h
    obtain ⟨aN, gN, hN⟩ := CN.ex
    obtain ⟨a1, g1, h1⟩ := C1.ex
    refine ⟨_, pss_one (ps_ret (pe_tup (pa_cons (pe_callTy call_tuple_of (by rfl) mtuple (by decide +kernel) (pa_cons (pe_lc (own := [("at", 2)]) (g := gName 2) (tt := tYes) rfl sc_place_sum.nd (pi_range1 (by rfl) mrange (pa_cons (pv 0) pa_nil))
        (blkOk_by (N := ["many", "place", "at"]) (sc := defScope s_place_sum) (by decide +kernel)) (fun _ _ _ _ _ => (pg_name (i := 2) sc_place_sum.nd rfl (.inl rfl))) (fun _ _ _ _ _ => pts_nil)
        (fun _ _ _ _ _ => pe_ifExp (pt_cmpR op_eq (pv 2) (pv 1) (nomark _)) (pe_glob (v := .ref a1) (by rfl) g1 rfl) (pe_glob (v := .ref aN) (by rfl) gN rfl))) pa_nil)) (pa_cons (pe_glob (v := .ref aN) (by rfl) gN rfl) pa_nil)))), ?_⟩
    refine ⟨_, rfl, (k : Int), rfl, by omega, by omega, fun D hD => ?_⟩
    refine lc_range (lo := 0) (n := ((k : Int)).toNat) (Bld (FrV K) H D (unit k p)) (bld0 hD) ?_ ?_
    · intro i H' hi b
      rw [Int.toNat_natCast] at hi
      refine ⟨rfl, ?_⟩
      refine ⟨_, rfl, _, rfl, rfl, _, rfl, ?_⟩
      have e0 : (decide (V.int ((0 : Int) + (i : Int)) = V.int (p : Int))) = decide (i = p) := by
        by_cases hip : i = p
        · subst hip
          simp
        · rw [decide_eq_false hip]
          refine decide_eq_false fun z => hip ?_
          have := V.int.inj z
          omega
      rw [e0]
      refine ite2 (fun hd => ?_) (fun hd => ?_)
      · have hip := of_decide_eq_true hd
        refine bld_step stF hD b (Ex.refl _) ?_ (by omega) (h1 H')
        unfold unit
        rw [List.getElem?_map, List.getElem?_range hi]
        simp [hip]
      · have hip : ¬ i = p := fun z => hd (decide_eq_true z)
        refine bld_step stF hD b (Ex.refl _) ?_ (by omega) (hN H')
        unfold unit
        rw [List.getElem?_map, List.getElem?_range hi]
        simp [hip]
    · intro H' b
      obtain ⟨e1, zs, hzs, pz⟩ := bld_end (by simp [unit]) b
      refine ⟨D, zs, rfl, .inl ⟨sq_of hzs, fun l hl' => ?_⟩⟩
      have e2 : Ex H (upd H' l (.tup zs)) := e1.trans (Ex.new hl')
      have row := bld_row (n := 0) hzs pz hl'
      refine ⟨(by show 2 ≤ sizeLine; decide), fun p2 hp => ?_⟩
      exact q _ _ (e2.trans (Ex.new hp)) ⟨p2, _, _, rfl, st_of upd_same, row.ex (Ex.new hp), hN _⟩
end

end K20
end
section
set_option maxRecDepth 100000
set_option maxHeartbeats 400000
namespace K20
open PySem Evl Nc PyProof.Rows
open L2 hiding spCell
theorem take_zip' {α β : Type} : ∀ (n : Nat) (xs : List α) (ys : List β), (xs.zip ys).take n = (xs.take n).zip (ys.take n)
  | 0, _, _ => rfl
  | _ + 1, [], _ => rfl
  | _ + 1, _ :: _, [] => rfl
  | n + 1, x :: xs, y :: ys => by
    show (x, y) :: (xs.zip ys).take n = _
    rw [take_zip' n xs ys]
    rfl
theorem less_is' {r s : Rat} : decide (r.num * (s.den : Int) < s.num * (r.den : Int)) = decide (r < s) := by
  by_cases h : r < s
  · rw [decide_eq_true h, decide_eq_true ((Rat.lt_iff _ _).mp h)]
  · rw [decide_eq_false h, decide_eq_false fun z => h ((Rat.lt_iff _ _).mpr z)]
theorem not_less {r s : Rat} : (!decide (r < s)) = decide (s ≤ r) := by
  by_cases h : r < s
  · rw [decide_eq_true h, decide_eq_false (Rat.not_le.mpr h)]
    rfl
  · rw [decide_eq_false h, decide_eq_true (Rat.not_lt.mp h)]
    rfl
section
variable {P : Program} {w : World} {K : PySem.W.Frag} {mg : Str → Option Value} {base : Heap}
theorem ok__law_weighed (D : Df K mg "_law_weighed" s__law_weighed ["_law_row_here", "_law_spot"]) (mzip : mg "zip" = none) (GP : Ok P w K mg base 3 "_law_plus" ["_law_one", "_law_other"] (spPlus K)) (GT : Ok P w K mg base 3 "_law_times" ["_law_one", "_law_other"] (spTimes K)) : Ok P w K mg base 4 "_law_weighed" ["_law_row_here", "_law_spot"] (spWeighP K) := by
  refine D.ok fun f fd F => F.ok sc__law_weighed (fun vs H Q E h => ?_) (fun cdv A outer s H vs Q E hr h => ?_)
  · obtain ⟨x, y, rs, ss, rfl, _⟩ := h
    rfl
  · obtain ⟨x, y, rs, ss, rfl, ⟨tx, xs, rfl, qx, lx⟩, ⟨ty, ys, rfl, qy, ly⟩, hl, h100, wz, q⟩ := h
    have hr' : Room 3 _ := hr.mono (by decide)
    refine ⟨_, pss_cons (ps_set (i := 2) sc__law_weighed.nd rfl (.inl rfl) (pe_tup (pa_cons pe_int (pa_cons pe_int pa_nil))))
      (pss_cons (ps_for PassesOwn.never rfl (RZ.pi_zipA (by rfl) mzip (pa_cons (pv 0) (pa_cons (pv 1) pa_nil))) (pg_tup rfl (pgs_cons (pg_name (i := 3) sc__law_weighed.nd rfl (.inl rfl)) (pgs_cons (pg_name (i := 4) sc__law_weighed.nd rfl (.inl rfl)) pgs_nil)))
        (pss_one (ps_set (i := 2) sc__law_weighed.nd rfl (.inl rfl) (cl GP hr' (pa_cons (pv 2) (pa_cons (cl GT hr' (pa_cons (pv 3) (pa_cons (pv 4) pa_nil))) pa_nil))))))
      (pss_one (ps_ret (pv 2)))), ?_⟩
    refine ⟨(by show 2 ≤ sizeLine; decide), fun pz hpz => ?_⟩
    have e0 : Ex H (upd H pz (.tup [.int 0, .int 1])) := Ex.new hpz
    have z0 : FrV K (upd H pz (.tup [.int 0, .int 1])) (.ref pz) (weighs ((rs.zip ss).take 0)) := made rfl rfl
    have lx' := Paired.length lx
    have ly' := Paired.length ly
    refine ⟨_, rfl, _, rfl, tx, ty, xs, ys, rfl, .inr ⟨ex_t e0 qx, ex_t e0 qy, RZ.for_zipT (by omega) (fun i σ H' => ∃ (v : V) (o3 o4 : Option V), σ = [some (.ref tx), some (.ref ty), some v, o3, o4] ∧ Ex H H' ∧ FrV K H' v (weighs ((rs.zip ss).take i)))
      ⟨_, none, none, rfl, e0, z0⟩ (fun i σ H' ⟨_, _, _, _, e1, _⟩ => ⟨ex_t e1 qx, ex_t e1 qy⟩) ?_ ?_⟩⟩
    · rintro i x y T σ H' hx hy ⟨v, o3, o4, rfl, e1, hv⟩ hT
      obtain ⟨r, hr1, fr⟩ := pget lx hx
      obtain ⟨u, hu1, fu⟩ := pget ly hy
      have hzip : (rs.zip ss)[i]? = some (r, u) := by
        rw [List.getElem?_zip_eq_some]
        exact ⟨hr1, hu1⟩
      have szr := wz.szr r (List.mem_of_getElem? hr1)
      have szu := wz.szs u (List.mem_of_getElem? hu1)
      have szt := wz.sum ((rs.zip ss).take i) (by rw [List.length_take, List.length_zip]; omega) fun p hp => List.mem_of_mem_take hp
      have sz1 := wz.one (List.mem_of_getElem? hzip)
      have eT : Ex H' (upd H' T (.tup [x, y])) := Ex.new hT
      refine ⟨T, [x, y], rfl, st_of upd_same, rfl, x, [y], rfl, y, [], rfl, rfl, ?_⟩
      refine ⟨_, rfl, _, rfl, _, rfl, x, y, r, u, 1600, 1600, 4901, 4900, rfl, fr.ex (e1.trans eT), fu.ex (e1.trans eT), szr, szu, ⟨by decide, by decide, by decide, by decide, .inl (by decide), by decide⟩, fun v2 H2 e2 hv2 => ?_⟩
      refine ⟨v, v2, _, _, 6507, 6500, 6507, 6500, rfl, hv.ex (eT.trans e2), hv2, szt, sz1, ⟨by decide, by decide, by decide, by decide, .inr ⟨by decide, by decide, by decide, by decide⟩, by decide⟩, fun v3 H3 e3 hv3 => ?_⟩
      refine ⟨v3, some x, some y, rfl, ((e1.trans eT).trans e2).trans e3, ?_⟩
      rw [weighs_take hzip]
      exact hv3
    · rintro σ H' ⟨v, o3, o4, rfl, e1, hv⟩
      refine ⟨_, rfl, q v H' e1 ?_⟩
      rwa [List.take_of_length_le (by rw [List.length_zip]; omega)] at hv
end

end K20
end
section
set_option maxRecDepth 100000
set_option maxHeartbeats 400000
namespace K20
open PySem Evl Nc PyProof.Rows
open L2 hiding spCell
section
variable {P : Program} {w : World} {K : PySem.W.Frag} {mg : Str → Option Value} {base : Heap}
theorem ok__law_stands (D : Df K mg "_law_stands" s__law_stands ["_law_rows", "_law_spot"]) (GL : Ok P w K mg base 1 "_law_less" ["_law_one", "_law_other"] (spLess K)) (GW : Ok P w K mg base 4 "_law_weighed" ["_law_row_here", "_law_spot"] (spWeighP K)) : Ok P w K mg base 5 "_law_stands" ["_law_rows", "_law_spot"] (spStands K) := by
  refine D.ok fun f fd F => F.ok sc__law_stands (fun vs H Q E h => ?_) (fun cdv A outer s H vs Q E hr h => ?_)
  · obtain ⟨a, xs, y, rows, x, rfl, _⟩ := h
    rfl
  · obtain ⟨a, xs, y, rows, x, rfl, qa, pa, hy, wb, n3, xsp, q⟩ := h
    have hr1 : Room 1 _ := hr.mono (by decide)
    have hr4 : Room 4 _ := hr
    refine ⟨_, (pss_cons (ps_for PassesOwn.never rfl (pi_list (pv 0)) (pg_tup rfl (pgs_cons (pg_name (i := 2) sc__law_stands.nd rfl (.inl rfl)) (pgs_cons (pg_name (i := 3) sc__law_stands.nd rfl (.inl rfl)) pgs_nil))) (pss_one (ps_if (pt_val (cl GL hr1 (pa_cons (pv 3) (pa_cons (cl GW hr4 (pa_cons (pv 2) (pa_cons (pv 1) pa_nil))) pa_nil)))) (pss_one (ps_ret pe_bl)) pss_nil)))
      (pss_one (ps_ret pe_bl))), ?_⟩
    have xl := Paired.length pa
    refine ⟨_, rfl, a, rfl, ⟨_, qa⟩, for_list (K := K) (a := a) (xs := xs) (fun i σ H' => ∃ (o2 o3 : Option V), σ = [some (.ref a), some y, o2, o3] ∧ Ex H H' ∧ ((rows.take i).all fun w => decide (weighs (w.1.zip x) ≤ w.2)) = true) ⟨none, none, rfl, Ex.refl _, rfl⟩ (fun i σ H' _ ⟨_, _, _, e, _⟩ => ex_l e qa) ?_ ?_⟩
    · rintro i u σ H1 hu ⟨o2, o3, rfl, e1, hall⟩
      obtain ⟨z, hz, fz⟩ := pget pa hu
      obtain ⟨zl, zb⟩ := wb z (List.mem_of_getElem? hz)
      obtain ⟨tz, ra, rb, rfl, qz, hra, hrb⟩ := fz.ex e1
      refine ⟨tz, [ra, rb], rfl, qz, rfl, ra, [rb], rfl, rb, [], rfl, rfl, ?_⟩
      have wz : WzP z.1 x := wz_of (zb.sub fun r hr => by simp [hr]) xsp
      have sw := wz.sum (z.1.zip x) (by rw [List.length_zip]; omega) fun p hp => hp
      refine ⟨_, rfl, _, rfl, _, rfl, ra, y, z.1, x, rfl, hra, hy.ex e1, by omega, by omega, wz, fun v7 H7 e7 hv7 => ?_⟩
      refine ⟨rb, v7, z.2, _, 1600, 1600, 6507, 6500, rfl, hrb.ex e7, hv7, (wb_f zb).each z.2 (by simp), sw, ⟨by decide, by decide, by decide, by decide, by decide⟩, _, rfl, ?_⟩
      rw [less_is']
      by_cases hlt : z.2 < weighs (z.1.zip x)
      · rw [decide_eq_true hlt]
        refine iteT (q_bl (q H7 (e1.trans e7)) ?_)
        unfold keepB
        symm
        rw [List.all_eq_false]
        exact ⟨z, List.mem_of_getElem? hz, by rw [decide_eq_false (Rat.not_le.mpr hlt)]; decide⟩
      · rw [decide_eq_false hlt]
        refine iteF ⟨_, _, rfl, e1.trans e7, ?_⟩
        rw [List.take_add_one, hz, List.all_append, hall]
        show (decide (weighs (z.1.zip x) ≤ z.2) && true) = true
        rw [decide_eq_true (Rat.not_lt.mp hlt)]
        rfl
    · rintro σ H1 ⟨o2, o3, rfl, e1, hall⟩
      refine q_bl (q H1 e1) ?_
      rw [xl, List.take_length] at hall
      exact hall.symm
end

end K20
end
section
set_option maxRecDepth 100000
set_option maxHeartbeats 400000
namespace K20
open PySem Evl Nc PyProof.Rows
open L2 hiding spCell
section
variable {P : Program} {w : World} {K : PySem.W.Frag} {mg : Str → Option Value} {base : Heap}
theorem ok__law_cell (D : Df K mg "_law_cell" s__law_cell ["_law_script", "_law_k"]) (mlen : mg "len" = none) : Ok P w K mg base 1 "_law_cell" ["_law_script", "_law_k"] (spCell K) := by
  refine D.ok fun f fd F => F.ok sc__law_cell (fun vs H Q E h => ?_) (fun cdv A outer s H vs Q E hr h => ?_)
  · obtain ⟨a, ns, k, rfl, _⟩ := h
    rfl
  · obtain ⟨a, ns, k, rfl, hS, hk, q⟩ := h
    refine ⟨_, pss_cons (ps_if (pt_cmpR op_lt (pv 1) (pe_callB call_len_seq (by rfl) mlen PySem.boot_len (pa_cons (pv 0) pa_nil)) (nomark _)) (pss_one (ps_ret (pe_ix ix_list (pv 0) (pv 1) (fun _ _ => rfl)))) pss_nil)
      (pss_one (ps_ret (pe_op op_add (pe_op op_mul pe_int (pv 1)) pe_int))), ?_⟩
    refine ⟨_, rfl, _, rfl, a, _, rfl, .inl hS, _, _, rfl, rfl, _, rfl, ite2 (fun hd => ?_) (fun hd => ?_)⟩
    · have hlt := of_decide_eq_true hd
      rw [List.length_map] at hlt
      have hn : k < ns.length := by omega
      refine ⟨_, rfl, _, rfl, a, _, _, .int ns[k], rfl, rfl, hS, atI_nat ?_, q _⟩
      rw [List.getElem?_map, List.getElem?_eq_getElem hn]
      rfl
    · exact ⟨_, rfl, _, _, rfl, rfl, .inl ⟨by decide, by decide⟩, _, _, rfl, rfl, q _⟩
theorem ok__law_stream (D : Df K mg "_law_stream" s__law_stream ["_law_cell_here"]) (mint : mg "int" = none) : Ok P w K mg base 1 "_law_stream" ["_law_cell_here"] spStream3 := by
  refine D.ok fun f fd F => F.ok sc__law_stream (fun vs H Q E h => ?_) (fun cdv A outer s H vs Q E hr h => ?_)
  · obtain ⟨c, rfl, _⟩ := h
    rfl
  · obtain ⟨c, rfl, q⟩ := h
    refine ⟨_, pss_one (ps_ret (pe_lst (pa_cons (pe_op op_mul (pv 0) (pe_callTy call_int1 (by rfl) mint (by decide +kernel) (pa_cons (pe_cmpR op_ge (pv 0) (pe_op op_pow pe_int pe_int) (nomark _)) pa_nil))) (pa_cons (pe_op op_mod (pv 0) pe_int) (pa_cons pe_int pa_nil))))), ?_⟩
    refine ⟨_, rfl, _, rfl, _, _, rfl, rfl, ⟨by decide, by decide, by decide⟩, _, _, rfl, rfl, .inr ⟨_, rfl, _, _, rfl, rfl, .inr (b01 _), _, rfl, _, _, rfl, rfl, (by show (0 : Int) < _; decide), (by show 3 ≤ sizeLine; decide), fun p hp => ?_⟩⟩
    exact q p hp _ (Ex.new hp) ⟨_, _, _, upd_same⟩
theorem ok__law_take (D : Df K mg "_law_take" s__law_take ["_law_stream_here", "_law_many"]) : Ok P w K mg base 1 "_law_take" ["_law_stream_here", "_law_many"] spTake3 := by
  refine D.ok fun f fd F => F.ok sc__law_take (fun vs H Q E h => ?_) (fun cdv A outer s H vs Q E hr h => ?_)
  · obtain ⟨s, m, rfl, _⟩ := h
    rfl
  · obtain ⟨s, m, rfl, ⟨a, b, c, hS⟩, m0, m1, q⟩ := h
    refine ⟨_, pss_cons (ps_if (pt_cmpR op_gt (pe_ix ix_list (pv 0) pe_int (fun _ _ => rfl)) pe_int (nomark _)) (pss_cons (ps_set (i := 2) sc__law_take.nd rfl (.inl rfl) (pe_op op_mod (pe_ix ix_list (pv 0) pe_int (fun _ _ => rfl)) (pv 1))) (pss_cons (ps_asg (pe_op op_fdivW (pe_ix ix_list (pv 0) pe_int (fun _ _ => rfl)) (pv 1)) (pg_sub (pv 0) pe_int set_list)) (pss_one (ps_ret (pv 2))))) pss_nil)
      (pss_cons (ps_asg (pe_op op_add (pe_ix ix_list (pv 0) pe_int (fun _ _ => rfl)) pe_int) (pg_sub (pv 0) pe_int set_list))
      (pss_cons (ps_set (i := 3) sc__law_take.nd rfl (.inl rfl) (pe_op op_mod (pe_op op_add (pe_op op_add (pe_op op_mul (pe_ix ix_list (pv 0) pe_int (fun _ _ => rfl)) pe_int) (pe_op op_mul pe_int (pe_ix ix_list (pv 0) pe_int (fun _ _ => rfl)))) pe_int) pe_int))
      (pss_cons (ps_set (i := 3) sc__law_take.nd rfl (.inl rfl) (pe_op op_mod (pe_op op_mul (pv 3) (pv 3)) pe_int))
      (pss_cons (ps_set (i := 4) sc__law_take.nd rfl (.inl rfl) (pe_op op_mod (pe_op op_add (pe_op op_mul (pv 3) pe_int) (pe_op op_mul pe_int (pe_ix ix_list (pv 0) pe_int (fun _ _ => rfl)))) pe_int))
      (pss_one (ps_ret (pe_op op_mod (pe_op op_fdiv (pe_op op_mod (pe_op op_mul (pv 4) (pv 3)) pe_int) pe_int) (pv 1)))))))), ?_⟩
    have hL : SqL K H s [.int a, .int b, .int c] := sq_of hS
    refine ⟨_, rfl, _, _, _, _, rfl, rfl, hL, at0, _, _, rfl, rfl, _, rfl, ite2 (fun hd => ?_) (fun hd => ?_)⟩
    · refine ⟨_, rfl, _, _, _, _, rfl, rfl, hL, at0, _, rfl, _, _, rfl, rfl, m0, _, rfl, _, _, _, _, rfl, rfl, hL, at0, _, rfl, _, _, rfl, rfl, cdivT m0 m1, _, rfl, s, _, _, 0, rfl, rfl, hS, rfl, _, rfl, ?_⟩
      exact q _ _ (Int.emod_nonneg _ (by omega)) (Int.emod_lt_of_pos _ m0) (Dk.put hS) ⟨_, _, _, upd_same⟩
    · refine ⟨_, rfl, _, _, _, _, rfl, rfl, hL, at2, _, _, rfl, rfl, _, rfl, s, _, _, 2, rfl, rfl, hS, rfl, ?_⟩
      have d1 : Dk s H (upd H s (.lst [.int a, .int b, .int (c + 1)])) := Dk.put hS
      have t1 : St3 s (upd H s (.lst [.int a, .int b, .int (c + 1)])) := ⟨_, _, _, upd_same⟩
      have hL2 : SqL K (upd H s (.lst [.int a, .int b, .int (c + 1)])) s [.int a, .int b, .int (c + 1)] := sq_of upd_same
      refine ⟨_, rfl, _, _, _, _, rfl, rfl, hL2, at1, _, _, rfl, rfl, .inr ⟨by decide, by decide⟩, _, rfl, _, _, _, _, rfl, rfl, hL2, at2, _, _, rfl, rfl, .inl ⟨by decide, by decide⟩, _, _, rfl, rfl, _, _, rfl, rfl, _, _, rfl, rfl, (by show (0 : Int) < _; decide), ?_⟩
      refine ⟨_, rfl, _, rfl, _, _, rfl, rfl, .inl (modb _ (by decide) (by decide)), _, _, rfl, rfl, (by show (0 : Int) < _; decide), ?_⟩
      refine ⟨_, rfl, _, _, rfl, rfl, .inr ⟨by decide, by decide⟩, _, rfl, _, _, _, _, rfl, rfl, hL2, at2, _, _, rfl, rfl, .inl ⟨by decide, by decide⟩, _, _, rfl, rfl, _, _, rfl, rfl, (by show (0 : Int) < _; decide), ?_⟩
      refine ⟨_, rfl, _, rfl, _, _, rfl, rfl, .inl (modb _ (by decide) (by decide)), _, _, rfl, rfl, (by show (0 : Int) < _; decide), _, _, rfl, rfl, ⟨by decide, by decide⟩, _, rfl, _, _, rfl, rfl, m0, ?_⟩
      exact q _ _ (Int.emod_nonneg _ (by omega)) (Int.emod_lt_of_pos _ m0) d1 t1
def spNum18 (K : PySem.W.Frag) : Sp := fun vs H Q _ => ∃ s : Addr, vs = [.ref s] ∧ St3 s H ∧ ∀ v r H', Dk s H H' → St3 s H' → FrV K H' v r → Bd 4 6 r → Q v H'
theorem d6 {c : Int} (h0 : 0 ≤ c) (h1 : c < 3) : 0 < 1 + c ∧ (1 + c).natAbs < 2 ^ 100 ∧ (1 + c).toNat ∣ 6 := by
  have h : c = 0 ∨ c = 1 ∨ c = 2 := by omega
  refine ⟨by omega, by omega, ?_⟩
  rcases h with rfl | rfl | rfl
  · exact ⟨6, rfl⟩
  · exact ⟨3, rfl⟩
  · exact ⟨2, rfl⟩
theorem ok__law_number (D : Df K mg "_law_number" s__law_number ["_law_stream_here"]) (GT : Ok P w K mg base 1 "_law_take" ["_law_stream_here", "_law_many"] spTake3) (GF : Ok P w K mg base 2 "_law_fraction" ["_law_top", "_law_bottom"] (spPart K)) : Ok P w K mg base 3 "_law_number" ["_law_stream_here"] (spNum18 K) := by
  refine D.ok fun f fd F => F.ok sc__law_number (fun vs H Q E h => ?_) (fun cdv A outer s H vs Q E hr h => ?_)
  · obtain ⟨s, rfl, _⟩ := h
    rfl
  · obtain ⟨s, rfl, hS, q⟩ := h
    have hr1 : Room 1 _ := hr.mono (by decide)
    refine ⟨_, pss_one (ps_ret (cl GF hr (pa_cons (pe_ix ix_list (pe_lst (pa_cons pe_int (pa_cons pe_int (pa_cons (pe_un un_neg pe_int) (pa_cons (pe_op op_sub (cl GT hr1 (pa_cons (pv 0) (pa_cons pe_int pa_nil))) pe_int) pa_nil))))) (cl GT hr1 (pa_cons (pv 0) (pa_cons pe_int pa_nil))) (fun _ _ => rfl)) (pa_cons (pe_op op_add pe_int (cl GT hr1 (pa_cons (pv 0) (pa_cons pe_int pa_nil)))) pa_nil)))), ?_⟩
    refine ⟨1, rfl, _, rfl, s, _, rfl, hS, by decide, by decide, fun d H1 a0 a1 r1 t1 => ⟨_, _, rfl, rfl, (by show 4 ≤ sizeLine; decide), fun p hp => ⟨_, rfl, s, _, rfl, t1.new hp, by decide, by decide, fun x H2 x0 x1 r2 t2 => ?_⟩⟩⟩
    have hp2 := r2.keep p _ (Ne.symm (t1.lst.ne hp)) upd_same
    obtain ⟨v, hv, hm⟩ := at_mem (xs := [.int 0, .int 1, .int (-1), .int (d - 4)]) (d := x) x0 (by show x < 4; omega)
    have hv2 : ∃ z : Int, v = .int z ∧ -4 ≤ z ∧ z ≤ 4 := by
      simp only [List.mem_cons, List.not_mem_nil, or_false] at hm
      rcases hm with rfl | rfl | rfl | rfl
      · exact ⟨_, rfl, by omega, by omega⟩
      · exact ⟨_, rfl, by omega, by omega⟩
      · exact ⟨_, rfl, by omega, by omega⟩
      · exact ⟨_, rfl, by omega, by omega⟩
    obtain ⟨z, rfl, z0, z1⟩ := hv2
    have r12 := (r1.then (Ex.new (o := .lst [.int 0, .int 1, .int (-1), .int (d - 4)]) hp)).trans r2
    refine ⟨p, _, _, _, rfl, rfl, sq_of hp2, hv, _, rfl, s, _, rfl, t2, by decide, by decide, fun c H3 c0 c1 r3 t3 => ⟨_, _, rfl, rfl, ?_⟩⟩
    obtain ⟨cb0, cb1, cb2⟩ := d6 c0 c1
    have e4 : ((4 : Nat) : Int) = 4 := rfl
    refine ⟨z, 1 + c, 100, rfl, cb0, cb1, by decide, .inl (by decide), fun v H' e hv => ?_⟩
    exact q v _ H' ((r12.trans r3).then e) (t3.ex e) hv (bd_div cb0 (by rw [e4]; omega) (by rw [e4]; omega) cb2)
def spBox18 (K : PySem.W.Frag) : Sp := fun vs H Q _ => ∃ s : Addr, vs = [.ref s] ∧ St3 s H ∧ ∀ v sp H', Dk s H H' → St3 s H' → BoxV K 6 H' v sp → Q v H'
theorem ok__law_box (D : Df K mg "_law_box" s__law_box ["_law_stream_here"]) (GT : Ok P w K mg base 1 "_law_take" ["_law_stream_here", "_law_many"] spTake3) (GF : Ok P w K mg base 2 "_law_fraction" ["_law_top", "_law_bottom"] (spPart K)) (GP : Ok P w K mg base 3 "_law_plus" ["_law_one", "_law_other"] (spPlus K)) (mrange : mg "range" = none) (mtuple : mg "tuple" = none) : Ok P w K mg base 4 "_law_box" ["_law_stream_here"] (spBox18 K) := by
  refine D.ok fun f fd F => F.ok sc__law_box (fun vs H Q E h => ?_) (fun cdv A outer s H vs Q E hr h => ?_)
  · obtain ⟨s, rfl, _⟩ := h
    rfl
  · obtain ⟨s, rfl, hS, q⟩ := h
    have hr1 : Room 1 _ := hr.mono (by decide)
    have hr2 : Room 2 _ := hr.mono (by decide)
    refine ⟨_, (pss_cons (ps_set (i := 1) sc__law_box.nd rfl (.inl rfl) (pe_lst pa_nil))
      (pss_cons (ps_for PassesOwn.never rfl (pi_range1 (by rfl) mrange (pa_cons (pe_ix ix_list (pe_lst (pa_cons pe_int (pa_cons pe_int (pa_cons pe_int (pa_cons pe_int pa_nil))))) (cl GT hr1 (pa_cons (pv 0) (pa_cons pe_int pa_nil))) (fun _ _ => rfl)) pa_nil)) (pg_name (i := 2) sc__law_box.nd rfl (.inl rfl)) (pss_cons (ps_set (i := 3) sc__law_box.nd rfl (.inl rfl) (cl GF hr2 (pa_cons (pe_op op_sub (cl GT hr1 (pa_cons (pv 0) (pa_cons pe_int pa_nil))) pe_int) (pa_cons (pe_op op_add pe_int (cl GT hr1 (pa_cons (pv 0) (pa_cons pe_int pa_nil)))) pa_nil))))
      (pss_one (ps_expr (pe_bm PySem.F.plainAttrs_list PySem.F.slot_list_append PySem.F.type_list_append mt_append (pv 1) (pa_cons (pe_tup (pa_cons (pv 3) (pa_cons (cl GP hr (pa_cons (pv 3) (pa_cons (cl GF hr2 (pa_cons (cl GT hr1 (pa_cons (pv 0) (pa_cons pe_int pa_nil))) (pa_cons (pe_op op_add pe_int (cl GT hr1 (pa_cons (pv 0) (pa_cons pe_int pa_nil)))) pa_nil))) pa_nil))) pa_nil))) pa_nil))))))
      (pss_one (ps_ret (pe_callTy call_tuple_of (by rfl) mtuple (by decide +kernel) (pa_cons (pv 1) pa_nil)))))), ?_⟩
    refine ⟨(by show 0 ≤ sizeLine; decide), fun F hF => ?_⟩
    have hFs := Ne.symm (hS.lst.ne hF)
    have e0 : Ex H (upd H F (.lst [])) := Ex.new hF
    have k0 : upd H F (.lst []) F = some (.lst []) := upd_same
    have t0 := hS.ex e0
    have r0 := Dk.ex hS.lst e0
    generalize upd H F (.lst []) = H0 at e0 k0 t0 r0 ⊢
    refine ⟨(by show 4 ≤ sizeLine; decide), fun p hp => ⟨_, rfl, s, _, rfl, t0.new hp, by decide, by decide, fun x H2 x0 x1 r2 t2 => ?_⟩⟩
    have hp2 := r2.keep p _ (Ne.symm (t0.lst.ne hp)) upd_same
    obtain ⟨v, hv, hm⟩ := at_mem (xs := [.int 1, .int 2, .int 2, .int 3]) (d := x) x0 (by show x < 4; omega)
    have hv2 : ∃ n : Nat, v = .int (n : Int) ∧ 1 ≤ n ∧ n ≤ 3 := by
      simp only [List.mem_cons, List.not_mem_nil, or_false] at hm
      rcases hm with rfl | rfl | rfl | rfl
      · exact ⟨1, rfl, by omega, by omega⟩
      · exact ⟨2, rfl, by omega, by omega⟩
      · exact ⟨2, rfl, by omega, by omega⟩
      · exact ⟨3, rfl, by omega, by omega⟩
    obtain ⟨n, rfl, n1, n3⟩ := hv2
    have r02 := (r0.then (Ex.new (o := .lst [.int 1, .int 2, .int 2, .int 3]) hp)).trans r2
    have k2 := ((Dk.ex t0.lst (Ex.new (o := .lst [.int 1, .int 2, .int 2, .int 3]) hp)).trans r2).keep F _ hFs k0
    refine ⟨p, _, _, _, rfl, rfl, sq_of hp2, hv, (n : Int), rfl, by omega, by omega, for_range (lo := 0) (n := ((n : Int)).toNat) (fun i σ H' => ∃ (o2 o3 : Option V) (L : List Span) (xs : List V), σ = [some (.ref s), some (.ref F), o2, o3] ∧ H' F = some (.lst xs) ∧ Paired (SpanV K H') xs L ∧ L.length = i ∧ SpB 21 18 6 L ∧ Dk s H H' ∧ St3 s H') ⟨none, none, [], [], rfl, k2, .nil, rfl, spb_nil, r02, t2⟩ ?_ ?_⟩
    · rintro i σ H' hi ⟨o2, o3, L, xs, rfl, kF, pF, Ln, hL, rr, tt⟩
      rw [Int.toNat_natCast] at hi
      have xl := Paired.length pF
      refine ⟨_, rfl, s, _, rfl, tt, by decide, by decide, fun d H1 a0 a1 r1 t1 => ⟨_, _, rfl, rfl, _, rfl, s, _, rfl, t1, by decide, by decide, fun c H2 c0 c1 r2 t2 => ⟨_, _, rfl, rfl, ?_⟩⟩⟩
      obtain ⟨cb0, cb1, cb2⟩ := d6 c0 c1
      have e6 : ((6 : Nat) : Int) = 6 := rfl
      refine ⟨d - 6, 1 + c, 100, rfl, cb0, cb1, by decide, .inl (by decide), fun lo H3 e3 hlo => ?_⟩
      have slo : Bd 6 6 (Rat.divInt (d - 6) (1 + c)) := bd_div cb0 (by rw [e6]; omega) (by rw [e6]; omega) cb2
      generalize Rat.divInt (d - 6) (1 + c) = l0 at hlo slo
      have t3 := t2.ex e3
      have r3 := (r1.trans r2).then e3
      have kF3 := r3.keep F _ hFs kF
      refine ⟨_, rfl, .inl ⟨rfl, _, sq_of kF3⟩, _, rfl, _, rfl, _, rfl, s, _, rfl, t3, by decide, by decide, fun z H4 z0 z1 r4 t4 => ⟨_, rfl, s, _, rfl, t4, by decide, by decide, fun c' H5 c0' c1' r5 t5 => ⟨_, _, rfl, rfl, ?_⟩⟩⟩
      obtain ⟨cb0', cb1', cb2'⟩ := d6 c0' (by omega : c' < 3)
      refine ⟨z, 1 + c', 100, rfl, cb0', cb1', by decide, .inl (by decide), fun wv H6 e7 hw => ?_⟩
      have sw : Bd 6 6 (Rat.divInt z (1 + c')) := bd_div cb0' (by rw [e6]; omega) (by rw [e6]; omega) cb2'
      have w0 : (0 : Rat) ≤ Rat.divInt z (1 + c') := Rat.divInt_nonneg z0 (by omega)
      generalize Rat.divInt z (1 + c') = w1 at hw sw w0
      have hlo6 := hlo.dk t3.lst ((r4.trans r5).then e7)
      have slz : Sz (3 + 3) 3 l0 := slo.sz (k := 3) (b := 3) (by decide) (by decide) (by decide)
      have swz : Sz (3 + 3) 3 w1 := sw.sz (k := 3) (b := 3) (by decide) (by decide) (by decide)
      refine ⟨lo, wv, l0, w1, 6, 3, 6, 3, rfl, hlo6, hw, slz, swz, ⟨by decide, by decide, by decide, by decide, .inl (by decide), by decide⟩, fun hi' H9 e9 hhi => ⟨(by show 2 ≤ sizeLine; decide), fun pp hpp => ?_⟩⟩
      have eA : Ex H9 (upd H9 pp (.tup [lo, hi'])) := Ex.new hpp
      have spv : SpanV K (upd H9 pp (.tup [lo, hi'])) (.ref pp) (l0, l0 + w1) := ⟨pp, lo, hi', rfl, st_of upd_same, hlo6.ex (e9.trans eA), hhi.ex eA⟩
      have rA := r3.trans (((r4.trans r5).then e7).then (e9.trans eA))
      have tA := t5.ex (e7.trans (e9.trans eA))
      generalize upd H9 pp (.tup [lo, hi']) = HA at spv rA tA ⊢
      have kFA := rA.keep F _ hFs kF
      have pFA : Paired (SpanV K HA) xs L := pmono (fun _ _ q => SpanV.dk tt.lst rA q) pF
      refine ⟨F, xs, _, rfl, rfl, kFA, sz_lt (by omega), ?_⟩
      have w12 := sw.1.2
      have e6r : ((6 : Nat) : Rat) = 6 := rfl
      rw [e6r] at w12
      refine ⟨_, _, L ++ [(l0, l0 + w1)], _, rfl, upd_same, Paired.snoc (pmono (fun _ _ => SpanV.mut kFA) pFA) (SpanV.mut kFA spv), by simp [Ln], spb_snoc hL ⟨slo.mono (by decide) (Nat.dvd_refl _), (slo.add (by decide) sw).mono (by decide) (Nat.dvd_refl _)⟩ (by show l0 ≤ l0 + w1; grind) (by
          have e18 : ((18 : Nat) : Rat) = 18 := rfl
          show l0 + w1 - l0 ≤ _
          rw [e18]
          grind), (rr.trans rA).mut hF (Ne.symm hFs), tA.mut (Ne.symm hFs)⟩
    · rintro σ H' ⟨o2, o3, L, xs, rfl, kF, pF, Ln, hL, rr, tt⟩
      rw [Int.toNat_natCast] at Ln
      refine ⟨_, rfl, F, xs, rfl, .inl ⟨sq_of kF, fun pt hpt => ?_⟩⟩
      have eT := Ex.new (o := .tup xs) hpt
      exact q _ L _ (rr.then eT) (tt.ex eT) ⟨⟨pt, xs, rfl, st_of upd_same, pmono (fun _ _ => SpanV.ex eT) pF⟩, by omega, by omega, hL, by decide, by decide⟩
def spRow18 (K : PySem.W.Frag) : Sp := fun vs H Q _ => ∃ (s : Addr) (n : Nat), vs = [.ref s, .int (n : Int)] ∧ St3 s H ∧ n ≤ 3 ∧ ∀ v L H', Dk s H H' → St3 s H' → RowV K H' v L → L.length = n → BdL 4 6 L → Q v H'
theorem ok__law_row (D : Df K mg "_law_row" s__law_row ["_law_stream_here", "_law_many"]) (GN : Ok P w K mg base 3 "_law_number" ["_law_stream_here"] (spNum18 K)) (mtuple : mg "tuple" = none) (mrange : mg "range" = none) : Ok P w K mg base 4 "_law_row" ["_law_stream_here", "_law_many"] (spRow18 K) := by
  refine D.ok fun f fd F => F.ok sc__law_row (fun vs H Q E h => ?_) (fun cdv A outer s H vs Q E hr h => ?_)
  · obtain ⟨s, n, rfl, _⟩ := h
    rfl
  · obtain ⟨s, n, rfl, hS, hn, q⟩ := h
    refine ⟨_, pss_one (ps_ret (pe_callTy call_tuple_of (by rfl) mtuple (by decide +kernel) (pa_cons (pe_lc (own := [("_law_k", 2)]) (g := gName 2) (tt := tYes) rfl sc__law_row.nd (pi_range1 (by rfl) mrange (pa_cons (pv 1) pa_nil)) (blkOk_by (N := ["_law_stream_here", "_law_many", "_law_k"]) (sc := defScope s__law_row) (by decide +kernel)) (fun _ _ _ _ _ => (pg_name (i := 2) sc__law_row.nd rfl (.inl rfl))) (fun _ _ _ _ _ => pts_nil) (fun _ _ _ _ _ => cl GN hr (pa_cons (pv 0) pa_nil))) pa_nil))), ?_⟩
    refine ⟨_, rfl, (n : Int), rfl, by omega, by omega, fun D hD => ?_⟩
    refine lc_range (lo := 0) (n := ((n : Int)).toNat) (BldD (FrV K) (fun L => BdL 4 6 L) s H D) (bdd0 hS hD (fun _ z => by cases z)) ?_ ?_
    · rintro i H' hi b
      rw [Int.toNat_natCast] at hi
      obtain ⟨_, _, _, _, _, _, d0, t0⟩ := id b
      refine ⟨rfl, ?_⟩
      refine ⟨_, rfl, s, rfl, t0, fun v r H4 r4 t4 hv hs => ?_⟩
      exact bdd_step sdF hS.lst hD b (by omega) r4 t4 hv (fun L hL _ x hx => by
        rcases List.mem_append.mp hx with hx | hx
        · exact hL x hx
        · rw [List.mem_singleton.mp hx]
          exact hs)
    · rintro H' ⟨L, xs, hx, hl, hn', hz, r1, t1⟩
      rw [Int.toNat_natCast] at hn'
      refine ⟨D, xs, rfl, .inl ⟨sq_of hx, fun l hl' => ?_⟩⟩
      have row : RowV K (upd H' l (.tup xs)) (.ref l) L := ⟨l, xs, rfl, st_of upd_same, FrL.ex (Ex.new hl') hl⟩
      exact q _ L _ (r1.then (Ex.new (o := .tup xs) hl')) (t1.new (o := .tup xs) hl') row hn' hz
end

end K20
end
section
set_option maxRecDepth 100000
set_option maxHeartbeats 400000
namespace K20
open PySem Evl Nc PyProof.Rows
open L2 hiding spCell
theorem pair_take {α β : Type} {R : α → β → Prop} : ∀ (n : Nat) {xs : List α} {ys : List β}, Paired R xs ys → Paired R (xs.take n) (ys.take n)
  | 0, _, _, _ => .nil
  | _ + 1, [], [], .nil => .nil
  | n + 1, _ :: _, _ :: _, .cons h p => .cons h (pair_take n p)
theorem cut2 {xs : List V} : cutV xs none (some 2) = xs.take 2 := by
  unfold cutV
  simp only [HT.sIx]
  rw [if_neg (by decide), List.drop_zero, Nat.sub_zero]
  show xs.take (min 2 xs.length) = _
  by_cases h : 2 ≤ xs.length
  · rw [Nat.min_eq_left h]
  · rw [Nat.min_eq_right (by omega), List.take_of_length_le (Nat.le_refl _), List.take_of_length_le (by omega)]
section
variable {P : Program} {w : World} {K : PySem.W.Frag} {mg : Str → Option Value} {base : Heap}
theorem ok__law_box_of (D : Df K mg "_law_box_of" s__law_box_of ["_law_stream_here"]) (GB : Ok P w K mg base 4 "_law_box" ["_law_stream_here"] (spBox18 K)) : Ok P w K mg base 5 "_law_box_of" ["_law_stream_here"] (spBoxOf K) := by
  refine D.ok fun f fd F => F.ok sc__law_box_of (fun vs H Q E h => ?_) (fun cdv A outer s H vs Q E hr h => ?_)
  · obtain ⟨s, rfl, _⟩ := h
    rfl
  · obtain ⟨s, rfl, hS, q⟩ := h
    refine ⟨_, (pss_one (ps_ret (pe_slice (sl_tupE K) (cl GB hr (pa_cons (pv 0) pa_nil)) po_none (po_some pe_int)))), ?_⟩
    refine ⟨_, rfl, s, rfl, hS, fun v sp H1 r1 t1 hb => ?_⟩
    obtain ⟨⟨a, xs, rfl, qa, pa⟩, l1, l3, hbb, d0, d1⟩ := hb
    have xl := Paired.length pa
    have qa : SqT K H1 a xs := qa
    refine ⟨_, rfl, a, xs, rfl, qa, fun p H2 e2 q2 => ?_⟩
    refine q (.ref p) (sp.take 2) H2 (r1.then e2) (t1.ex e2) ⟨⟨p, xs.take 2, rfl, by rw [cut2] at q2; exact q2, pair_take 2 (pmono (fun _ _ z => SpanV.ex e2 z) pa)⟩, by rw [List.length_take]; omega, by rw [List.length_take]; omega, ⟨fun p hp => hbb.bd p (List.mem_of_mem_take hp), fun p hp => hbb.le p (List.mem_of_mem_take hp), fun p hp => hbb.wide p (List.mem_of_mem_take hp)⟩, d0, d1⟩ (by rw [List.length_take]; omega)
theorem ok__law_corners (D : Df K mg "_law_corners" s__law_corners ["_law_rows", "_law_many"]) (GR : Ok P w K mg base 3 "_law_ratio" ["_law_one", "_law_other"] (spRatioV K)) (GM : Ok P w K mg base 4 "_law_meet" ["_law_one", "_law_other"] (spMeet K)) (menum : mg "enumerate" = none) : Ok P w K mg base 5 "_law_corners" ["_law_rows", "_law_many"] (spCorners K) := by
  refine D.ok fun f fd F => F.ok sc__law_corners (fun vs H Q E h => ?_) (fun cdv A outer s H vs Q E hr h => ?_)
  · obtain ⟨a, xs, n, rows, rfl, _⟩ := h
    rfl
  · obtain ⟨a, xs, n, rows, rfl, qa, pa, n1, n2, hz, l100, q⟩ := h
    have hr3 : Room 3 _ := hr.mono (by decide)
    have hr4 : Room 4 _ := hr
    refine ⟨_, (pss_cons (ps_set (i := 2) sc__law_corners.nd rfl (.inl rfl) (pe_lstE pa_nil))
      (pss_cons (ps_for PassesOwn.never rfl (pi_enumX (by rfl) menum (pa_cons (pv 0) pa_nil)) (pg_tup rfl (pgs_cons (pg_name (i := 3) sc__law_corners.nd rfl (.inl rfl)) (pgs_cons (pg_name (i := 4) sc__law_corners.nd rfl (.inr rfl)) pgs_nil))) (pss_cut (ps_if (PW.pt (pw_and (pt_cmpR op_eq (pv 1) pe_int (nomark _)) (pw_and1 (pt_cmpR op_ne (pe_ix (ix_tK K) (pe_ix (ix_tK K) (pe_ix (ix_tK K) (pv 4) pe_int (fun _ _ => rfl)) pe_int (fun _ _ => rfl)) pe_int (fun _ _ => rfl)) pe_int (nomark _))))) (pss_one (ps_expr (pe_bm PySem.F.plainAttrs_list PySem.F.slot_list_append PySem.F.type_list_append mt_append (pv 2) (pa_cons (pe_tupE (pa_cons (cl GR hr3 (pa_cons (pe_ix (ix_tK K) (pv 4) pe_int (fun _ _ => rfl)) (pa_cons (pe_ix (ix_tK K) (pe_ix (ix_tK K) (pv 4) pe_int (fun _ _ => rfl)) pe_int (fun _ _ => rfl)) pa_nil))) pa_nil)) pa_nil)))) pss_nil)
      (pss_one (ps_if (pt_cmpR op_eq (pv 1) pe_int (nomark _)) (pss_one (ps_expr (pe_bm PySem.F.plainAttrs_list PySem.F.slot_list_extend PySem.F.type_list_extend mt_extend (pv 2) (pa_cons (pe_lc (own := [("_law_spot", 5)]) (g := gName 5) (tt := (tTest (tOp rNN (tVar 5) (tC V.non)))) rfl sc__law_corners.nd (pi_list (pe_lc (own := [("_law_other", 6)]) (g := gName 6) (tt := tYes) rfl sc__law_corners.nd (pi_list (pe_slice sl_listE (pv 0) po_none (po_some (pv 3)))) (blkOk_by (N := ["_law_rows", "_law_many", "_law_found", "_law_k", "_law_wish_here", "_law_spot", "_law_other"]) (sc := defScope s__law_corners) (by decide +kernel)) (fun _ _ _ _ _ => (pg_name (i := 6) sc__law_corners.nd rfl (.inl rfl))) (fun _ _ _ _ _ => pts_nil) (fun _ _ _ _ _ => cl GM hr4 (pa_cons (pv 4) (pa_cons (pv 6) pa_nil))))) (blkOk_by (N := ["_law_rows", "_law_many", "_law_found", "_law_k", "_law_wish_here", "_law_spot", "_law_other"]) (sc := defScope s__law_corners) (by decide +kernel)) (fun _ _ _ _ _ => (pg_name (i := 5) sc__law_corners.nd rfl (.inl rfl))) (fun _ _ _ _ _ => pts_one (pt_cmpR op_nn (pv 5) pe_non (nomark _))) (fun _ _ _ _ _ => (pv 5))) pa_nil)))) pss_nil))))
      (pss_one (ps_ret (pv 2))))), ?_⟩
    have xl := Paired.length pa
    have qX : SqX K false H a xs := qa
    refine ⟨(by show 0 ≤ sizeLine; decide), fun F H0 nF e0 kF => ?_⟩
    have few := corn_few (n := n) (rows := rows) l100
    refine ⟨_, rfl, false, a, xs, rfl, ex_l e0 qa, ?_⟩
    refine for_enumX (c := false) (K := K) (fun i σ H' => ∃ (o3 o4 : Option V) (ys : List V), σ = [some (.ref a), some (.int (n : Int)), some (.ref F), o3, o4, none, none] ∧ Ex H H' ∧ H' F = some (.lst ys) ∧ Paired (RowV K H') ys (cornTo n rows i)) ⟨none, none, [], rfl, e0, kF, .nil⟩ (fun i σ H' ⟨_, _, _, _, e, _⟩ => ex_l e qa) ?_ ?_
    · rintro i v T σ H3 hv ⟨o3, o4, ys, rfl, e3, kF3, pF⟩ hT
      obtain ⟨z, hz0, zv⟩ := pget pa hv
      have il := (List.getElem?_eq_some_iff.mp hz0).1
      have sz := hz z (List.mem_of_getElem? hz0)
      have yl := Paired.length pF
      have fi := few i
      have fi2 : i * 100 ≤ 100 * 100 := Nat.mul_le_mul_right _ (by omega)
      have eT : Ex H3 (upd H3 T (.tup [.int (i : Nat), v])) := Ex.new hT
      refine ⟨T, [.int (i : Nat), v], rfl, st_of upd_same, rfl, .int (i : Nat), [v], rfl, v, [], rfl, rfl, ?_⟩
      generalize upd H3 T (.tup [.int (i : Nat), v]) = H4 at eT ⊢
      have E4 := e3.trans eT
      have kF4 := eT _ _ kF3
      have pF4 : Paired (RowV K H4) ys (cornTo n rows i) := pmono (fun _ _ z => RowV.ex eT z) pF
      obtain ⟨t, ra, vb, rfl, qt, ⟨tr, us, rfl, qr, pr⟩, fb⟩ := zv.ex E4
      have nn : n = 1 ∨ n = 2 := by omega
      refine ⟨fun σ H' => ∃ ys, σ = [some (.ref a), some (.int (n : Int)), some (.ref F), some (.int (i : Int)), some (.ref t), none, none] ∧ Ex H H' ∧ H' F = some (.lst ys) ∧ ys.length ≤ 10001 ∧ Paired (RowV K H') ys (cornTo n rows i ++ if n = 1 then cornAt n rows i else []), ?_, ?_⟩
      · rcases nn with rfl | rfl
        · obtain ⟨l, rc⟩ := z
          obtain ⟨r0, rfl⟩ : ∃ a, l = [a] := match l, sz.len with | [a], _ => ⟨a, rfl⟩
          obtain ⟨v0, rfl, f0⟩ := paired1 pr
          obtain ⟨t0, rfl, q0⟩ := id f0
          have ca : cornAt 1 rows i = if r0 = 0 then [] else [[rc / r0]] := by
            unfold cornAt
            rw [hz0]
            rfl
          refine ⟨_, rfl, rfl, _, rfl, iteT ?_⟩
          refine ⟨_, rfl, t, _, 0, .ref tr, rfl, rfl, qt, at0, tr, _, 0, .ref t0, rfl, rfl, qr, at0, t0, _, 0, _, rfl, rfl, q0, at0, rfl, _, rfl, ite2 (fun h0 => ?_) (fun h0 => ?_)⟩
          · have r00 : r0 ≠ 0 := fun zz => by
              rw [zz] at h0
              cases h0
            refine ⟨_, rfl, .inl ⟨rfl, _, sq_of kF4⟩, _, rfl, _, _, _, _, rfl, rfl, qt, at1, _, rfl, t, _, 0, .ref tr, rfl, rfl, qt, at0, tr, _, 0, .ref t0, rfl, rfl, qr, at0, vb, .ref t0, rc, r0, 15, 6, 15, 6, rfl, fb, f0, r00, sz.num, sz.row r0 (by simp), ⟨by decide, by decide, by decide, by decide, by decide, by decide⟩, fun v5 H5 e5 h5 => ⟨(by show 1 ≤ sizeLine; decide), fun p6 H6 n6 e6 k6 => ?_⟩⟩
            have E6 := e5.trans e6
            have kF6 := E6 _ _ kF4
            have new : RowV K H6 (.ref p6) [rc / r0] := ⟨p6, _, rfl, st_of k6, .cons (h5.ex e6) .nil⟩
            refine ⟨F, ys, _, rfl, rfl, kF6, sz_lt (by omega), ?_⟩
            refine ⟨_, rfl, Ex.mut (E4.trans E6) nF, upd_same, by rw [List.length_append]; show ys.length + 1 ≤ 10001; omega, ?_⟩
            rw [if_pos rfl, ca, if_neg r00]
            exact Paired.snoc (pmono (fun _ _ z => RowV.mut kF6 (RowV.ex E6 z)) pF4) (RowV.mut kF6 new)
          · have r00 : r0 = 0 := by
              refine Rat.num_eq_zero.mp (Classical.byContradiction fun hn => h0 ?_)
              rw [decide_eq_false fun zz => hn (V.int.inj zz)]
              rfl
            refine ⟨ys, rfl, E4, kF4, by omega, ?_⟩
            rw [if_pos rfl, ca, if_pos r00, List.append_nil]
            exact pF4
        · refine ⟨_, rfl, rfl, _, rfl, iteF (iteF ⟨ys, rfl, E4, kF4, by omega, ?_⟩)⟩
          rw [if_neg (by decide), List.append_nil]
          exact pF4
      · clear pF4 kF4 yl pF kF3
        rintro σ H5 ⟨ys, rfl, e5, kF5, yl, pF5⟩
        rcases nn with rfl | rfl
        · refine ⟨_, rfl, rfl, _, rfl, iteF ⟨_, _, ys, rfl, e5, kF5, ?_⟩⟩
          rw [if_pos rfl] at pF5
          exact pF5
        · rw [if_neg (by decide), List.append_nil] at pF5
          have qa5 : SqL K H5 a xs := ex_l e5 qa
          have pa5 : Paired (SumV K H5) xs rows := pmono (fun _ _ z => SumV.ex e5 z) pa
          have zv5 : SumV K H5 (.ref t) z := zv.ex e5
          refine ⟨_, rfl, rfl, _, rfl, iteT ?_⟩
          refine ⟨_, rfl, .inl ⟨rfl, _, sq_of kF5⟩, _, rfl, _, rfl, _, rfl, a, xs, rfl, qa5, fun p6 H6 n6 e6 k6 => ⟨p6, rfl, ⟨_, sq_of k6⟩, fun G7 h7 => ?_⟩⟩
          rw [cut_to (by omega)] at k6
          have p6s : Paired (SumV K H6) (xs.take i) (rows.take i) := pair_take i (pmono (fun _ _ z => SumV.ex e6 z) pa5)
          refine lc_list (K := K) (a := p6) (xs := xs.take i) (Bld (MtV K) H6 G7 ((rows.take i).map fun y => meetR z y)) (bld0 h7) (fun j H' _ b => sq_of (b.1 _ _ k6)) ?_ ?_
          · rintro j u H8 hu b
            obtain ⟨y, hy, fy⟩ := pget p6s hu
            have jl := (List.getElem?_eq_some_iff.mp hy).1
            rw [List.length_take] at jl
            have ym := List.mem_of_mem_take (List.mem_of_getElem? hy)
            refine ⟨rfl, ?_⟩
            refine ⟨_, rfl, _, rfl, .ref t, u, z, y, rfl, zv5.ex (e6.trans b.1), fy.ex b.1, sz, hz y ym, fun v9 H9 e9 h9 => ?_⟩
            exact bld_step stM h7 b e9 (by rw [List.getElem?_map, hy]; rfl) (by omega) h9
          intro H8 b8
          obtain ⟨e8, ms, kG, pG⟩ := bld_end (by rw [List.length_map, List.length_take, List.length_take]; omega) b8
          have ml := Paired.length pG
          rw [List.length_map, List.length_take] at ml
          refine ⟨G7, rfl, ⟨_, sq_of kG⟩, fun G9 h9 => ?_⟩
          refine lc_list (K := K) (a := G7) (xs := ms) (Kept (MtV K) H8 G9 ((rows.take i).map fun y => meetR z y) Option.isSome) (kept0 h9) (fun j H' _ b => sq_of (b.1 _ _ kG)) ?_ ?_
          · rintro j u H10 hu b
            obtain ⟨o, ho, fo⟩ := pget pG hu
            have jl := (List.getElem?_eq_some_iff.mp ho).1
            rw [List.length_map, List.length_take] at jl
            have fo := MtV.ex b.1 fo
            refine ⟨rfl, ?_⟩
            refine ⟨_, rfl, rfl, ?_⟩
            cases o with
            | none =>
              cases (show u = V.non from fo)
              refine ⟨_, rfl, iteF ?_⟩
              exact kept_miss stM b (Ex.refl _) ho rfl
            | some l =>
              obtain ⟨tt, uu, rfl, _⟩ := id (show RowV K H10 u l from fo)
              refine ⟨_, rfl, iteT ⟨_, rfl, kept_hit stM h9 b (Ex.refl _) ho rfl (by omega) fo⟩⟩
          intro H10 b10
          obtain ⟨e10, ws, kG9, wl, pW⟩ := kept_end (by rw [List.length_map, List.length_take]; omega) b10
          have E10 := e6.trans (e8.trans e10)
          have kF10 := E10 _ _ kF5
          refine ⟨F, G9, ys, ws, rfl, rfl, kF10, kG9, Nat.le_of_lt (sz_lt (by omega)), ?_⟩
          refine ⟨_, _, _, rfl, Ex.mut (e5.trans E10) nF, upd_same, ?_⟩
          rw [cornTo]
          refine pair_app (pmono (fun _ _ z => RowV.mut kF10 (RowV.ex E10 z)) pF5) (pmono (fun _ _ z => RowV.mut kF10 z) ?_)
          have e11 : cornAt 2 rows i = ((rows.take i).map fun y => meetR z y).filterMap id := by
            unfold cornAt
            rw [hz0, List.filterMap_map]
            rfl
          rw [e11]
          exact somes pW
    · rintro σ H3 ⟨o3, o4, ys, rfl, e3, kF3, pF⟩
      rw [xl] at pF
      exact ⟨_, rfl, q F ys H3 e3 kF3 pF⟩
end

end K20
end
section
set_option maxRecDepth 100000
set_option maxHeartbeats 400000
namespace K20
open PySem Evl Nc PyProof.Rows
open L2 hiding spCell
theorem pair_of_get' {α β : Type} {R : α → β → Prop} : ∀ {xs : List α} {ys : List β}, xs.length = ys.length → (∀ (k : Nat) x y, xs[k]? = some x → ys[k]? = some y → R x y) → Paired R xs ys
  | [], [], _, _ => .nil
  | x :: xs, y :: ys, h, f => .cons (f 0 x y rfl rfl) (pair_of_get' (by simpa using h) fun k a b h1 h2 => f (k + 1) a b (by simpa using h1) (by simpa using h2))
section
variable {P : Program} {w : World} {K : PySem.W.Frag} {mg : Str → Option Value} {base : Heap}
theorem ok_is_whole (D : Df K mg "is_whole" s_is_whole ["thing"]) (misi : mg "isinstance" = none) (mint : mg "int" = none) (mbool : mg "bool" = none) : Ok P w K mg base 1 "is_whole" ["thing"] (spWh K) := by
  refine D.ok fun f fd F => F.ok sc_is_whole (fun vs H Q E h => ?_) (fun cdv A outer s H vs Q E hr h => ?_)
  · obtain ⟨v, k, rfl, _⟩ := h
    rfl
  · obtain ⟨v, k, rfl, hk, q⟩ := h
    refine ⟨_, pss_one (ps_ret (pe_and (pe_callB call_isi (by rfl) misi (by decide +kernel) (pa_cons (pv 0) (pa_cons (pe_bltn (v := .ty "int") (by rfl) mint (by decide +kernel) rfl) pa_nil))) (pe_one (pe_not (pe_callB call_isi (by rfl) misi (by decide +kernel) (pa_cons (pv 0) (pa_cons (pe_bltn (v := .ty "bool") (by rfl) mbool (by decide +kernel) rfl) pa_nil))))))), ?_⟩
    refine ⟨_, rfl, v, _, _, _, _, rfl, .ty _, hk.1, kit_ty (kd_int k), _, rfl, ifB (fun e => ?_) (fun e => ?_)⟩
    · refine ⟨_, rfl, v, _, _, _, _, rfl, .ty _, hk.1, kit_ty (kd_bool k), _, rfl, ?_⟩
      cases k <;> first | exact q | exact absurd e (by decide)
    · cases k <;> first | exact q | exact absurd e (by decide)
theorem ok_is_fraction (D : Df K mg "is_fraction" s_is_fraction ["thing"]) (GW : Ok P w K mg base 1 "is_whole" ["thing"] (spWh K)) (misi : mg "isinstance" = none) (mtuple : mg "tuple" = none) (mlen : mg "len" = none) (mgcd : mg "gcd" = some (.builtin "math.gcd")) : Ok P w K mg base 2 "is_fraction" ["thing"] (spFr K) := by
  refine D.ok fun f fd F => F.ok sc_is_fraction (fun vs H Q E h => ?_) (fun cdv A outer s H vs Q E hr h => ?_)
  · obtain ⟨v, b, rfl, _⟩ := h
    rfl
  · obtain ⟨v, b, rfl, ht, q⟩ := h
    have hr1 : Room 1 _ := hr.mono (by decide)
    refine ⟨_, (pss_cons (ps_if (PW.pt (pw_or (pt_not (pt_val (pe_callB call_isi (by rfl) misi (by decide +kernel) (pa_cons (pv 0) (pa_cons (pe_bltn (v := .ty "tuple") (by rfl) mtuple (by decide +kernel) rfl) pa_nil))))) (pw_or1 (pt_cmpR op_ne (pe_callB call_len_seq (by rfl) mlen PySem.boot_len (pa_cons (pv 0) pa_nil)) pe_int (nomark _))))) (pss_one (ps_ret pe_bl)) pss_nil)
      (pss_cons (ps_asg (pv 0) (pg_tup rfl (pgs_cons (pg_name (i := 1) sc_is_fraction.nd rfl (.inl rfl)) (pgs_cons (pg_name (i := 2) sc_is_fraction.nd rfl (.inl rfl)) pgs_nil))))
      (pss_one (ps_ret (pe_and (cl GW hr1 (pa_cons (pv 1) pa_nil)) (pe_and (cl GW hr1 (pa_cons (pv 2) pa_nil)) (pe_and (pe_cmpR op_gt (pv 2) pe_int (nomark _)) (pe_one (pe_cmpR op_eq (pe_callBfun cr_gcd (by rfl) mgcd (pa_cons (pv 1) (pa_cons (pv 2) pa_nil))) pe_int (nomark _)))))))))), ?_⟩
    cases ht with
    | oth h n =>
      refine ⟨_, rfl, v, _, _, _, _, rfl, .ty _, h.1, kit_ty (kd_tup _), _, rfl, ?_⟩
      rw [decide_eq_false n]
      exact iteT (iteT q)
    | tupN qt n =>
      refine ⟨_, rfl, _, _, _, _, _, rfl, .ty _, tyT qt, kit_ty (r := true) (by decide +kernel), _, rfl, ?_⟩
      refine iteF ?_
      refine ⟨_, rfl, _, _, rfl, .inr qt, rfl, _, rfl, ifB (fun e => q) (fun e => ?_)⟩
      have e1 := eq_of_nd e
      exact (n (by omega)).elim
    | @two t x y kx ky qt hx hy n =>
      refine ⟨_, rfl, _, _, _, _, _, rfl, .ty _, tyT qt, kit_ty (r := true) (by decide +kernel), _, rfl, ?_⟩
      refine iteF ?_
      refine ⟨_, rfl, _, _, rfl, .inr qt, rfl, _, rfl, iteNS rfl ?_⟩
      refine ⟨_, rfl, t, [x, y], rfl, qt, rfl, x, [y], rfl, y, [], rfl, rfl, ?_⟩
      refine ⟨_, rfl, x, kx, rfl, hx, _, rfl, ifB (fun e => ?_) (fun e => q)⟩
      refine ⟨_, rfl, y, ky, rfl, hy, _, rfl, ifB (fun e2 => ?_) (fun e2 => q)⟩
      exact (n ⟨of_decide_eq_true e, of_decide_eq_true e2⟩).elim
    | @nums t a b qt =>
      refine ⟨_, rfl, _, _, _, _, _, rfl, .ty _, tyT qt, kit_ty (r := true) (by decide +kernel), _, rfl, ?_⟩
      refine iteF ?_
      refine ⟨_, rfl, _, _, rfl, .inr qt, rfl, _, rfl, iteNS rfl ?_⟩
      refine ⟨_, rfl, t, [.int a, .int b], rfl, qt, rfl, _, [_], rfl, _, [], rfl, rfl, ?_⟩
      refine ⟨_, rfl, _, .int, rfl, ⟨tyI a, fun _ => ⟨a, rfl⟩⟩, _, rfl, iteT ?_⟩
      refine ⟨_, rfl, _, .int, rfl, ⟨tyI b, fun _ => ⟨b, rfl⟩⟩, _, rfl, iteT ?_⟩
      refine ⟨_, rfl, _, _, rfl, rfl, _, rfl, ifB (fun e => ?_) (fun e => ?_)⟩
      · refine ⟨_, rfl, _, rfl, a, b, rfl, rfl, ?_⟩
        rw [e, Bool.true_and] at q
        exact q_bl q (dec_int _)
      · rw [e, Bool.false_and] at q
        exact q
theorem ok_is_row (D : Df K mg "is_row" s_is_row ["thing", "many"]) (GF : Ok P w K mg base 2 "is_fraction" ["thing"] (spFr K)) (misi : mg "isinstance" = none) (mtuple : mg "tuple" = none) (mlen : mg "len" = none) (mall : mg "all" = none) : Ok P w K mg base 3 "is_row" ["thing", "many"] (spIsRw K) := by
  refine D.ok fun f fd F => F.ok sc_is_row (fun vs H Q E h => ?_) (fun cdv A outer s H vs Q E hr h => ?_)
  · obtain ⟨v, k, f, rfl, _⟩ := h
    rfl
  · obtain ⟨v, k, f, rfl, hw, q⟩ := h
    refine ⟨_, (pss_cons (ps_if (PW.pt (pw_or (pt_not (pt_val (pe_callB call_isi (by rfl) misi (by decide +kernel) (pa_cons (pv 0) (pa_cons (pe_bltn (v := .ty "tuple") (by rfl) mtuple (by decide +kernel) rfl) pa_nil))))) (pw_or1 (pt_cmpR op_ne (pe_callB call_len_seq (by rfl) mlen PySem.boot_len (pa_cons (pv 0) pa_nil)) (pv 1) (nomark _))))) (pss_one (ps_ret pe_bl)) pss_nil)
      (pss_one (ps_ret (pe_callB (cr_all rfl) (by rfl) mall (by decide +kernel) (pa_cons (pe_lc (own := [("part", 2)]) (g := gName 2) (tt := tYes) rfl sc_is_row.nd (pi_tup (pv 0)) (blkOk_by (N := ["thing", "many", "part"]) (sc := defScope s_is_row) (by decide +kernel)) (fun _ _ _ _ _ => (pg_name (i := 2) sc_is_row.nd rfl (.inl rfl))) (fun _ _ _ _ _ => pts_nil) (fun _ _ _ _ _ => cl GF (hr.mono (by decide)) (pa_cons (pv 2) pa_nil))) pa_nil))))), ?_⟩
    cases hw with
    | oth h n =>
      refine ⟨_, rfl, v, _, _, _, _, rfl, .ty _, h.1, kit_ty (kd_tup _), _, rfl, ?_⟩
      rw [decide_eq_false n]
      exact iteT (iteT (q _ (Ex.refl H)))
    | @tup t xs bs qt p z =>
      have hl := Paired.length p
      refine ⟨_, rfl, _, _, _, _, _, rfl, .ty _, tyT qt, kit_ty (r := true) (by decide +kernel), _, rfl, iteF ?_⟩
      refine ⟨_, rfl, _, _, rfl, .inr qt, _, rfl, rfl, _, rfl, ifB (fun e => ?_) (fun e => ?_)⟩
      · refine q_bl (q _ (Ex.refl H)) ?_
        show _ = (decide ((bs.length : Int) = k) && bs.all id)
        rw [← hl, ne_of_nd e, Bool.false_and]
      · have e1 := eq_of_nd e
        subst e1
        refine ⟨_, rfl, t, rfl, ⟨_, qt⟩, fun D hD => ?_⟩
        refine lc_tup (K := K) (a := t) (xs := xs) (fun i H' => Ex H H' ∧ H' D = some (.lst ((bs.take i).map V.bl))) ⟨Ex.new hD, upd_same⟩ (fun i H' _ b => ex_t b.1 qt) ?_ ?_
        · rintro i x H' hi ⟨e1, k1⟩
          obtain ⟨b, hb, th⟩ := pget p hi
          have hlt := (List.getElem?_eq_some_iff.mp hi).1
          refine ⟨rfl, ?_⟩
          refine ⟨_, rfl, x, b, rfl, th_exx e1 th, _, k1, sz_lt (by rw [List.length_map, List.length_take]; omega), Ex.mut e1 hD, ?_⟩
          rw [List.take_add_one, hb, List.map_append]
          exact upd_same
        · rintro H1 ⟨e1, k1⟩
          refine ⟨D, bs, rfl, sq_of ?_, ?_⟩
          · rw [k1, List.take_of_length_le (by omega)]
          · refine q_bl (q _ e1) ?_
            show _ = (decide ((bs.length : Int) = (xs.length : Int)) && bs.all id)
            rw [decide_eq_true (by omega), Bool.true_and]
theorem ok_is_sum (D : Df K mg "is_sum" s_is_sum ["thing", "many"]) (GR : Ok P w K mg base 3 "is_row" ["thing", "many"] (spIsRw K)) (GF : Ok P w K mg base 2 "is_fraction" ["thing"] (spFr K)) (misi : mg "isinstance" = none) (mtuple : mg "tuple" = none) (mlen : mg "len" = none) : Ok P w K mg base 4 "is_sum" ["thing", "many"] (spIsSum K) := by
  refine D.ok fun f fd F => F.ok sc_is_sum (fun vs H Q E h => ?_) (fun cdv A outer s H vs Q E hr h => ?_)
  · obtain ⟨x, z, rfl, _⟩ := h
    rfl
  · obtain ⟨x, z, rfl, ⟨t, a, b, rfl, qt, ra, fb⟩, hl, q⟩ := h
    have hr2 : Room 2 _ := hr.mono (by decide)
    refine ⟨_, (pss_cons (ps_if (PW.pt (pw_or (pt_not (pt_val (pe_callB call_isi (by rfl) misi (by decide +kernel) (pa_cons (pv 0) (pa_cons (pe_bltn (v := .ty "tuple") (by rfl) mtuple (by decide +kernel) rfl) pa_nil))))) (pw_or1 (pt_cmpR op_ne (pe_callB call_len_seq (by rfl) mlen PySem.boot_len (pa_cons (pv 0) pa_nil)) pe_int (nomark _))))) (pss_one (ps_ret pe_bl)) pss_nil)
      (pss_cons (ps_asg (pv 0) (pg_tup rfl (pgs_cons (pg_name (i := 2) sc_is_sum.nd rfl (.inl rfl)) (pgs_cons (pg_name (i := 3) sc_is_sum.nd rfl (.inl rfl)) pgs_nil))))
      (pss_one (ps_ret (pe_and (cl GR hr (pa_cons (pv 2) (pa_cons (pv 1) pa_nil))) (pe_one (cl GF hr2 (pa_cons (pv 3) pa_nil)))))))), ?_⟩
    refine ⟨_, rfl, _, _, _, _, _, rfl, .ty _, tyT qt, kit_ty (r := true) (by decide +kernel), _, rfl, iteF ?_⟩
    refine ⟨_, rfl, _, _, rfl, .inr qt, rfl, _, rfl, iteNS rfl ?_⟩
    refine ⟨_, rfl, t, [a, b], rfl, qt, rfl, a, [b], rfl, b, [], rfl, rfl, ?_⟩
    refine ⟨_, rfl, _, rfl, a, _, _, rfl, ra.rw hl, fun H1 e1 => ⟨_, rfl, ?_⟩⟩
    rw [rwB_rep]
    exact iteT ⟨_, rfl, b, true, rfl, (fb.ex e1).th, q H1 e1⟩
theorem ok__is_span (D : Df K mg "_is_span" s__is_span ["thing"]) (GR : Ok P w K mg base 3 "is_row" ["thing", "many"] (spIsRw K)) (GL : Ok P w K mg base 1 "is_less" ["one", "other"] (spLess K)) : Ok P w K mg base 4 "_is_span" ["thing"] (spIsSpan K) := by
  refine D.ok fun f fd F => F.ok sc__is_span (fun vs H Q E h => ?_) (fun cdv A outer s H vs Q E hr h => ?_)
  · obtain ⟨x, p, rfl, _⟩ := h
    rfl
  · obtain ⟨x, p, rfl, hx, s1, s2, hle, q⟩ := h
    have hr1 : Room 1 _ := hr.mono (by decide)
    refine ⟨_, pss_one (ps_ret (pe_and (cl GR hr (pa_cons (pv 0) (pa_cons pe_int pa_nil))) (pe_one (pe_not (cl GL hr1 (pa_cons (pe_ix ix_tup (pv 0) pe_int (fun _ _ => rfl)) (pa_cons (pe_ix ix_tup (pv 0) pe_int (fun _ _ => rfl)) pa_nil))))))), ?_⟩
    refine ⟨_, rfl, x, 2, _, rfl, hx.rw, fun H1 e1 => ⟨_, rfl, ?_⟩⟩
    rw [show rwB (some [true, true]) 2 = true from rfl]
    refine iteT ?_
    obtain ⟨t, a, b, rfl, qt, fa, fb⟩ := hx.ex e1
    refine ⟨_, rfl, _, _, _, _, rfl, rfl, qt, at1, _, rfl, _, _, _, _, rfl, rfl, qt, at0, b, a, p.2, p.1, 1600, 1600, 1600, 1600, rfl, fb, fa, s2, s1, ⟨by decide, by decide, by decide, by decide, by decide⟩, _, rfl, ?_⟩
    refine q_bl (q H1 e1) ?_
    rw [decide_eq_false]
    · rfl
    · intro z
      exact absurd hle (Rat.not_le.mpr ((Rat.lt_iff _ _).mpr z))
theorem ok_is_box (D : Df K mg "is_box" s_is_box ["thing"]) {tMP : Tok} (GS : Ok P w K mg base 4 "_is_span" ["thing"] (spIsSpan K)) (mMP : mg "MOST_PLACES" = some (.int 3 tMP)) (misi : mg "isinstance" = none) (mtuple : mg "tuple" = none) (mlen : mg "len" = none) (mall : mg "all" = none) : Ok P w K mg base 5 "is_box" ["thing"] (spIsBox K) := by
  refine D.ok fun f fd F => F.ok sc_is_box (fun vs H Q E h => ?_) (fun cdv A outer s H vs Q E hr h => ?_)
  · obtain ⟨x, sp, D, rfl, _⟩ := h
    rfl
  · obtain ⟨x, sp, D, rfl, ⟨a, xs, rfl, qa, pa⟩, l1, l3, hok, hsz, d0, dlt, q⟩ := h
    refine ⟨_, (pss_cons (ps_if (PW.pt (pw_or (pt_not (pt_val (pe_callB call_isi (by rfl) misi (by decide +kernel) (pa_cons (pv 0) (pa_cons (pe_bltn (v := .ty "tuple") (by rfl) mtuple (by decide +kernel) rfl) pa_nil))))) (pw_or1 (pt_not (pt_chain op_le op_le pe_int (pe_callB call_len_seq (by rfl) mlen PySem.boot_len (pa_cons (pv 0) pa_nil)) (pe_glob (v := .int 3) (by rfl) mMP ⟨_, rfl⟩)))))) (pss_one (ps_ret pe_bl)) pss_nil)
      (pss_one (ps_ret (pe_callB (cr_all rfl) (by rfl) mall (by decide +kernel) (pa_cons (pe_lc (own := [("part", 1)]) (g := gName 1) (tt := tYes) rfl sc_is_box.nd (pi_tup (pv 0)) (blkOk_by (N := ["thing", "part"]) (sc := defScope s_is_box) (by decide +kernel)) (fun _ _ _ _ _ => (pg_name (i := 1) sc_is_box.nd rfl (.inl rfl))) (fun _ _ _ _ _ => pts_nil) (fun _ _ _ _ _ => cl GS hr (pa_cons (pv 1) pa_nil))) pa_nil))))), ?_⟩
    have hxl := Paired.length pa
    have qa : SqT K H a xs := qa
    refine ⟨_, rfl, _, _, _, _, _, rfl, .ty _, tyT qa, kit_ty (r := true) (by decide +kernel), _, rfl, iteF ?_⟩
    refine ⟨_, rfl, a, _, rfl, .inr qa, _, _, rfl, rfl, _, rfl, ite_t (decide_eq_true (by omega)) ⟨_, _, rfl, rfl, _, rfl, ite_nt (decide_eq_true (by omega)) ?_⟩⟩
    refine ⟨_, rfl, a, rfl, ⟨_, qa⟩, fun G hG => ?_⟩
    refine lc_tup (K := K) (a := a) (xs := xs) (fun j H' => Ex H H' ∧ H' G = some (.lst ((List.replicate j true).map V.bl))) ⟨Ex.new hG, upd_same⟩ (fun j H' _ b => ex_t b.1 qa) ?_ ?_
    · rintro j y H' hj ⟨e4, k4⟩
      obtain ⟨p, hp, fp⟩ := pget pa hj
      have hjl := (List.getElem?_eq_some_iff.mp hj).1
      have hm := List.mem_of_getElem? hp
      obtain ⟨z1, z2⟩ := hsz p hm
      refine ⟨rfl, ?_⟩
      refine ⟨_, rfl, y, p, rfl, fp.ex e4, (z1.sz d0 dlt).mono (by decide) (by decide), (z2.sz d0 dlt).mono (by decide) (by decide), hok p hm, fun H5 e5 => ⟨_, e5 _ _ k4, sz_lt (by simp; omega), Ex.mut (e4.trans e5) hG, ?_⟩⟩
      rw [List.replicate_succ', List.map_append]
      exact upd_same
    · rintro H5 ⟨e5, k5⟩
      refine ⟨G, _, rfl, sq_of k5, q_bl (q H5 e5) (by simp)⟩
theorem ok_check_box (D : Df K mg "check_box" s_check_box ["thing"]) (GB : Ok P w K mg base 5 "is_box" ["thing"] (spIsBox K)) : Ok P w K mg base 6 "check_box" ["thing"] (spCheckBox K) := by
  refine D.ok fun f fd F => F.ok sc_check_box (fun vs H Q E h => ?_) (fun cdv A outer s H vs Q E hr h => ?_)
  · obtain ⟨x, DB, box, rfl, _⟩ := h
    rfl
  · obtain ⟨x, DB, sp, rfl, ⟨hx, l1, l3, hb, d0, dl⟩, q⟩ := h
    refine ⟨_, (pss_one (ps_if (pt_not (pt_val (cl GB hr (pa_cons (pv 0) pa_nil)))) (pss_one ps_never) pss_nil)), ?_⟩
    exact ⟨_, rfl, x, sp, DB, rfl, hx, l1, l3, hb.ok, hb.sv d0 dl, d0, Nat.lt_of_le_of_lt dl (by decide +kernel), fun H1 e1 => ⟨_, rfl, iteF (q H1 e1)⟩⟩
end

end K20
end
section
set_option maxRecDepth 100000
set_option maxHeartbeats 400000
namespace K20
open PySem Evl Nc PyProof.Rows
open L2 hiding spCell
section
variable {P : Program} {w : World} {K : PySem.W.Frag} {mg : Str → Option Value} {base : Heap}
theorem ok__check_each (D : Df K mg "_check_each" s__check_each ["wishes", "many"]) (GS : Ok P w K mg base 4 "is_sum" ["thing", "many"] (spIsSum K)) : Ok P w K mg base 5 "_check_each" ["wishes", "many"] (spCkEach K) := by
  refine D.ok fun f fd F => F.ok sc__check_each (fun vs H Q E h => ?_) (fun cdv A outer s H vs Q E hr h => ?_)
  · obtain ⟨y, n, ws, rfl, _⟩ := h
    rfl
  · obtain ⟨y, n, ws, rfl, ⟨c, a, xs, rfl, qa, pa⟩, wl, n3, q⟩ := h
    refine ⟨_, (pss_one (ps_for PassesOwn.never rfl (pi_sqv K (pv 0)) (pg_name (i := 2) sc__check_each.nd rfl (.inl rfl)) (pss_one (ps_if (pt_not (pt_val (cl GS hr (pa_cons (pv 2) (pa_cons (pv 1) pa_nil))))) (pss_one ps_never) pss_nil)))), ?_⟩
    refine ⟨_, rfl, c, a, xs, rfl, qa, for_sq (K := K) (c := c) (a := a) (xs := xs) (fun i σ H' => ∃ o2 : Option V, σ = [some (.ref a), some (.int (n : Int)), o2] ∧ Ex H H') ⟨none, rfl, Ex.refl _⟩ (fun i σ H' _ ⟨_, _, e⟩ => sqX_ex e qa) ?_ ?_⟩
    · rintro i u σ H2 hi ⟨o2, rfl, e2⟩
      obtain ⟨z, hz, fz⟩ := pget pa hi
      have zl := wl z (List.mem_of_getElem? hz)
      refine ⟨_, rfl, _, rfl, u, z, (by rw [zl]; rfl), fz.ex e2, by omega, fun H3 e3 => ⟨_, rfl, iteF ⟨_, rfl, e2.trans e3⟩⟩⟩
    · rintro σ H2 ⟨o2, rfl, e2⟩
      exact q H2 e2
end

end K20
end
section
set_option maxRecDepth 100000
set_option maxHeartbeats 400000
namespace K20
open PySem Evl Nc PyProof.Rows
open L2 hiding spCell
theorem none_of' {H H' : Hp} {a : Addr} (e : Ex H H') (h : H' a = none) : H a = none := Option.eq_none_iff_forall_ne_some.mpr fun o ho => by
  rw [e _ _ ho] at h
  cases h
theorem ixN_nat {n i : Nat} (h : i < n) : ixN n (i : Int) = some i := by
  unfold ixN
  rw [if_pos (by omega), if_pos (by omega), Int.toNat_natCast]
theorem pi_listK {X : Cx} {tg l : Expr} {tl : TE} (K : PySem.W.Frag) (h : PE X l tl) (hK : X.K = K := by rfl) : PI X tg l (iList K tl) := by
  subst hK
  exact pi_list h
section
variable {P : Program} {w : World} {K : PySem.W.Frag} {mg : Str → Option Value} {base : Heap}
theorem ok__weigh (D : Df K mg "_weigh" s__weigh ["one", "other"]) : Ok P w K mg base 1 "_weigh" ["one", "other"] (spDot3 K) := by
  refine D.ok fun f fd F => F.ok sc__weigh (fun vs H Q E h => ?_) (fun cdv A outer s H vs Q E hr h => ?_)
  · obtain ⟨x, y, u, s, n, rfl, _⟩ := h
    rfl
  · obtain ⟨x, y, u, s', n, rfl, hx, hy, ⟨b1, b2, b3⟩, ⟨c1, c2, c3⟩, n0, n1, q⟩ := h
    refine ⟨_, (pss_one (ps_ret (pe_op op_add (pe_op op_add (pe_op op_mulBig (pe_ix (ix_sK K) (pv 0) pe_int (fun _ _ => rfl)) (pe_ix (ix_sK K) (pv 1) pe_int (fun _ _ => rfl))) (pe_op op_mulBig (pe_ix (ix_sK K) (pv 0) pe_int (fun _ _ => rfl)) (pe_ix (ix_sK K) (pv 1) pe_int (fun _ _ => rfl)))) (pe_op op_mulBig (pe_ix (ix_sK K) (pv 0) pe_int (fun _ _ => rfl)) (pe_ix (ix_sK K) (pv 1) pe_int (fun _ _ => rfl)))))), ?_⟩
    exact ⟨_, rfl, ix3_0 hx ⟨_, rfl, ix3_0 hy ⟨_, _, rfl, rfl, mulOk b1 c1, _, rfl, ix3_1 hx ⟨_, rfl, ix3_1 hy ⟨_, _, rfl, rfl, mulOk b2 c2, _, _, rfl, rfl, _, rfl, ix3_2 hx ⟨_, rfl, ix3_2 hy ⟨_, _, rfl, rfl, mulOk b3 c3, _, _, rfl, rfl, q⟩⟩⟩⟩⟩⟩⟩
theorem ok__across (D : Df K mg "_across" s__across ["one", "other"]) : Ok P w K mg base 1 "_across" ["one", "other"] (spCross3 K) := by
  refine D.ok fun f fd F => F.ok sc__across (fun vs H Q E h => ?_) (fun cdv A outer s H vs Q E hr h => ?_)
  · obtain ⟨x, y, u, s, n, rfl, _⟩ := h
    rfl
  · obtain ⟨x, y, u, s', n, rfl, hx, hy, ⟨b1, b2, b3⟩, ⟨c1, c2, c3⟩, n0, n1, q⟩ := h
    refine ⟨_, (pss_one (ps_ret (pe_tupE (pa_cons (pe_op op_sub (pe_op op_mulBig (pe_ix (ix_sK K) (pv 0) pe_int (fun _ _ => rfl)) (pe_ix (ix_sK K) (pv 1) pe_int (fun _ _ => rfl))) (pe_op op_mulBig (pe_ix (ix_sK K) (pv 0) pe_int (fun _ _ => rfl)) (pe_ix (ix_sK K) (pv 1) pe_int (fun _ _ => rfl)))) (pa_cons (pe_op op_sub (pe_op op_mulBig (pe_ix (ix_sK K) (pv 0) pe_int (fun _ _ => rfl)) (pe_ix (ix_sK K) (pv 1) pe_int (fun _ _ => rfl))) (pe_op op_mulBig (pe_ix (ix_sK K) (pv 0) pe_int (fun _ _ => rfl)) (pe_ix (ix_sK K) (pv 1) pe_int (fun _ _ => rfl)))) (pa_cons (pe_op op_sub (pe_op op_mulBig (pe_ix (ix_sK K) (pv 0) pe_int (fun _ _ => rfl)) (pe_ix (ix_sK K) (pv 1) pe_int (fun _ _ => rfl))) (pe_op op_mulBig (pe_ix (ix_sK K) (pv 0) pe_int (fun _ _ => rfl)) (pe_ix (ix_sK K) (pv 1) pe_int (fun _ _ => rfl)))) pa_nil)))))), ?_⟩
    refine ⟨_, rfl, ix3_1 hx ⟨_, rfl, ix3_2 hy ⟨_, _, rfl, rfl, mulOk b2 c3, _, rfl, ix3_2 hx ⟨_, rfl, ix3_1 hy ⟨_, _, rfl, rfl, mulOk b3 c2, _, _, rfl, rfl, ?_⟩⟩⟩⟩⟩
    refine ⟨_, rfl, ix3_2 hx ⟨_, rfl, ix3_0 hy ⟨_, _, rfl, rfl, mulOk b3 c1, _, rfl, ix3_0 hx ⟨_, rfl, ix3_2 hy ⟨_, _, rfl, rfl, mulOk b1 c3, _, _, rfl, rfl, ?_⟩⟩⟩⟩⟩
    refine ⟨_, rfl, ix3_0 hx ⟨_, rfl, ix3_1 hy ⟨_, _, rfl, rfl, mulOk b1 c2, _, rfl, ix3_1 hx ⟨_, rfl, ix3_0 hy ⟨_, _, rfl, rfl, mulOk b2 c1, _, _, rfl, rfl, ?_⟩⟩⟩⟩⟩
    refine ⟨(by show 3 ≤ sizeLine; decide), fun p H2 np e2 k2 => ?_⟩
    exact q _ H2 e2 ⟨p, rfl, st_of k2⟩
def scopeC : Scope := { kind := .function, names := [(".0", .local), ("column", .local), ("tuple", .globalImplicit)], isGenerator := false, isCoroutine := false }
theorem neg3_at {u : I3} {k : Nat} {y : V} (h : [V.int u.1, V.int u.2.1, V.int u.2.2][k]? = some y) : ∃ i : Int, y = .int i ∧ [V.int (-u.1), V.int (-u.2.1), V.int (-u.2.2)][k]? = some (.int (-i)) := by
  match k, h with
  | 0, h => exact ⟨u.1, by simpa using h.symm, rfl⟩
  | 1, h => exact ⟨u.2.1, by simpa using h.symm, rfl⟩
  | 2, h => exact ⟨u.2.2, by simpa using h.symm, rfl⟩
theorem ok__columns (D : Df K mg "_columns" s__columns ["rows"]) (GA : Ok P w K mg base 1 "_across" ["one", "other"] (spCross3 K)) (GW : Ok P w K mg base 1 "_weigh" ["one", "other"] (spDot3 K)) (mtuple : mg "tuple" = none) : Ok P w K mg base 2 "_columns" ["rows"] (spCols3 K) := by
  refine D.ok fun f fd F => F.ok sc__columns (fun vs H Q E h => ?_) (fun cdv A outer s H vs Q E hr h => ?_)
  · obtain ⟨a, xs, r, n, rfl, _⟩ := h
    rfl
  · obtain ⟨a, xs, r, n, rfl, qa, pr, hb, n0, n9, q⟩ := h
    have hr1 : Room 1 _ := hr
    obtain ⟨x0, x1, x2, rfl, h0, h1, h2⟩ := paired3 pr
    refine ⟨_, (pss_cons (ps_asg (pv 0) (pg_lst rfl (pgs_cons (pg_name (i := 1) sc__columns.nd rfl (.inl rfl)) (pgs_cons (pg_name (i := 2) sc__columns.nd rfl (.inl rfl)) (pgs_cons (pg_name (i := 3) sc__columns.nd rfl (.inl rfl)) pgs_nil)))))
      (pss_cons (ps_set (i := 4) sc__columns.nd rfl (.inl rfl) (pe_lstE (pa_cons (cl GA hr1 (pa_cons (pv 2) (pa_cons (pv 3) pa_nil))) (pa_cons (cl GA hr1 (pa_cons (pv 3) (pa_cons (pv 1) pa_nil))) (pa_cons (cl GA hr1 (pa_cons (pv 1) (pa_cons (pv 2) pa_nil))) pa_nil)))))
      (pss_cons (ps_set (i := 5) sc__columns.nd rfl (.inl rfl) (cl GW hr1 (pa_cons (pv 1) (pa_cons (pe_ix (ix_sK K) (pv 4) pe_int (fun _ _ => rfl)) pa_nil))))
      (pss_cons (ps_if (pt_cmpR op_lt (pv 5) pe_int (nomark _)) (pss_one (ps_ret (pe_tupE (pa_cons (pe_lc (own := [("column", 6)]) (g := gName 6) (tt := tYes) rfl sc__columns.nd (pi_list (pv 4)) (blkOk_by (N := ["rows", "one", "two", "three", "columns", "bottom", "column", "part"]) (sc := defScope s__columns) (by decide +kernel)) (fun _ _ _ _ _ => (pg_name (i := 6) sc__columns.nd rfl (.inl rfl))) (fun _ _ _ _ _ => pts_nil) (fun _ _ _ _ _ => (pe_callTy (T := "tuple") (call_tupK K) (by rfl) mtuple (by decide +kernel) (pa_cons (pe_lc (own := [("part", 7)]) (wi := iTup K (tVar 6)) (g := gName 7) (tt := tYes) rfl sc__columns.nd (pi_tup (pv 6)) (blkOk_by (N := ["rows", "one", "two", "three", "columns", "bottom", "column", "part"]) (sc := relS scopeC (defScope s__columns)) (by decide +kernel)) (fun _ _ _ _ _ => (pg_name (i := 7) sc__columns.nd rfl (.inl rfl))) (fun _ _ _ _ _ => pts_nil) (fun _ _ _ _ _ => pe_un un_neg (pv 7))) pa_nil)))) (pa_cons (pe_un un_neg (pv 5)) pa_nil))))) pss_nil)
      (pss_one (ps_ret (pe_tupE (pa_cons (pv 4) (pa_cons (pv 5) pa_nil))))))))), ?_⟩
    have b0 := hb 0
    have b1 := hb 1
    have b2 := hb 2
    refine ⟨_, rfl, a, [x0, x1, x2], rfl, qa, rfl, x0, [x1, x2], rfl, x1, [x2], rfl, x2, [], rfl, rfl, ?_⟩
    refine ⟨_, rfl, _, rfl, x1, x2, r 1, r 2, n, rfl, h1, h2, b1, b2, n0, by omega, fun v0 H1 e1 c0 => ?_⟩
    refine ⟨_, rfl, _, rfl, x2, x0, r 2, r 0, n, rfl, h2.ex e1, h0.ex e1, b2, b0, n0, by omega, fun v1 H2 e2 c1 => ?_⟩
    have E2 := e1.trans e2
    refine ⟨_, rfl, _, rfl, x0, x1, r 0, r 1, n, rfl, h0.ex E2, h1.ex E2, b0, b1, n0, by omega, fun v2 H3 e3 c2 => ⟨(by show 3 ≤ sizeLine; decide), fun l H4 nl e4 kl => ?_⟩⟩
    have E4 := E2.trans (e3.trans e4)
    have c0 := c0.ex (e2.trans (e3.trans e4))
    have c1 := c1.ex (e3.trans e4)
    have c2 := c2.ex e4
    have bC := bi_xr b1 b2
    have hC : ∀ p, Bi (n + n + 1) (colU r p) := all3 (bi_xr b1 b2) (bi_xr b2 b0) (bi_xr b0 b1)
    refine ⟨_, rfl, _, rfl, .inl ⟨l, [v0, v1, v2], 0, v0, rfl, rfl, sq_of kl, at0, ?_⟩⟩
    refine ⟨x0, v0, r 0, colU r 0, n + n + 1, rfl, h0.ex E4, c0.sq, bi_mono b0 (by omega), hC 0, by omega, by omega, ?_⟩
    have hdet : dt (r 0) (colU r 0) = det3 r := rfl
    rw [hdet]
    refine ⟨_, rfl, _, _, rfl, rfl, _, rfl, ite2 (fun hd => ?_) (fun hd => ?_)⟩
    · have hd := of_decide_eq_true hd
      refine ⟨_, rfl, l, rfl, ⟨_, sq_of kl⟩, fun G hG => ?_⟩
      refine lc_list (K := K) (a := l) (xs := [v0, v1, v2]) (Bld (I3V K) H4 G [ng (colU r 0), ng (colU r 1), ng (colU r 2)]) (bld0 hG) (fun k H' _ b => sq_of (b.1 _ _ kl)) ?_ ?_
      · rintro k y H5 hy b
        obtain ⟨u, hu, t, rfl, qt⟩ : ∃ u, [colU r 0, colU r 1, colU r 2][k]? = some u ∧ I3V K H5 y u := by
          have pl : Paired (I3V K H5) [v0, v1, v2] [colU r 0, colU r 1, colU r 2] := .cons (c0.ex b.1) (.cons (c1.ex b.1) (.cons (c2.ex b.1) .nil))
          exact pget pl hy
        have hng : [ng (colU r 0), ng (colU r 1), ng (colU r 2)][k]? = some (ng u) := by
          have := congrArg (Option.map ng) hu
          rw [← List.getElem?_map] at this
          exact this
        have hk := (List.getElem?_eq_some_iff.mp hu).1
        refine ⟨rfl, ?_⟩
        refine ⟨_, rfl, t, rfl, ⟨_, qt⟩, fun G2 hG2 => ?_⟩
        refine lc_tup (K := K) (a := t) (xs := [.int u.1, .int u.2.1, .int u.2.2]) (Bls [.int (-u.1), .int (-u.2.1), .int (-u.2.2)] H5 G2) (bls0 hG2) (fun k H' _ b => ex_t b.1 qt) ?_ ?_
        · rintro m y H6 hm b6
          obtain ⟨i, rfl, hi⟩ := neg3_at hm
          refine ⟨rfl, ?_⟩
          exact ⟨_, rfl, i, rfl, bls_step hG2 b6 (Ex.refl _) hi (by show 3 < 100000; decide)⟩
        · intro H6 b6
          obtain ⟨e6, k6⟩ := bls_end rfl b6
          refine ⟨G2, _, rfl, .inl ⟨sq_of k6, fun pt hpt => ?_⟩⟩
          exact bld_step stI3 hG b (e6.trans (Ex.new hpt)) hng (by simp at hk; omega) ⟨pt, rfl, st_of upd_same⟩
      · intro H5 b5
        obtain ⟨e5, gs, kg, pg⟩ := bld_end rfl b5
        refine ⟨_, rfl, _, rfl, (by show 2 ≤ sizeLine; decide), fun p H6 np e6 k6 => ?_⟩
        have E6 := E4.trans (e5.trans e6)
        refine q p (.ref G) H6 E6 ?_ ⟨G, gs, rfl, sq_of (e6 _ _ kg), ?_⟩
        · have : bot r = - det3 r := by unfold bot; rw [if_pos hd]
          rw [this]
          exact st_of k6
        · have : cols r = fun p => ng (colU r p) := by unfold cols; rw [if_pos hd]
          rw [this]
          exact pmono (fun _ _ z => (I3V.ex e6 z).sq) pg
    · have hd : ¬ det3 r < 0 := fun z => hd (decide_eq_true z)
      refine ⟨_, rfl, _, rfl, (by show 2 ≤ sizeLine; decide), fun p H6 np e6 k6 => ?_⟩
      refine q p (.ref l) H6 (E4.trans e6) ?_ ⟨l, _, rfl, sq_of (e6 _ _ kl), ?_⟩
      · have : bot r = det3 r := by unfold bot; rw [if_neg hd]
        rw [this]
        exact st_of k6
      · have : cols r = colU r := by unfold cols; rw [if_neg hd]
        rw [this]
        exact .cons (c0.ex e6).sq (.cons (c1.ex e6).sq (.cons (c2.ex e6).sq .nil))
def scopeSp : Scope := { kind := .function, names := [(".0", .local), ("place", .cell), ("_weigh", .globalImplicit), ("columns", .free), ("numbers", .free)], isGenerator := false, isCoroutine := false }
theorem ok__spot (D : Df K mg "_spot" s__spot ["numbers", "columns"]) (GW : Ok P w K mg base 1 "_weigh" ["one", "other"] (spDot3 K)) (mtuple : mg "tuple" = none) (mrange : mg "range" = none) : Ok P w K mg base 2 "_spot" ["numbers", "columns"] (spSpotC K) := by
  refine D.ok fun f fd F => F.ok sc__spot (fun vs H Q E h => ?_) (fun cdv A outer s H vs Q E hr h => ?_)
  · obtain ⟨x, y, b, C, n, rfl, _⟩ := h
    rfl
  · obtain ⟨x, y, b, C, n, rfl, hx, hy, hb, hC, n0, n1, q⟩ := h
    refine ⟨_, (pss_one (ps_ret (pe_callTy call_tuple_of (by rfl) mtuple (by decide +kernel) (pa_cons (pe_lc (own := [("place", 2)]) (g := gName 2) (tt := tYes) rfl sc__spot.nd (pi_range1 (by rfl) mrange (pa_cons pe_int pa_nil)) (blkOk_by (N := ["numbers", "columns", "place", "column"]) (sc := defScope s__spot) (by decide +kernel)) (fun _ _ _ _ _ => (pg_name (i := 2) sc__spot.nd rfl (.inr rfl))) (fun _ _ _ _ _ => pts_nil) (fun _ _ _ _ _ => cl GW hr (pa_cons (pv 0) (pa_cons (pe_lc (own := [("column", 3)]) (wi := iList K (tVar 1)) (g := gName 3) (tt := tYes) rfl sc__spot.nd (pi_listK K (pv 1)) (blkOk_by (N := ["numbers", "columns", "place", "column"]) (sc := relS scopeSp (defScope s__spot)) (by decide +kernel)) (fun _ _ _ _ _ => (pg_name (i := 3) sc__spot.nd rfl (.inl rfl))) (fun _ _ _ _ _ => pts_nil) (fun _ _ _ _ _ => pe_ix (ix_sK K) (pv 3) (pv 2) (fun _ _ => rfl))) pa_nil)))) pa_nil)))), ?_⟩
    refine ⟨3, rfl, by decide, by decide, fun D hD => ?_⟩
    refine lc_range (lo := 0) (n := 3) (Bls [.int (spotT b C).1, .int (spotT b C).2.1, .int (spotT b C).2.2] H D) (bls0 hD) ?_ ?_
    · rintro i H1 hi b1
      rw [show (0 : Int) + (i : Int) = (i : Int) by omega]
      refine ⟨rfl, ?_⟩
      obtain ⟨a, xs, rfl, qa, pa⟩ := hy.ex b1.1
      refine ⟨_, rfl, _, rfl, a, rfl, ⟨_, qa⟩, fun G hG => ?_⟩
      have e3 : xs.length = 3 := Paired.length pa
      refine lc_list (K := K) (a := a) (xs := xs) (Bls [.int (comp i (C 0)), .int (comp i (C 1)), .int (comp i (C 2))] H1 G) (bls0 hG) (fun k H' _ b => ex_l b.1 qa) ?_ ?_
      · rintro k v H2 hk b2
        obtain ⟨u, hu, hv⟩ := pget pa hk
        refine ⟨rfl, ?_⟩
        refine ⟨_, rfl, _, rfl, ix3_at hi (hv.ex b2.1) (bls_step hG b2 (Ex.refl _) ?_ (by show 3 < 100000; decide))⟩
        have := congrArg (Option.map fun u => V.int (comp i u)) hu
        rw [← List.getElem?_map] at this
        exact this
      · intro H2 b2
        rw [e3] at b2
        obtain ⟨e2, k2⟩ := bls_end rfl b2
        refine ⟨x, .ref G, (b 0, b 1, b 2), (comp i (C 0), comp i (C 1), comp i (C 2)), n, rfl, (hx.ex (b1.1.trans e2)).sq, ⟨false, G, _, rfl, sq_of k2, rfl, rfl, rfl⟩, hb, ⟨comp_lt (hC 0), comp_lt (hC 1), comp_lt (hC 2)⟩, n0, n1, ?_⟩
        refine bls_step hD b1 e2 ?_ (by show 3 < 100000; decide)
        rw [← comp_spot]
        match i, hi with
        | 0, _ => rfl
        | 1, _ => rfl
        | 2, _ => rfl
    · intro H1 b1
      obtain ⟨e1, k1⟩ := bls_end rfl b1
      refine ⟨D, _, rfl, .inl ⟨sq_of k1, fun l hl => ?_⟩⟩
      exact q _ _ (e1.trans (Ex.new hl)) ⟨l, rfl, st_of upd_same⟩
theorem ok__shares (D : Df K mg "_shares" s__shares ["row", "columns"]) (GW : Ok P w K mg base 1 "_weigh" ["one", "other"] (spDot3 K)) : Ok P w K mg base 2 "_shares" ["row", "columns"] (spShares3 K) := by
  refine D.ok fun f fd F => F.ok sc__shares (fun vs H Q E h => ?_) (fun cdv A outer s H vs Q E hr h => ?_)
  · obtain ⟨x, y, u, C, n, rfl, _⟩ := h
    rfl
  · obtain ⟨x, y, u, C, n, rfl, hx, ⟨a, xs, rfl, qa, pa⟩, hu, hC, n0, n1, q⟩ := h
    refine ⟨_, (pss_one (ps_ret (pe_lc (own := [("column", 2)]) (g := gName 2) (tt := tYes) rfl sc__shares.nd (pi_list (pv 1)) (blkOk_by (N := ["row", "columns", "column"]) (sc := defScope s__shares) (by decide +kernel)) (fun _ _ _ _ _ => (pg_name (i := 2) sc__shares.nd rfl (.inl rfl))) (fun _ _ _ _ _ => pts_nil) (fun _ _ _ _ _ => cl GW hr (pa_cons (pv 0) (pa_cons (pv 2) pa_nil)))))), ?_⟩
    have e3 : xs.length = 3 := Paired.length pa
    refine ⟨_, rfl, a, rfl, ⟨_, qa⟩, fun G hG => ?_⟩
    refine lc_list (K := K) (a := a) (xs := xs) (Bls [.int (dt u (C 0)), .int (dt u (C 1)), .int (dt u (C 2))] H G) (bls0 hG) (fun k H' _ b => ex_l b.1 qa) ?_ ?_
    · rintro k v H2 hk b2
      obtain ⟨c, hc, hv⟩ := pget pa hk
      have hn : Bi n c ∧ [V.int (dt u (C 0)), .int (dt u (C 1)), .int (dt u (C 2))][k]? = some (.int (dt u c)) := by
        match k, hc with
        | 0, hc => cases hc; exact ⟨hC 0, rfl⟩
        | 1, hc => cases hc; exact ⟨hC 1, rfl⟩
        | 2, hc => cases hc; exact ⟨hC 2, rfl⟩
      refine ⟨rfl, ?_⟩
      refine ⟨_, rfl, _, rfl, x, v, u, c, n, rfl, hx.ex b2.1, hv.ex b2.1, hu, hn.1, n0, n1, ?_⟩
      exact bls_step hG b2 (Ex.refl _) hn.2 (by show 3 < 100000; decide)
    · intro H2 b2
      rw [e3] at b2
      obtain ⟨e2, k2⟩ := bls_end rfl b2
      exact q _ H2 e2 ⟨G, rfl, sq_of k2⟩
end

end K20
end
section
set_option maxRecDepth 100000
set_option maxHeartbeats 400000
namespace K20
open PySem Evl Nc PyProof.Rows
open L2 hiding spCell
section
variable {P : Program} {w : World} {K : PySem.W.Frag} {mg : Str → Option Value} {base : Heap}
def spBoxW (K : PySem.W.Frag) : Sp := fun vs H Q _ => ∃ (x : V) (sp : List Span), vs = [x] ∧ BoxV K 6 H x sp ∧ ∀ F xs H', H F = none → Ex H H' → H' F = some (.lst xs) → Paired (SumV K H') xs (boxW sp) → Q (.ref F) H'
theorem unit_sz (n k : Nat) : ∀ r ∈ unit n k, Sz 1 1 r := fun r hr => by
  obtain ⟨i, _, rfl⟩ := List.mem_map.mp hr
  split <;> exact ⟨by decide, by decide⟩
theorem unit_len (n k : Nat) : (unit n k).length = n := by
  unfold unit
  rw [List.length_map, List.length_range]
def unitsL (n : Nat) : List (List Rat) := (List.range n).map fun k => unit n k
theorem unitsL_at {n k : Nat} (h : k < n) : (unitsL n)[k]? = some (unit n k) := by
  unfold unitsL
  rw [List.getElem?_map, List.getElem?_range h]
  rfl
theorem unitsL_len (n : Nat) : (unitsL n).length = n := by
  unfold unitsL
  rw [List.length_map, List.length_range]
theorem ok_box_wishes (D : Df K mg "box_wishes" s_box_wishes ["box"]) (CM : Cst K mg "MINUS_ONE" (-1)) (GC : Ok P w K mg base 6 "check_box" ["thing"] (spCheckBox K)) (GP : Ok P w K mg base 1 "place_sum" ["many", "place"] (spPlace K)) (GM : Ok P w K mg base 3 "sum_times" ["by", "one"] (spSumT K)) (mlen : mg "len" = none) (mrange : mg "range" = none) (mzip : mg "zip" = none) : Ok P w K mg base 7 "box_wishes" ["box"] (spBoxW K) := by
  refine D.ok fun f fd F => F.ok sc_box_wishes (fun vs H Q E h => ?_) (fun cdv A outer s H vs Q E hr h => ?_)
  · obtain ⟨x, sp, rfl, _⟩ := h
    rfl
  · obtain ⟨x, sp, rfl, hb, q⟩ := h
    obtain ⟨aM, gM, hMn⟩ := CM.ex
    have hr1 : Room 1 _ := hr.mono (by decide)
    have hr3 : Room 3 _ := hr.mono (by decide)
    refine ⟨_, (pss_cons (ps_expr (cl GC hr (pa_cons (pv 0) pa_nil)))
      (pss_cons (ps_setLc (i := 1) (own := [("place", 4)]) (g := gName 4) (tt := tYes) rfl sc_box_wishes.nd rfl rfl (sw_true rfl rfl rfl (by decide +kernel)) (pi_range1 (by rfl) mrange (pa_cons (pe_callB call_len_seq (by rfl) mlen PySem.boot_len (pa_cons (pv 0) pa_nil)) pa_nil)) (blkOk_by (N := ["box", "rows", "at_most", "at_least", "place", "row", "span"]) (sc := defScope s_box_wishes) (by decide +kernel)) (fun _ _ _ _ _ => (pg_name (i := 4) sc_box_wishes.nd rfl (.inl rfl))) (fun _ _ _ _ _ => pts_nil) (fun _ _ _ _ _ => pe_ix (ix_tK K) (cl GP hr1 (pa_cons (pe_callB (call_lenK K) (by rfl) mlen PySem.boot_len (pa_cons (pv 0) pa_nil)) (pa_cons (pv 4) pa_nil))) pe_int (fun _ _ => rfl)))
      (pss_cons (ps_setLc (i := 2) (own := [("row", 5), ("span", 6)]) (g := gTup K 2 (gCons (gName 5) (gCons (gName 6) gNil))) (tt := tYes) rfl sc_box_wishes.nd rfl rfl (sw_true rfl rfl rfl (by decide +kernel)) (pi_zipX (by rfl) mzip (pa_cons (pv 1) (pa_cons (pv 0) pa_nil))) (blkOk_by (N := ["box", "rows", "at_most", "at_least", "place", "row", "span"]) (sc := defScope s_box_wishes) (by decide +kernel)) (fun _ _ _ _ _ => pg_tup rfl (pgs_cons (pg_name (i := 5) sc_box_wishes.nd rfl (.inl rfl)) (pgs_cons (pg_name (i := 6) sc_box_wishes.nd rfl (.inl rfl)) pgs_nil))) (fun _ _ _ _ _ => pts_nil) (fun _ _ _ _ _ => pe_tup (pa_cons (pv 5) (pa_cons (pe_ix (ix_tK K) (pv 6) pe_int (fun _ _ => rfl)) pa_nil))))
      (pss_cons (ps_setLc (i := 3) (own := [("row", 5), ("span", 6)]) (g := gTup K 2 (gCons (gName 5) (gCons (gName 6) gNil))) (tt := tYes) rfl sc_box_wishes.nd rfl rfl (sw_true rfl rfl rfl (by decide +kernel)) (pi_zipX (by rfl) mzip (pa_cons (pv 1) (pa_cons (pv 0) pa_nil))) (blkOk_by (N := ["box", "rows", "at_most", "at_least", "place", "row", "span"]) (sc := defScope s_box_wishes) (by decide +kernel)) (fun _ _ _ _ _ => pg_tup rfl (pgs_cons (pg_name (i := 5) sc_box_wishes.nd rfl (.inl rfl)) (pgs_cons (pg_name (i := 6) sc_box_wishes.nd rfl (.inl rfl)) pgs_nil))) (fun _ _ _ _ _ => pts_nil) (fun _ _ _ _ _ => cl GM hr3 (pa_cons (pe_glob (v := .ref aM) (by rfl) gM rfl) (pa_cons (pe_tup (pa_cons (pv 5) (pa_cons (pe_ix (ix_tK K) (pv 6) pe_int (fun _ _ => rfl)) pa_nil))) pa_nil))))
      (pss_one (ps_ret (pe_op op_catE (pv 2) (pv 3)))))))), ?_⟩
    have hb0 := hb
    obtain ⟨⟨a, xs, rfl, qa, pa⟩, l1, l3, hbb, _⟩ := hb
    have xl := Paired.length pa
    have sv := hbb.sv (by decide : 0 < 6) (by decide)
    have qa : SqT K H a xs := qa
    refine ⟨_, rfl, .ref a, 6, sp, rfl, hb0, fun H1 e1 => ?_⟩
    have qa1 := ex_t e1 qa
    -- the rows
    refine ⟨_, rfl, a, xs, rfl, .inr qa1, ((xs.length : Nat) : Int), rfl, by omega, by omega, fun G hG => ?_⟩
    refine lc_range (lo := 0) (n := (((xs.length : Nat) : Int)).toNat) (Bld (RowV K) H1 G (unitsL sp.length)) (bld0 hG) ?_ ?_
    · rintro i H2 hi b
      rw [Int.toNat_natCast] at hi
      rw [show (0 : Int) + (i : Int) = (i : Int) by omega]
      refine ⟨rfl, ?_⟩
      refine ⟨_, rfl, a, xs, rfl, .inr (ex_t b.1 qa1), _, rfl, xs.length, i, rfl, by omega, fun v H3 e3 hv => ?_⟩
      obtain ⟨t, ya, yb, rfl, qt, ra, fb⟩ := hv
      refine ⟨t, _, 0, ya, rfl, rfl, qt, at0, ?_⟩
      rw [xl] at ra
      exact bld_step stR hG b e3 (unitsL_at (by omega)) (by omega) ra
    intro H2 b2
    rw [Int.toNat_natCast] at b2
    obtain ⟨e2, gs, hgs, pgs⟩ := bld_end (by rw [unitsL_len]; exact xl) b2
    have gl := Paired.length pgs
    rw [unitsL_len] at gl
    have qa2 := ex_t (e1.trans e2) qa
    have pa2 : Paired (SpanV K H2) xs sp := pmono (fun _ _ z => SpanV.ex (e1.trans e2) z) pa
    -- at most
    refine ⟨_, rfl, _, rfl, false, true, G, a, gs, xs, rfl, sq_of hgs, qa2, fun G3 hG3 => ?_⟩
    refine lc_zipX (K := K) (by omega) (Bld (SumV K) H2 G3 (hiW sp)) (bld0 hG3) (fun j H4 b => ⟨sq_of (b.1 _ _ hgs), ex_t b.1 qa2⟩) ?_ ?_
    · rintro j yv sv_ T H4 hy hs b hT
      obtain ⟨r, hr0, rv⟩ := pget pgs hy
      obtain ⟨p, hp, fp⟩ := pget pa2 hs
      have jl := (List.getElem?_eq_some_iff.mp hp).1
      rw [unitsL_at jl] at hr0
      cases hr0
      have eT : Ex H4 (upd H4 T (.tup [yv, sv_])) := Ex.new hT
      refine ⟨T, [yv, sv_], rfl, st_of upd_same, rfl, yv, [sv_], rfl, sv_, [], rfl, rfl, rfl, ?_⟩
      generalize upd H4 T (.tup [yv, sv_]) = H5 at eT ⊢
      have E5 := b.1.trans eT
      obtain ⟨t, a0, b0, rfl, qt, fa, fb⟩ := SpanV.ex E5 fp
      refine ⟨_, rfl, _, rfl, _, _, _, _, rfl, rfl, qt, at1, (by show 2 ≤ sizeLine; decide), fun pq hpq => ?_⟩
      have e6 := Ex.new (o := .tup [yv, b0]) hpq
      exact bld_step stS hG3 b (eT.trans e6) (hiW_at hp) (by omega) ⟨pq, yv, b0, rfl, st_of upd_same, rv.ex (E5.trans e6), fb.ex e6⟩
    intro H3 b3
    obtain ⟨e3, hs3, khs, phs⟩ := bld_end (by rw [hiW_len]; omega) b3
    have E3 := e1.trans (e2.trans e3)
    have qa3 := ex_t e3 qa2
    have pa3 : Paired (SpanV K H3) xs sp := pmono (fun _ _ z => SpanV.ex e3 z) pa2
    have hgs3 := e3 _ _ hgs
    -- at least
    refine ⟨_, rfl, _, rfl, false, true, G, a, gs, xs, rfl, sq_of hgs3, qa3, fun G4 hG4 => ?_⟩
    refine lc_zipX (K := K) (by omega) (Bld (SumV K) H3 G4 (loW sp)) (bld0 hG4) (fun j H4 b => ⟨sq_of (b.1 _ _ hgs3), ex_t b.1 qa3⟩) ?_ ?_
    · rintro j yv sv_ T H4 hy hs b hT
      obtain ⟨r, hr0, rv⟩ := pget pgs hy
      obtain ⟨p, hp, fp⟩ := pget pa3 hs
      have jl := (List.getElem?_eq_some_iff.mp hp).1
      rw [unitsL_at jl] at hr0
      cases hr0
      have eT : Ex H4 (upd H4 T (.tup [yv, sv_])) := Ex.new hT
      refine ⟨T, [yv, sv_], rfl, st_of upd_same, rfl, yv, [sv_], rfl, sv_, [], rfl, rfl, rfl, ?_⟩
      generalize upd H4 T (.tup [yv, sv_]) = H5 at eT ⊢
      have E5 := b.1.trans eT
      obtain ⟨t, a0, b0, rfl, qt, fa, fb⟩ := SpanV.ex E5 fp
      refine ⟨_, rfl, _, rfl, _, _, _, _, rfl, rfl, qt, at0, (by show 2 ≤ sizeLine; decide), fun pq hpq => ?_⟩
      have e6 : Ex H5 (upd H5 pq (.tup [yv, a0])) := Ex.new hpq
      have one : SumV K (upd H5 pq (.tup [yv, a0])) (.ref pq) (unit sp.length j, p.1) := ⟨pq, yv, a0, rfl, st_of upd_same, rv.ex (e3.trans (E5.trans e6)), fa.ex e6⟩
      generalize upd H5 pq (.tup [yv, a0]) = H6 at e6 one ⊢
      have m1 : Sz 1 1 (-1 : Rat) := ⟨by decide, by decide⟩
      have z4a : Sz 1500 3 p.1 := (sv p (List.mem_of_getElem? hp)).1.sz (by decide) (by decide)
      have z4 : Sz 1600 1600 p.1 := z4a.mono (by decide) (by decide)
      refine ⟨.ref aM, .ref pq, -1, (unit sp.length j, p.1), 1, 1, 1600, 1600, rfl, hMn H6, one, by show (unit sp.length j).length ≤ 100; rw [unit_len]; omega, m1, fun r hr => (unit_sz _ _ r hr).mono (by decide) (by decide), z4, ⟨by decide, by decide, by decide, by decide, .inl (by decide), by decide⟩, fun y H7 e7 hy => ?_⟩
      exact bld_step stS hG4 b (eT.trans (e6.trans e7)) (loW_at hp) (by omega) hy
    intro H4 b4
    obtain ⟨e4, ls4, kls, pls⟩ := bld_end (by rw [loW_len]; omega) b4
    have hl := Paired.length phs
    have ll := Paired.length pls
    rw [hiW_len] at hl
    rw [loW_len] at ll
    refine ⟨_, rfl, _, rfl, G3, G4, hs3, ls4, rfl, rfl, e4 _ _ khs, kls, Nat.le_of_lt (sz_lt (by omega)), fun pc H5 npc e5 kC => ?_⟩
    refine q pc _ H5 (none_of' (E3.trans e4) npc) (E3.trans (e4.trans e5)) kC ?_
    exact pair_app (pmono (fun _ _ => SumV.ex (e4.trans e5)) phs) (pmono (fun _ _ => SumV.ex e5) pls)
end

end K20
end
section
set_option maxRecDepth 100000
set_option maxHeartbeats 400000
namespace K20
open PySem Evl Nc PyProof.Rows
open L2 hiding spCell
section
variable {P : Program} {w : World} {K : PySem.W.Frag} {mg : Str → Option Value} {base : Heap}
theorem ok__size (D : Df K mg "_size" s__size ["fractions"]) (mlcm : mg "lcm" = some (.builtin "math.lcm")) : Ok P w K mg base 1 "_size" ["fractions"] (spSizeR K) := by
  refine D.ok fun f fd F => F.ok sc__size (fun vs H Q E h => ?_) (fun cdv A outer s H vs Q E hr h => ?_)
  · obtain ⟨x, l, D, rfl, _⟩ := h
    rfl
  · obtain ⟨x, l, D, rfl, ⟨t, xs, rfl, qt, pl⟩, hd, D0, hD, l10, q⟩ := h
    refine ⟨_, (pss_cons (ps_set (i := 1) sc__size.nd rfl (.inl rfl) pe_int)
      (pss_cons (ps_for PassesOwn.never rfl (pi_tup (pv 0)) (pg_name (i := 2) sc__size.nd rfl (.inl rfl)) (pss_one (ps_set (i := 1) sc__size.nd rfl (.inl rfl) (pe_callBfun cr_lcm (by rfl) mlcm (pa_cons (pv 1) (pa_cons (pe_ix ix_tup (pv 2) pe_int (fun _ _ => rfl)) pa_nil))))))
      (pss_one (ps_ret (pv 1))))), ?_⟩
    have xl := Paired.length pl
    refine ⟨_, rfl, t, rfl, ⟨_, qt⟩, for_tup (K := K) (a := t) (xs := xs) (fun i σ H' => ∃ o2 : Option V, σ = [some (.ref t), some (.int ((szS (l.take i) : Nat) : Int)), o2] ∧ Ex H H') ⟨none, rfl, Ex.refl _⟩ (fun i σ H' _ ⟨_, _, e⟩ => ex_t e qt) ?_ ?_⟩
    · rintro i v σ H' hv ⟨o2, rfl, e⟩
      obtain ⟨r, hr0, fr⟩ := pget pl hv
      obtain ⟨u, rfl, qu⟩ := fr.ex e
      have p : (2 : Nat) ^ 1600 < 2 ^ 13400 := Nat.pow_lt_pow_right (by decide) (by decide)
      have h1 : szS (l.take i) < 2 ^ 1600 := Nat.lt_of_le_of_lt (szS_le (fun r hr => hd r (List.mem_of_mem_take hr)) D0) hD
      have h2 : r.den < 2 ^ 1600 := Nat.lt_of_le_of_lt (Nat.le_of_dvd D0 (hd r (List.mem_of_getElem? hr0))) hD
      refine ⟨_, rfl, _, rfl, _, _, _, _, rfl, rfl, qu, at1, ((szS (l.take i) : Nat) : Int), (r.den : Int), rfl, by rw [Int.natAbs_natCast]; omega, by rw [Int.natAbs_natCast]; omega, ?_⟩
      rw [Int.natAbs_natCast, Int.natAbs_natCast, ← szS_take hr0]
      exact ⟨_, rfl, e⟩
    · rintro σ H' ⟨o2, rfl, e⟩
      rw [xl, List.take_length]
      exact ⟨_, rfl, q H' e⟩
theorem ok__top (D : Df K mg "_top" s__top ["one", "size"]) : Ok P w K mg base 1 "_top" ["one", "size"] (spTopR K) := by
  refine D.ok fun f fd F => F.ok sc__top (fun vs H Q E h => ?_) (fun cdv A outer s H vs Q E hr h => ?_)
  · obtain ⟨x, r, s, rfl, _⟩ := h
    rfl
  · obtain ⟨x, r, s', rfl, ⟨t, rfl, qt⟩, ⟨z1, z2⟩, hs, q⟩ := h
    refine ⟨_, (pss_one (ps_ret (pe_op op_mulBig (pe_ix ix_tup (pv 0) pe_int (fun _ _ => rfl)) (pe_op op_fdivX (pv 1) (pe_ix ix_tup (pv 0) pe_int (fun _ _ => rfl)))))), ?_⟩
    have dp := den_pos r
    have hd : ((r.den : Int)).natAbs < 2 ^ 1600 := by rw [Int.natAbs_natCast]; exact z2
    refine ⟨_, rfl, _, _, _, _, rfl, rfl, qt, at0, _, rfl, _, rfl, _, _, _, _, rfl, rfl, qt, at1, _, _, rfl, rfl, wide_divX dp hd (by decide) (.inl (by decide)), _, _, rfl, rfl, mulOk z1 (b := 1600) (Nat.lt_of_le_of_lt (natAbs_ediv_le _ _) (by rw [Int.natAbs_natCast]; exact hs)), ?_⟩
    rw [← top_cast] at q
    exact q
theorem ok__whole (D : Df K mg "_whole" s__whole ["row", "many", "size"]) {tPL : Tok} (mPL : mg "PLACES" = some (.int 3 tPL)) (GT : Ok P w K mg base 1 "_top" ["one", "size"] (spTopR K)) (mtuple : mg "tuple" = none) : Ok P w K mg base 2 "_whole" ["row", "many", "size"] (spWholeR K) := by
  refine D.ok fun f fd F => F.ok sc__whole (fun vs H Q E h => ?_) (fun cdv A outer s H vs Q E hr h => ?_)
  · obtain ⟨x, l, s, rfl, _⟩ := h
    rfl
  · obtain ⟨x, l, s', rfl, ⟨t, xs, rfl, qt, pl⟩, hz, l1, l3, hs, q⟩ := h
    refine ⟨_, (pss_one (ps_ret (pe_callTy call_tuple_of (by rfl) mtuple (by decide +kernel) (pa_cons (pe_op op_catE (pe_lc (own := [("one", 3)]) (g := gName 3) (tt := tYes) rfl sc__whole.nd (pi_tup (pv 0)) (blkOk_by (N := ["row", "many", "size", "one"]) (sc := defScope s__whole) (by decide +kernel)) (fun _ _ _ _ _ => (pg_name (i := 3) sc__whole.nd rfl (.inl rfl))) (fun _ _ _ _ _ => pts_nil) (fun _ _ _ _ _ => cl GT hr (pa_cons (pv 3) (pa_cons (pv 2) pa_nil)))) (pe_op op_rep (pe_lstE (pa_cons pe_int pa_nil)) (pe_op op_sub (pe_glob (v := .int 3) (by rfl) mPL ⟨_, rfl⟩) (pv 1)))) pa_nil)))), ?_⟩
    have xl := Paired.length pl
    refine ⟨_, rfl, t, rfl, ⟨_, qt⟩, fun G hG => ?_⟩
    refine lc_tup (K := K) (a := t) (xs := xs) (Bls (l.map fun r => V.int (topI r s')) H G) (bls0 hG) (fun k H' _ b => ex_t b.1 qt) ?_ ?_
    · rintro k v H2 hk b2
      obtain ⟨r, hr0, fr⟩ := pget pl hk
      refine ⟨rfl, ?_⟩
      refine ⟨_, rfl, _, rfl, v, r, s', rfl, fr.ex b2.1, hz r (List.mem_of_getElem? hr0), hs, bls_step hG b2 (Ex.refl _) (by rw [List.getElem?_map, hr0]; rfl) (by rw [List.length_map]; omega)⟩
    · intro H2 b2
      obtain ⟨e2, k2⟩ := bls_end (by rw [List.length_map]; exact xl) b2
      refine ⟨(by show 1 ≤ sizeLine; decide), fun p H3 np e3 k3 => ?_⟩
      refine ⟨_, rfl, _, _, rfl, rfl, p, 3 - ((l.length : Nat) : Int), [.int 0], rfl, rfl, k3, by omega, by omega, Nat.le_of_lt (sz_lt (by simp; omega)), fun F hF => ?_⟩
      have e4 : Ex H3 (upd H3 F (.lst (List.replicate (3 - ((l.length : Nat) : Int)).toNat [V.int 0]).flatten)) := Ex.new hF
      have k4 : upd H3 F (.lst (List.replicate (3 - ((l.length : Nat) : Int)).toNat [V.int 0]).flatten) F = some (.lst (List.replicate (3 - l.length) (V.int 0))) := by
        rw [upd_same, flat_v, show (3 - ((l.length : Nat) : Int)).toNat = 3 - l.length by omega]
      generalize upd H3 F (.lst (List.replicate (3 - ((l.length : Nat) : Int)).toNat [V.int 0]).flatten) = H4 at e4 k4 ⊢
      refine ⟨G, F, _, _, rfl, rfl, (e3.trans e4) _ _ k2, k4, Nat.le_of_lt (sz_lt (by simp; omega)), fun p5 H5 n5 e5 k5 => ?_⟩
      rw [pad_list l1 l3] at k5
      refine ⟨p5, _, rfl, .inl ⟨sq_of k5, fun l6 h6 => ?_⟩⟩
      exact q _ _ (e2.trans (e3.trans (e4.trans (e5.trans (Ex.new h6))))) ⟨l6, rfl, st_of upd_same⟩
theorem ok__start (D : Df K mg "_start" s__start ["aim", "many"]) {tPL : Tok} (mPL : mg "PLACES" = some (.int 3 tPL)) (menum : mg "enumerate" = none) (mlen : mg "len" = none) (mlist : mg "list" = none) (mrange : mg "range" = none) : Ok P w K mg base 1 "_start" ["aim", "many"] (spStartR K) := by
  refine D.ok fun f fd F => F.ok sc__start (fun vs H Q E h => ?_) (fun cdv A outer s H vs Q E hr h => ?_)
  · obtain ⟨x, aim, m, rfl, _⟩ := h
    rfl
  · obtain ⟨x, aim, m, rfl, ⟨t, xs, rfl, qt, pl⟩, l1, l3, hm, q⟩ := h
    refine ⟨_, (pss_cons (ps_setLc (i := 2) (own := [("place", 3), ("weight", 4)]) (g := gTup K 2 (gCons (gName 3) (gCons (gName 4) gNil))) (tt := tYes) rfl sc__start.nd rfl rfl (sw_true rfl rfl rfl (by decide +kernel)) (pi_enumX (by rfl) menum (pa_cons (pv 0) pa_nil)) (blkOk_by (N := ["aim", "many", "tight", "place", "weight"]) (sc := defScope s__start) (by decide +kernel)) (fun _ _ _ _ _ => pg_tup rfl (pgs_cons (pg_name (i := 3) sc__start.nd rfl (.inl rfl)) (pgs_cons (pg_name (i := 4) sc__start.nd rfl (.inl rfl)) pgs_nil))) (fun _ _ _ _ _ => pts_nil) (fun _ _ _ _ _ => pe_ifExp (pt_cmpR op_gt (pe_ix (ix_tK K) (pv 4) pe_int (fun _ _ => rfl)) pe_int (nomark _)) (pv 3) (pe_op op_add (pe_callB (call_lenK K) (by rfl) mlen PySem.boot_len (pa_cons (pv 0) pa_nil)) (pv 3))))
      (pss_one (ps_ret (pe_op op_catE (pv 2) (pe_listRg rfl (by rfl) mlist (prg_2 (by rfl) mrange (pv 1) (pe_op op_sub (pe_op op_add (pv 1) (pe_glob (v := .int 3) (by rfl) mPL ⟨_, rfl⟩)) (pe_callB call_len_seq (by rfl) mlen PySem.boot_len (pa_cons (pv 0) pa_nil))))))))), ?_⟩
    have xl := Paired.length pl
    have qX : SqX K true H t xs := qt
    refine ⟨_, rfl, true, t, xs, rfl, qX, fun G hG => ?_⟩
    refine lc_enumX (K := K) (c := true) (a := t) (xs := xs) (Bls ((aim.mapIdx fun k w => if 0 < w.num then k else aim.length + k).map fun k : Nat => V.int (k : Int)) H G) (bls0 hG) (fun k H' b => ex_t b.1 qt) ?_ ?_
    · rintro i v T H2 hv b2 hT
      obtain ⟨r, hr0, fr⟩ := pget pl hv
      have eT : Ex H2 (upd H2 T (.tup [.int (i : Nat), v])) := Ex.new hT
      refine ⟨T, [.int (i : Nat), v], rfl, st_of upd_same, rfl, .int (i : Nat), [v], rfl, v, [], rfl, rfl, rfl, ?_⟩
      generalize upd H2 T (.tup [.int (i : Nat), v]) = H3 at eT ⊢
      obtain ⟨u, rfl, qu⟩ := fr.ex (b2.1.trans eT)
      have step : ∀ y : V, y = .int (((if 0 < r.num then i else aim.length + i) : Nat) : Int) → ∃ acc, H3 G = some (.lst acc) ∧ acc.length < sizeLine ∧ Bls ((aim.mapIdx fun k w => if 0 < w.num then k else aim.length + k).map fun k : Nat => V.int (k : Int)) H G (i + 1) (upd H3 G (.lst (acc ++ [y]))) := fun y hy => by
        subst hy
        exact bls_step hG b2 eT (by rw [List.getElem?_map, tight_at hr0]; rfl) (by rw [List.length_map, List.length_mapIdx]; omega)
      refine ⟨_, rfl, _, _, _, _, rfl, rfl, qu, at0, _, _, rfl, rfl, _, rfl, ite2 (fun hd => ?_) (fun hd => ?_)⟩
      · have hd : 0 < r.num := of_decide_eq_true hd
        exact ⟨_, rfl, step _ (by rw [if_pos hd])⟩
      · have hd : ¬ 0 < r.num := fun z => hd (decide_eq_true z)
        refine ⟨_, rfl, t, xs, rfl, .inr (ex_t (b2.1.trans eT) qt), _, rfl, _, _, rfl, rfl, step _ ?_⟩
        rw [if_neg hd, xl, Int.natCast_add]
    · intro H2 b2
      obtain ⟨e2, k2⟩ := bls_end (by rw [List.length_map, List.length_mapIdx]; exact xl) b2
      refine ⟨_, rfl, _, rfl, _, rfl, _, _, rfl, rfl, _, rfl, t, xs, rfl, .inr (ex_t e2 qt), _, _, rfl, rfl, (m : Int), (m : Int) + 3 - (xs.length : Int), rfl, rfl, RgOk.of_le (by omega) (by omega) (by omega) (by omega), fun F hF => ?_⟩
      have e3 : Ex H2 (upd H2 F (.lst (rgV (m : Int) ((m : Int) + 3 - (xs.length : Int))))) := Ex.new hF
      have k3 : upd H2 F (.lst (rgV (m : Int) ((m : Int) + 3 - (xs.length : Int)))) F = some (.lst (((List.range (3 - aim.length)).map fun j => m + j).map fun k : Nat => V.int (k : Int))) := by
        rw [upd_same]
        unfold rgV
        rw [show ((m : Int) + 3 - (xs.length : Int) - (m : Int)).toNat = 3 - aim.length by omega, List.map_map]
        congr 2
      generalize upd H2 F (.lst (rgV (m : Int) ((m : Int) + 3 - (xs.length : Int)))) = H3 at e3 k3 ⊢
      refine ⟨G, F, _, _, rfl, rfl, e3 _ _ k2, k3, Nat.le_of_lt (sz_lt (by simp; omega)), fun p H4 np e4 k4 => ?_⟩
      rw [← List.map_append, show (aim.mapIdx fun k w => if 0 < w.num then k else aim.length + k) ++ (List.range (3 - aim.length)).map (fun j => m + j) = startN aim m from rfl, start_at l1 l3] at k4
      exact q p H4 (e2.trans (e3.trans e4)) k4
end

end K20
end
section
set_option maxRecDepth 100000
set_option maxHeartbeats 400000
namespace K20
open PySem Evl Nc PyProof.Rows
open L2 hiding spCell
theorem ex_make {H : Hp} {x dx : Addr} {o1 o2 o3 o4 : HO} (nx : H x = none) (nd : H dx = none) : Ex H (upd (upd (upd (upd H dx o1) x o2) x o3) x o4) := fun b o hb => by
  rw [upd_ne (ne_of_none hb nx), upd_ne (ne_of_none hb nx), upd_ne (ne_of_none hb nx), upd_ne (ne_of_none hb nd)]
  exact hb
theorem ex_make1 {H : Hp} {x dx : Addr} {o1 o2 o3 : HO} (nx : H x = none) (nd : H dx = none) : Ex H (upd (upd (upd H dx o1) x o2) x o3) := fun b o hb => by
  rw [upd_ne (ne_of_none hb nx), upd_ne (ne_of_none hb nx), upd_ne (ne_of_none hb nd)]
  exact hb
section
variable {P : Program} {w : World} {K : PySem.W.Frag} {mg : Str → Option Value} {base : Heap}
theorem fn_most {C : Addr} {f : Addr} {fd : FuncData} (F : Fun K "__init__" "Most.__init__" s_Most___init__ f fd) (T : Cls K C) (nS : NoAttr K C "spot") (nM : NoAttr K C "multiples") : FnOk P w K mg base CX0 1 f fd ["self", "spot", "multiples"] (spInitM C) := by
  refine F.ok sc_Most___init__ (fun vs H Q E h => ?_) (fun cdv A outer s H vs Q E hr h => ?_)
  · obtain ⟨p, dx, a, b, rfl, _⟩ := h
    rfl
  · obtain ⟨p, dx, a, b, rfl, hp, q⟩ := h
    refine ⟨_, pss_cons (ps_fld (pv 0) (pv 1) rfl) (pss_one (ps_fld (pv 0) (pv 2) rfl)), ?_⟩
    exact ⟨_, rfl, _, rfl, p, C, dx, [], rfl, hp, T, nS, (by show 0 < 1000; decide), _, rfl, _, rfl, p, C, dx, _, rfl, upd_same, T, nM, (by show 1 < 1000; decide), q⟩
theorem fn_empty {C : Addr} {f : Addr} {fd : FuncData} (F : Fun K "__init__" "Empty.__init__" s_Empty___init__ f fd) (T : Cls K C) (nM : NoAttr K C "multiples") : FnOk P w K mg base CX0 1 f fd ["self", "multiples"] (spInitE C) := by
  refine F.ok sc_Empty___init__ (fun vs H Q E h => ?_) (fun cdv A outer s H vs Q E hr h => ?_)
  · obtain ⟨p, dx, b, rfl, _⟩ := h
    rfl
  · obtain ⟨p, dx, b, rfl, hp, q⟩ := h
    refine ⟨_, (pss_one (ps_fld (pv 0) (pv 1) rfl)), ?_⟩
    exact ⟨_, rfl, _, rfl, p, C, dx, [], rfl, hp, T, nM, (by show 0 < 1000; decide), q⟩
end

end K20
end
section
set_option maxRecDepth 100000
set_option maxHeartbeats 400000
namespace K20
open PySem Evl Nc PyProof.Rows
open L2 hiding spCell
section
variable {P : Program} {w : World} {K : PySem.W.Frag} {mg : Str → Option Value} {base : Heap}
theorem ok__first_broken (D : Df K mg "_first_broken" s__first_broken ["wishes", "spot", "bottom"]) (GW : Ok P w K mg base 1 "_weigh" ["one", "other"] (spDot3 K)) (menum : mg "enumerate" = none) : Ok P w K mg base 2 "_first_broken" ["wishes", "spot", "bottom"] (spFirstB K) := by
  refine D.ok fun f fd F => F.ok sc__first_broken (fun vs H Q E h => ?_) (fun cdv A outer s H vs Q E hr h => ?_)
  · obtain ⟨x, y, ws, S, D, n, rfl, _⟩ := h
    rfl
  · obtain ⟨x, y, ws, S, D, n, rfl, ⟨a, xs, rfl, qa, pa⟩, hy, hb, hS, hD, n0, n1, l1, q⟩ := h
    refine ⟨_, (pss_cons (ps_for PassesOwn.never rfl (pi_enumX (by rfl) menum (pa_cons (pv 0) pa_nil)) (pg_tup rfl (pgs_cons (pg_name (i := 3) sc__first_broken.nd rfl (.inl rfl)) (pgs_cons (pg_name (i := 4) sc__first_broken.nd rfl (.inl rfl)) pgs_nil))) (pss_one (ps_if (pt_cmpR op_gt (cl GW hr (pa_cons (pv 4) (pa_cons (pv 1) pa_nil))) (pe_op op_mulBig (pe_ix ix_tup (pv 4) pe_int (fun _ _ => rfl)) (pv 2)) (nomark _)) (pss_one (ps_ret (pv 3))) pss_nil)))
      (pss_one (ps_ret pe_non))), ?_⟩
    have xl := Paired.length pa
    have qX : SqX K false H a xs := qa
    refine ⟨_, rfl, false, a, xs, rfl, qX, ?_⟩
    refine for_enumX (K := K) (fun i σ H' => ∃ (o3 o4 : Option V), σ = [some (.ref a), some y, some (.int D), o3, o4] ∧ Ex H H' ∧ ∀ j w, j < i → ws[j]? = some w → isBroken S D w = false) ⟨none, none, rfl, Ex.refl _, fun j w hj => absurd hj (by omega)⟩ (fun i σ H' ⟨_, _, _, e, _⟩ => ex_l e qa) ?_ ?_
    · rintro i v T σ H3 hv ⟨o3, o4, rfl, e3, hall⟩ hT
      obtain ⟨w', hw, hwv⟩ := pget pa hv
      have il := (List.getElem?_eq_some_iff.mp hw).1
      have hbw := hb w' (List.mem_of_getElem? hw)
      have eT : Ex H3 (upd H3 T (.tup [.int (i : Nat), v])) := Ex.new hT
      refine ⟨T, [.int (i : Nat), v], rfl, st_of upd_same, rfl, .int (i : Nat), [v], rfl, v, [], rfl, rfl, ?_⟩
      generalize upd H3 T (.tup [.int (i : Nat), v]) = H4 at eT ⊢
      have E4 := e3.trans eT
      have hw4 := hwv.ex E4
      obtain ⟨t, rfl, qt⟩ := id hw4
      refine ⟨_, rfl, _, rfl, .ref t, y, w'.1, S, n, rfl, hw4.sq, (hy.ex E4).sq, hbw.1, hS, n0, n1, _, rfl, _, _, _, _, rfl, rfl, qt, at3, _, rfl, _, _, rfl, rfl, mulOk hbw.2 hD, _, _, rfl, rfl, _, rfl, ?_⟩
      have eb : decide (dt w'.1 S > w'.2 * D) = isBroken S D w' := rfl
      rw [eb]
      cases hbr : isBroken S D w' with
      | true =>
        refine iteT ⟨_, rfl, ?_⟩
        have : ws.findIdx? (isBroken S D) = some i := by
          rw [List.findIdx?_eq_some_iff_getElem]
          refine ⟨il, ?_, fun j hj => ?_⟩
          · rw [List.getElem?_eq_getElem il] at hw
            cases hw
            exact hbr
          · rw [hall j _ hj (List.getElem?_eq_getElem (by omega))]
            decide
        have q4 := q H4 E4
        rwa [this] at q4
      | false =>
        refine iteF ⟨_, _, rfl, E4, fun j w2 hj hw2 => ?_⟩
        by_cases hji : j = i
        · subst hji
          rw [hw] at hw2
          cases hw2
          exact hbr
        · exact hall j w2 (by omega) hw2
    · rintro σ H3 ⟨o3, o4, rfl, e3, hall⟩
      have : ws.findIdx? (isBroken S D) = none := by
        rw [List.findIdx?_eq_none_iff]
        intro w2 hw2
        obtain ⟨j, hj⟩ := List.mem_iff_getElem?.mp hw2
        exact hall j w2 (by rw [xl]; exact (List.getElem?_eq_some_iff.mp hj).1) hj
      have q3 := q H3 e3
      rwa [this] at q3
theorem ok__is_sooner (D : Df K mg "_is_sooner" s__is_sooner ["at", "best", "held", "shares", "loads"]) : Ok P w K mg base 1 "_is_sooner" ["at", "best", "held", "shares", "loads"] (spSooner K) := by
  refine D.ok fun f fd F => F.ok sc__is_sooner (fun vs H Q E h => ?_) (fun cdv A outer s H vs Q E hr h => ?_)
  · obtain ⟨a, b, x, y, z, h, s, l, n, rfl, _⟩ := h
    rfl
  · obtain ⟨a, b, x, y, z, h, s', l, n, rfl, hx, hy, hz, bs, bl, n0, n1, q⟩ := h
    refine ⟨_, (pss_cons (ps_set (i := 5) sc__is_sooner.nd rfl (.inl rfl) (pe_op op_mulBig (pe_ix (ix_lK K) (pv 4) (pv 0) (fun _ _ => rfl)) (pe_ix (ix_lK K) (pv 3) (pv 1) (fun _ _ => rfl))))
      (pss_cons (ps_set (i := 6) sc__is_sooner.nd rfl (.inl rfl) (pe_op op_mulBig (pe_ix (ix_lK K) (pv 4) (pv 1) (fun _ _ => rfl)) (pe_ix (ix_lK K) (pv 3) (pv 0) (fun _ _ => rfl))))
      (pss_one (ps_ret (L2.pe_or (pe_cmpR op_lt (pv 5) (pv 6) (nomark _)) (pe_one (pe_and (pe_cmpR op_eq (pv 5) (pv 6) (nomark _)) (pe_one (pe_cmpR op_lt (pe_ix (ix_lK K) (pv 2) (pv 0) (fun _ _ => rfl)) (pe_ix (ix_lK K) (pv 2) (pv 1) (fun _ _ => rfl)) (nomark _)))))))))), ?_⟩
    refine ⟨_, rfl, _, rfl, ixN3 a hz ⟨_, rfl, _, rfl, ixN3 b hy ⟨_, _, rfl, rfl, mulOk (bl a) (bs b), ?_⟩⟩⟩
    refine ⟨_, rfl, _, rfl, ixN3 b hz ⟨_, rfl, _, rfl, ixN3 a hy ⟨_, _, rfl, rfl, mulOk (bl b) (bs a), ?_⟩⟩⟩
    refine ⟨_, rfl, _, rfl, _, _, rfl, rfl, _, rfl, ?_⟩
    by_cases h1 : l a * s' b < l b * s' a
    · rw [decide_eq_true h1]
      refine iteT (q_bl q ?_)
      unfold isSooner
      rw [decide_eq_true h1, Bool.true_or]
    · rw [decide_eq_false h1]
      refine iteF ⟨_, rfl, _, rfl, rfl, _, rfl, ?_⟩
      by_cases h2 : l a * s' b = l b * s' a
      · refine ite_t (decide_eq_true (congrArg V.int h2)) ⟨_, rfl, _, rfl, ixN3 a hx ⟨_, rfl, _, rfl, ixN3 b hx ⟨_, _, rfl, rfl, ?_⟩⟩⟩
        refine q_bl q ?_
        unfold isSooner
        rw [decide_eq_false h1, decide_eq_true h2, Bool.false_or, Bool.true_and]
        refine decide_eq_decide.mpr ?_
        show ((h a : Nat) : Int) < ((h b : Nat) : Int) ↔ _
        omega
      · refine ite_f (decide_eq_false (fun z => h2 (V.int.inj z))) (q_bl q ?_)
        unfold isSooner
        rw [decide_eq_false h1, decide_eq_false h2, Bool.false_or, Bool.false_and]
theorem ok__leaving (D : Df K mg "_leaving" s__leaving ["held", "shares", "loads"]) (GS : Ok P w K mg base 1 "_is_sooner" ["at", "best", "held", "shares", "loads"] (spSooner K)) (menum : mg "enumerate" = none) : Ok P w K mg base 2 "_leaving" ["held", "shares", "loads"] (spLeaving K) := by
  refine D.ok fun f fd F => F.ok sc__leaving (fun vs H Q E h => ?_) (fun cdv A outer s H vs Q E hr h => ?_)
  · obtain ⟨x, y, z, h, s, l, n, rfl, _⟩ := h
    rfl
  · obtain ⟨x, y, z, h, s', l, n, rfl, hx, hy, hz, bs, bl, n0, n1, q⟩ := h
    obtain ⟨a, rfl, qa⟩ := id hy
    have qX : SqX K false H a [.int (s' 0), .int (s' 1), .int (s' 2)] := qa
    refine ⟨_, (pss_cons (ps_set (i := 3) sc__leaving.nd rfl (.inl rfl) pe_non)
      (pss_cons (ps_for PassesOwn.never rfl (pi_enumX (by rfl) menum (pa_cons (pv 1) pa_nil)) (pg_tup rfl (pgs_cons (pg_name (i := 4) sc__leaving.nd rfl (.inl rfl)) (pgs_cons (pg_name (i := 5) sc__leaving.nd rfl (.inl rfl)) pgs_nil))) (pss_one (ps_if (PW.pt (pw_and (pt_cmpR op_gt (pv 5) pe_int (nomark _)) (pw_and1 (PW.pt (pw_or (pt_cmpR op_isN (pv 3) pe_non (nomark _)) (pw_or1 (pt_val (cl GS hr (pa_cons (pv 4) (pa_cons (pv 3) (pa_cons (pv 0) (pa_cons (pv 1) (pa_cons (pv 2) pa_nil))))))))))))) (pss_one (ps_set (i := 3) sc__leaving.nd rfl (.inl rfl) (pv 4))) pss_nil)))
      (pss_one (ps_ret (pv 3))))), ?_⟩
    refine ⟨_, rfl, false, a, _, rfl, qX, ?_⟩
    refine for_enumX (K := K) (fun i σ H' => ∃ (o4 o5 : Option V), σ = [some x, some (.ref a), some z, some (finV (pkB h s' l i)), o4, o5] ∧ Ex H H') ⟨none, none, rfl, Ex.refl _⟩ (fun i σ H' ⟨_, _, _, e⟩ => ex_l e qa) ?_ ?_
    · rintro i v T σ H3 hv ⟨o4, o5, rfl, e3⟩ hT
      obtain ⟨i3, rfl⟩ := ns3_at hv
      have eT : Ex H3 (upd H3 T (.tup [.int (i : Nat), .int (s' (fin3 i))])) := Ex.new hT
      refine ⟨T, [.int (i : Nat), .int (s' (fin3 i))], rfl, st_of upd_same, rfl, .int (i : Nat), [.int (s' (fin3 i))], rfl, .int (s' (fin3 i)), [], rfl, rfl, ?_⟩
      generalize upd H3 T (.tup [.int (i : Nat), .int (s' (fin3 i))]) = H4 at eT ⊢
      have E4 := e3.trans eT
      have fv := fin3_val i3
      have ps := pkB_step (h := h) (s := s') (y := l) i3
      refine ⟨_, rfl, _, _, rfl, rfl, _, rfl, ?_⟩
      by_cases sp : 0 < s' (fin3 i)
      · rw [decide_eq_true (show s' (fin3 i) > 0 from sp)]
        refine iteT ?_
        cases hb : pkB h s' l i with
        | none =>
          have : pkB h s' l (i + 1) = some (fin3 i) := by
            rw [ps, hb]
            unfold pick
            rw [decide_eq_true sp]
            rfl
          refine ⟨_, rfl, rfl, _, rfl, iteT (iteT ⟨_, rfl, some (.int (i : Nat)), some (.int (s' (fin3 i))), ?_, E4⟩)⟩
          rw [this]
          show _ = [some x, some (.ref a), some z, some (.int (((fin3 i).val : Nat) : Int)), _, _]
          rw [fv]
          rfl
        | some b =>
          have e1 : pkB h s' l (i + 1) = if isSooner h s' l (fin3 i) b = true then some (fin3 i) else some b := by
            rw [ps, hb]
            unfold pick
            rw [decide_eq_true sp, Bool.true_and]
          refine ⟨_, rfl, rfl, _, rfl, iteF ?_⟩
          refine ⟨_, rfl, _, rfl, _, rfl, _, rfl, _, rfl, fin3 i, b, x, .ref a, z, h, s', l, n, (by rw [fv]; rfl), hx.ex E4, hy.ex E4, hz.ex E4, bs, bl, n0, n1, _, rfl, ?_⟩
          cases hs : isSooner h s' l (fin3 i) b with
          | true =>
            rw [hs, if_pos rfl] at e1
            refine iteT ⟨_, rfl, some (.int (i : Nat)), some (.int (s' (fin3 i))), ?_, E4⟩
            rw [e1]
            show _ = [some x, some (.ref a), some z, some (.int (((fin3 i).val : Nat) : Int)), _, _]
            rw [fv]
            rfl
          | false =>
            rw [hs, if_neg (by decide)] at e1
            refine iteF ⟨some (.int (i : Nat)), some (.int (s' (fin3 i))), ?_, E4⟩
            rw [e1]
            rfl
      · have e1 : pkB h s' l (i + 1) = pkB h s' l i := by
          rw [ps]
          unfold pick
          rw [decide_eq_false sp, Bool.false_and, if_neg (by decide)]
        rw [decide_eq_false (show ¬ s' (fin3 i) > 0 from sp)]
        refine iteF (iteF ⟨some (.int (i : Nat)), some (.int (s' (fin3 i))), ?_, E4⟩)
        rw [e1]
        rfl
    · rintro σ H3 ⟨o4, o5, rfl, e3⟩
      exact ⟨_, rfl, q H3 e3⟩
theorem ok__placed (D : Df K mg "_placed" s__placed ["many", "held", "shares"]) (mzip : mg "zip" = none) : Ok P w K mg base 1 "_placed" ["many", "held", "shares"] (spPlaced K) := by
  refine D.ok fun f fd F => F.ok sc__placed (fun vs H Q E h => ?_) (fun cdv A outer s H vs Q E hr h => ?_)
  · obtain ⟨N, x, y, h, s, rfl, _⟩ := h
    rfl
  · obtain ⟨N, x, y, h, s', rfl, ⟨a, rfl, qa⟩, ⟨b, rfl, qb⟩, hl, hN, q⟩ := h
    refine ⟨_, (pss_cons (ps_set (i := 3) sc__placed.nd rfl (.inl rfl) (pe_op op_rep (pe_lstE (pa_cons pe_int pa_nil)) (pv 0)))
      (pss_cons (ps_for PassesOwn.never rfl (pi_zipX (by rfl) mzip (pa_cons (pv 1) (pa_cons (pv 2) pa_nil))) (pg_tup rfl (pgs_cons (pg_name (i := 4) sc__placed.nd rfl (.inl rfl)) (pgs_cons (pg_name (i := 5) sc__placed.nd rfl (.inl rfl)) pgs_nil))) (pss_one (ps_asg (pv 5) (pg_sub (pv 3) (pv 4) set_list))))
      (pss_one (ps_ret (pv 3))))), ?_⟩
    refine ⟨(by show 1 ≤ sizeLine; decide), fun F0 H1 n0 e1 k1 => ⟨_, rfl, F0, (N : Int), [.int 0], rfl, rfl, k1, by omega, by omega, Nat.le_of_lt (sz_lt (by simp; omega)), fun F hF => ?_⟩⟩
    have e2 : Ex H1 (upd H1 F (.lst (List.replicate (N : Int).toNat [V.int 0]).flatten)) := Ex.new hF
    have k2 : upd H1 F (.lst (List.replicate (N : Int).toNat [V.int 0]).flatten) F = some (.lst ((plB N h s' 0).map V.int)) := by
      rw [upd_same, Int.toNat_natCast, flat_int]
      rfl
    generalize upd H1 F (.lst (List.replicate (N : Int).toNat [V.int 0]).flatten) = H2 at e2 k2 ⊢
    have E2 := e1.trans e2
    have hF0 : H F = none := none_of' e1 hF
    refine ⟨_, rfl, _, rfl, false, false, a, b, [.int (nat3 h 0), .int (nat3 h 1), .int (nat3 h 2)], [.int (s' 0), .int (s' 1), .int (s' 2)], rfl, ex_l E2 qa, ex_l E2 qb, for_zipX (K := K) (xs := [.int (nat3 h 0), .int (nat3 h 1), .int (nat3 h 2)]) (ys := [.int (s' 0), .int (s' 1), .int (s' 2)]) rfl (fun i σ H' => ∃ (o4 o5 : Option V), σ = [some (.int (N : Int)), some (.ref a), some (.ref b), some (.ref F), o4, o5] ∧ Ex H H' ∧ H' F = some (.lst ((plB N h s' i).map V.int))) ⟨none, none, rfl, E2, k2⟩ (fun i σ H' ⟨_, _, _, e, _⟩ => ⟨ex_l e qa, ex_l e qb⟩) ?_ ?_⟩
    · rintro i u v T σ H3 hu hv ⟨o4, o5, rfl, e3, kF⟩ hT
      have hu' : [V.int (nat3 h 0), .int (nat3 h 1), .int (nat3 h 2)][i]? = some u := hu
      obtain ⟨i3, rfl⟩ := ns3_at hu'
      obtain ⟨_, rfl⟩ := ns3_at hv
      have eT := Ex.new (o := .tup [.int (nat3 h (fin3 i)), .int (s' (fin3 i))]) hT
      refine ⟨T, [.int (nat3 h (fin3 i)), .int (s' (fin3 i))], rfl, st_of upd_same, rfl, .int (nat3 h (fin3 i)), [.int (s' (fin3 i))], rfl, .int (s' (fin3 i)), [], rfl, rfl, ?_⟩
      generalize upd H3 T (.tup [.int (nat3 h (fin3 i)), .int (s' (fin3 i))]) = H4 at eT ⊢
      have hk := hl (fin3 i)
      refine ⟨_, rfl, _, rfl, _, rfl, F, _, (h (fin3 i) : Int), h (fin3 i), rfl, rfl, eT _ _ kF, ixN_nat (by rw [List.length_map, plB_len]; exact hk), ?_⟩
      refine ⟨_, _, rfl, Ex.mut (e3.trans eT) hF0, ?_⟩
      rw [plB_step i3, List.map_set]
      exact upd_same
    · rintro σ H3 ⟨o4, o5, rfl, e3, kF⟩
      exact ⟨_, rfl, q F H3 hF0 e3 kF⟩
end

end K20
end
section
set_option maxRecDepth 100000
set_option maxHeartbeats 400000
namespace K20
open PySem Evl Nc PyProof.Rows
open L2 hiding spCell
section
variable {P : Program} {w : World} {K : PySem.W.Frag} {mg : Str → Option Value} {base : Heap}
theorem held_at {K : PySem.W.Frag} {H : Hp} {ws : List W4} {h : F3 Nat} {x : V} {i : Nat} {v : V} {Q : VK} (hl : ∀ p, h p < ws.length) (hw : W4s K H x ws) (hv : [V.int (nat3 h 0), .int (nat3 h 1), .int (nat3 h 2)][i]? = some v) (q : ∀ u, W4V K H u (wAt ws (h (fin3 i))) → Q u H) : i < 3 ∧ rIxL K x v H Q := by
  obtain ⟨i3, rfl⟩ := ns3_at hv
  obtain ⟨a, xs, rfl, qa, pa⟩ := hw
  have hk := hl (fin3 i)
  obtain ⟨u, hu, wu⟩ := pget' pa (List.getElem?_eq_getElem hk)
  have e : wAt ws (h (fin3 i)) = ws[h (fin3 i)] := by
    unfold wAt
    rw [List.getD_eq_getElem?_getD, List.getElem?_eq_getElem hk]
    rfl
  rw [← e] at wu
  exact ⟨i3, a, xs, _, u, rfl, rfl, qa, atI_nat hu, q u wu⟩
theorem wish_at {K : PySem.W.Frag} {H : Hp} {ws : List W4} {x : V} {e : Nat} {Q : VK} (hl : e < ws.length) (hw : W4s K H x ws) (q : ∀ u, W4V K H u (wAt ws e) → Q u H) : rIxL K x (.int (e : Int)) H Q := by
  obtain ⟨a, xs, rfl, qa, pa⟩ := hw
  obtain ⟨u, hu, wu⟩ := pget' pa (List.getElem?_eq_getElem hl)
  have e1 : wAt ws e = ws[e] := by
    unfold wAt
    rw [List.getD_eq_getElem?_getD, List.getElem?_eq_getElem hl]
    rfl
  rw [← e1] at wu
  exact ⟨a, xs, _, u, rfl, rfl, qa, atI_nat hu, q u wu⟩
theorem rows_3 {ws : List W4} {h : F3 Nat} {i : Nat} (i3 : i < 3) : [wAt ws (h 0), wAt ws (h 1), wAt ws (h 2)][i]? = some (wAt ws (h (fin3 i))) := by
  match i, i3 with
  | 0, _ => rfl
  | 1, _ => rfl
  | 2, _ => rfl
theorem nums_3 {ws : List W4} {h : F3 Nat} {i : Nat} (i3 : i < 3) : [V.int (numsOf ws h 0), .int (numsOf ws h 1), .int (numsOf ws h 2)][i]? = some (.int (wAt ws (h (fin3 i))).2) := by
  match i, i3 with
  | 0, _ => rfl
  | 1, _ => rfl
  | 2, _ => rfl
theorem put_3 {h : F3 Nat} {e : Nat} : ∀ r : Fin 3, [V.int (nat3 h 0), .int (nat3 h 1), .int (nat3 h 2)].set r.val (.int (e : Int)) = [.int (nat3 (put h r e) 0), .int (nat3 (put h r e) 1), .int (nat3 (put h r e) 2)] := all3 rfl rfl rfl
theorem neg_3 {y : F3 Int} {i : Nat} (i3 : i < 3) : [V.int (-(y 0)), .int (-(y 1)), .int (-(y 2))][i]? = some (.int (-(y (fin3 i)))) := by
  match i, i3 with
  | 0, _ => rfl
  | 1, _ => rfl
  | 2, _ => rfl
theorem ok_walk (D : Df K mg "walk" s_walk ["wishes", "aim", "start"]) (GC : Ok P w K mg base 2 "_columns" ["rows"] (spCols3 K)) (GSp : Ok P w K mg base 2 "_spot" ["numbers", "columns"] (spSpotC K)) (GSh : Ok P w K mg base 2 "_shares" ["row", "columns"] (spShares3 K)) (GF : Ok P w K mg base 2 "_first_broken" ["wishes", "spot", "bottom"] (spFirstB K)) (GL : Ok P w K mg base 2 "_leaving" ["held", "shares", "loads"] (spLeaving K)) (GP : Ok P w K mg base 1 "_placed" ["many", "held", "shares"] (spPlaced K)) (mlist : mg "list" = none) (mlen : mg "len" = none) : Ok P w K mg base 3 "walk" ["wishes", "aim", "start"] (spWalk K) := by
  refine D.ok fun f fd F => F.ok sc_walk (fun vs H Q E h => ?_) (fun cdv A outer s H vs Q E hr h => ?_)
  · obtain ⟨x, y, c, ws, aim, h0, n, rfl, _⟩ := h
    rfl
  · obtain ⟨x, y, c, ws, aim, h0, n, rfl, hx, hy, qc, hb, ha, n0, n2, wl, g0, q1, q2⟩ := h
    have hr1 : Room 1 _ := hr.mono (by decide)
    have hrA : Room 0 _ := hr.mono (by decide)
    refine ⟨_, (pss_cons (ps_set (i := 3) sc_walk.nd rfl (.inl rfl) (pe_callTy (T := "list") (call_lstE) (by rfl) mlist (by decide +kernel) (pa_cons (pv 2) pa_nil)))
      (pss_one (ps_while PassesOwn.never (pt_val pe_bl) (pss_cons (ps_asg (cl GC hr (pa_cons (pe_lc (own := [("at", 11)]) (g := gName 11) (tt := tYes) rfl sc_walk.nd (pi_list (pv 3)) (blkOk_by (N := ["wishes", "aim", "start", "held", "columns", "bottom", "spot", "broken", "shares", "leaving", "multiples", "at", "share"]) (sc := defScope s_walk) (by decide +kernel)) (fun _ _ _ _ _ => (pg_name (i := 11) sc_walk.nd rfl (.inl rfl))) (fun _ _ _ _ _ => pts_nil) (fun _ _ _ _ _ => (pe_ix (ix_lK K) (pv 0) (pv 11) (fun _ _ => rfl)))) pa_nil)) (pg_tup rfl (pgs_cons (pg_name (i := 4) sc_walk.nd rfl (.inl rfl)) (pgs_cons (pg_name (i := 5) sc_walk.nd rfl (.inl rfl)) pgs_nil))))
      (pss_cons (ps_set (i := 6) sc_walk.nd rfl (.inl rfl) (cl GSp hr (pa_cons (pe_lc (own := [("at", 11)]) (g := gName 11) (tt := tYes) rfl sc_walk.nd (pi_list (pv 3)) (blkOk_by (N := ["wishes", "aim", "start", "held", "columns", "bottom", "spot", "broken", "shares", "leaving", "multiples", "at", "share"]) (sc := defScope s_walk) (by decide +kernel)) (fun _ _ _ _ _ => (pg_name (i := 11) sc_walk.nd rfl (.inl rfl))) (fun _ _ _ _ _ => pts_nil) (fun _ _ _ _ _ => pe_ix (ix_tK K) (pe_ix (ix_lK K) (pv 0) (pv 11) (fun _ _ => rfl)) pe_int (fun _ _ => rfl))) (pa_cons (pv 4) pa_nil))))
      (pss_cons (ps_set (i := 7) sc_walk.nd rfl (.inl rfl) (cl GF hr (pa_cons (pv 0) (pa_cons (pv 6) (pa_cons (pv 5) pa_nil)))))
      (pss_cons (ps_if (pt_cmpR op_isN (pv 7) pe_non (nomark _)) (pss_one (ps_ret (pe_tupE (pa_cons (pv 6) (pa_cons (pv 5) (pa_cons (cl GP hr1 (pa_cons (pe_callB call_len_seq (by rfl) mlen PySem.boot_len (pa_cons (pv 0) pa_nil)) (pa_cons (pv 3) (pa_cons (cl GSh hr (pa_cons (pv 1) (pa_cons (pv 4) pa_nil))) pa_nil)))) pa_nil)))))) pss_nil)
      (pss_cons (ps_set (i := 8) sc_walk.nd rfl (.inl rfl) (cl GSh hr (pa_cons (pe_ix (ix_lK K) (pv 0) (pv 7) (fun _ _ => rfl)) (pa_cons (pv 4) pa_nil))))
      (pss_cons (ps_set (i := 9) sc_walk.nd rfl (.inl rfl) (cl GL hr (pa_cons (pv 3) (pa_cons (pv 8) (pa_cons (cl GSh hr (pa_cons (pv 1) (pa_cons (pv 4) pa_nil))) pa_nil)))))
      (pss_cons (ps_if (pt_cmpR op_isN (pv 9) pe_non (nomark _)) (pss_cons (ps_set (i := 10) sc_walk.nd rfl (.inl rfl) (cl GP hr1 (pa_cons (pe_callB call_len_seq (by rfl) mlen PySem.boot_len (pa_cons (pv 0) pa_nil)) (pa_cons (pv 3) (pa_cons (pe_lc (own := [("share", 12)]) (g := gName 12) (tt := tYes) rfl sc_walk.nd (pi_list (pv 8)) (blkOk_by (N := ["wishes", "aim", "start", "held", "columns", "bottom", "spot", "broken", "shares", "leaving", "multiples", "at", "share"]) (sc := defScope s_walk) (by decide +kernel)) (fun _ _ _ _ _ => (pg_name (i := 12) sc_walk.nd rfl (.inl rfl))) (fun _ _ _ _ _ => pts_nil) (fun _ _ _ _ _ => pe_un un_neg (pv 12))) pa_nil)))))
      (pss_cons (ps_asg (pv 5) (pg_sub (pv 10) (pv 7) set_list))
      (pss_one (ps_ret (pe_tupE (pa_cons pe_non (pa_cons (pv 5) (pa_cons (pv 10) pa_nil)))))))) pss_nil)
      (pss_one (ps_asg (pv 7) (pg_sub (pv 3) (pv 9) set_list))))))))))))), ?_⟩
    obtain ⟨run, stop, good⟩ := end_b g0
    have hq0 : SqL K H c [V.int (nat3 h0 0), .int (nat3 h0 1), .int (nat3 h0 2)] := qc
    refine ⟨_, rfl, c, _, rfl, hq0, fun hd H1 nhd e1 k1 => ?_⟩
    have nH : H hd = none := nhd
    refine ⟨fun m σ H' => ∃ (k : Nat) (o4 o5 o6 o7 o8 o9 o10 o11 o12 : Option V), k ≤ endK ws aim h0 ∧ m = endK ws aim h0 - k ∧ σ = [some x, some y, some (.ref c), some (.ref hd), o4, o5, o6, o7, o8, o9, o10, o11, o12] ∧ Ex H H' ∧ H' hd = some (.lst [.int (nat3 (stB ws aim h0 k) 0), .int (nat3 (stB ws aim h0 k) 1), .int (nat3 (stB ws aim h0 k) 2)]),
      ⟨endK ws aim h0, 0, none, none, none, none, none, none, none, none, none, Nat.zero_le _, rfl, rfl, e1, k1⟩, ?_⟩
    rintro m σ H2 ⟨k, o4, o5, o6, o7, o8, o9, o10, o11, o12, hk, rfl, rfl, e2, kh⟩
    have gk := good k hk
    have hend : stepB ws aim (stB ws aim h0 k) = none → endB ws aim h0 = stB ws aim h0 k := fun hn => by
      by_cases hke : k = endK ws aim h0
      · rw [hke]
        rfl
      · have := run k (by omega)
        rw [hn] at this
        cases this
    have hnext : ∀ h', stepB ws aim (stB ws aim h0 k) = some h' → k < endK ws aim h0 ∧ stB ws aim h0 (k + 1) = h' := fun h' hs => by
      by_cases hke : k = endK ws aim h0
      · have : stepB ws aim (stB ws aim h0 k) = none := by rw [hke]; exact stop
        rw [hs] at this
        cases this
      · have := run k (by omega)
        rw [hs] at this
        exact ⟨by omega, (Option.some.inj this).symm⟩
    generalize stB ws aim h0 k = h at kh gk hend hnext
    refine ⟨_, rfl, iteT ?_⟩
    refine ⟨fun σ' H' => ∃ (o4 o5 o6 o7 o8 o9 o10 o11 o12 : Option V), k < endK ws aim h0 ∧ σ' = [some x, some y, some (.ref c), some (.ref hd), o4, o5, o6, o7, o8, o9, o10, o11, o12] ∧ Ex H H' ∧ H' hd = some (.lst [.int (nat3 (stB ws aim h0 (k + 1)) 0), .int (nat3 (stB ws aim h0 (k + 1)) 1), .int (nat3 (stB ws aim h0 (k + 1)) 2)]), ?_, ?_⟩
    · rintro σ' H' ⟨p4, p5, p6, p7, p8, p9, p10, p11, p12, hlt, rfl, e', kh'⟩
      exact ⟨endK ws aim h0 - (k + 1), by omega, k + 1, p4, p5, p6, p7, p8, p9, p10, p11, p12, hlt, rfl, rfl, e', kh'⟩
    have hlt := gk.lt
    have bw : ∀ p, Bw n (wAt ws (h p)) := fun p => wAt_bw hb (hlt p)
    have bC := bi_cols (r := rowsOf ws h) fun p => (bw p).1
    have bB := bot_lt (r := rowsOf ws h) fun p => (bw p).1
    have bS : Bi (n + (n + n + 1) + 2) (spotOf ws h) := spot_lt (fun p => (bw p).2) bC
    have m1 : n ≤ 3 * n + 3 := by omega
    -- the columns
    refine ⟨_, rfl, hd, rfl, ⟨_, sq_of kh⟩, fun G hG => ?_⟩
    refine lc_list (K := K) (a := hd) (xs := [.int (nat3 h 0), .int (nat3 h 1), .int (nat3 h 2)]) (Bld (W4V K) H2 G [wAt ws (h 0), wAt ws (h 1), wAt ws (h 2)]) (bld0 hG) (fun k H' _ b => sq_of (b.1 _ _ kh)) ?_ ?_
    · rintro i v H3 hv b3
      refine ⟨rfl, _, rfl, _, rfl, (held_at hlt (hx.ex (e2.trans b3.1)) hv fun u hu => ?_).2⟩
      have i3 := (ns3_at hv).1
      exact bld_step stW4 hG b3 (Ex.refl _) (rows_3 i3) (by omega) hu
    intro H3 b3
    obtain ⟨e3, gs, kg, pg⟩ := bld_end rfl b3
    have E3 := e2.trans e3
    have pg' : Paired (Sq3 K H3) gs [rowsOf ws h 0, rowsOf ws h 1, rowsOf ws h 2] := by
      obtain ⟨u0, u1, u2, rfl, w0, w1, w2⟩ := paired3 pg
      exact .cons w0.sq (.cons w1.sq (.cons w2.sq .nil))
    refine ⟨G, gs, rowsOf ws h, n, rfl, sq_of kg, pg', fun p => (bw p).1, n0, by omega, fun t v H4 e4 qt hC => ?_⟩
    refine ⟨t, [v, .int (bot (rowsOf ws h))], rfl, qt, rfl, v, [.int (bot (rowsOf ws h))], rfl, .int (bot (rowsOf ws h)), [], rfl, rfl, ?_⟩
    have E4 := E3.trans e4
    have kh4 := (e3.trans e4) _ _ kh
    have hC : ColsV K H4 v (colsOf ws h) := hC
    -- the spot
    refine ⟨_, rfl, hd, rfl, ⟨_, sq_of kh4⟩, fun G2 hG2 => ?_⟩
    refine lc_list (K := K) (a := hd) (xs := [.int (nat3 h 0), .int (nat3 h 1), .int (nat3 h 2)]) (Bls [.int (numsOf ws h 0), .int (numsOf ws h 1), .int (numsOf ws h 2)] H4 G2) (bls0 hG2) (fun k H' _ b => sq_of (b.1 _ _ kh4)) ?_ ?_
    · rintro i u H5 hu b5
      refine ⟨rfl, _, rfl, _, rfl, (held_at hlt (hx.ex (E4.trans b5.1)) hu fun z hz => ?_).2⟩
      have i3 := (ns3_at hu).1
      obtain ⟨tz, rfl, qz⟩ := hz
      exact ⟨tz, _, 3, _, rfl, rfl, qz, at3, bls_step hG2 b5 (Ex.refl _) (nums_3 i3) (by show 3 < 100000; decide)⟩
    intro H5 b5
    obtain ⟨e5, k5⟩ := bls_end rfl b5
    have E5 := E4.trans e5
    have bN : ∀ p, (numsOf ws h p).natAbs < 2 ^ (3 * n + 3) := fun p => lt_mono (bw p).2 m1
    have bC2 : ∀ p, Bi (3 * n + 3) (colsOf ws h p) := fun p => bi_mono (bC p) (by omega)
    refine ⟨_, rfl, .ref G2, v, numsOf ws h, colsOf ws h, 3 * n + 3, rfl, ⟨G2, rfl, sq_of k5⟩, hC.ex e5, ⟨bN 0, bN 1, bN 2⟩, bC2, by omega, by omega, fun vs H6 e6 hS => ?_⟩
    have E6 := E5.trans e6
    have hS : I3V K H6 vs (spotOf ws h) := hS
    have bS2 : Bi (3 * n + 3) (spotOf ws h) := bi_mono bS (by omega)
    -- broken
    refine ⟨_, rfl, _, rfl, _, rfl, x, vs, ws, spotOf ws h, botOf ws h, 3 * n + 3, rfl, hx.ex E6, hS, fun w hw => ⟨bi_mono (hb w hw).1 m1, lt_mono (hb w hw).2 m1⟩, bS2, bB, by omega, by omega, by omega, fun H7 e7 => ?_⟩
    have E7 := E6.trans e7
    have kh7 := (e5.trans (e6.trans e7)) _ _ kh4
    have hh7 : Ns3 K H7 (.ref hd) (nat3 h) := ⟨hd, rfl, sq_of kh7⟩
    have hC7 := hC.ex (e5.trans (e6.trans e7))
    have bA : Bi (3 * n + 3) aim := bi_mono ha m1
    have bLd : By (3 * n + 3) (loadsOf ws aim h) := fun p => lt_mono (bi_dt ha (bC p)) (by omega)
    have ef : ws.findIdx? (isBroken (spotOf ws h) (botOf ws h)) = firstB ws h := rfl
    rw [ef]
    obtain ⟨a0, xs0, rfl, qa0, pa0⟩ := id hx
    have xl := Paired.length pa0
    cases hf : firstB ws h with
    | none =>
      have hst : stepB ws aim h = none := by unfold stepB; rw [hf]
      rw [hend hst] at q1
      refine ⟨_, rfl, rfl, _, rfl, iteT ⟨_, rfl, _, rfl, _, rfl, a0, _, rfl, .inl (ex_l E7 qa0), _, rfl, _, rfl, _, rfl, y, v, aim, colsOf ws h, 3 * n + 3, rfl, (hy.ex E7).sq, hC7, bA, bC2, by omega, by omega, fun ld H8 e8 hld => ?_⟩⟩
      refine ⟨ws.length, .ref hd, ld, h, loadsOf ws aim h, (by rw [xl]; rfl), hh7.ex e8, hld, hlt, by omega, fun F H9 nF e9 kF => ⟨(by show 3 ≤ sizeLine; decide), fun p H10 np e10 kp => ?_⟩⟩
      exact q1 hf p vs F H10 (E7.trans (e8.trans (e9.trans e10))) (st_of kp) (hS.ex (e7.trans (e8.trans (e9.trans e10)))) (sq_of (e10 _ _ kF))
    | some e =>
      have fs := first_some hf
      refine ⟨_, rfl, rfl, _, rfl, iteF ?_⟩
      refine ⟨_, rfl, _, rfl, wish_at fs.1 (hx.ex E7) fun u hu => ⟨_, rfl, u, v, (wAt ws e).1, colsOf ws h, 3 * n + 3, rfl, hu.sq, hC7, bi_mono (wAt_bw hb fs.1).1 m1, bC2, by omega, by omega, fun sh H8 e8 hsh => ?_⟩⟩
      have hsh : Ns3 K H8 sh (sharesOf ws h e) := hsh
      have bSh : By (3 * n + 3) (sharesOf ws h e) := fun p => lt_mono (bi_dt (wAt_bw hb fs.1).1 (bC p)) (by omega)
      refine ⟨_, rfl, _, rfl, _, rfl, _, rfl, y, v, aim, colsOf ws h, 3 * n + 3, rfl, (hy.ex (E7.trans e8)).sq, hC7.ex e8, bA, bC2, by omega, by omega, fun ld H9 e9 hld => ?_⟩
      refine ⟨.ref hd, sh, ld, h, sharesOf ws h e, loadsOf ws aim h, 3 * n + 3, rfl, hh7.ex (e8.trans e9), hsh.ex e9, hld, bSh, bLd, by omega, by omega, fun H10 e10 => ?_⟩
      have E10 := E7.trans (e8.trans (e9.trans e10))
      cases hl : leave h (sharesOf ws h e) (loadsOf ws aim h) with
      | none =>
        have hst : stepB ws aim h = none := by
          unfold stepB
          simp only [hf, hl]
        rw [hend hst] at q2
        refine ⟨_, rfl, rfl, _, rfl, iteT ?_⟩
        obtain ⟨ash, rfl, qsh⟩ := hsh.ex (e9.trans e10)
        refine ⟨_, rfl, a0, _, rfl, .inl (ex_l E10 qa0), _, rfl, _, rfl, ash, rfl, ⟨_, qsh⟩, fun G3 hG3 => ?_⟩
        refine lc_list (K := K) (a := ash) (xs := [.int (sharesOf ws h e 0), .int (sharesOf ws h e 1), .int (sharesOf ws h e 2)]) (Bls [.int (-(sharesOf ws h e 0)), .int (-(sharesOf ws h e 1)), .int (-(sharesOf ws h e 2))] H10 G3) (bls0 hG3) (fun k H' _ b => ex_l b.1 qsh) ?_ ?_
        · rintro i u H11 hu b11
          obtain ⟨i3, rfl⟩ := ns3_at hu
          exact ⟨rfl, _, rfl, _, rfl, bls_step hG3 b11 (Ex.refl _) (neg_3 i3) (by show 3 < 100000; decide)⟩
        intro H11 b11
        obtain ⟨e11, k11⟩ := bls_end rfl b11
        refine ⟨ws.length, .ref hd, .ref G3, h, (fun p => - sharesOf ws h e p), (by rw [xl]; rfl), hh7.ex (e8.trans (e9.trans (e10.trans e11))), ⟨G3, rfl, sq_of k11⟩, hlt, by omega, fun F H12 nF e12 kF => ?_⟩
        have nF0 : H11 F = none := nF
        refine ⟨_, rfl, _, rfl, _, rfl, F, _, (e : Int), e, rfl, rfl, kF, ixN_nat (by rw [List.length_map, plc_len]; exact fs.1), ?_⟩
        have e13 : Ex H11 (upd H12 F (.lst (((plc ws.length h fun p => - sharesOf ws h e p).map V.int).set e (.int (botOf ws h))))) := Ex.mut e12 nF
        have k13 : upd H12 F (.lst (((plc ws.length h fun p => - sharesOf ws h e p).map V.int).set e (.int (botOf ws h)))) F = some (.lst ((topsE ws h e).map V.int)) := by
          rw [upd_same]
          unfold topsE
          rw [List.map_set]
        refine ⟨_, rfl, _, rfl, (by show 3 ≤ sizeLine; decide), fun p H14 np e14 kp => ?_⟩
        exact q2 e hf p F H14 (E10.trans (e11.trans (e13.trans e14))) (st_of kp) (sq_of (e14 _ _ k13))
      | some r =>
        have hst : stepB ws aim h = some (put h r e) := by
          unfold stepB
          simp only [hf, hl]
        obtain ⟨hklt, hnx⟩ := hnext _ hst
        refine ⟨_, rfl, rfl, _, rfl, iteF ?_⟩
        have kh10 := (e8.trans (e9.trans e10)) _ _ kh7
        refine ⟨_, rfl, _, rfl, _, rfl, hd, _, ((r.val : Nat) : Int), r.val, rfl, rfl, kh10, ixN_nat r.isLt, ?_⟩
        refine ⟨_, _, _, _, _, _, _, _, _, hklt, rfl, Ex.mut E10 nH, ?_⟩
        rw [hnx, ← put_3]
        exact upd_same
end

end K20
end
section
set_option maxRecDepth 100000
set_option maxHeartbeats 400000
namespace K20
open PySem Evl Nc PyProof.Rows
open L2 hiding spCell
section
variable {P : Program} {w : World} {K : PySem.W.Frag} {mg : Str → Option Value} {base : Heap}
theorem wb_den {l : List Rat} (h : Wb l) : ∃ D : Nat, 0 < D ∧ D < 2 ^ 1600 ∧ ∀ r ∈ l, r.den ∣ D := by
  obtain ⟨D, D0, hD, hl⟩ := h
  refine ⟨D, D0, hD, fun r hr => ?_⟩
  obtain ⟨t, rfl, _⟩ := hl r hr
  exact den_of_div D0
theorem muls_get {tops : List Int} {asked : List Sum2} {B : Int} {i : Nat} {t : Int} {w : Sum2} (h1 : tops[i]? = some t) (h2 : asked[i]? = some w) : (mulsOf tops asked B)[i]? = some (Rat.divInt (t * (szW w : Int)) B) := by
  unfold mulsOf
  rw [List.getElem?_zipWith, h1, h2]
theorem map_int {tops : List Int} {i : Nat} {v : V} (h : (tops.map V.int)[i]? = some v) : ∃ t, tops[i]? = some t ∧ v = .int t := by
  rw [List.getElem?_map] at h
  cases ht : tops[i]? with
  | none => simp [ht] at h
  | some t =>
    simp [ht] at h
    exact ⟨t, rfl, h.symm⟩
theorem map_szw {asked : List Sum2} {i : Nat} {v : V} (h : (asked.map fun w => V.int ((szW w : Nat) : Int))[i]? = some v) : ∃ w, asked[i]? = some w ∧ v = .int ((szW w : Nat) : Int) := by
  rw [List.getElem?_map] at h
  cases ht : asked[i]? with
  | none => simp [ht] at h
  | some t =>
    simp [ht] at h
    exact ⟨t, rfl, h.symm⟩
theorem pair_map {α β γ : Type} {R : α → γ → Prop} {f : β → γ} : ∀ {xs : List α} {ys : List β}, Paired R xs (ys.map f) → Paired (fun x y => R x (f y)) xs ys
  | [], [], _ => .nil
  | _ :: _, _ :: _, .cons h p => .cons h (pair_map p)
theorem wsOf_len {n : Nat} {asked : List Sum2} : asked.length ≤ (wsOf n asked).length ∧ (wsOf n asked).length ≤ asked.length + 2 := by
  unfold wsOf
  rw [List.length_append, List.length_map, List.length_drop]
  show _ ∧ _ + (2 - _) ≤ _
  omega
theorem cut3 {a b c : V} {n : Nat} (h1 : 1 ≤ n) (h3 : n ≤ 3) : cutV [a, b, c] none (some ((n : Nat) : Int)) = [a, b, c].take n := by
  have : n = 1 ∨ n = 2 ∨ n = 3 := by omega
  rcases this with rfl | rfl | rfl <;> rfl
theorem cutD {a b : V} {n : Nat} (h1 : 1 ≤ n) (h3 : n ≤ 3) : cutV [a, b] (some (((n : Nat) : Int) - 1)) none = [a, b].drop (n - 1) := by
  have : n = 1 ∨ n = 2 ∨ n = 3 := by omega
  rcases this with rfl | rfl | rfl <;> rfl
theorem over_at {n i : Nat} {S : I3} {D : Int} {v : V} (h : ([V.int S.1, .int S.2.1, .int S.2.2].take n)[i]? = some v) : ∃ t : Int, v = .int t ∧ (overN n S D)[i]? = some (Rat.divInt t D) := by
  have e : [V.int S.1, .int S.2.1, .int S.2.2].take n = ([S.1, S.2.1, S.2.2].take n).map V.int := by
    rw [List.map_take]
    rfl
  rw [e, List.getElem?_map] at h
  cases ht : ([S.1, S.2.1, S.2.2].take n)[i]? with
  | none => simp [ht] at h
  | some t =>
    simp [ht] at h
    refine ⟨t, h.symm, ?_⟩
    unfold overN
    rw [List.getElem?_map, ht]
    rfl
set_option maxHeartbeats 4000000 in
theorem ok__settled (D : Df K mg "_settled" s__settled ["asked", "aim"]) {CM CE fM fE : Addr} {fdM fdE : FuncData} (MM : Mk K CM fM) (FM : FnOk P w K mg base CX0 1 fM fdM ["self", "spot", "multiples"] (spInitM CM)) (bM : Binds K fdM ["self", "spot", "multiples"] []) (gM : mg "Most" = some (.ref CM)) (ME : Mk K CE fE) (FE : FnOk P w K mg base CX0 1 fE fdE ["self", "multiples"] (spInitE CE)) (bE : Binds K fdE ["self", "multiples"] []) (gE : mg "Empty" = some (.ref CE)) (CD : Dum K mg) (GZ : Ok P w K mg base 1 "_size" ["fractions"] (spSizeR K)) (GTp : Ok P w K mg base 1 "_top" ["one", "size"] (spTopR K)) (GWh : Ok P w K mg base 2 "_whole" ["row", "many", "size"] (spWholeR K)) (GSt : Ok P w K mg base 1 "_start" ["aim", "many"] (spStartR K)) (GW : Ok P w K mg base 3 "walk" ["wishes", "aim", "start"] (spWalk K)) (GF : Ok P w K mg base 1 "fraction_of" ["top", "bottom"] (spPart K)) (mlen : mg "len" = none) (mlist : mg "list" = none) (mtuple : mg "tuple" = none) (mzip : mg "zip" = none) : Ok P w K mg base 4 "_settled" ["asked", "aim"] (spSettledR K CM CE) := by
  refine D.ok fun f fd F => F.ok sc__settled (fun vs H Q E h => ?_) (fun cdv A outer s H vs Q E hr h => ?_)
  · obtain ⟨a, y, xs, sp, ws, aim, rfl, _⟩ := h
    rfl
  · obtain ⟨a, y, xs, sp, ws, aim, rfl, qa, pa, hy, ok, q1, q2⟩ := h
    obtain ⟨aD, t1, t2, gD, hD⟩ := CD.ex
    have hr1 : Room 1 _ := hr.mono (by decide)
    have hr2 : Room 2 _ := hr.mono (by decide)
    refine ⟨_, (pss_cons (ps_set (i := 2) sc__settled.nd rfl (.inr rfl) (pe_callB call_len_seq (by rfl) mlen PySem.boot_len (pa_cons (pv 1) pa_nil)))
      (pss_cons (ps_setLc (i := 3) (own := [("wish", 10)]) (g := gName 10) (tt := tYes) rfl sc__settled.nd rfl rfl (sw_true rfl rfl rfl (by decide +kernel)) (pi_list (pv 0)) (blkOk_by (N := ["asked", "aim", "many", "sizes", "wishes", "size", "spot", "bottom", "tops", "multiples", "wish", "by", "top"]) (sc := defScope s__settled) (by decide +kernel)) (fun _ _ _ _ _ => (pg_name (i := 10) sc__settled.nd rfl (.inl rfl))) (fun _ _ _ _ _ => pts_nil) (fun _ _ _ _ _ => cl GZ hr1 (pa_cons (pe_op (op_catTE K) (pe_ix (ix_tK K) (pv 10) pe_int (fun _ _ => rfl)) (pe_tupE (pa_cons (pe_ix (ix_tK K) (pv 10) pe_int (fun _ _ => rfl)) pa_nil))) pa_nil)))
      (pss_cons (ps_setLc (i := 4) (own := [("wish", 10), ("by", 11)]) (g := gTup K 2 (gCons (gName 10) (gCons (gName 11) gNil))) (tt := tYes) rfl sc__settled.nd rfl rfl (sw_true rfl rfl rfl (by decide +kernel)) (pi_zipX (by rfl) mzip (pa_cons (pv 0) (pa_cons (pv 3) pa_nil))) (blkOk_by (N := ["asked", "aim", "many", "sizes", "wishes", "size", "spot", "bottom", "tops", "multiples", "wish", "by", "top"]) (sc := defScope s__settled) (by decide +kernel)) (fun _ _ _ _ _ => pg_tup rfl (pgs_cons (pg_name (i := 10) sc__settled.nd rfl (.inl rfl)) (pgs_cons (pg_name (i := 11) sc__settled.nd rfl (.inl rfl)) pgs_nil))) (fun _ _ _ _ _ => pts_nil) (fun _ _ _ _ _ => pe_op (op_catTE K) (cl GWh hr2 (pa_cons (pe_ix (ix_tK K) (pv 10) pe_int (fun _ _ => rfl)) (pa_cons (pv 2) (pa_cons (pv 11) pa_nil)))) (pe_tupE (pa_cons (cl GTp hr1 (pa_cons (pe_ix (ix_tK K) (pv 10) pe_int (fun _ _ => rfl)) (pa_cons (pv 11) pa_nil))) pa_nil))))
      (pss_cons (ps_set (i := 5) sc__settled.nd rfl (.inr rfl) (cl GZ hr1 (pa_cons (pv 1) pa_nil)))
      (pss_cons (ps_asg (cl GW hr (pa_cons (pe_op op_catE (pv 4) (pe_callTy (T := "list") (call_lstK K) (by rfl) mlist (by decide +kernel) (pa_cons (pe_slice (sl_tupE K) (pe_glob (v := .ref aD) (by rfl) gD rfl) (po_some (pe_op op_sub (pv 2) pe_int)) po_none) pa_nil))) (pa_cons (cl GWh hr2 (pa_cons (pv 1) (pa_cons (pv 2) (pa_cons (pv 5) pa_nil)))) (pa_cons (cl GSt hr1 (pa_cons (pv 1) (pa_cons (pe_callB call_len_seq (by rfl) mlen PySem.boot_len (pa_cons (pv 0) pa_nil)) pa_nil))) pa_nil)))) (pg_tup rfl (pgs_cons (pg_name (i := 6) sc__settled.nd rfl (.inl rfl)) (pgs_cons (pg_name (i := 7) sc__settled.nd rfl (.inr rfl)) (pgs_cons (pg_name (i := 8) sc__settled.nd rfl (.inl rfl)) pgs_nil)))))
      (pss_cons (ps_if (pt_cmpR op_isN (pv 6) pe_non (nomark _)) (pss_one (ps_ret (pe_make ME FE hr2 (by rfl) gE bE .nil pass0 (pa_cons (pe_callTy call_tuple_of (by rfl) mtuple (by decide +kernel) (pa_cons (pe_lc (own := [("top", 12), ("by", 11)]) (g := gTup K 2 (gCons (gName 12) (gCons (gName 11) gNil))) (tt := tYes) rfl sc__settled.nd (pi_zipX (by rfl) mzip (pa_cons (pv 8) (pa_cons (pv 3) pa_nil))) (blkOk_by (N := ["asked", "aim", "many", "sizes", "wishes", "size", "spot", "bottom", "tops", "multiples", "wish", "by", "top"]) (sc := defScope s__settled) (by decide +kernel)) (fun _ _ _ _ _ => pg_tup rfl (pgs_cons (pg_name (i := 12) sc__settled.nd rfl (.inl rfl)) (pgs_cons (pg_name (i := 11) sc__settled.nd rfl (.inl rfl)) pgs_nil))) (fun _ _ _ _ _ => pts_nil) (fun _ _ _ _ _ => cl GF hr1 (pa_cons (pe_op op_mulBig (pv 12) (pv 11)) (pa_cons (pv 7) pa_nil)))) pa_nil)) pa_nil)))) pss_nil)
      (pss_cons (ps_set (i := 9) sc__settled.nd rfl (.inl rfl) (pe_callTy call_tuple_of (by rfl) mtuple (by decide +kernel) (pa_cons (pe_lc (own := [("top", 12), ("by", 11)]) (g := gTup K 2 (gCons (gName 12) (gCons (gName 11) gNil))) (tt := tYes) rfl sc__settled.nd (pi_zipX (by rfl) mzip (pa_cons (pv 8) (pa_cons (pv 3) pa_nil))) (blkOk_by (N := ["asked", "aim", "many", "sizes", "wishes", "size", "spot", "bottom", "tops", "multiples", "wish", "by", "top"]) (sc := defScope s__settled) (by decide +kernel)) (fun _ _ _ _ _ => pg_tup rfl (pgs_cons (pg_name (i := 12) sc__settled.nd rfl (.inl rfl)) (pgs_cons (pg_name (i := 11) sc__settled.nd rfl (.inl rfl)) pgs_nil))) (fun _ _ _ _ _ => pts_nil) (fun _ _ _ _ _ => cl GF hr1 (pa_cons (pe_op op_mulBig (pv 12) (pv 11)) (pa_cons (pe_op op_mulBig (pv 7) (pv 5)) pa_nil)))) pa_nil)))
      (pss_one (ps_ret (pe_make MM FM hr2 (by rfl) gM bM .nil pass0 (pa_cons (pe_callTy call_tuple_of (by rfl) mtuple (by decide +kernel) (pa_cons (pe_lc (own := [("top", 12)]) (g := gName 12) (tt := tYes) rfl sc__settled.nd (pi_tup (pe_slice (sl_tupE K) (pv 6) po_none (po_some (pv 2)))) (blkOk_by (N := ["asked", "aim", "many", "sizes", "wishes", "size", "spot", "bottom", "tops", "multiples", "wish", "by", "top"]) (sc := defScope s__settled) (by decide +kernel)) (fun _ _ _ _ _ => (pg_name (i := 12) sc__settled.nd rfl (.inl rfl))) (fun _ _ _ _ _ => pts_nil) (fun _ _ _ _ _ => cl GF hr1 (pa_cons (pv 12) (pa_cons (pv 7) pa_nil)))) pa_nil)) (pa_cons (pv 9) pa_nil)))))))))))), ?_⟩
    have n1 := ok.n1
    have n3 := ok.n3
    have al := ask_len ok
    have abw := ask_bw ok
    have abi := aim_bi ok
    have g0 := start_good ok
    have atl : (boxW sp ++ ws).length ≤ 66 := by
      have := ok.wn
      have := ok.sl
      rw [List.length_append, boxW_len]
      omega
    have gE' := (end_b g0).2.2 _ (Nat.le_refl _)
    have eE : stB (wsOf aim.length (boxW sp ++ ws)) (aimI aim) (start3 aim (boxW sp ++ ws).length) (endK (wsOf aim.length (boxW sp ++ ws)) (aimI aim) (start3 aim (boxW sp ++ ws).length)) = endB (wsOf aim.length (boxW sp ++ ws)) (aimI aim) (start3 aim (boxW sp ++ ws).length) := rfl
    rw [eE] at gE'
    have tz := top_sz abw abi gE'.lt
    have tell : settleR (boxW sp ++ ws) aim = tellB (boxW sp ++ ws) aim (endB (wsOf aim.length (boxW sp ++ ws)) (aimI aim) (start3 aim (boxW sp ++ ws).length)) := rfl
    rw [tell] at q1 q2
    unfold tellB at q1 q2
    have wb := ok.wb
    have wba := ok.ab
    generalize boxW sp ++ ws = asked at pa al abw g0 atl gE' tz q1 q2 wb
    have wl := wsOf_len (n := aim.length) (asked := asked)
    have xl := Paired.length pa
    obtain ⟨ty, ysV, rfl, qy, ply⟩ := id hy
    have yl := Paired.length ply
    -- many, sizes
    refine ⟨_, rfl, ty, ysV, rfl, .inr qy, _, rfl, a, rfl, ⟨_, qa⟩, fun Z hZ => ?_⟩
    refine lc_list (K := K) (a := a) (xs := xs) (Bls (asked.map fun w => V.int ((szW w : Nat) : Int)) H Z) (bls0 hZ) (fun k H' _ b => ex_l b.1 qa) ?_ ?_
    · rintro i v H1 hi b1
      obtain ⟨z, hz, fz⟩ := pget pa hi
      have zm := List.mem_of_getElem? hz
      obtain ⟨t, va, vb, rfl, qt, ⟨tr, us, rfl, qr, pr⟩, fb⟩ := fz.ex b1.1
      have ul := Paired.length pr
      have zl := al z zm
      obtain ⟨D, D0, hDl, hdv⟩ := wb_den (wb z zm)
      refine ⟨rfl, ?_⟩
      refine ⟨_, rfl, _, _, _, _, rfl, rfl, qt, at0, _, rfl, _, _, _, _, rfl, rfl, qt, at1, (by show 1 ≤ sizeLine; decide), fun pT H2 nT e2 kT => ⟨tr, pT, us, [vb], rfl, rfl, ex_t e2 qr, st_of kT, Nat.le_of_lt (sz_lt (by simp; omega)), fun pc H3 e3 qc => ?_⟩⟩
      have E3 := e2.trans e3
      refine ⟨.ref pc, z.1 ++ [z.2], D, rfl, row_snoc qc (FrL.ex E3 pr) (fb.ex E3), hdv, D0, hDl, by simp; omega, fun H4 e4 => ?_⟩
      exact bls_step hZ b1 (E3.trans e4) (by rw [List.getElem?_map, hz]; rfl) (by rw [List.length_map]; omega)
    intro H1 b1
    obtain ⟨e1, kZ⟩ := bls_end (by rw [List.length_map]; exact xl) b1
    have pa1 : Paired (SumV K H1) xs asked := pmono (fun _ _ z => SumV.ex e1 z) pa
    -- the wishes in whole numbers
    refine ⟨_, rfl, _, rfl, false, false, a, Z, xs, (asked.map fun w => V.int ((szW w : Nat) : Int)), rfl, ex_l e1 qa, sq_of kZ, fun G hG => ?_⟩
    refine lc_zipX (K := K) (c := false) (c' := false) (a := a) (b := Z) (xs := xs) (ys := asked.map fun w => V.int ((szW w : Nat) : Int)) (by rw [List.length_map]; exact xl) (Bld (W4V K) H1 G (asked.map intW)) (bld0 hG) (fun k H' b => ⟨ex_l (e1.trans b.1) qa, sq_of (b.1 _ _ kZ)⟩) ?_ ?_
    · rintro i v u T H2 hv hu b2 hT
      obtain ⟨z, hz, fz⟩ := pget pa1 hv
      obtain ⟨z', hz', rfl⟩ := map_szw hu
      rw [hz] at hz'
      cases hz'
      have zm := List.mem_of_getElem? hz
      have il := (List.getElem?_eq_some_iff.mp hz).1
      have eT : Ex H2 (upd H2 T (.tup [v, .int ((szW z : Nat) : Int)])) := Ex.new hT
      refine ⟨T, [v, .int ((szW z : Nat) : Int)], rfl, st_of upd_same, rfl, v, [.int ((szW z : Nat) : Int)], rfl, .int ((szW z : Nat) : Int), [], rfl, rfl, rfl, ?_⟩
      generalize upd H2 T (.tup [v, .int ((szW z : Nat) : Int)]) = H3 at eT ⊢
      obtain ⟨t, va, vb, rfl, qt, ra, fb⟩ := fz.ex (b2.1.trans eT)
      have f := wb_f (wb z zm)
      have zl := al z zm
      refine ⟨_, rfl, _, _, _, _, rfl, rfl, qt, at0, _, rfl, _, rfl, va, z.1, szW z, (by rw [zl, ← yl]; rfl), ra, (fun r hr => f.each r (by simp [hr])), by omega, by omega, f.sz, fun vw H4 e4 hw => ?_⟩
      have qt4 := ex_t e4 qt
      refine ⟨_, rfl, _, _, _, _, rfl, rfl, qt4, at1, _, rfl, vb, z.2, szW z, rfl, fb.ex e4, f.each z.2 (by simp), f.sz, (by show 1 ≤ sizeLine; decide), fun pT H5 nT e5 kT => ?_⟩
      obtain ⟨tw, rfl, qw⟩ := hw.ex e5
      refine ⟨tw, pT, _, _, rfl, rfl, qw, st_of kT, (by show 4 ≤ sizeLine; decide), fun pc H6 e6 qc => ?_⟩
      exact bld_step stW4 hG b2 (eT.trans (e4.trans (e5.trans e6))) (by rw [List.getElem?_map, hz]; rfl) (by omega) (w4_of qc)
    intro H2 b2
    obtain ⟨e2, gs, kG, pG⟩ := bld_end (by rw [List.length_map]; exact xl) b2
    have E2 := e1.trans e2
    have kZ2 := e2 _ _ kZ
    -- the size of the aim
    obtain ⟨Da, Da0, hDa, hda⟩ := wb_den wba
    refine ⟨_, rfl, .ref ty, aim, Da, rfl, hy.ex E2, hda, Da0, hDa, by omega, fun H3 e3 => ?_⟩
    have E3 := E2.trans e3
    -- the walk
    have fa := wb_f wba
    obtain ⟨hD1, hD2, hD3⟩ := hD H3
    refine ⟨_, rfl, _, rfl, _, _, rfl, rfl, _, rfl, aD, _, rfl, hD1, fun pc H4 e4 qc => ?_⟩
    refine ⟨pc, _, rfl, .inr qc, fun L hL => ?_⟩
    have e5 : Ex H4 (upd H4 L (.lst (cutV [.ref t1, .ref t2] (some ((ysV.length : Int) - 1)) none))) := Ex.new hL
    have k5 : upd H4 L (.lst (cutV [.ref t1, .ref t2] (some ((ysV.length : Int) - 1)) none)) L = some (.lst ([V.ref t1, .ref t2].drop (aim.length - 1))) := by
      rw [upd_same, yl, cutD n1 n3]
    generalize upd H4 L (.lst (cutV [.ref t1, .ref t2] (some ((ysV.length : Int) - 1)) none)) = H5 at e5 k5 ⊢
    have E5 := E3.trans (e4.trans e5)
    have kG5 := (e3.trans (e4.trans e5)) _ _ kG
    have gl := Paired.length pG
    rw [List.length_map] at gl
    refine ⟨G, L, _, _, rfl, rfl, kG5, k5, Nat.le_of_lt (sz_lt (by simp; omega)), fun W H6 nW e6 kW => ?_⟩
    have E6 := E5.trans e6
    have hW4 : W4s K H6 (.ref W) (wsOf aim.length asked) := by
      refine ⟨W, _, rfl, sq_of kW, ?_⟩
      refine pair_app (pmono (fun _ _ z => W4V.ex (e3.trans (e4.trans (e5.trans e6))) z) pG) ?_
      have dd : Paired (W4V K H6) [.ref t1, .ref t2] dumW := .cons ⟨t1, rfl, (hD H6).2.1⟩ (.cons ⟨t2, rfl, (hD H6).2.2⟩ .nil)
      have dp : ∀ {n : Nat} {xs : List V} {ys : List W4}, Paired (W4V K H6) xs ys → Paired (W4V K H6) (xs.drop n) (ys.drop n) := fun {n} => by
        induction n with
        | zero => exact fun p => p
        | succ n ih => exact fun p => match p with
          | .nil => .nil
          | .cons _ p => ih p
      exact dp dd
    refine ⟨_, rfl, _, rfl, _, rfl, .ref ty, aim, szS aim, (by rw [← yl]; rfl), hy.ex E6, fa.each, n1, n3, fa.sz, fun va H7 e7 hA => ?_⟩
    have E7 := E6.trans e7
    refine ⟨_, rfl, _, rfl, a, xs, rfl, .inl (ex_l E7 qa), .ref ty, aim, asked.length, (by rw [← xl]; rfl), hy.ex E7, n1, n3, by omega, fun St H8 e8 kS => ?_⟩
    have E8 := E7.trans e8
    have kZ8 := (e3.trans (e4.trans (e5.trans (e6.trans (e7.trans e8))))) _ _ kZ2
    have szl : (asked.map fun w => V.int ((szW w : Nat) : Int)).length = asked.length := List.length_map ..
    have b9 : (botOf (wsOf aim.length asked) (endB (wsOf aim.length asked) (aimI aim) (start3 aim asked.length))).natAbs < 2 ^ 6403 := Nat.lt_of_lt_of_le tz.bot (Nat.pow_le_pow_right (by decide) (by decide))
    have sa1 : ((szS aim : Nat) : Int).natAbs < 2 ^ 1600 := by rw [Int.natAbs_natCast]; exact fa.sz
    have sa0 := szS_pos aim
    refine ⟨.ref W, va, St, wsOf aim.length asked, aimI aim, start3 aim asked.length, 1600, rfl, hW4.ex (e7.trans e8), hA.ex e8, sq_of kS, abw, abi, by decide, by decide, by omega, g0, ?_, ?_⟩
    · intro hf t v F H9 e9 qt hS qF
      refine ⟨t, [v, .int (botOf (wsOf aim.length asked) (endB (wsOf aim.length asked) (aimI aim) (start3 aim asked.length))), .ref F], rfl, qt, rfl, v, _, rfl, .int (botOf (wsOf aim.length asked) (endB (wsOf aim.length asked) (aimI aim) (start3 aim asked.length))), _, rfl, .ref F, [], rfl, rfl, ?_⟩
      obtain ⟨ts, rfl, qs⟩ := id hS
      simp only [hf] at q1
      generalize endB (wsOf aim.length asked) (aimI aim) (start3 aim asked.length) = hh at gE' tz hf qt hS qs qF q1 b9 ⊢
      have pos := gE'.pos
      have tl : (topsM (wsOf aim.length asked) (aimI aim) hh).length = (wsOf aim.length asked).length := topsM_len
      have bB : (botOf (wsOf aim.length asked) hh * ((szS aim : Nat) : Int)).natAbs < 2 ^ 6403 := mulB tz.bot sa1 (by decide)
      refine ⟨_, rfl, rfl, _, rfl, iteF ?_⟩
      refine ⟨_, rfl, _, rfl, false, false, F, Z, (topsM (wsOf aim.length asked) (aimI aim) hh).map V.int, (asked.map fun w => V.int ((szW w : Nat) : Int)), rfl, qF, sq_of (e9 _ _ kZ8), fun M hM => ?_⟩
      refine lc_zipM (K := K) (c := false) (c' := false) (a := F) (b := Z) (xs := (topsM (wsOf aim.length asked) (aimI aim) hh).map V.int) (ys := asked.map fun w => V.int ((szW w : Nat) : Int)) (by rw [List.length_map, List.length_map, tl]; omega) (Bld (FrV K) H9 M (mulsOf (topsM (wsOf aim.length asked) (aimI aim) hh) asked (botOf (wsOf aim.length asked) hh * ((szS aim : Nat) : Int)))) (bld0 hM) (fun k H' b => ⟨ex_l b.1 qF, sq_of (b.1 _ _ (e9 _ _ kZ8))⟩) ?_ ?_
      · rintro i u1 u2 T H10 h1 h2 b10 hT
        obtain ⟨top, ht, rfl⟩ := map_int h1
        obtain ⟨z, hz, rfl⟩ := map_szw h2
        have il := (List.getElem?_eq_some_iff.mp hz).1
        have eT := Ex.new (o := .tup [.int top, .int ((szW z : Nat) : Int)]) hT
        refine ⟨T, [.int top, .int ((szW z : Nat) : Int)], rfl, st_of upd_same, rfl, .int top, [.int ((szW z : Nat) : Int)], rfl, .int ((szW z : Nat) : Int), [], rfl, rfl, rfl, ?_⟩
        have bt := tz.load top (List.mem_of_getElem? ht)
        have bz : ((szW z : Nat) : Int).natAbs < 2 ^ 1600 := by rw [Int.natAbs_natCast]; exact (wb_f (wb z (List.mem_of_getElem? hz))).sz
        refine ⟨_, rfl, _, rfl, _, _, rfl, rfl, mulOk bt bz, _, rfl, _, rfl, _, _, rfl, rfl, mulOk tz.bot sa1, _, _, 6403, rfl, Int.mul_pos pos (by omega), bB, by decide, .inl (by decide), fun v3 H11 e11 hv3 => ?_⟩
        exact bld_step stF hM b10 (eT.trans e11) (muls_get ht hz) (by omega) hv3
      intro H10 b10
      have b10 : Bld (FrV K) H9 M (mulsOf (topsM (wsOf aim.length asked) (aimI aim) hh) asked (botOf (wsOf aim.length asked) hh * ((szS aim : Nat) : Int))) asked.length H10 := by rwa [szl] at b10
      obtain ⟨e10, ms, kM, pM⟩ := bld_end (by rw [muls_len (by omega)]) b10
      refine ⟨M, ms, rfl, .inl ⟨sq_of kM, fun tm htm => ?_⟩⟩
      have e11 : Ex H10 (upd H10 tm (.tup ms)) := Ex.new htm
      have rowM : RowV K (upd H10 tm (.tup ms)) (.ref tm) (mulsOf (topsM (wsOf aim.length asked) (aimI aim) hh) asked (botOf (wsOf aim.length asked) hh * ((szS aim : Nat) : Int))) := ⟨tm, ms, rfl, st_of upd_same, FrL.ex e11 pM⟩
      generalize upd H10 tm (.tup ms) = H11 at e11 rowM ⊢
      have E11 := e10.trans e11
      refine ⟨_, rfl, _, rfl, _, rfl, ts, _, rfl, ex_t E11 qs, fun pc2 H12 e12 qc2 => ?_⟩
      rw [yl, cut3 n1 n3] at qc2
      refine ⟨pc2, rfl, ⟨_, qc2⟩, fun X hX => ?_⟩
      refine lc_tup (K := K) (a := pc2) (xs := [V.int (spotOf (wsOf aim.length asked) hh).1, .int (spotOf (wsOf aim.length asked) hh).2.1, .int (spotOf (wsOf aim.length asked) hh).2.2].take aim.length) (Bld (FrV K) H12 X (xOf aim.length (wsOf aim.length asked) hh)) (bld0 hX) (fun k H' _ b => ex_t b.1 qc2) ?_ ?_
      · rintro i u H13 hu b13
        have il := (List.getElem?_eq_some_iff.mp hu).1
        obtain ⟨top, rfl, hx⟩ := over_at (D := botOf (wsOf aim.length asked) hh) hu
        refine ⟨rfl, ?_⟩
        refine ⟨_, rfl, _, rfl, _, _, 6403, rfl, pos, b9, by decide, .inl (by decide), fun v3 H14 e14 hv3 => ?_⟩
        exact bld_step stF hX b13 e14 hx (by rw [List.length_take] at il; simp at il; omega) hv3
      intro H13 b13
      obtain ⟨e13, us, kX, pX⟩ := bld_end (by rw [show (xOf aim.length (wsOf aim.length asked) hh).length = aim.length from overN_len n3, List.length_take]; simp; omega) b13
      refine ⟨X, us, rfl, .inl ⟨sq_of kX, fun tx htx => ?_⟩⟩
      have e14 : Ex H13 (upd H13 tx (.tup us)) := Ex.new htx
      have rowX : RowV K (upd H13 tx (.tup us)) (.ref tx) (xOf aim.length (wsOf aim.length asked) hh) := ⟨tx, us, rfl, st_of upd_same, FrL.ex e14 pX⟩
      generalize upd H13 tx (.tup us) = H14 at e14 rowX ⊢
      refine ⟨_, rfl, fun p dx np nd nn => ⟨p, dx, .ref tx, .ref tm, rfl, upd_same, rfl, ?_⟩⟩
      have e15 := ex_make (o1 := .own p) (o2 := .ins CM dx []) (o3 := .ins CM dx [(("spot" : Str), .ref tx)]) (o4 := .ins CM dx [(("spot" : Str), .ref tx), (("multiples" : Str), .ref tm)]) np nd
      have EE := E8.trans (e9.trans (E11.trans (e12.trans (e13.trans (e14.trans e15)))))
      exact q1 _ _ rfl _ _ EE ⟨p, dx, _, _, rfl, upd_same, rowX.ex e15, rowM.ex (e12.trans (e13.trans (e14.trans e15)))⟩
    · intro e hf t F H9 e9 qt qF
      refine ⟨t, [.non, .int (botOf (wsOf aim.length asked) (endB (wsOf aim.length asked) (aimI aim) (start3 aim asked.length))), .ref F], rfl, qt, rfl, .non, _, rfl, .int (botOf (wsOf aim.length asked) (endB (wsOf aim.length asked) (aimI aim) (start3 aim asked.length))), _, rfl, .ref F, [], rfl, rfl, ?_⟩
      simp only [hf] at q2
      generalize endB (wsOf aim.length asked) (aimI aim) (start3 aim asked.length) = hh at gE' tz hf qt qF q2 b9 ⊢
      have pos := gE'.pos
      have tl : (topsE (wsOf aim.length asked) hh e).length = (wsOf aim.length asked).length := topsE_len
      refine ⟨_, rfl, rfl, _, rfl, iteT ?_⟩
      refine ⟨_, rfl, _, rfl, false, false, F, Z, (topsE (wsOf aim.length asked) hh e).map V.int, (asked.map fun w => V.int ((szW w : Nat) : Int)), rfl, qF, sq_of (e9 _ _ kZ8), fun M hM => ?_⟩
      refine lc_zipM (K := K) (c := false) (c' := false) (a := F) (b := Z) (xs := (topsE (wsOf aim.length asked) hh e).map V.int) (ys := asked.map fun w => V.int ((szW w : Nat) : Int)) (by rw [List.length_map, List.length_map, tl]; omega) (Bld (FrV K) H9 M (mulsOf (topsE (wsOf aim.length asked) hh e) asked (botOf (wsOf aim.length asked) hh))) (bld0 hM) (fun k H' b => ⟨ex_l b.1 qF, sq_of (b.1 _ _ (e9 _ _ kZ8))⟩) ?_ ?_
      · rintro i u1 u2 T H10 h1 h2 b10 hT
        obtain ⟨top, ht, rfl⟩ := map_int h1
        obtain ⟨z, hz, rfl⟩ := map_szw h2
        have il := (List.getElem?_eq_some_iff.mp hz).1
        have eT := Ex.new (o := .tup [.int top, .int ((szW z : Nat) : Int)]) hT
        refine ⟨T, [.int top, .int ((szW z : Nat) : Int)], rfl, st_of upd_same, rfl, .int top, [.int ((szW z : Nat) : Int)], rfl, .int ((szW z : Nat) : Int), [], rfl, rfl, rfl, ?_⟩
        have bt := tz.share e (first_some hf).1 top (List.mem_of_getElem? ht)
        have bz : ((szW z : Nat) : Int).natAbs < 2 ^ 1600 := by rw [Int.natAbs_natCast]; exact (wb_f (wb z (List.mem_of_getElem? hz))).sz
        refine ⟨_, rfl, _, rfl, _, _, rfl, rfl, mulOk bt bz, _, rfl, _, _, 6403, rfl, pos, b9, by decide, .inl (by decide), fun v3 H11 e11 hv3 => ?_⟩
        exact bld_step stF hM b10 (eT.trans e11) (muls_get ht hz) (by omega) hv3
      intro H10 b10
      have b10 : Bld (FrV K) H9 M (mulsOf (topsE (wsOf aim.length asked) hh e) asked (botOf (wsOf aim.length asked) hh)) asked.length H10 := by rwa [szl] at b10
      obtain ⟨e10, ms, kM, pM⟩ := bld_end (by rw [muls_len (by omega)]) b10
      refine ⟨M, ms, rfl, .inl ⟨sq_of kM, fun tm htm => ?_⟩⟩
      have e11 : Ex H10 (upd H10 tm (.tup ms)) := Ex.new htm
      have rowM : RowV K (upd H10 tm (.tup ms)) (.ref tm) (mulsOf (topsE (wsOf aim.length asked) hh e) asked (botOf (wsOf aim.length asked) hh)) := ⟨tm, ms, rfl, st_of upd_same, FrL.ex e11 pM⟩
      generalize upd H10 tm (.tup ms) = H11 at e11 rowM ⊢
      refine fun p dx np nd nn => ⟨p, dx, .ref tm, rfl, upd_same, rfl, ?_⟩
      have e15 := ex_make1 (o1 := .own p) (o2 := .ins CE dx []) (o3 := .ins CE dx [(("multiples" : Str), .ref tm)]) np nd
      have EE := E8.trans (e9.trans (e10.trans (e11.trans e15)))
      exact q2 _ rfl _ _ EE ⟨p, dx, _, rfl, upd_same, rowM.ex e15⟩
end

end K20
end
section
set_option maxRecDepth 100000
set_option maxHeartbeats 400000
namespace K20
open PySem Evl Nc PyProof.Rows
open L2 hiding spCell
theorem tyX_sq {K : PySem.W.Frag} {c : Bool} {H : Hp} {a : Addr} {xs : List V} (q : SqX K c H a xs) : ∃ cl : Value, TyX K H (.ref a) cl ∧ PySem.W.kitAny K cl [.type "list", .type "tuple"] = some true := by
  cases c
  · exact ⟨_, tyL q, kitLT⟩
  · exact ⟨_, tyT q, kitTT⟩
theorem lenX {K : PySem.W.Frag} {c : Bool} {H : Hp} {a : Addr} {xs : List V} (q : SqX K c H a xs) : SqL K H a xs ∨ SqT K H a xs := by
  cases c
  · exact .inl q
  · exact .inr q
section
variable {P : Program} {w : World} {K : PySem.W.Frag} {mg : Str → Option Value} {base : Heap}
theorem ok__check_box_and_wishes (D : Df K mg "_check_box_and_wishes" s__check_box_and_wishes ["box", "wishes"]) {tMW : Tok} (mMW : mg "MOST_WISHES" = some (.int 16 tMW)) (GC : Ok P w K mg base 6 "check_box" ["thing"] (spCheckBox K)) (GE : Ok P w K mg base 5 "_check_each" ["wishes", "many"] (spCkEach K)) (misi : mg "isinstance" = none) (mtuple : mg "tuple" = none) (mlist : mg "list" = none) (mlen : mg "len" = none) : Ok P w K mg base 7 "_check_box_and_wishes" ["box", "wishes"] (spCkBW K) := by
  refine D.ok fun f fd F => F.ok sc__check_box_and_wishes (fun vs H Q E h => ?_) (fun cdv A outer s H vs Q E hr h => ?_)
  · obtain ⟨x, y, z, sp, ws, aim, rfl, _⟩ := h
    rfl
  · obtain ⟨x, y, z, sp, ws, aim, rfl, ⟨hb, hw, hz, ok, few⟩, q⟩ := h
    have hr5 : Room 5 _ := hr.mono (by decide)
    refine ⟨_, (pss_cons (ps_expr (cl GC hr (pa_cons (pv 0) pa_nil)))
      (pss_cons (ps_if (PW.pt (pw_or (pt_not (pt_val (pe_callB call_isiT (by rfl) misi (by decide +kernel) (pa_cons (pv 1) (pa_cons (pe_tup (pa_cons (pe_bltn (v := .ty "list") (by rfl) mlist (by decide +kernel) rfl) (pa_cons (pe_bltn (v := .ty "tuple") (by rfl) mtuple (by decide +kernel) rfl) pa_nil))) pa_nil))))) (pw_or1 (pt_cmpR op_gt (pe_callB call_len_seq (by rfl) mlen PySem.boot_len (pa_cons (pv 1) pa_nil)) (pe_glob (v := .int 16) (by rfl) mMW ⟨_, rfl⟩) (nomark _))))) (pss_one ps_never) pss_nil)
      (pss_one (ps_expr (cl GE hr5 (pa_cons (pv 1) (pa_cons (pe_callB call_len_seq (by rfl) mlen PySem.boot_len (pa_cons (pv 0) pa_nil)) pa_nil))))))), ?_⟩
    refine ⟨_, rfl, x, 6, sp, rfl, hb, fun H1 e1 => ?_⟩
    obtain ⟨c, a, xs, rfl, qa, pa⟩ := id (hw.ex e1)
    have xl := Paired.length pa
    refine ⟨_, rfl, (by show 2 ≤ sizeLine; decide), fun p0 hp0 => ?_⟩
    have e2 : Ex H1 (upd H1 p0 (.tup [.ty "list", .ty "tuple"])) := Ex.new hp0
    obtain ⟨cl, ty, kit⟩ := tyX_sq (sqX_ex e2 qa)
    refine ⟨_, p0, _, _, _, _, rfl, upd_same, .cons (.ty _) (.cons (.ty _) .nil), ty, kit, _, rfl, iteF ?_⟩
    generalize upd H1 p0 (.tup [.ty "list", .ty "tuple"]) = H2 at e2 ⊢
    have E2 := e1.trans e2
    refine ⟨_, rfl, a, xs, rfl, lenX (sqX_ex e2 qa), _, _, rfl, rfl, _, rfl, ite_f (decide_eq_false (by omega)) ?_⟩
    obtain ⟨⟨ab, xb, rfl, qb, pb⟩, _⟩ := hb.ex E2
    have bl := Paired.length pb
    have qb : SqT K H2 ab xb := qb
    have n3 := ok.n3
    have sl := ok.sl
    exact ⟨_, rfl, _, rfl, ab, xb, rfl, .inr qb, .ref a, aim.length, ws, (by rw [bl, sl]; rfl), ⟨c, a, xs, rfl, sqX_ex e2 qa, pmono (fun _ _ zz => SumV.ex e2 zz) pa⟩, ok.wl, n3, fun H3 e3 => q H3 (E2.trans e3)⟩
theorem ok__check_aim (D : Df K mg "_check_aim" s__check_aim ["box", "wishes", "aim"]) (GB : Ok P w K mg base 7 "_check_box_and_wishes" ["box", "wishes"] (spCkBW K)) (GR : Ok P w K mg base 3 "is_row" ["thing", "many"] (spIsRw K)) (mlen : mg "len" = none) : Ok P w K mg base 8 "_check_aim" ["box", "wishes", "aim"] (spCkAim K) := by
  refine D.ok fun f fd F => F.ok sc__check_aim (fun vs H Q E h => ?_) (fun cdv A outer s H vs Q E hr h => ?_)
  · obtain ⟨x, y, z, sp, ws, aim, rfl, _⟩ := h
    rfl
  · obtain ⟨x, y, z, sp, ws, aim, rfl, g, q⟩ := h
    have hr3 : Room 3 _ := hr.mono (by decide)
    refine ⟨_, (pss_cons (ps_expr (cl GB hr (pa_cons (pv 0) (pa_cons (pv 1) pa_nil))))
      (pss_one (ps_if (pt_not (pt_val (cl GR hr3 (pa_cons (pv 2) (pa_cons (pe_callB call_len_seq (by rfl) mlen PySem.boot_len (pa_cons (pv 0) pa_nil)) pa_nil))))) (pss_one ps_never) pss_nil))), ?_⟩
    refine ⟨_, rfl, _, rfl, x, y, z, sp, ws, aim, rfl, g, fun H1 e1 => ?_⟩
    obtain ⟨hb, hw, hz, ok, few⟩ := g.ex e1
    obtain ⟨⟨ab, xb, rfl, qb, pb⟩, _⟩ := hb
    have bl := Paired.length pb
    have qb : SqT K H1 ab xb := qb
    have n3 := ok.n3
    have sl := ok.sl
    refine ⟨_, rfl, _, rfl, ab, xb, rfl, .inr qb, z, _, _, rfl, hz.rw (by omega), fun H2 e2 => ⟨_, rfl, ?_⟩⟩
    rw [show ((xb.length : Nat) : Int) = ((aim.length : Nat) : Int) by rw [bl, sl], rwB_rep]
    exact iteF (q H2 (e1.trans e2))
theorem ok_settle (D : Df K mg "settle" s_settle ["box", "wishes", "aim"]) {CM CE : Addr} (GA : Ok P w K mg base 8 "_check_aim" ["box", "wishes", "aim"] (spCkAim K)) (GBW : Ok P w K mg base 7 "box_wishes" ["box"] (spBoxW K)) (GS : Ok P w K mg base 4 "_settled" ["asked", "aim"] (spSettledR K CM CE)) (mlist : mg "list" = none) : Ok P w K mg base 9 "settle" ["box", "wishes", "aim"] (spSettle K CM CE) := by
  refine D.ok fun f fd F => F.ok sc_settle (fun vs H Q E h => ?_) (fun cdv A outer s H vs Q E hr h => ?_)
  · obtain ⟨x, y, z, sp, ws, aim, rfl, _⟩ := h
    rfl
  · obtain ⟨x, y, z, sp, ws, aim, rfl, g, q1, q2⟩ := h
    have hr7 : Room 7 _ := hr.mono (by decide)
    have hr4 : Room 4 _ := hr.mono (by decide)
    refine ⟨_, (pss_cons (ps_expr (cl GA hr (pa_cons (pv 0) (pa_cons (pv 1) (pa_cons (pv 2) pa_nil)))))
      (pss_one (ps_ret (cl GS hr4 (pa_cons (pe_op op_catE (cl GBW hr7 (pa_cons (pv 0) pa_nil)) (pe_callTy (T := "list") (call_lstK K) (by rfl) mlist (by decide +kernel) (pa_cons (pv 1) pa_nil))) (pa_cons (pv 2) pa_nil)))))), ?_⟩
    refine ⟨_, rfl, _, rfl, _, rfl, x, y, z, sp, ws, aim, rfl, g, fun H1 e1 => ?_⟩
    have g1 := g.ex e1
    refine ⟨_, rfl, x, sp, rfl, g1.box, fun F1 xs1 H2 hF1 e2 k1 p1 => ?_⟩
    have g2 := g1.ex e2
    obtain ⟨c, aw, xw, rfl, qw, pw_⟩ := id g2.wish
    refine ⟨_, rfl, aw, xw, rfl, lenX qw, fun l3 h3 => ?_⟩
    have e3 : Ex H2 (upd H2 l3 (.lst xw)) := Ex.new h3
    have k3 : upd H2 l3 (.lst xw) l3 = some (.lst xw) := upd_same
    generalize upd H2 l3 (.lst xw) = H3 at e3 k3 ⊢
    have bl := Paired.length p1
    have wl := Paired.length pw_
    have few := g.few
    have n3 := g.ok.n3
    have sl := g.ok.sl
    rw [boxW_len] at bl
    refine ⟨F1, l3, xs1, xw, rfl, rfl, e3 _ _ k1, k3, Nat.le_of_lt (sz_lt (by omega)), fun pc H5 npc e5 kC => ?_⟩
    have E5 := e1.trans (e2.trans (e3.trans e5))
    have g5 := g.ex E5
    have pC : Paired (SumV K H5) (xs1 ++ xw) (boxW sp ++ ws) := pair_app (pmono (fun _ _ zz => SumV.ex (e3.trans e5) zz) p1) (pmono (fun _ _ zz => SumV.ex (e3.trans e5) zz) pw_)
    refine ⟨_, rfl, pc, z, _, sp, ws, aim, rfl, sq_of kC, pC, g5.goal, g5.ok, fun u ms hs v H6 e6 hv => q1 u ms hs v H6 (E5.trans e6) hv, fun ms hs v H6 e6 hv => q2 ms hs v H6 (E5.trans e6) hv⟩
end

end K20
end
section
set_option maxRecDepth 100000
set_option maxHeartbeats 400000
namespace K20
open PySem Evl Nc PyProof.Rows
open L2 hiding spCell
def spHas (v : Bool) : Sp := fun vs H Q _ => ∃ x : V, vs = [x] ∧ Q (.bl v) H
section
variable {P : Program} {w : World} {K : PySem.W.Frag} {mg : Str → Option Value} {base : Heap}
theorem ok_Most_has_spot {C : Addr} (D : Md K C "has_spot" "Most.has_spot" s_Most_has_spot ["self"]) : MOk P w K mg base 1 C "has_spot" ["self"] (spHas true) := by
  refine D.ok fun f fd F => F.ok sc_Most_has_spot (fun vs H Q E h => ?_) (fun cdv A outer s H vs Q E hr h => ?_)
  · obtain ⟨x, rfl, _⟩ := h
    rfl
  · obtain ⟨x, rfl, q⟩ := h
    exact ⟨_, pss_one (ps_ret pe_bl), q⟩
theorem ok_Empty_has_spot {C : Addr} (D : Md K C "has_spot" "Empty.has_spot" s_Empty_has_spot ["self"]) : MOk P w K mg base 1 C "has_spot" ["self"] (spHas false) := by
  refine D.ok fun f fd F => F.ok sc_Empty_has_spot (fun vs H Q E h => ?_) (fun cdv A outer s H vs Q E hr h => ?_)
  · obtain ⟨x, rfl, _⟩ := h
    rfl
  · obtain ⟨x, rfl, q⟩ := h
    exact ⟨_, pss_one (ps_ret pe_bl), q⟩
end

end K20
end
section
set_option maxRecDepth 100000
set_option maxHeartbeats 400000
namespace K20
open PySem Evl Nc PyProof.Rows
open L2 hiding spCell
section
variable {P : Program} {w : World} {K : PySem.W.Frag} {mg : Str → Option Value} {base : Heap}
def spWish19 (K : PySem.W.Frag) : Sp := fun vs H Q _ => ∃ (s : Addr) (n : Nat), vs = [.ref s, .int (n : Int)] ∧ St3 s H ∧ n ≤ 3 ∧ ∀ v z H', Dk s H H' → St3 s H' → SumV K H' v z → SmW n z → Q v H'
theorem ok__law_wish (D : Df K mg "_law_wish" s__law_wish ["_law_stream_here", "_law_many"]) (GN : Ok P w K mg base 3 "_law_number" ["_law_stream_here"] (spNum18 K)) (GR : Ok P w K mg base 4 "_law_row" ["_law_stream_here", "_law_many"] (spRow18 K)) : Ok P w K mg base 5 "_law_wish" ["_law_stream_here", "_law_many"] (spWish19 K) := by
  refine D.ok fun f fd F => F.ok sc__law_wish (fun vs H Q E h => ?_) (fun cdv A outer s H vs Q E hr h => ?_)
  · obtain ⟨s, n, rfl, _⟩ := h
    rfl
  · obtain ⟨s, n, rfl, hS, n3, q⟩ := h
    have hr3 : Room 3 _ := hr.mono (by decide)
    refine ⟨_, (pss_one (ps_ret (pe_tupE (pa_cons (cl GR hr (pa_cons (pv 0) (pa_cons (pv 1) pa_nil))) (pa_cons (cl GN hr3 (pa_cons (pv 0) pa_nil)) pa_nil))))), ?_⟩
    refine ⟨_, rfl, _, rfl, s, n, rfl, hS, n3, fun v L H1 r1 t1 hv hl hb => ⟨_, rfl, s, rfl, t1, fun u r H2 r2 t2 hu hbu => ⟨(by show 2 ≤ sizeLine; decide), fun p H3 np e3 k3 => ?_⟩⟩⟩
    exact q _ (L, r) H3 ((r1.trans r2).then e3) (t2.ex e3) ⟨p, v, u, rfl, st_of k3, (hv.dk t1.lst r2).ex e3, hu.ex e3⟩ ⟨hl, hb, hbu.mono (by decide) ⟨6, rfl⟩⟩
/-- a turn's state: a row and a number in hand -/
def StW (K : PySem.W.Frag) (s F : Addr) (x : V) (n : Nat) (H0 : Hp) (d : Int) (ws : List Sum2) (σ : L2.St) (H' : Hp) : Prop := ∃ (o5 o9 o10 o11 : Option V) (rv nv : V) (way : Int) (L : List Rat) (r : Rat) (xs : List V), σ = [some (.ref s), some x, some (.int (n : Int)), some (.ref F), some (.int d), o5, some rv, some nv, some (.int way), o9, o10, o11] ∧ Dk s H0 H' ∧ St3 s H' ∧ H' F = some (.lst xs) ∧ Paired (SumV K H') xs ws ∧ RowV K H' rv L ∧ FrV K H' nv r ∧ L.length = n ∧ BdL 4 6 L ∧ Bd 300 36 r
def spWishes19 (K : PySem.W.Frag) : Sp := fun vs H Q _ => ∃ (s : Addr) (x : V) (sp : List Span), vs = [.ref s, x] ∧ St3 s H ∧ BoxV K 6 H x sp ∧ ∀ F xs ws H', F ≠ s → H F = none → Dk s H H' → St3 s H' → H' F = some (.lst xs) → Paired (SumV K H') xs ws → ws.length ≤ 16 → (∀ z ∈ ws, SmW sp.length z) → Q (.ref F) H'
theorem pickW {K : PySem.W.Frag} {H : Hp} {xs : List V} {ws : List Sum2} {d : Int} (p : Paired (SumV K H) xs ws) (d0 : 0 ≤ d) (d1 : d < xs.length) : ∃ v z t a b, atI xs d = some v ∧ z ∈ ws ∧ v = .ref t ∧ SqT K H t [a, b] ∧ RowV K H a z.1 ∧ FrV K H b z.2 := by
  obtain ⟨i, rfl⟩ := Int.eq_ofNat_of_zero_le d0
  have hi : i < xs.length := by omega
  have hx : xs[i]? = some xs[i] := List.getElem?_eq_getElem hi
  obtain ⟨z, hz, t, a, b, e, qt, ra, fb⟩ := pget p hx
  exact ⟨xs[i], z, t, a, b, atI_nat hx, List.mem_of_getElem? hz, e, qt, ra, fb⟩
theorem neN {α : Type} {xs : List α} (h : (!xs.isEmpty) = true) : 0 < xs.length := by
  cases xs with
  | nil => cases h
  | cons x xs => simp
theorem ok__law_wishes (D : Df K mg "_law_wishes" s__law_wishes ["_law_stream_here", "_law_box_here"]) (GT : Ok P w K mg base 1 "_law_take" ["_law_stream_here", "_law_many"] spTake3) (GWi : Ok P w K mg base 5 "_law_wish" ["_law_stream_here", "_law_many"] (spWish19 K)) (GWd : Ok P w K mg base 4 "_law_weighed" ["_law_row_here", "_law_spot"] (spWeighP K)) (mlen : mg "len" = none) (mrange : mg "range" = none) (mtuple : mg "tuple" = none) : Ok P w K mg base 6 "_law_wishes" ["_law_stream_here", "_law_box_here"] (spWishes19 K) := by
  refine D.ok fun f fd F => F.ok sc__law_wishes (fun vs H Q E h => ?_) (fun cdv A outer s H vs Q E hr h => ?_)
  · obtain ⟨s, x, sp, rfl, _⟩ := h
    rfl
  · obtain ⟨s, x, sp, rfl, hS, hb, q⟩ := h
    have hr1 : Room 1 _ := hr.mono (by decide)
    have hr4 : Room 4 _ := hr.mono (by decide)
    have hr5 : Room 5 _ := hr
    refine ⟨_, (pss_cons (ps_set (i := 2) sc__law_wishes.nd rfl (.inl rfl) (pe_callB call_len_seq (by rfl) mlen PySem.boot_len (pa_cons (pv 1) pa_nil)))
      (pss_cons (ps_set (i := 3) sc__law_wishes.nd rfl (.inl rfl) (pe_lstE pa_nil))
      (pss_cons (ps_set (i := 4) sc__law_wishes.nd rfl (.inl rfl) (pe_ix ix_list (pe_lstE (pa_cons (cl GT hr1 (pa_cons (pv 0) (pa_cons pe_int pa_nil))) (pa_cons (cl GT hr1 (pa_cons (pv 0) (pa_cons pe_int pa_nil))) (pa_cons pe_int (pa_cons (pe_ix ix_list (pe_lstE (pa_cons pe_int (pa_cons pe_int pa_nil))) (cl GT hr1 (pa_cons (pv 0) (pa_cons pe_int pa_nil))) (fun _ _ => rfl)) pa_nil))))) (cl GT hr1 (pa_cons (pv 0) (pa_cons pe_int pa_nil))) (fun _ _ => rfl)))
      (pss_cons (ps_for PassesOwn.never rfl (pi_range1 (by rfl) mrange (pa_cons (pv 4) pa_nil)) (pg_name (i := 5) sc__law_wishes.nd rfl (.inl rfl)) (pss_cons (ps_asg (cl GWi hr5 (pa_cons (pv 0) (pa_cons (pv 2) pa_nil))) (pg_tup rfl (pgs_cons (pg_name (i := 6) sc__law_wishes.nd rfl (.inl rfl)) (pgs_cons (pg_name (i := 7) sc__law_wishes.nd rfl (.inl rfl)) pgs_nil))))
      (pss_cons (ps_set (i := 8) sc__law_wishes.nd rfl (.inl rfl) (cl GT hr1 (pa_cons (pv 0) (pa_cons pe_int pa_nil))))
      (pss_cut (ps_if (PW.pt (pw_and (pt_cmpR op_eq (pv 8) pe_int (nomark _)) (pw_and1 (pt_cmpR (op_neNil hr.units) (pv 3) (pe_lstE pa_nil) (nomark _))))) (pss_cons (ps_asg (pe_ix ix_list (pv 3) (cl GT hr1 (pa_cons (pv 0) (pa_cons (pe_callB call_len_seq (by rfl) mlen PySem.boot_len (pa_cons (pv 3) pa_nil)) pa_nil))) (fun _ _ => rfl)) (pg_tup rfl (pgs_cons (pg_name (i := 6) sc__law_wishes.nd rfl (.inl rfl)) (pgs_cons (pg_name (i := 7) sc__law_wishes.nd rfl (.inl rfl)) pgs_nil))))
      (pss_cons (ps_set (i := 6) sc__law_wishes.nd rfl (.inl rfl) (pe_callTy call_tuple_of (by rfl) mtuple (by decide +kernel) (pa_cons (pe_lc (own := [("_law_top", 9), ("_law_bottom", 10)]) (g := gTup K 2 (gCons (gName 9) (gCons (gName 10) gNil))) (tt := tYes) rfl sc__law_wishes.nd (pi_tup (pv 6)) (blkOk_by (N := ["_law_stream_here", "_law_box_here", "_law_many", "_law_found", "_law_size", "_law_k", "_law_row_here", "_law_number_here", "_law_way", "_law_top", "_law_bottom", "_law_pair"]) (sc := defScope s__law_wishes) (by decide +kernel)) (fun _ _ _ _ _ => (pg_tup rfl (pgs_cons (pg_name (i := 9) sc__law_wishes.nd rfl (.inl rfl)) (pgs_cons (pg_name (i := 10) sc__law_wishes.nd rfl (.inl rfl)) pgs_nil)))) (fun _ _ _ _ _ => pts_nil) (fun _ _ _ _ _ => pe_tupE (pa_cons (pe_op op_sub pe_int (pv 9)) (pa_cons (pv 10) pa_nil)))) pa_nil)))
      (pss_one (ps_set (i := 7) sc__law_wishes.nd rfl (.inl rfl) (pe_tupE (pa_cons (pe_op op_sub pe_int (pe_ix ix_tup (pv 7) pe_int (fun _ _ => rfl))) (pa_cons (pe_ix ix_tup (pv 7) pe_int (fun _ _ => rfl)) pa_nil))))))) pss_nil)
      (pss_cut (ps_if (PW.pt (pw_and (pt_cmpR op_eq (pv 8) pe_int (nomark _)) (pw_and1 (pt_cmpR (op_neNil hr.units) (pv 3) (pe_lstE pa_nil) (nomark _))))) (pss_one (ps_asg (pe_ix ix_list (pv 3) (cl GT hr1 (pa_cons (pv 0) (pa_cons (pe_callB call_len_seq (by rfl) mlen PySem.boot_len (pa_cons (pv 3) pa_nil)) pa_nil))) (fun _ _ => rfl)) (pg_tup rfl (pgs_cons (pg_name (i := 6) sc__law_wishes.nd rfl (.inl rfl)) (pgs_cons (pg_name (i := 7) sc__law_wishes.nd rfl (.inl rfl)) pgs_nil))))) pss_nil)
      (pss_cut (ps_if (pt_cmpR op_gt (pv 8) pe_int (nomark _)) (pss_one (ps_set (i := 7) sc__law_wishes.nd rfl (.inl rfl) (cl GWd hr4 (pa_cons (pv 6) (pa_cons (pe_callTy call_tuple_of (by rfl) mtuple (by decide +kernel) (pa_cons (pe_lc (own := [("_law_pair", 11)]) (g := gName 11) (tt := tYes) rfl sc__law_wishes.nd (pi_tup (pv 1)) (blkOk_by (N := ["_law_stream_here", "_law_box_here", "_law_many", "_law_found", "_law_size", "_law_k", "_law_row_here", "_law_number_here", "_law_way", "_law_top", "_law_bottom", "_law_pair"]) (sc := defScope s__law_wishes) (by decide +kernel)) (fun _ _ _ _ _ => (pg_name (i := 11) sc__law_wishes.nd rfl (.inl rfl))) (fun _ _ _ _ _ => pts_nil) (fun _ _ _ _ _ => pe_ix (ix_tK K) (pv 11) (cl GT hr1 (pa_cons (pv 0) (pa_cons pe_int pa_nil))) (fun _ _ => rfl))) pa_nil)) pa_nil))))) pss_nil)
      (pss_one (ps_expr (pe_bm PySem.F.plainAttrs_list PySem.F.slot_list_append PySem.F.type_list_append mt_append (pv 3) (pa_cons (pe_tupE (pa_cons (pv 6) (pa_cons (pv 7) pa_nil))) pa_nil))))))))))
      (pss_one (ps_ret (pv 3))))))), ?_⟩
    obtain ⟨⟨a, xb, rfl, qa, pa⟩, l1, l3, hbb, _⟩ := hb
    have qa : SqT K H a xb := qa
    have xl := Paired.length pa
    refine ⟨_, rfl, a, xb, rfl, .inr qa, (by show 0 ≤ sizeLine; decide), fun F H1 nF e1 kF => ?_⟩
    have sF : s ≠ F := hS.lst.ne nF
    have t1 := hS.ex e1
    -- how many
    refine ⟨_, rfl, s, _, rfl, t1, by decide, by decide, fun d1 H2 a0 a1 r2 t2 => ⟨_, rfl, s, _, rfl, t2, by decide, by decide, fun d2 H3 b0 b1 r3 t3 => ⟨(by show 2 ≤ sizeLine; decide), fun p4 H4 n4 e4 k4 => ⟨_, rfl, s, _, rfl, t3.ex e4, by decide, by decide, fun d3 H5 c0 c1 r5 t5 => ?_⟩⟩⟩⟩
    have k45 := r5.keep p4 _ (Ne.symm (t3.lst.ne n4)) k4
    obtain ⟨v3, hv3, hm3⟩ := at_mem (xs := [V.int 16, .int 3]) (d := d3) c0 (by show d3 < 2; omega)
    have hz3 : ∃ z : Int, v3 = .int z ∧ 0 ≤ z ∧ z ≤ 16 := by
      simp only [List.mem_cons, List.not_mem_nil, or_false] at hm3
      rcases hm3 with rfl | rfl
      · exact ⟨_, rfl, by omega, by omega⟩
      · exact ⟨_, rfl, by omega, by omega⟩
    obtain ⟨z3, rfl, z30, z31⟩ := hz3
    refine ⟨p4, _, d3, _, rfl, rfl, sq_of k45, hv3, (by show 4 ≤ sizeLine; decide), fun p6 H6 n6 e6 k6 => ⟨_, rfl, s, _, rfl, t5.ex e6, by decide, by decide, fun d4 H7 f0 f1 r7 t7 => ?_⟩⟩
    have k67 := r7.keep p6 _ (Ne.symm (t5.lst.ne n6)) k6
    obtain ⟨v4, hv4, hm4⟩ := at_mem (xs := [V.int d1, .int d2, .int 2, .int z3]) (d := d4) f0 (by show d4 < 4; omega)
    have hz4 : ∃ z : Int, v4 = .int z ∧ 0 ≤ z ∧ z ≤ 16 := by
      simp only [List.mem_cons, List.not_mem_nil, or_false] at hm4
      rcases hm4 with rfl | rfl | rfl | rfl
      · exact ⟨_, rfl, by omega, by omega⟩
      · exact ⟨_, rfl, by omega, by omega⟩
      · exact ⟨_, rfl, by omega, by omega⟩
      · exact ⟨_, rfl, by omega, by omega⟩
    obtain ⟨d, rfl, d0, d16⟩ := hz4
    have R7 : Dk s H1 H7 := (((r2.trans r3).then e4).trans r5).then e6 |>.trans r7
    have R07 : Dk s H H7 := (Dk.ex hS.lst e1).trans R7
    have kF7 := R7.keep F _ (Ne.symm sF) kF
    refine ⟨p6, _, d4, _, rfl, rfl, sq_of k67, hv4, _, rfl, d, rfl, by omega, by omega, ?_⟩
    have boxAt : ∀ {H'}, Dk s H H' → SqT K H' a xb ∧ Paired (SpanV K H') xb sp := fun {H'} r => ⟨sqt_dk hS.lst r qa, pmono (fun _ _ zz => SpanV.dk hS.lst r zz) pa⟩
    refine for_range (lo := 0) (n := d.toNat) (fun i σ H' => ∃ (o5 o6 o7 o8 o9 o10 o11 : Option V) (xs : List V) (ws : List Sum2), σ = [some (.ref s), some (.ref a), some (.int (sp.length : Int)), some (.ref F), some (.int d), o5, o6, o7, o8, o9, o10, o11] ∧ Dk s H H' ∧ St3 s H' ∧ H' F = some (.lst xs) ∧ Paired (SumV K H') xs ws ∧ ws.length = i ∧ ∀ z ∈ ws, SmW sp.length z) ⟨none, none, none, none, none, none, none, [], [], by rw [← xl]; rfl, R07, t7, kF7, .nil, rfl, fun z hz => by cases hz⟩ ?_ ?_
    · rintro i σ H8 hi ⟨o5, o6, o7, o8, o9, o10, o11, xs, ws, rfl, R8, t8, kF8, pw_, wl, sm⟩
      have wxl := Paired.length pw_
      refine ⟨_, rfl, _, rfl, s, sp.length, rfl, t8, l3, fun v z H9 r9 t9 hv hz => ?_⟩
      obtain ⟨tv, rv, nv, rfl, qv, hrv, hnv⟩ := hv
      refine ⟨tv, [rv, nv], rfl, qv, rfl, rv, [nv], rfl, nv, [], rfl, rfl, ?_⟩
      refine ⟨_, rfl, s, _, rfl, t9, by decide, by decide, fun way H10 w0 w1 r10 t10 => ?_⟩
      have R10 := R8.trans (r9.trans r10)
      have kF10 := (r9.trans r10).keep F _ (Ne.symm sF) kF8
      have pw10 : Paired (SumV K H10) xs ws := pmono (fun _ _ zz => SumV.dk t8.lst (r9.trans r10) zz) pw_
      -- turned about
      refine ⟨StW K s F (.ref a) sp.length H d ws, ?_, ?_⟩
      · have stay : ∀ {H'}, Ex H10 H' → StW K s F (.ref a) sp.length H d ws [some (.ref s), some (.ref a), some (.int (sp.length : Int)), some (.ref F), some (.int d), some (.int (0 + (i : Int))), some rv, some nv, some (.int way), o9, o10, o11] H' := fun {H'} e => ⟨_, _, _, _, rv, nv, way, z.1, z.2, xs, rfl, R10.then e, t10.ex e, e _ _ kF10, pmono (fun _ _ zz => SumV.ex e zz) pw10, (hrv.dk t9.lst r10).ex e, (hnv.dk t9.lst r10).ex e, hz.len, hz.row, hz.num⟩
        refine ⟨_, rfl, rfl, _, rfl, ite2 (fun _ => ?_) (fun _ => iteF (stay (Ex.refl _)))⟩
        refine ⟨_, rfl, (by show 0 ≤ sizeLine; decide), fun p11 H11 n11 e11 k11 => ⟨F, p11, xs, rfl, rfl, sq_of (e11 _ _ kF10), sq_of k11, _, rfl, ?_⟩⟩
        cases hne : (!xs.isEmpty) with
        | false => exact iteF (stay e11)
        | true =>
          have xl0 := neN hne
          refine iteT ?_
          have kF11 := e11 _ _ kF10
          have pw11 : Paired (SumV K H11) xs ws := pmono (fun _ _ zz => SumV.ex e11 zz) pw10
          refine ⟨_, rfl, _, rfl, _, rfl, F, xs, rfl, .inl (sq_of kF11), s, _, rfl, t10.ex e11, by omega, by omega, fun d12 H12 g0 g1 r12 t12 => ?_⟩
          have kF12 := r12.keep F _ (Ne.symm sF) kF11
          have pw12 : Paired (SumV K H12) xs ws := pmono (fun _ _ zz => SumV.dk (t10.ex e11).lst r12 zz) pw11
          obtain ⟨v12, z12, tz, ra, rb, hat, hzm, rfl, qz, hra, hrb⟩ := pickW pw12 g0 g1
          refine ⟨F, xs, d12, .ref tz, rfl, rfl, sq_of kF12, hat, tz, [ra, rb], rfl, qz, rfl, ra, [rb], rfl, rb, [], rfl, rfl, ?_⟩
          have sz := sm z12 hzm
          obtain ⟨tr, us, rfl, qr, pr⟩ := id hra
          have ul := Paired.length pr
          refine ⟨_, rfl, tr, rfl, ⟨_, qr⟩, fun G hG => ?_⟩
          refine lc_tup (K := K) (a := tr) (xs := us) (Bld (FrV K) H12 G (z12.1.map fun r => -r)) (bld0 hG) (fun k H' _ b => ex_t b.1 qr) ?_ ?_
          · rintro j y H13 hy b
            obtain ⟨r, hr0, fr⟩ := pget pr hy
            obtain ⟨tb, rfl, qtb⟩ := fr.ex b.1
            have jl := (List.getElem?_eq_some_iff.mp hr0).1
            refine ⟨tb, [.int r.num, .int (r.den : Int)], rfl, qtb, rfl, .int r.num, [.int (r.den : Int)], rfl, .int (r.den : Int), [], rfl, rfl, rfl, ?_⟩
            refine ⟨_, rfl, _, _, rfl, rfl, _, rfl, (by show 2 ≤ sizeLine; decide), fun p14 H14 n14 e14 k14 => ?_⟩
            have := sz.len
            exact bld_step stF hG b e14 (by rw [List.getElem?_map, hr0]; rfl) (by omega) (neg_fr (st_of k14))
          intro H13 b13
          obtain ⟨e13, gs, kG, pG⟩ := bld_end (by rw [List.length_map]; exact ul) b13
          refine ⟨G, gs, rfl, .inl ⟨sq_of kG, fun l hl => ?_⟩⟩
          have e14 : Ex H13 (upd H13 l (.tup gs)) := Ex.new hl
          have row14 : RowV K (upd H13 l (.tup gs)) (.ref l) (z12.1.map fun r => -r) := ⟨l, gs, rfl, st_of upd_same, FrL.ex e14 pG⟩
          generalize upd H13 l (.tup gs) = H14 at e14 row14 ⊢
          have E14 := e13.trans e14
          obtain ⟨tn, rfl, qn⟩ := hrb.ex E14
          refine ⟨_, rfl, _, _, _, _, rfl, rfl, qn, at0, _, _, rfl, rfl, _, rfl, _, _, _, _, rfl, rfl, qn, at1, (by show 2 ≤ sizeLine; decide), fun p15 H15 n15 e15 k15 => ?_⟩
          obtain ⟨nb, nl⟩ := neg_row sz.row sz.len
          exact ⟨_, _, _, _, .ref l, .ref p15, way, _, -z12.2, xs, rfl, ((R10.then e11).trans r12).then (E14.trans e15), t12.ex (E14.trans e15), (E14.trans e15) _ _ kF12, pmono (fun _ _ zz => SumV.ex (E14.trans e15) zz) pw12, row14.ex e15, neg_fr (st_of k15), nl, nb, sz.num.neg⟩
      -- told again
      clear hrv hnv
      rintro σ' H11 ⟨u5, u9, u10, u11, rv1, nv1, way1, L1, r1, xs1, rfl, R11, t11, kF11, pw11, hrv, hnv, hl1, hb1, hn1⟩
      have xl1 := Paired.length pw11
      refine ⟨StW K s F (.ref a) sp.length H d ws, ?_, ?_⟩
      · have stay : ∀ {H'}, Ex H11 H' → StW K s F (.ref a) sp.length H d ws [some (.ref s), some (.ref a), some (.int (sp.length : Int)), some (.ref F), some (.int d), u5, some rv1, some nv1, some (.int way1), u9, u10, u11] H' := fun {H'} e => ⟨_, _, _, _, rv1, nv1, way1, L1, r1, xs1, rfl, R11.then e, t11.ex e, e _ _ kF11, pmono (fun _ _ zz => SumV.ex e zz) pw11, hrv.ex e, hnv.ex e, hl1, hb1, hn1⟩
        refine ⟨_, rfl, rfl, _, rfl, ite2 (fun _ => ?_) (fun _ => iteF (stay (Ex.refl _)))⟩
        refine ⟨_, rfl, (by show 0 ≤ sizeLine; decide), fun p12 H12 n12 e12 k12 => ⟨F, p12, xs1, rfl, rfl, sq_of (e12 _ _ kF11), sq_of k12, _, rfl, ?_⟩⟩
        cases hne : (!xs1.isEmpty) with
        | false => exact iteF (stay e12)
        | true =>
          have xl0 := neN hne
          refine iteT ?_
          have kF12 := e12 _ _ kF11
          have pw12 : Paired (SumV K H12) xs1 ws := pmono (fun _ _ zz => SumV.ex e12 zz) pw11
          refine ⟨_, rfl, _, rfl, _, rfl, F, xs1, rfl, .inl (sq_of kF12), s, _, rfl, t11.ex e12, by omega, by omega, fun d13 H13 g0 g1 r13 t13 => ?_⟩
          have kF13 := r13.keep F _ (Ne.symm sF) kF12
          have pw13 : Paired (SumV K H13) xs1 ws := pmono (fun _ _ zz => SumV.dk (t11.ex e12).lst r13 zz) pw12
          obtain ⟨v13, z13, tz, ra, rb, hat, hzm, rfl, qz, hra, hrb⟩ := pickW pw13 g0 g1
          refine ⟨F, xs1, d13, .ref tz, rfl, rfl, sq_of kF13, hat, tz, [ra, rb], rfl, qz, rfl, ra, [rb], rfl, rb, [], rfl, rfl, ?_⟩
          have sz := sm z13 hzm
          exact ⟨_, _, _, _, ra, rb, way1, _, _, xs1, rfl, (R11.then e12).trans r13, t13, kF13, pw13, hra, hrb, sz.len, sz.row, sz.num⟩
      -- through a corner
      clear hrv hnv R11 t11 kF11 pw11 hl1 hb1 hn1 xl1
      rintro σ' H12 ⟨u5, u9, u10, u11, rv1, nv1, way1, L1, r1, xs1, rfl, R11, t11, kF11, pw11, hrv, hnv, hl1, hb1, hn1⟩
      have xl1 := Paired.length pw11
      refine ⟨StW K s F (.ref a) sp.length H d ws, ?_, ?_⟩
      · refine ⟨_, rfl, _, _, rfl, rfl, _, rfl, ite2 (fun _ => ?_) (fun _ => ⟨_, _, _, _, rv1, nv1, way1, L1, r1, xs1, rfl, R11, t11, kF11, pw11, hrv, hnv, hl1, hb1, hn1⟩)⟩
        obtain ⟨qb, pb⟩ := boxAt R11
        refine ⟨_, rfl, _, rfl, a, rfl, ⟨_, qb⟩, fun G hG => ?_⟩
        refine lc_tup (K := K) (a := a) (xs := xb) (BldD (FrV K) (fun L => BdL 21 6 L) s H12 G) (bdd0 t11 hG (fun _ z => by cases z)) (fun k H' _ b => sqt_dk t11.lst b.choose_spec.choose_spec.2.2.2.2.1 qb) ?_ ?_
        · rintro j y H13 hy b
          obtain ⟨p, hp, fp⟩ := pget pb hy
          have pm := hbb.bd p (List.mem_of_getElem? hp)
          have jl := (List.getElem?_eq_some_iff.mp hp).1
          obtain ⟨_, _, _, _, _, _, d0', t0'⟩ := id b
          obtain ⟨tb, va, vb, rfl, qtb, fa, fb⟩ := SpanV.dk t11.lst d0' fp
          refine ⟨rfl, ?_⟩
          refine ⟨_, rfl, _, rfl, s, _, rfl, t0', by decide, by decide, fun d14 H14 g0 g1 r14 t14 => ?_⟩
          have q14 := sqt_dk t0'.lst r14 qtb
          have two : d14 = 0 ∨ d14 = 1 := by omega
          have step : ∀ {v : V} {r : Rat}, FrV K H14 v r → Bd 21 6 r → ∃ acc, H14 G = some (.lst acc) ∧ acc.length < sizeLine ∧ BldD (FrV K) (fun L => BdL 21 6 L) s H12 G (j + 1) (upd H14 G (.lst (acc ++ [v]))) := fun {v r} hv hs => bdd_step sdF t11.lst hG b (by omega) r14 t14 hv (fun L hL _ x hx => by
            rcases List.mem_append.mp hx with hx | hx
            · exact hL x hx
            · rw [List.mem_singleton.mp hx]
              exact hs)
          rcases two with rfl | rfl
          · exact ⟨tb, _, 0, va, rfl, rfl, q14, at0, step (fa.dk t0'.lst r14) pm.1⟩
          · exact ⟨tb, _, 1, vb, rfl, rfl, q14, at1, step (fb.dk t0'.lst r14) pm.2⟩
        · rintro H13 ⟨L, gs, kG, pG, hn', hz, r13, t13⟩
          refine ⟨G, gs, rfl, .inl ⟨sq_of kG, fun l hl => ?_⟩⟩
          have e14 : Ex H13 (upd H13 l (.tup gs)) := Ex.new hl
          have row14 : RowV K (upd H13 l (.tup gs)) (.ref l) L := ⟨l, gs, rfl, st_of upd_same, FrL.ex e14 pG⟩
          generalize upd H13 l (.tup gs) = H14 at e14 row14 ⊢
          have hrv14 := (hrv.dk t11.lst r13).ex e14
          refine ⟨rv1, .ref l, L1, L, rfl, hrv14, row14, by omega, by omega, wz_of ((wd_small hb1).wb) (xs_21 hz), fun v H15 e15 hv => ?_⟩
          have R15 := (r13.then e14).then e15
          exact ⟨_, _, _, _, rv1, v, way1, L1, _, xs1, rfl, R11.trans R15, t13.ex (e14.trans e15), R15.keep F _ (Ne.symm sF) kF11, pmono (fun _ _ zz => SumV.dk t11.lst R15 zz) pw11, hrv14.ex e15, hv, hl1, hb1, weigh_corner hb1 hz (by omega)⟩
      -- told
      clear hrv hnv R11 t11 kF11 pw11 hl1 hb1 hn1 xl1
      rintro σ' H13 ⟨u5, u9, u10, u11, rv1, nv1, way1, L1, r1, xs1, rfl, R11, t11, kF11, pw11, hrv, hnv, hl1, hb1, hn1⟩
      have xl1 := Paired.length pw11
      refine ⟨_, rfl, .inl ⟨rfl, _, sq_of kF11⟩, _, rfl, _, rfl, (by show 2 ≤ sizeLine; decide), fun p14 H14 n14 e14 k14 => ?_⟩
      have kF14 := e14 _ _ kF11
      refine ⟨F, xs1, _, rfl, rfl, kF14, sz_lt (by omega), ?_⟩
      have new : SumV K H14 (.ref p14) (L1, r1) := ⟨p14, rv1, nv1, rfl, st_of k14, hrv.ex e14, hnv.ex e14⟩
      refine ⟨_, _, _, _, _, _, _, _, ws ++ [(L1, r1)], rfl, (R11.then e14).mut nF sF, (t11.ex e14).mut sF, upd_same, Paired.snoc (pmono (fun _ _ zz => SumV.mut kF14 (SumV.ex e14 zz)) pw11) (SumV.mut kF14 new), by rw [List.length_append, wl]; rfl, fun z hz => ?_⟩
      rcases List.mem_append.mp hz with hz | hz
      · exact sm z hz
      · rw [List.mem_singleton.mp hz]
        exact ⟨hl1, hb1, hn1⟩
    · rintro σ H8 ⟨o5, o6, o7, o8, o9, o10, o11, xs, ws, rfl, R8, t8, kF8, pw_, wl, sm⟩
      exact ⟨_, rfl, q F xs ws H8 (Ne.symm sF) nF R8 t8 kF8 pw_ (by omega) sm⟩
end

end K20
end
section
set_option maxRecDepth 100000
set_option maxHeartbeats 400000
namespace K20
open PySem Evl Nc PyProof.Rows
open L2 hiding spCell
section
variable {P : Program} {w : World} {K : PySem.W.Frag} {mg : Str → Option Value} {base : Heap}
def scopeB : Scope := { kind := .function, names := [(".0", .local), ("_law_at", .cell), ("tuple", .globalImplicit), ("range", .globalImplicit), ("_law_box_here", .free), ("_law_many", .free)], isGenerator := false, isCoroutine := false }
theorem none_of2 {H H' : Hp} {a : Addr} (e : Ex H H') (h : H' a = none) : H a = none := none_of' e h
theorem neg_num {r : Rat} : (-1 * r).num = 0 - r.num := by
  rw [show (-1 : Rat) * r = -r by grind, Rat.neg_num]
  omega
theorem neg_den {r : Rat} : (-1 * r).den = r.den := by
  rw [show (-1 : Rat) * r = -r by grind, Rat.neg_den]
def spLBoxW (K : PySem.W.Frag) : Sp := fun vs H Q _ => ∃ (x : V) (sp : List Span), vs = [x] ∧ BoxV K 6 H x sp ∧ ∀ F xs H', H F = none → Ex H H' → H' F = some (.lst xs) → Paired (SumV K H') xs (boxW sp) → Q (.ref F) H'
theorem ok__law_box_wishes (D : Df K mg "_law_box_wishes" s__law_box_wishes ["_law_box_here"]) (mlen : mg "len" = none) (mint : mg "int" = none) (mrange : mg "range" = none) (mtuple : mg "tuple" = none) : Ok P w K mg base 1 "_law_box_wishes" ["_law_box_here"] (spLBoxW K) := by
  refine D.ok fun f fd F => F.ok sc__law_box_wishes (fun vs H Q E h => ?_) (fun cdv A outer s H vs Q E hr h => ?_)
  · obtain ⟨x, sp, rfl, _⟩ := h
    rfl
  · obtain ⟨x, sp, rfl, ⟨⟨a, xs, rfl, qa, pa⟩, l1, l3, hbb, _⟩, q⟩ := h
    have qa : SqT K H a xs := qa
    have xl := Paired.length pa
    refine ⟨_, (pss_cons (ps_set (i := 1) sc__law_box_wishes.nd rfl (.inr rfl) (pe_callB call_len_seq (by rfl) mlen PySem.boot_len (pa_cons (pv 0) pa_nil)))
      (pss_cons (ps_setLc (i := 2) (own := [("_law_at", 4)]) (g := gName 4) (tt := tYes) rfl sc__law_box_wishes.nd rfl rfl (sw_true rfl rfl rfl (by decide +kernel)) (pi_range1 (by rfl) mrange (pa_cons (pv 1) pa_nil)) (blkOk_by (N := ["_law_box_here", "_law_many", "_law_uppers", "_law_lowers", "_law_at", "_law_low", "_law_place"]) (sc := defScope s__law_box_wishes) (by decide +kernel)) (fun _ _ _ _ _ => (pg_name (i := 4) sc__law_box_wishes.nd rfl (.inr rfl))) (fun _ _ _ _ _ => pts_nil) (fun _ _ _ _ _ => pe_tupE (pa_cons (pe_callTy (T := "tuple") (call_tupK K) (by rfl) mtuple (by decide +kernel) (pa_cons (pe_lc (own := [("_law_place", 6)]) (g := gName 6) (tt := tYes) rfl sc__law_box_wishes.nd (pi_range1 (by rfl) mrange (pa_cons (pv 1) pa_nil)) (blkOk_by (N := ["_law_box_here", "_law_many", "_law_uppers", "_law_lowers", "_law_at", "_law_low", "_law_place"]) (sc := relS scopeB (defScope s__law_box_wishes)) (by decide +kernel)) (fun _ _ _ _ _ => (pg_name (i := 6) sc__law_box_wishes.nd rfl (.inl rfl))) (fun _ _ _ _ _ => pts_nil) (fun _ _ _ _ _ => (pe_tupE (pa_cons (pe_callTy call_int1 (by rfl) mint (by decide +kernel) (pa_cons (pe_cmpR op_eq (pv 6) (pv 4) (nomark _)) pa_nil)) (pa_cons pe_int pa_nil))))) pa_nil)) (pa_cons (pe_ix (ix_tK K) (pe_ix (ix_tK K) (pv 0) (pv 4) (fun _ _ => rfl)) pe_int (fun _ _ => rfl)) pa_nil))))
      (pss_cons (ps_set (i := 3) sc__law_box_wishes.nd rfl (.inl rfl) (pe_lstE pa_nil))
      (pss_cons (ps_for PassesOwn.never rfl (pi_range1 (by rfl) mrange (pa_cons (pv 1) pa_nil)) (pg_name (i := 4) sc__law_box_wishes.nd rfl (.inr rfl)) (pss_cons (ps_set (i := 5) sc__law_box_wishes.nd rfl (.inl rfl) (pe_ix (ix_tK K) (pe_ix (ix_tK K) (pv 0) (pv 4) (fun _ _ => rfl)) pe_int (fun _ _ => rfl)))
      (pss_one (ps_expr (pe_bm PySem.F.plainAttrs_list PySem.F.slot_list_append PySem.F.type_list_append mt_append (pv 3) (pa_cons (pe_tupE (pa_cons (pe_callTy (T := "tuple") (call_tupK K) (by rfl) mtuple (by decide +kernel) (pa_cons (pe_lc (own := [("_law_place", 6)]) (g := gName 6) (tt := tYes) rfl sc__law_box_wishes.nd (pi_range1 (by rfl) mrange (pa_cons (pv 1) pa_nil)) (blkOk_by (N := ["_law_box_here", "_law_many", "_law_uppers", "_law_lowers", "_law_at", "_law_low", "_law_place"]) (sc := defScope s__law_box_wishes) (by decide +kernel)) (fun _ _ _ _ _ => (pg_name (i := 6) sc__law_box_wishes.nd rfl (.inl rfl))) (fun _ _ _ _ _ => pts_nil) (fun _ _ _ _ _ => (pe_tupE (pa_cons (pe_op op_sub pe_int (pe_callTy call_int1 (by rfl) mint (by decide +kernel) (pa_cons (pe_cmpR op_eq (pv 6) (pv 4) (nomark _)) pa_nil))) (pa_cons pe_int pa_nil))))) pa_nil)) (pa_cons (pe_tupE (pa_cons (pe_op op_sub pe_int (pe_ix ix_tup (pv 5) pe_int (fun _ _ => rfl))) (pa_cons (pe_ix ix_tup (pv 5) pe_int (fun _ _ => rfl)) pa_nil))) pa_nil))) pa_nil))))))
      (pss_one (ps_ret (pe_op op_catE (pv 2) (pv 3)))))))), ?_⟩
    refine ⟨_, rfl, a, _, rfl, .inr qa, _, rfl, ((xs.length : Nat) : Int), rfl, by omega, by omega, fun U hU => ?_⟩
    refine lc_range (lo := 0) (n := (((xs.length : Nat) : Int)).toNat) (Bld (SumV K) H U (hiW sp)) (bld0 hU) ?_ ?_
    · rintro i Hb hi bU
      rw [Int.toNat_natCast] at hi
      refine ⟨rfl, ?_⟩
      obtain ⟨p, hp, fp⟩ : ∃ p, sp[i]? = some p ∧ SpanV K Hb xs[i] p := pget (pmono (fun _ _ => SpanV.ex bU.1) pa) (List.getElem?_eq_getElem hi)
      obtain ⟨tp, va, vb, exi, qp, fa, fb⟩ := fp
      refine ⟨_, rfl, ((xs.length : Nat) : Int), rfl, by omega, by omega, fun G hG => ?_⟩
      refine lc_range (lo := 0) (n := (((xs.length : Nat) : Int)).toNat) (Bld (FrV K) Hb G (unit sp.length i)) (bld0 hG) ?_ ?_
      · intro j H2 hj b
        rw [Int.toNat_natCast] at hj
        refine ⟨rfl, ?_⟩
        refine ⟨_, rfl, _, rfl, rfl, .inr ⟨_, rfl, (by show 2 ≤ sizeLine; decide), fun u HU nu eu ku => ?_⟩⟩
        have e0 : (decide (V.int ((0 : Int) + (j : Int)) = V.int ((0 : Int) + (i : Int)))) = decide (j = i) := by
          by_cases hip : j = i
          · subst hip
            simp
          · rw [decide_eq_false hip]
            refine decide_eq_false fun z => hip ?_
            have := V.int.inj z
            omega
        rw [e0] at ku
        have hv : FrV K HU (.ref u) (if j = i then (1 : Rat) else 0) := by
          by_cases hip : j = i
          · rw [decide_eq_true hip] at ku
            rw [if_pos hip]
            exact ⟨u, rfl, st_of ku⟩
          · rw [decide_eq_false hip] at ku
            rw [if_neg hip]
            exact ⟨u, rfl, st_of ku⟩
        refine bld_step stF hG b eu ?_ (by omega) hv
        skip
        unfold unit
        rw [List.getElem?_map, List.getElem?_range (by omega)]
        rfl
      intro H2 b2
      rw [Int.toNat_natCast] at b2
      obtain ⟨e2, zs, hzs, pz⟩ := bld_end (by simp [unit]; omega) b2
      refine ⟨G, zs, rfl, .inl ⟨sq_of hzs, fun l hl => ?_⟩⟩
      have eL : Ex H2 (upd H2 l (.tup zs)) := Ex.new hl
      have rowv : RowV K (upd H2 l (.tup zs)) (.ref l) (unit sp.length i) := ⟨l, zs, rfl, st_of upd_same, FrL.ex eL pz⟩
      generalize upd H2 l (.tup zs) = HL at eL rowv ⊢
      have E1 := e2.trans eL
      have hxi : xs[i]? = some (.ref tp) := by rw [List.getElem?_eq_getElem hi, exi]
      refine ⟨_, rfl, _, rfl, a, xs, _, .ref tp, rfl, rfl, ex_t (bU.1.trans E1) qa, (by rw [show (0 : Int) + (i : Int) = (i : Int) by omega]; exact atI_nat hxi), tp, _, 1, vb, rfl, rfl, ex_t E1 qp, at1, (by show 2 ≤ sizeLine; decide), fun p1 H5 n5 e5 k5 => ?_⟩
      exact bld_step stS hU bU (E1.trans e5) (hiW_at hp) (by omega) ⟨p1, .ref l, vb, rfl, st_of k5, rowv.ex e5, fb.ex (E1.trans e5)⟩
    intro H1 b1
    rw [Int.toNat_natCast] at b1
    obtain ⟨e1, us, kU, pU⟩ := bld_end (by rw [hiW_len]; exact xl) b1
    refine ⟨(by show 0 ≤ sizeLine; decide), fun W H2 nW e2 k2 => ?_⟩
    have nUW : U ≠ W := ne_of_none kU nW
    have hW0 : H W = none := none_of' e1 nW
    have kU2 := e2 _ _ kU
    have pU2 : Paired (SumV K H2) us (hiW sp) := pmono (fun _ _ z => SumV.ex e2 z) pU
    refine ⟨_, rfl, ((xs.length : Nat) : Int), rfl, by omega, by omega, ?_⟩
    refine for_range (lo := 0) (n := (((xs.length : Nat) : Int)).toNat) (fun i σ H' => ∃ (o4 o5 : Option V) (ls : List V), σ = [some (.ref a), some (.int ((xs.length : Nat) : Int)), some (.ref U), some (.ref W), o4, o5, none] ∧ Ex H H' ∧ H' U = some (.lst us) ∧ H' W = some (.lst ls) ∧ Paired (SumV K H') us (hiW sp) ∧ Paired (SumV K H') ls ((loW sp).take i)) ⟨none, none, [], rfl, e1.trans e2, kU2, k2, pU2, .nil⟩ ?_ ?_
    · rintro i σ H3 hi ⟨o4, o5, ls, rfl, e3, kU3, kW, pU3, pW⟩
      rw [Int.toNat_natCast] at hi
      obtain ⟨p, hp, fp⟩ : ∃ p, sp[i]? = some p ∧ SpanV K H3 xs[i] p := pget (pmono (fun _ _ => SpanV.ex e3) pa) (List.getElem?_eq_getElem hi)
      obtain ⟨tp, va, vb, exi, qp, fa, fb⟩ := fp
      have wl := Paired.length pW
      rw [List.length_take, loW_len] at wl
      have hxi : xs[i]? = some (.ref tp) := by rw [List.getElem?_eq_getElem hi, exi]
      refine ⟨_, rfl, _, rfl, a, xs, _, .ref tp, rfl, rfl, ex_t e3 qa, (by rw [show (0 : Int) + (i : Int) = (i : Int) by omega]; exact atI_nat hxi), tp, _, 0, va, rfl, rfl, qp, at0, ?_⟩
      refine ⟨_, rfl, .inl ⟨rfl, _, sq_of kW⟩, _, rfl, ((xs.length : Nat) : Int), rfl, by omega, by omega, fun G hG => ?_⟩
      refine lc_range (lo := 0) (n := (((xs.length : Nat) : Int)).toNat) (Bld (FrV K) H3 G ((unit sp.length i).map fun r => -1 * r)) (bld0 hG) ?_ ?_
      · intro j H2 hj b
        rw [Int.toNat_natCast] at hj
        refine ⟨rfl, ?_⟩
        refine ⟨_, rfl, _, rfl, rfl, .inr ⟨_, rfl, _, _, rfl, rfl, (by show 2 ≤ sizeLine; decide), fun u HU nu eu ku => ?_⟩⟩
        have e0 : (decide (V.int ((0 : Int) + (j : Int)) = V.int ((0 : Int) + (i : Int)))) = decide (j = i) := by
          by_cases hip : j = i
          · subst hip
            simp
          · rw [decide_eq_false hip]
            refine decide_eq_false fun z => hip ?_
            have := V.int.inj z
            omega
        rw [e0] at ku
        have hv : FrV K HU (.ref u) (-1 * (if j = i then (1 : Rat) else 0)) := by
          by_cases hip : j = i
          · rw [decide_eq_true hip] at ku
            rw [if_pos hip]
            rw [show (-1 : Rat) * 1 = -1 by grind]
            exact ⟨u, rfl, st_of ku⟩
          · rw [decide_eq_false hip] at ku
            rw [if_neg hip]
            rw [show (-1 : Rat) * 0 = 0 by grind]
            exact ⟨u, rfl, st_of ku⟩
        refine bld_step stF hG b eu ?_ (by omega) hv
        rw [List.getElem?_map]
        unfold unit
        rw [List.getElem?_map, List.getElem?_range (by omega)]
        rfl
      intro H2 b2
      rw [Int.toNat_natCast] at b2
      obtain ⟨e2, zs, hzs, pz⟩ := bld_end (by simp [unit]; omega) b2
      refine ⟨G, zs, rfl, .inl ⟨sq_of hzs, fun l hl => ?_⟩⟩
      have eL : Ex H2 (upd H2 l (.tup zs)) := Ex.new hl
      have rowv : RowV K (upd H2 l (.tup zs)) (.ref l) ((unit sp.length i).map fun r => -1 * r) := ⟨l, zs, rfl, st_of upd_same, FrL.ex eL pz⟩
      generalize upd H2 l (.tup zs) = HL at eL rowv ⊢
      have E1 := e2.trans eL
      have faL := fa.ex E1
      obtain ⟨ta, rfl, qta⟩ := id faL
      refine ⟨_, rfl, _, _, _, _, rfl, rfl, qta, at0, _, _, rfl, rfl, _, rfl, _, _, _, _, rfl, rfl, qta, at1, (by show 2 ≤ sizeLine; decide), fun pn H7 n7 e7 k7 => ⟨(by show 2 ≤ sizeLine; decide), fun p2 H8 n8 e8 k8 => ?_⟩⟩
      have fn : FrV K H7 (.ref pn) (-1 * p.1) := ⟨pn, rfl, by rw [neg_num, neg_den]; exact st_of k7⟩
      have two : SumV K H8 (.ref p2) (stimes (-1) (unit sp.length i, p.1)) := ⟨p2, .ref l, .ref pn, rfl, st_of k8, rowv.ex (e7.trans e8), fn.ex e8⟩
      have E8 := E1.trans (e7.trans e8)
      have kW8 := E8 _ _ kW
      refine ⟨W, ls, _, rfl, rfl, kW8, sz_lt (by omega), ?_⟩
      refine ⟨_, _, ls ++ [.ref p2], rfl, Ex.mut (e3.trans E8) hW0, ?_, upd_same, ?_, ?_⟩
      · rw [upd_ne nUW]
        exact E8 _ _ kU3
      · exact pmono (fun _ _ z => SumV.mut kW8 (SumV.ex E8 z)) pU3
      · rw [List.take_add_one, loW_at hp]
        exact Paired.snoc (pmono (fun _ _ z => SumV.mut kW8 (SumV.ex E8 z)) pW) (SumV.mut kW8 two)
    · rintro σ H3 ⟨o4, o5, ls, rfl, e3, kU3, kW, pU3, pW⟩
      rw [Int.toNat_natCast, xl, ← loW_len sp, List.take_length] at pW
      have ul := Paired.length pU3
      have wl := Paired.length pW
      rw [hiW_len] at ul
      rw [loW_len] at wl
      refine ⟨_, rfl, _, rfl, U, W, us, ls, rfl, rfl, kU3, kW, Nat.le_of_lt (sz_lt (by omega)), fun pc H5 npc e5 kC => ?_⟩
      exact q pc _ H5 (none_of' e3 npc) (e3.trans e5) kC (pair_app (pmono (fun _ _ => SumV.ex e5) pU3) (pmono (fun _ _ => SumV.ex e5) pW))
end

end K20
end
section
set_option maxRecDepth 100000
set_option maxHeartbeats 400000
namespace K20
open PySem Evl Nc PyProof.Rows
open L2 hiding spCell
section
variable {P : Program} {w : World} {K : PySem.W.Frag} {mg : Str → Option Value} {base : Heap}
theorem box_dkx {K : PySem.W.Frag} {s : Addr} {H H' : Hp} {v : V} {sp : List Span} (h0 : Lst s H) (r : Dk s H H') (h : BoxV K 6 H v sp) : BoxV K 6 H' v sp := by
  obtain ⟨⟨a, xs, rfl, qa, pa⟩, rest⟩ := h
  exact ⟨⟨a, xs, rfl, sqt_dk h0 r qa, pmono (fun _ _ z => SpanV.dk h0 r z) pa⟩, rest⟩
structure Dfs (P : Program) (w : World) (K : PySem.W.Frag) (mg : Str → Option Value) (base : Heap) (CM CE : Addr) : Prop where
  cell : Ok P w K mg base 1 "_law_cell" ["_law_script", "_law_k"] (Nc.spCell K)
  stream : Ok P w K mg base 1 "_law_stream" ["_law_cell_here"] spStream3
  box : Ok P w K mg base 5 "_law_box_of" ["_law_stream_here"] (spBoxOf K)
  row : Ok P w K mg base 4 "_law_row" ["_law_stream_here", "_law_many"] (spRow18 K)
  wishes : Ok P w K mg base 6 "_law_wishes" ["_law_stream_here", "_law_box_here"] (spWishes19 K)
  boxw : Ok P w K mg base 1 "_law_box_wishes" ["_law_box_here"] (spLBoxW K)
  corn : Ok P w K mg base 5 "_law_corners" ["_law_rows", "_law_many"] (spCorners K)
  stands : Ok P w K mg base 5 "_law_stands" ["_law_rows", "_law_spot"] (spStands K)
  less : Ok P w K mg base 1 "_law_less" ["_law_one", "_law_other"] (spLess K)
  weighed : Ok P w K mg base 4 "_law_weighed" ["_law_row_here", "_law_spot"] (spWeighP K)
  settle : Ok P w K mg base 9 "settle" ["box", "wishes", "aim"] (spSettle K CM CE)
  hasM : MOk P w K mg base 1 CM "has_spot" ["self"] (spHas true)
  hasE : MOk P w K mg base 1 CE "has_spot" ["self"] (spHas false)
  IM : C8.InsC K CM
  IE : C8.InsC K CE
  nMs : NoAttr K CM "spot"
  gM : mg "Most" = some (.ref CM)
  kEM : PySem.W.kitOne K (.ref CE) (.ref CM) = some false
theorem none_dk {s D : Addr} {H H1 : Hp} (r : Dk s H H1) (n : D ≠ s) (h : H1 D = none) : H D = none := Option.eq_none_iff_forall_ne_some.mpr fun o ho => by
  have := r.keep D o n ho
  rw [h] at this
  cases this
theorem fn_law {f : Addr} {fd : FuncData} {CM CE : Addr} (F : Fun K "law" "law" s_law f fd) (G : Dfs P w K mg base CM CE) (mrange : mg "range" = none) (mmax : mg "max" = none) (mmin : mg "min" = none) (mlen : mg "len" = none) (misi : mg "isinstance" = none) : FnOk P w K mg base CX0 10 f fd ["_law_script"] (spLaw K) := by
  obtain ⟨fMH, dMH, mMH, FMH, bMH⟩ := G.hasM.ex
  obtain ⟨fEH, dEH, mEH, FEH, bEH⟩ := G.hasE.ex
  refine F.ok sc_law (fun vs H Q E h => ?_) (fun cdv A outer s H vs Q E hr h => ?_)
  · obtain ⟨a, ns, rfl, _⟩ := h
    rfl
  · obtain ⟨a, ns, rfl, hS, hn, q⟩ := h
    have hr1 : Room 1 _ := hr.mono (by decide)
    have hr4 : Room 4 _ := hr.mono (by decide)
    have hr5 : Room 5 _ := hr.mono (by decide)
    have hr6 : Room 6 _ := hr.mono (by decide)
    have hr9 : Room 9 _ := hr.mono (by decide)
    refine ⟨_, (pss_cons (ps_for PassesOwn.never rfl (pi_range1 (by rfl) mrange (pa_cons (pe_callB (call_max2 rfl) (by rfl) mmax (by decide +kernel) (pa_cons pe_int (pa_cons (pe_callB (call_min2 rfl) (by rfl) mmin (by decide +kernel) (pa_cons (pe_callB call_len_seq (by rfl) mlen PySem.boot_len (pa_cons (pv 0) pa_nil)) (pa_cons pe_int pa_nil))) pa_nil))) pa_nil)) (pg_name (i := 1) sc_law.nd rfl (.inl rfl)) (pss_cons (ps_set (i := 2) sc_law.nd rfl (.inl rfl) (cl G.stream hr1 (pa_cons (cl G.cell hr1 (pa_cons (pv 0) (pa_cons (pv 1) pa_nil))) pa_nil)))
      (pss_cons (ps_set (i := 3) sc_law.nd rfl (.inl rfl) (cl G.box hr5 (pa_cons (pv 2) pa_nil)))
      (pss_cons (ps_set (i := 4) sc_law.nd rfl (.inl rfl) (pe_slice sl_listE (cl G.wishes hr6 (pa_cons (pv 2) (pa_cons (pv 3) pa_nil))) po_none (po_some pe_int)))
      (pss_cons (ps_set (i := 5) sc_law.nd rfl (.inr rfl) (pe_op op_catE (cl G.boxw hr1 (pa_cons (pv 3) pa_nil)) (pv 4)))
      (pss_cons (ps_setLc (i := 6) (own := [("_law_spot", 11)]) (g := gName 11) (tt := (tB (tCall (spStands K) [] E0 (tCons (tVar 5) (tCons (tVar 11) tNil))))) rfl sc_law.nd rfl rfl (sw_true rfl rfl rfl (by decide +kernel)) (pi_list (cl G.corn hr5 (pa_cons (pv 5) (pa_cons (pe_callB call_len_seq (by rfl) mlen PySem.boot_len (pa_cons (pv 3) pa_nil)) pa_nil)))) (blkOk_by (N := ["_law_script", "_law_k", "_law_stream_here", "_law_box_here", "_law_wishes_here", "_law_rows", "_law_corners_here", "_law_turn", "_law_aim", "_law_answer", "_law_told", "_law_spot"]) (sc := defScope s_law) (by decide +kernel)) (fun _ _ _ _ _ => (pg_name (i := 11) sc_law.nd rfl (.inl rfl))) (fun _ _ _ _ _ => pts_one (pt_val (cl G.stands hr5 (pa_cons (pv 5) (pa_cons (pv 11) pa_nil))))) (fun _ _ _ _ _ => (pv 11)))
      (pss_one (ps_for PassesOwn.never rfl (pi_range1 (by rfl) mrange (pa_cons pe_int pa_nil)) (pg_name (i := 7) sc_law.nd rfl (.inl rfl)) (pss_cons (ps_set (i := 8) sc_law.nd rfl (.inr rfl) (cl G.row hr4 (pa_cons (pv 2) (pa_cons (pe_callB call_len_seq (by rfl) mlen PySem.boot_len (pa_cons (pv 3) pa_nil)) pa_nil))))
      (pss_cons (ps_set (i := 9) sc_law.nd rfl (.inl rfl) (cl G.settle hr9 (pa_cons (pv 3) (pa_cons (pv 4) (pa_cons (pv 8) pa_nil)))))
      (pss_cons (ps_if (PW.pt (pw_or (pt_cmpR op_ne (pe_callB call_isi (by rfl) misi (by decide +kernel) (pa_cons (pv 9) (pa_cons (pe_glob (v := .ref CM) (by rfl) G.gM rfl) pa_nil))) (pe_cmpR (op_neNil hr.units) (pv 6) (pe_lstE pa_nil) (nomark _)) (nomark _)) (pw_or1 (pt_cmpR op_ne (Nc.pe_or (pe_meth0 (pv 9) G.IM.cl mMH FMH hr1 bMH .nil pass0) (pe_meth0 (pv 9) G.IE.cl mEH FEH hr1 bEH .nil pass0)) (pe_cmpR (op_neNil hr.units) (pv 6) (pe_lstE pa_nil) (nomark _)) (nomark _))))) (pss_one (ps_ret pe_bl)) pss_nil)
      (pss_one (ps_if (pt_val (pe_callB call_isi (by rfl) misi (by decide +kernel) (pa_cons (pv 9) (pa_cons (pe_glob (v := .ref CM) (by rfl) G.gM rfl) pa_nil)))) (pss_cons (ps_set (i := 10) sc_law.nd rfl (.inr rfl) (cl G.weighed hr4 (pa_cons (pv 8) (pa_cons (pe_fld (pv 9) rfl) pa_nil))))
      (pss_cons (ps_if (pt_cmpR (op_neNil hr.units) (pe_lc (own := [("_law_spot", 11)]) (g := gName 11) (tt := (tB (tCall (spLess K) [] E0 (tCons (tVar 10) (tCons (tCall (spWeighP K) [] E0 (tCons (tVar 8) (tCons (tVar 11) tNil))) tNil))))) rfl sc_law.nd (pi_list (pv 6)) (blkOk_by (N := ["_law_script", "_law_k", "_law_stream_here", "_law_box_here", "_law_wishes_here", "_law_rows", "_law_corners_here", "_law_turn", "_law_aim", "_law_answer", "_law_told", "_law_spot"]) (sc := defScope s_law) (by decide +kernel)) (fun _ _ _ _ _ => (pg_name (i := 11) sc_law.nd rfl (.inl rfl))) (fun _ _ _ _ _ => pts_one (pt_val (cl G.less hr1 (pa_cons (pv 10) (pa_cons (cl G.weighed hr4 (pa_cons (pv 8) (pa_cons (pv 11) pa_nil))) pa_nil))))) (fun _ _ _ _ _ => (pv 11))) (pe_lstE pa_nil) (nomark _)) (pss_one (ps_ret pe_bl)) pss_nil)
      (pss_one (ps_if (PW.pt (pw_or (pt_not (pt_val (cl G.stands hr5 (pa_cons (pv 5) (pa_cons (pe_fld (pv 9) rfl) pa_nil))))) (pw_or1 (pt_cmpR (op_notInL hr.units) (pv 10) (pe_lc (own := [("_law_spot", 11)]) (g := gName 11) (tt := tYes) rfl sc_law.nd (pi_list (pv 6)) (blkOk_by (N := ["_law_script", "_law_k", "_law_stream_here", "_law_box_here", "_law_wishes_here", "_law_rows", "_law_corners_here", "_law_turn", "_law_aim", "_law_answer", "_law_told", "_law_spot"]) (sc := defScope s_law) (by decide +kernel)) (fun _ _ _ _ _ => (pg_name (i := 11) sc_law.nd rfl (.inl rfl))) (fun _ _ _ _ _ => pts_nil) (fun _ _ _ _ _ => (cl G.weighed hr4 (pa_cons (pv 8) (pa_cons (pv 11) pa_nil))))) (by rfl))))) (pss_one (ps_ret pe_bl)) pss_nil)))) pss_nil)))))))))))))
      (pss_one (ps_ret pe_bl))), ?_⟩
    refine ⟨_, rfl, a, _, rfl, .inl hS, _, _, rfl, _, _, rfl, ?_⟩
    rw [List.length_map]
    generalize hm : (if (if (8 : Int) < ((ns.length : Nat) : Int) then (8 : Int) else ((ns.length : Nat) : Int)) > 2 then (if (8 : Int) < ((ns.length : Nat) : Int) then (8 : Int) else ((ns.length : Nat) : Int)) else 2) = m
    have hm1 : 2 ≤ m ∧ m ≤ 8 := by
      rw [← hm]
      split <;> split <;> omega
    refine ⟨m, rfl, by omega, by omega, for_range (lo := 0) (n := m.toNat) (fun i σ H' => ∃ o1 o2 o3 o4 o5 o6 o7 o8 o9 o10, σ = [some (.ref a), o1, o2, o3, o4, o5, o6, o7, o8, o9, o10, none] ∧ Ex H H') ⟨none, none, none, none, none, none, none, none, none, none, rfl, Ex.refl H⟩ ?_ ?_⟩
    · rintro i σ H1 hi ⟨o1, o2, o3, o4, o5, o6, o7, o8, o9, o10, rfl, e1⟩
      rw [show (0 : Int) + (i : Int) = (i : Int) by omega]
      refine ⟨_, rfl, _, rfl, a, ns, i, rfl, ex_l e1 hS, by omega, fun c => ?_⟩
      refine ⟨c, rfl, fun s0 hs H2 es st => ?_⟩
      have back : ∀ {H' : Hp}, Dk s0 H2 H' → Ex H H' := fun r b o hb => by
        have h1 := e1 b o hb
        exact r.keep b o (fun z => by rw [z, hs] at h1; cases h1) (es b o h1)
      refine ⟨_, rfl, s0, rfl, st, fun v sp H3 r3 t3 hbox sp2 => ?_⟩
      refine ⟨_, rfl, _, rfl, s0, v, sp, rfl, t3, hbox, fun W xs ws0 H4 Ws nW r4 t4 kW pW0 wl0 sm0 => ⟨_, rfl, W, xs, rfl, sq_of kW, fun W5 H5 nW5 e5 kW5 => ?_⟩⟩
      rw [show (some (10 : Int)) = some (((10 : Nat) : Nat) : Int) from rfl, cutN] at kW5
      have W5s : W5 ≠ s0 := Ne.symm (t4.lst.ne nW5)
      have pW5 : Paired (SumV K H5) (xs.take 10) (ws0.take 10) := pair_take 10 (pmono (fun _ _ z => SumV.ex e5 z) pW0)
      have wl : (ws0.take 10).length ≤ 10 := by rw [List.length_take]; omega
      have sm : ∀ z ∈ ws0.take 10, SmW sp.length z := fun z hz => sm0 z (List.mem_of_mem_take hz)
      generalize xs.take 10 = xw at kW5 pW5
      generalize ws0.take 10 = ws at pW5 wl sm
      clear kW pW0 wl0 sm0
      have t5 := t4.ex e5
      have hbox5 := (box_dkx t3.lst r4 hbox).ex e5
      have R5 := r3.trans (r4.then e5)
      -- the rows
      refine ⟨_, rfl, v, sp, rfl, hbox5, fun F1 xs1 H6 hF1 e6 k6 p6 => ?_⟩
      have xwl := Paired.length pW5
      have x1l := Paired.length p6
      have sp1 := hbox5.2.1
      rw [boxW_len] at x1l
      refine ⟨_, rfl, F1, W5, xs1, xw, rfl, rfl, k6, e6 _ _ kW5, Nat.le_of_lt (sz_lt (by omega)), fun R7 H7 nR7 e7 kR7 => ?_⟩
      have E57 := e6.trans e7
      have kW7 := E57 _ _ kW5
      have pW7 : Paired (SumV K H7) xw ws := pmono (fun _ _ z => SumV.ex E57 z) pW5
      have pR7 : Paired (SumV K H7) (xs1 ++ xw) (boxW sp ++ ws) := pair_app (pmono (fun _ _ z => SumV.ex e7 z) p6) pW7
      have t7 := t5.ex E57
      have R7s : R7 ≠ s0 := Ne.symm ((t5.ex e6).lst.ne nR7)
      have hbox7 := hbox5.ex E57
      have rl : (boxW sp ++ ws).length ≤ 14 := by rw [List.length_append, boxW_len]; omega
      have rs : ∀ z ∈ boxW sp ++ ws, RowS sp.length z := fun z hz => by
        rcases List.mem_append.mp hz with hz | hz
        · exact boxW_rs hbox7.2.2.2.1.bd z hz
        · exact (sm z hz).rs
      obtain ⟨⟨ab, xb, rfl, qab, pxb⟩, _⟩ := id hbox7
      have qab : SqT K H7 ab xb := qab
      have xbl := Paired.length pxb
      -- the corners
      refine ⟨_, rfl, _, rfl, ab, xb, rfl, .inr qab, R7, xs1 ++ xw, sp.length, boxW sp ++ ws, (by rw [xbl]; rfl), sq_of kR7, pR7, sp1, sp2, rs, by omega, fun F8 yc0 H8 e8 kF8 pF8 => ?_⟩
      have cl := Paired.length pF8
      refine ⟨F8, rfl, ⟨_, sq_of kF8⟩, fun C8 hC8 => ?_⟩
      have wbR : ∀ z ∈ boxW sp ++ ws, Wb (z.1 ++ [z.2]) := fun z hz => by
        rcases List.mem_append.mp hz with hz | hz
        · exact boxW_wb hbox7.2.2.2.1.bd z hz
        · exact (sm z hz).w.2.wb
      have cfew : yc0.length < 100000 := by
        rw [cl]
        exact Nat.lt_of_le_of_lt (corn_few (n := sp.length) (rows := boxW sp ++ ws) (by omega) _) (by have : (boxW sp ++ ws).length * 100 ≤ 14 * 100 := Nat.mul_le_mul_right _ rl; omega)
      have xsC : ∀ c, c ∈ cornTo sp.length (boxW sp ++ ws) (boxW sp ++ ws).length → c.length = sp.length ∧ XsP c := fun c hc => by
        have l := corn_len sp1 sp2 hc
        exact ⟨l, xs_small (corn_sz sp2 rs hc) (by omega)⟩
      refine lc_list (K := K) (a := F8) (xs := yc0) (Kept (RowV K) H8 C8 (cornTo sp.length (boxW sp ++ ws) (boxW sp ++ ws).length) (keepB (boxW sp ++ ws))) (kept0 hC8) (fun j H' _ b => sq_of (b.1 _ _ kF8)) ?_ ?_
      · rintro j u H9 hu b
        obtain ⟨c, hc, fc⟩ := pget pF8 hu
        have jl := (List.getElem?_eq_some_iff.mp hu).1
        obtain ⟨c1, c2⟩ := xsC c (List.mem_of_getElem? hc)
        refine ⟨rfl, ?_⟩
        refine ⟨_, rfl, _, rfl, R7, xs1 ++ xw, u, boxW sp ++ ws, c, rfl, sq_of ((e8.trans b.1) _ _ kR7), pmono (fun _ _ z => SumV.ex (e8.trans b.1) z) pR7, fc.ex b.1, fun z hz => ⟨by rw [(rs z hz).len, c1], wbR z hz⟩, by omega, c2, fun HA eA => ⟨_, rfl, ?_⟩⟩
        cases hk : keepB (boxW sp ++ ws) c with
        | true => exact iteT ⟨_, rfl, kept_hit stR hC8 b eA hc hk (by omega) (fc.ex (b.1.trans eA))⟩
        | false => exact iteF (kept_miss stR b eA hc hk)
      intro H9 b9
      obtain ⟨e9, yc, kC9, ycl, pC9⟩ := kept_end cl b9
      have E79 := e8.trans e9
      have C8s : C8 ≠ s0 := Ne.symm ((t7.ex e8).lst.ne hC8)
      have t9 := t7.ex E79
      have R59 : Dk s0 H2 H9 := (R5.then (E57.trans E79))
      have hbox9 := hbox7.ex E79
      have kW9 := E79 _ _ kW7
      have kR9 := E79 _ _ kR7
      have pW9 : Paired (SumV K H9) xw ws := pmono (fun _ _ z => SumV.ex E79 z) pW7
      have pR9 : Paired (SumV K H9) (xs1 ++ xw) (boxW sp ++ ws) := pmono (fun _ _ z => SumV.ex E79 z) pR7
      generalize hCR : (cornTo sp.length (boxW sp ++ ws) (boxW sp ++ ws).length).filter (keepB (boxW sp ++ ws)) = CR at pC9
      clear kF8 pF8 b9 pR7 pW7 qab pxb
      have memC : ∀ c, c ∈ CR ↔ c ∈ cornTo sp.length (boxW sp ++ ws) (boxW sp ++ ws).length ∧ keepB (boxW sp ++ ws) c = true := fun c => by rw [← hCR, List.mem_filter]
      have ycR := Paired.length pC9
      refine ⟨(3 : Int), rfl, by decide, by decide, for_range (lo := 0) (n := (3 : Int).toNat) (fun j σ H' => ∃ o7 o8 o9 o10, σ = [some (.ref a), some (.int (i : Int)), some (.ref s0), some (.ref ab), some (.ref W5), some (.ref R7), some (.ref C8), o7, o8, o9, o10, none] ∧ Dk s0 H9 H' ∧ St3 s0 H') ⟨_, _, _, _, rfl, Dk.refl t9.lst, t9⟩ ?_ ?_⟩
      · rintro j σ HA hj ⟨o7, o8, o9, o10, rfl, rA, tA⟩
        have hboxA := box_dkx t9.lst rA hbox9
        obtain ⟨⟨ab', xb', exb, qab, pxb⟩, _⟩ := id hboxA
        cases exb
        have qab : SqT K HA ab xb' := qab
        have xbl := Paired.length pxb
        refine ⟨_, rfl, _, rfl, ab, xb', rfl, .inr qab, s0, sp.length, (by rw [xbl]; rfl), tA, by omega, fun va L HB rB tB ha Ll hL => ?_⟩
        have R9B := rA.trans rB
        have kWB := R9B.keep W5 _ W5s kW9
        have kRB := R9B.keep R7 _ R7s kR9
        have kCB := R9B.keep C8 _ C8s kC9
        have hboxB := box_dkx t9.lst R9B hbox9
        have pWB : Paired (SumV K HB) xw ws := pmono (fun _ _ z => SumV.dk t9.lst R9B z) pW9
        have pRB : Paired (SumV K HB) (xs1 ++ xw) (boxW sp ++ ws) := pmono (fun _ _ z => SumV.dk t9.lst R9B z) pR9
        have pCB : Paired (RowV K HB) yc CR := pmono (fun _ _ z => RowV.dk t9.lst R9B z) pC9
        have g : GoodIn K HB (.ref ab) (.ref W5) va sp ws L := good_in hboxB ⟨false, W5, xw, rfl, sq_of kWB, pWB⟩ ha Ll (fun z hz => (sm z hz).w) (wd_small hL) (by omega)
        have done : ∀ {H' : Hp} {p8 p9 p10 : Option V}, Ex HB H' → ∃ o7 o8 o9 o10, ([some (.ref a), some (.int (i : Int)), some (.ref s0), some (.ref ab), some (.ref W5), some (.ref R7), some (.ref C8), some (.int (0 + (j : Int))), p8, p9, p10, none] : List (Option V)) = [some (.ref a), some (.int (i : Int)), some (.ref s0), some (.ref ab), some (.ref W5), some (.ref R7), some (.ref C8), o7, o8, o9, o10, none] ∧ Dk s0 H9 H' ∧ St3 s0 H' := fun {H' p8 p9 p10} e => ⟨_, _, _, _, rfl, R9B.then e, tB.ex e⟩
        have nil_ : ∀ {H' : Hp}, Ex HB H' → SqL K H' C8 yc := fun {H'} e => sq_of (e _ _ kCB)
        rcases told_ok g.ok with ⟨u, ms, hst, ul, ml, uxs, mp, tr⟩ | ⟨ms, hst, ml, mp, tr⟩
        · -- a Most
          have uC : u ∈ CR := (memC u).mpr ⟨by have := told_corner g.ok (by omega) hst; rwa [Ll] at this, most_keeps tr⟩
          have ne : (!yc.isEmpty) = true := by
            cases yc with
            | nil =>
              cases pC9
              cases uC
            | cons y ys => rfl
          refine ⟨_, rfl, _, rfl, _, rfl, .ref ab, .ref W5, va, sp, ws, L, rfl, g, fun u' ms' hs' v9 HC eC hv => ?_, fun ms' hs' => by rw [hst] at hs'; cases hs'⟩
          rw [hst] at hs'
          cases hs'
          obtain ⟨p, dx, va1, vb1, rfl, hp, ra, rb⟩ := hv
          have lk : List.lookup ("has_spot" : Str) [(("spot" : Str), va1), (("multiples" : Str), vb1)] = none := no_sm (by decide +kernel) (by decide +kernel)
          refine ⟨_, rfl, _, _, _, _, _, rfl, .own CM, tyO G.IM hp, G.IM.me, _, rfl, (by show 0 ≤ sizeLine; decide), fun pd HD nD eD kD => ?_⟩
          refine ⟨C8, pd, yc, rfl, rfl, nil_ (eC.trans eD), sq_of kD, rfl, _, rfl, ite_f (by rw [ne]; decide) ?_⟩
          refine .inl ⟨_, rfl, p, dx, _, rfl, eD _ _ hp, lk, _, rfl, _, rfl, (by show 0 ≤ sizeLine; decide), fun pe HE nE eE kE => ?_⟩
          have EBE := eC.trans (eD.trans eE)
          refine ⟨C8, pe, yc, rfl, rfl, nil_ EBE, sq_of kE, rfl, _, rfl, ite_f (by rw [ne]; decide) ?_⟩
          refine ⟨_, rfl, _, _, _, _, _, rfl, .own CM, tyO G.IM ((eD.trans eE) _ _ hp), G.IM.me, _, rfl, iteT ?_⟩
          -- what the spot is worth
          have wzU : WzP L u := wz_of g.ok.ab uxs
          have ul2 : L.length = u.length := by omega
          have swU := wzU.sum (L.zip u) (by rw [List.length_zip]; omega) fun p hp => hp
          refine ⟨_, rfl, _, rfl, p, CM, dx, _, va1, rfl, (eD.trans eE) _ _ hp, G.IM.cl, G.nMs, rfl, va, va1, L, u, rfl, (g.ex EBE).goal, ra.ex (eD.trans eE), ul2, by omega, wzU, fun vt HF eF ht => ?_⟩
          have EBF := EBE.trans eF
          have wzC : ∀ c, c ∈ CR → L.length = c.length ∧ WzP L c ∧ Sz 6507 6500 (weighs (L.zip c)) ∧ keepB (boxW sp ++ ws) c = true := fun c hc => by
            obtain ⟨h1, h2⟩ := (memC c).mp hc
            obtain ⟨h3, h4⟩ := xsC c h1
            have wz := wz_of g.ok.ab h4
            exact ⟨by omega, wz, wz.sum (L.zip c) (by rw [List.length_zip]; omega) fun p hp => hp, h2⟩
          refine ⟨_, rfl, C8, rfl, ⟨_, nil_ EBF⟩, fun G7 h7 => ?_⟩
          refine lc_list (K := K) (a := C8) (xs := yc) (Kept (RowV K) HF G7 CR (fun _ => false)) (kept0 h7) (fun k H' _ b => nil_ (EBF.trans b.1)) ?_ ?_
          · rintro k y HG hy b
            obtain ⟨c, hc, fc⟩ := pget pCB hy
            obtain ⟨c1, c2, c3, c4⟩ := wzC c (List.mem_of_getElem? hc)
            refine ⟨rfl, ?_⟩
            have EG := EBF.trans b.1
            refine ⟨_, rfl, _, rfl, _, rfl, va, y, L, c, rfl, (g.ex EG).goal, fc.ex EG, c1, by omega, c2, fun v8 HH eH h8 => ?_⟩
            refine ⟨vt, v8, _, _, 6507, 6500, 6507, 6500, rfl, ht.ex (b.1.trans eH), h8, swU, c3, ⟨by decide, by decide, by decide, by decide, by decide⟩, _, rfl, ?_⟩
            rw [less_is', decide_eq_false (Rat.not_lt.mpr (most_best (by omega) (fun w hw => (rs w hw).len) tr c4))]
            exact iteF (kept_miss stR b eH hc rfl)
          intro HG bG
          obtain ⟨eG, zs, kG, _, pZ⟩ := kept_end ycR bG
          have zs0 : zs = [] := by
            have e0 : CR.filter (fun _ => false) = [] := by simp
            rw [e0] at pZ
            cases pZ
            rfl
          refine ⟨(by show 0 ≤ sizeLine; decide), fun p12 HI nI eI kI => ⟨G7, p12, zs, rfl, rfl, sq_of (eI _ _ kG), sq_of kI, _, rfl, ?_⟩⟩
          rw [zs0]
          refine ite_f rfl ?_
          have EBI := EBF.trans (eG.trans eI)
          -- the spot stands, and is worth what a corner is
          refine ⟨_, rfl, _, rfl, p, CM, dx, _, va1, rfl, (eD.trans (eE.trans (eF.trans (eG.trans eI)))) _ _ hp, G.IM.cl, G.nMs, rfl, R7, xs1 ++ xw, va1, boxW sp ++ ws, u, rfl, sq_of (EBI _ _ kRB), pmono (fun _ _ z => SumV.ex EBI z) pRB, ra.ex (eD.trans (eE.trans (eF.trans (eG.trans eI)))), (fun z hz => ⟨by rw [(rs z hz).len, ul], wbR z hz⟩), by omega, uxs, fun HJ eJ => ⟨_, rfl, ?_⟩⟩
          rw [most_keeps tr]
          refine iteF ?_
          have EBJ := EBI.trans eJ
          refine ⟨_, rfl, _, rfl, C8, rfl, ⟨_, nil_ EBJ⟩, fun G8 h8 => ?_⟩
          refine lc_list (K := K) (a := C8) (xs := yc) (Bld (FrV K) HJ G8 (CR.map fun c => weighs (L.zip c))) (bld0 h8) (fun k H' _ b => nil_ (EBJ.trans b.1)) ?_ ?_
          · rintro k y HK hy b
            obtain ⟨c, hc, fc⟩ := pget pCB hy
            have kl := (List.getElem?_eq_some_iff.mp hy).1
            obtain ⟨c1, c2, c3, c4⟩ := wzC c (List.mem_of_getElem? hc)
            refine ⟨rfl, ?_⟩
            have EK := EBJ.trans b.1
            refine ⟨_, rfl, _, rfl, va, y, L, c, rfl, (g.ex EK).goal, fc.ex EK, c1, by omega, c2, fun v8 HL eL h9 => ?_⟩
            exact bld_step stF h8 b eL (by rw [List.getElem?_map, hc]; rfl) (by omega) h9
          intro HK bK
          obtain ⟨eK, ts, kT, pT⟩ := bld_end (by rw [List.length_map]; exact ycR) bK
          refine ⟨_, _, (ht.ex (eG.trans (eI.trans (eJ.trans eK)))).dp, .lst (sq_of kT) (FrL.dp pT), shaped_fd _, shaped_list _, (by show 1 ≤ 60; decide), _, rfl, ite_f ?_ (done (EBJ.trans eK))⟩
          rw [Bool.not_eq_false', List.any_eq_true]
          exact ⟨Nc.fd (weighs (L.zip u)), List.mem_map_of_mem (List.mem_map_of_mem uC), eqv_fd _⟩
        · -- an Empty
          have cr0 : CR = [] := List.eq_nil_iff_forall_not_mem.mpr fun c hc => by
            obtain ⟨h1, h2⟩ := (memC c).mp hc
            rw [empty_none (xsC c h1).1 (fun w hw => (rs w hw).len) tr] at h2
            cases h2
          have yc0' : yc = [] := by
            rw [cr0] at pC9
            cases pC9
            rfl
          refine ⟨_, rfl, _, rfl, _, rfl, .ref ab, .ref W5, va, sp, ws, L, rfl, g, fun u' ms' hs' => (by rw [hst] at hs'; cases hs'), fun ms' hs' v9 HC eC hv => ?_⟩
          rw [hst] at hs'
          cases hs'
          obtain ⟨p, dx, vb1, rfl, hp, rb⟩ := hv
          have lk : List.lookup ("has_spot" : Str) [(("multiples" : Str), vb1)] = none := no_ms (by decide +kernel)
          refine ⟨_, rfl, _, _, _, _, _, rfl, .own CM, tyO G.IE hp, G.kEM, _, rfl, (by show 0 ≤ sizeLine; decide), fun pd HD nD eD kD => ?_⟩
          refine ⟨C8, pd, yc, rfl, rfl, nil_ (eC.trans eD), sq_of kD, rfl, _, rfl, ite_f (by rw [yc0']; decide) ?_⟩
          refine .inr ⟨_, rfl, p, dx, _, rfl, eD _ _ hp, lk, _, rfl, _, rfl, (by show 0 ≤ sizeLine; decide), fun pe HE nE eE kE => ?_⟩
          have EBE := eC.trans (eD.trans eE)
          refine ⟨C8, pe, yc, rfl, rfl, nil_ EBE, sq_of kE, rfl, _, rfl, ite_f (by rw [yc0']; decide) ?_⟩
          refine ⟨_, rfl, _, _, _, _, _, rfl, .own CM, tyO G.IE ((eD.trans eE) _ _ hp), G.kEM, _, rfl, iteF (done EBE)⟩
      · rintro σ HA ⟨o7, o8, o9, o10, rfl, rA, tA⟩
        exact ⟨_, _, _, _, _, _, _, _, _, _, rfl, back (R59.trans rA)⟩
    · rintro σ H1 ⟨o1, o2, o3, o4, o5, o6, o7, o8, o9, o10, rfl, e1⟩
      exact q H1
end

end K20
end
set_option maxRecDepth 100000
set_option maxHeartbeats 4000000
namespace K20
open PySem Evl Nc PyProof.Rows
open L2 hiding spCell
/-! ### what the top has written; the law's own head -/
theorem all_mk {l : PySem.W.OpenLaw} {w : World} {K : PySem.W.Frag} {h : Heap} {mg : Str → Option Value} {fa : Addr} (X : K.In h) (G : h.Ns mainGlobals mg) (hfa : mg "law" = some (.ref fa))
    {od0 an0 : Option Addr} {sl0 : Array (Option Value)} {oc0 kV0 dc0 pm0 cd0 ct0 : Value} {f0 : Addr}
    {od1 an1 : Option Addr} {sl1 : Array (Option Value)} {oc1 kV1 dc1 pm1 cd1 ct1 : Value} {f1 : Addr}
    {od2 an2 : Option Addr} {sl2 : Array (Option Value)} {oc2 kV2 dc2 pm2 cd2 ct2 : Value} {f2 : Addr}
    {od3 an3 : Option Addr} {sl3 : Array (Option Value)} {oc3 kV3 dc3 pm3 cd3 ct3 : Value} {f3 : Addr}
    {od4 an4 : Option Addr} {sl4 : Array (Option Value)} {oc4 kV4 dc4 pm4 cd4 ct4 : Value} {f4 : Addr}
    {od5 an5 : Option Addr} {sl5 : Array (Option Value)} {oc5 kV5 dc5 pm5 cd5 ct5 : Value} {f5 : Addr}
    {od6 an6 : Option Addr} {sl6 : Array (Option Value)} {oc6 kV6 dc6 pm6 cd6 ct6 : Value} {f6 : Addr}
    {od7 an7 : Option Addr} {sl7 : Array (Option Value)} {oc7 kV7 dc7 pm7 cd7 ct7 : Value} {f7 : Addr}
    {od8 an8 : Option Addr} {sl8 : Array (Option Value)} {oc8 kV8 dc8 pm8 cd8 ct8 : Value} {f8 : Addr}
    {od9 an9 : Option Addr} {sl9 : Array (Option Value)} {oc9 kV9 dc9 pm9 cd9 ct9 : Value} {f9 : Addr}
    {od10 an10 : Option Addr} {sl10 : Array (Option Value)} {oc10 kV10 dc10 pm10 cd10 ct10 : Value} {f10 : Addr}
    {od11 an11 : Option Addr} {sl11 : Array (Option Value)} {oc11 kV11 dc11 pm11 cd11 ct11 : Value} {f11 : Addr}
    {od12 an12 : Option Addr} {sl12 : Array (Option Value)} {oc12 kV12 dc12 pm12 cd12 ct12 : Value} {f12 : Addr}
    {od13 an13 : Option Addr} {sl13 : Array (Option Value)} {oc13 kV13 dc13 pm13 cd13 ct13 : Value} {f13 : Addr}
    {od14 an14 : Option Addr} {sl14 : Array (Option Value)} {oc14 kV14 dc14 pm14 cd14 ct14 : Value} {f14 : Addr}
    {od15 an15 : Option Addr} {sl15 : Array (Option Value)} {oc15 kV15 dc15 pm15 cd15 ct15 : Value} {f15 : Addr}
    {od16 an16 : Option Addr} {sl16 : Array (Option Value)} {oc16 kV16 dc16 pm16 cd16 ct16 : Value} {f16 : Addr}
    {od17 an17 : Option Addr} {sl17 : Array (Option Value)} {oc17 kV17 dc17 pm17 cd17 ct17 : Value} {f17 : Addr}
    {od18 an18 : Option Addr} {sl18 : Array (Option Value)} {oc18 kV18 dc18 pm18 cd18 ct18 : Value} {f18 : Addr}
    {od19 an19 : Option Addr} {sl19 : Array (Option Value)} {oc19 kV19 dc19 pm19 cd19 ct19 : Value} {f19 : Addr}
    {od20 an20 : Option Addr} {sl20 : Array (Option Value)} {oc20 kV20 dc20 pm20 cd20 ct20 : Value} {f20 : Addr}
    {od21 an21 : Option Addr} {sl21 : Array (Option Value)} {oc21 kV21 dc21 pm21 cd21 ct21 : Value} {f21 : Addr}
    {od22 an22 : Option Addr} {sl22 : Array (Option Value)} {oc22 kV22 dc22 pm22 cd22 ct22 : Value} {f22 : Addr}
    {od23 an23 : Option Addr} {sl23 : Array (Option Value)} {oc23 kV23 dc23 pm23 cd23 ct23 : Value} {f23 : Addr}
    {od24 an24 : Option Addr} {sl24 : Array (Option Value)} {oc24 kV24 dc24 pm24 cd24 ct24 : Value} {f24 : Addr}
    {od25 an25 : Option Addr} {sl25 : Array (Option Value)} {oc25 kV25 dc25 pm25 cd25 ct25 : Value} {f25 : Addr}
    {od26 an26 : Option Addr} {sl26 : Array (Option Value)} {oc26 kV26 dc26 pm26 cd26 ct26 : Value} {f26 : Addr}
    {od27 an27 : Option Addr} {sl27 : Array (Option Value)} {oc27 kV27 dc27 pm27 cd27 ct27 : Value} {f27 : Addr}
    {od28 an28 : Option Addr} {sl28 : Array (Option Value)} {oc28 kV28 dc28 pm28 cd28 ct28 : Value} {f28 : Addr}
    {od29 an29 : Option Addr} {sl29 : Array (Option Value)} {oc29 kV29 dc29 pm29 cd29 ct29 : Value} {f29 : Addr}
    {od30 an30 : Option Addr} {sl30 : Array (Option Value)} {oc30 kV30 dc30 pm30 cd30 ct30 : Value} {f30 : Addr}
    {od31 an31 : Option Addr} {sl31 : Array (Option Value)} {oc31 kV31 dc31 pm31 cd31 ct31 : Value} {f31 : Addr}
    {od32 an32 : Option Addr} {sl32 : Array (Option Value)} {oc32 kV32 dc32 pm32 cd32 ct32 : Value} {f32 : Addr}
    {od33 an33 : Option Addr} {sl33 : Array (Option Value)} {oc33 kV33 dc33 pm33 cd33 ct33 : Value} {f33 : Addr}
    {od34 an34 : Option Addr} {sl34 : Array (Option Value)} {oc34 kV34 dc34 pm34 cd34 ct34 : Value} {f34 : Addr}
    {od35 an35 : Option Addr} {sl35 : Array (Option Value)} {oc35 kV35 dc35 pm35 cd35 ct35 : Value} {f35 : Addr}
    {od36 an36 : Option Addr} {sl36 : Array (Option Value)} {oc36 kV36 dc36 pm36 cd36 ct36 : Value} {f36 : Addr}
    {od37 an37 : Option Addr} {sl37 : Array (Option Value)} {oc37 kV37 dc37 pm37 cd37 ct37 : Value} {f37 : Addr}
    {od38 an38 : Option Addr} {sl38 : Array (Option Value)} {oc38 kV38 dc38 pm38 cd38 ct38 : Value} {f38 : Addr}
    {od39 an39 : Option Addr} {sl39 : Array (Option Value)} {oc39 kV39 dc39 pm39 cd39 ct39 : Value} {f39 : Addr}
    {od40 an40 : Option Addr} {sl40 : Array (Option Value)} {oc40 kV40 dc40 pm40 cd40 ct40 : Value} {f40 : Addr}
    {od41 an41 : Option Addr} {sl41 : Array (Option Value)} {oc41 kV41 dc41 pm41 cd41 ct41 : Value} {f41 : Addr}
    {od42 an42 : Option Addr} {sl42 : Array (Option Value)} {oc42 kV42 dc42 pm42 cd42 ct42 : Value} {f42 : Addr}
    {od43 an43 : Option Addr} {sl43 : Array (Option Value)} {oc43 kV43 dc43 pm43 cd43 ct43 : Value} {f43 : Addr}
    {od44 an44 : Option Addr} {sl44 : Array (Option Value)} {oc44 kV44 dc44 pm44 cd44 ct44 : Value} {f44 : Addr}
    {od45 an45 : Option Addr} {sl45 : Array (Option Value)} {oc45 kV45 dc45 pm45 cd45 ct45 : Value} {f45 : Addr}
    {od46 an46 : Option Addr} {sl46 : Array (Option Value)} {oc46 kV46 dc46 pm46 cd46 ct46 : Value} {f46 : Addr}
    {od47 an47 : Option Addr} {sl47 : Array (Option Value)} {oc47 kV47 dc47 pm47 cd47 ct47 : Value} {f47 : Addr}
    {od48 an48 : Option Addr} {sl48 : Array (Option Value)} {oc48 kV48 dc48 pm48 cd48 ct48 : Value} {f48 : Addr}
    {od49 an49 : Option Addr} {sl49 : Array (Option Value)} {oc49 kV49 dc49 pm49 cd49 ct49 : Value} {f49 : Addr}
    {od50 an50 : Option Addr} {sl50 : Array (Option Value)} {oc50 kV50 dc50 pm50 cd50 ct50 : Value} {f50 : Addr}
    {od51 an51 : Option Addr} {sl51 : Array (Option Value)} {oc51 kV51 dc51 pm51 cd51 ct51 : Value} {f51 : Addr}
    {od52 an52 : Option Addr} {sl52 : Array (Option Value)} {oc52 kV52 dc52 pm52 cd52 ct52 : Value} {f52 : Addr}
    {od53 an53 : Option Addr} {sl53 : Array (Option Value)} {oc53 kV53 dc53 pm53 cd53 ct53 : Value} {f53 : Addr}
    {aCNOUGHT : Addr} {dCNOUGHT : Option Addr} {nCNOUGHT : Nat} {slCNOUGHT : Array (Option Value)} {t1NOUGHT t2NOUGHT : Tok}
    {aCONE : Addr} {dCONE : Option Addr} {nCONE : Nat} {slCONE : Array (Option Value)} {t1ONE t2ONE : Tok}
    {aCMINUS_ONE : Addr} {dCMINUS_ONE : Option Addr} {nCMINUS_ONE : Nat} {slCMINUS_ONE : Array (Option Value)} {t1MINUS_ONE t2MINUS_ONE : Tok}
    {CM : Addr}
    {fMI : Addr}
    {CE : Addr}
    {fEI : Addr}
    {od_MI an_MI : Option Addr} {sl_MI : Array (Option Value)} {oc_MI kV_MI dc_MI pm_MI cd_MI ct_MI : Value}
    {od_EI an_EI : Option Addr} {sl_EI : Array (Option Value)} {oc_EI kV_EI dc_EI pm_EI cd_EI ct_EI : Value}
    {od_Mhas_spot an_Mhas_spot : Option Addr} {sl_Mhas_spot : Array (Option Value)} {oc_Mhas_spot kV_Mhas_spot dc_Mhas_spot pm_Mhas_spot cd_Mhas_spot ct_Mhas_spot : Value} {fMhas_spot : Addr}
    {od_Ehas_spot an_Ehas_spot : Option Addr} {sl_Ehas_spot : Array (Option Value)} {oc_Ehas_spot kV_Ehas_spot dc_Ehas_spot pm_Ehas_spot cd_Ehas_spot ct_Ehas_spot : Value} {fEhas_spot : Addr}
    {aD aD1 aD2 : Addr} {dD dD1 dD2 : Option Addr} {nnD nD1 nD2 : Nat} {slD slD1 slD2 : Array (Option Value)} {u1 u2 u3 u4 u5 u6 u7 u8 : Tok}
    {t_MP : Tok}
    {t_MW : Tok}
    {t_PL : Tok}
    (a0 : PySem.W.nsIn K mainGlobals "is_whole" = some (some (.ref f0)))
    (l0 : K.lookup f0 = some ⟨oc0, od0, .func (PySem.W.fnOf "is_whole" "is_whole" (defArgs s_is_whole) (defBody s_is_whole) (defScope s_is_whole) .none kV0 dc0 pm0 an0 cd0 ct0), sl0⟩)
    (c0 : PySem.W.codeIn K cd0 "is_whole" = true)
    (k0 : PySem.W.keepIn K (.ref f0) = true)
    (a1 : PySem.W.nsIn K mainGlobals "is_fraction" = some (some (.ref f1)))
    (l1 : K.lookup f1 = some ⟨oc1, od1, .func (PySem.W.fnOf "is_fraction" "is_fraction" (defArgs s_is_fraction) (defBody s_is_fraction) (defScope s_is_fraction) .none kV1 dc1 pm1 an1 cd1 ct1), sl1⟩)
    (c1 : PySem.W.codeIn K cd1 "is_fraction" = true)
    (k1 : PySem.W.keepIn K (.ref f1) = true)
    (a2 : PySem.W.nsIn K mainGlobals "is_row" = some (some (.ref f2)))
    (l2 : K.lookup f2 = some ⟨oc2, od2, .func (PySem.W.fnOf "is_row" "is_row" (defArgs s_is_row) (defBody s_is_row) (defScope s_is_row) .none kV2 dc2 pm2 an2 cd2 ct2), sl2⟩)
    (c2 : PySem.W.codeIn K cd2 "is_row" = true)
    (k2 : PySem.W.keepIn K (.ref f2) = true)
    (a3 : PySem.W.nsIn K mainGlobals "fraction_of" = some (some (.ref f3)))
    (l3 : K.lookup f3 = some ⟨oc3, od3, .func (PySem.W.fnOf "fraction_of" "fraction_of" (defArgs s_fraction_of) (defBody s_fraction_of) (defScope s_fraction_of) .none kV3 dc3 pm3 an3 cd3 ct3), sl3⟩)
    (c3 : PySem.W.codeIn K cd3 "fraction_of" = true)
    (k3 : PySem.W.keepIn K (.ref f3) = true)
    (a4 : PySem.W.nsIn K mainGlobals "times" = some (some (.ref f4)))
    (l4 : K.lookup f4 = some ⟨oc4, od4, .func (PySem.W.fnOf "times" "times" (defArgs s_times) (defBody s_times) (defScope s_times) .none kV4 dc4 pm4 an4 cd4 ct4), sl4⟩)
    (c4 : PySem.W.codeIn K cd4 "times" = true)
    (k4 : PySem.W.keepIn K (.ref f4) = true)
    (a5 : PySem.W.nsIn K mainGlobals "is_less" = some (some (.ref f5)))
    (l5 : K.lookup f5 = some ⟨oc5, od5, .func (PySem.W.fnOf "is_less" "is_less" (defArgs s_is_less) (defBody s_is_less) (defScope s_is_less) .none kV5 dc5 pm5 an5 cd5 ct5), sl5⟩)
    (c5 : PySem.W.codeIn K cd5 "is_less" = true)
    (k5 : PySem.W.keepIn K (.ref f5) = true)
    (a6 : PySem.W.nsIn K mainGlobals "is_sum" = some (some (.ref f6)))
    (l6 : K.lookup f6 = some ⟨oc6, od6, .func (PySem.W.fnOf "is_sum" "is_sum" (defArgs s_is_sum) (defBody s_is_sum) (defScope s_is_sum) .none kV6 dc6 pm6 an6 cd6 ct6), sl6⟩)
    (c6 : PySem.W.codeIn K cd6 "is_sum" = true)
    (k6 : PySem.W.keepIn K (.ref f6) = true)
    (a7 : PySem.W.nsIn K mainGlobals "sum_times" = some (some (.ref f7)))
    (l7 : K.lookup f7 = some ⟨oc7, od7, .func (PySem.W.fnOf "sum_times" "sum_times" (defArgs s_sum_times) (defBody s_sum_times) (defScope s_sum_times) .none kV7 dc7 pm7 an7 cd7 ct7), sl7⟩)
    (c7 : PySem.W.codeIn K cd7 "sum_times" = true)
    (k7 : PySem.W.keepIn K (.ref f7) = true)
    (a8 : PySem.W.nsIn K mainGlobals "place_sum" = some (some (.ref f8)))
    (l8 : K.lookup f8 = some ⟨oc8, od8, .func (PySem.W.fnOf "place_sum" "place_sum" (defArgs s_place_sum) (defBody s_place_sum) (defScope s_place_sum) .none kV8 dc8 pm8 an8 cd8 ct8), sl8⟩)
    (c8 : PySem.W.codeIn K cd8 "place_sum" = true)
    (k8 : PySem.W.keepIn K (.ref f8) = true)
    (a9 : PySem.W.nsIn K mainGlobals "is_box" = some (some (.ref f9)))
    (l9 : K.lookup f9 = some ⟨oc9, od9, .func (PySem.W.fnOf "is_box" "is_box" (defArgs s_is_box) (defBody s_is_box) (defScope s_is_box) .none kV9 dc9 pm9 an9 cd9 ct9), sl9⟩)
    (c9 : PySem.W.codeIn K cd9 "is_box" = true)
    (k9 : PySem.W.keepIn K (.ref f9) = true)
    (a10 : PySem.W.nsIn K mainGlobals "box_wishes" = some (some (.ref f10)))
    (l10 : K.lookup f10 = some ⟨oc10, od10, .func (PySem.W.fnOf "box_wishes" "box_wishes" (defArgs s_box_wishes) (defBody s_box_wishes) (defScope s_box_wishes) .none kV10 dc10 pm10 an10 cd10 ct10), sl10⟩)
    (c10 : PySem.W.codeIn K cd10 "box_wishes" = true)
    (k10 : PySem.W.keepIn K (.ref f10) = true)
    (a11 : PySem.W.nsIn K mainGlobals "check_box" = some (some (.ref f11)))
    (l11 : K.lookup f11 = some ⟨oc11, od11, .func (PySem.W.fnOf "check_box" "check_box" (defArgs s_check_box) (defBody s_check_box) (defScope s_check_box) .none kV11 dc11 pm11 an11 cd11 ct11), sl11⟩)
    (c11 : PySem.W.codeIn K cd11 "check_box" = true)
    (k11 : PySem.W.keepIn K (.ref f11) = true)
    (a12 : PySem.W.nsIn K mainGlobals "_is_span" = some (some (.ref f12)))
    (l12 : K.lookup f12 = some ⟨oc12, od12, .func (PySem.W.fnOf "_is_span" "_is_span" (defArgs s__is_span) (defBody s__is_span) (defScope s__is_span) .none kV12 dc12 pm12 an12 cd12 ct12), sl12⟩)
    (c12 : PySem.W.codeIn K cd12 "_is_span" = true)
    (k12 : PySem.W.keepIn K (.ref f12) = true)
    (a13 : PySem.W.nsIn K mainGlobals "walk" = some (some (.ref f13)))
    (l13 : K.lookup f13 = some ⟨oc13, od13, .func (PySem.W.fnOf "walk" "walk" (defArgs s_walk) (defBody s_walk) (defScope s_walk) .none kV13 dc13 pm13 an13 cd13 ct13), sl13⟩)
    (c13 : PySem.W.codeIn K cd13 "walk" = true)
    (k13 : PySem.W.keepIn K (.ref f13) = true)
    (a14 : PySem.W.nsIn K mainGlobals "_columns" = some (some (.ref f14)))
    (l14 : K.lookup f14 = some ⟨oc14, od14, .func (PySem.W.fnOf "_columns" "_columns" (defArgs s__columns) (defBody s__columns) (defScope s__columns) .none kV14 dc14 pm14 an14 cd14 ct14), sl14⟩)
    (c14 : PySem.W.codeIn K cd14 "_columns" = true)
    (k14 : PySem.W.keepIn K (.ref f14) = true)
    (a15 : PySem.W.nsIn K mainGlobals "_across" = some (some (.ref f15)))
    (l15 : K.lookup f15 = some ⟨oc15, od15, .func (PySem.W.fnOf "_across" "_across" (defArgs s__across) (defBody s__across) (defScope s__across) .none kV15 dc15 pm15 an15 cd15 ct15), sl15⟩)
    (c15 : PySem.W.codeIn K cd15 "_across" = true)
    (k15 : PySem.W.keepIn K (.ref f15) = true)
    (a16 : PySem.W.nsIn K mainGlobals "_weigh" = some (some (.ref f16)))
    (l16 : K.lookup f16 = some ⟨oc16, od16, .func (PySem.W.fnOf "_weigh" "_weigh" (defArgs s__weigh) (defBody s__weigh) (defScope s__weigh) .none kV16 dc16 pm16 an16 cd16 ct16), sl16⟩)
    (c16 : PySem.W.codeIn K cd16 "_weigh" = true)
    (k16 : PySem.W.keepIn K (.ref f16) = true)
    (a17 : PySem.W.nsIn K mainGlobals "_spot" = some (some (.ref f17)))
    (l17 : K.lookup f17 = some ⟨oc17, od17, .func (PySem.W.fnOf "_spot" "_spot" (defArgs s__spot) (defBody s__spot) (defScope s__spot) .none kV17 dc17 pm17 an17 cd17 ct17), sl17⟩)
    (c17 : PySem.W.codeIn K cd17 "_spot" = true)
    (k17 : PySem.W.keepIn K (.ref f17) = true)
    (a18 : PySem.W.nsIn K mainGlobals "_shares" = some (some (.ref f18)))
    (l18 : K.lookup f18 = some ⟨oc18, od18, .func (PySem.W.fnOf "_shares" "_shares" (defArgs s__shares) (defBody s__shares) (defScope s__shares) .none kV18 dc18 pm18 an18 cd18 ct18), sl18⟩)
    (c18 : PySem.W.codeIn K cd18 "_shares" = true)
    (k18 : PySem.W.keepIn K (.ref f18) = true)
    (a19 : PySem.W.nsIn K mainGlobals "_first_broken" = some (some (.ref f19)))
    (l19 : K.lookup f19 = some ⟨oc19, od19, .func (PySem.W.fnOf "_first_broken" "_first_broken" (defArgs s__first_broken) (defBody s__first_broken) (defScope s__first_broken) .none kV19 dc19 pm19 an19 cd19 ct19), sl19⟩)
    (c19 : PySem.W.codeIn K cd19 "_first_broken" = true)
    (k19 : PySem.W.keepIn K (.ref f19) = true)
    (a20 : PySem.W.nsIn K mainGlobals "_leaving" = some (some (.ref f20)))
    (l20 : K.lookup f20 = some ⟨oc20, od20, .func (PySem.W.fnOf "_leaving" "_leaving" (defArgs s__leaving) (defBody s__leaving) (defScope s__leaving) .none kV20 dc20 pm20 an20 cd20 ct20), sl20⟩)
    (c20 : PySem.W.codeIn K cd20 "_leaving" = true)
    (k20 : PySem.W.keepIn K (.ref f20) = true)
    (a21 : PySem.W.nsIn K mainGlobals "_is_sooner" = some (some (.ref f21)))
    (l21 : K.lookup f21 = some ⟨oc21, od21, .func (PySem.W.fnOf "_is_sooner" "_is_sooner" (defArgs s__is_sooner) (defBody s__is_sooner) (defScope s__is_sooner) .none kV21 dc21 pm21 an21 cd21 ct21), sl21⟩)
    (c21 : PySem.W.codeIn K cd21 "_is_sooner" = true)
    (k21 : PySem.W.keepIn K (.ref f21) = true)
    (a22 : PySem.W.nsIn K mainGlobals "_placed" = some (some (.ref f22)))
    (l22 : K.lookup f22 = some ⟨oc22, od22, .func (PySem.W.fnOf "_placed" "_placed" (defArgs s__placed) (defBody s__placed) (defScope s__placed) .none kV22 dc22 pm22 an22 cd22 ct22), sl22⟩)
    (c22 : PySem.W.codeIn K cd22 "_placed" = true)
    (k22 : PySem.W.keepIn K (.ref f22) = true)
    (a23 : PySem.W.nsIn K mainGlobals "settle" = some (some (.ref f23)))
    (l23 : K.lookup f23 = some ⟨oc23, od23, .func (PySem.W.fnOf "settle" "settle" (defArgs s_settle) (defBody s_settle) (defScope s_settle) .none kV23 dc23 pm23 an23 cd23 ct23), sl23⟩)
    (c23 : PySem.W.codeIn K cd23 "settle" = true)
    (k23 : PySem.W.keepIn K (.ref f23) = true)
    (a24 : PySem.W.nsIn K mainGlobals "_settled" = some (some (.ref f24)))
    (l24 : K.lookup f24 = some ⟨oc24, od24, .func (PySem.W.fnOf "_settled" "_settled" (defArgs s__settled) (defBody s__settled) (defScope s__settled) .none kV24 dc24 pm24 an24 cd24 ct24), sl24⟩)
    (c24 : PySem.W.codeIn K cd24 "_settled" = true)
    (k24 : PySem.W.keepIn K (.ref f24) = true)
    (a25 : PySem.W.nsIn K mainGlobals "_start" = some (some (.ref f25)))
    (l25 : K.lookup f25 = some ⟨oc25, od25, .func (PySem.W.fnOf "_start" "_start" (defArgs s__start) (defBody s__start) (defScope s__start) .none kV25 dc25 pm25 an25 cd25 ct25), sl25⟩)
    (c25 : PySem.W.codeIn K cd25 "_start" = true)
    (k25 : PySem.W.keepIn K (.ref f25) = true)
    (a26 : PySem.W.nsIn K mainGlobals "_size" = some (some (.ref f26)))
    (l26 : K.lookup f26 = some ⟨oc26, od26, .func (PySem.W.fnOf "_size" "_size" (defArgs s__size) (defBody s__size) (defScope s__size) .none kV26 dc26 pm26 an26 cd26 ct26), sl26⟩)
    (c26 : PySem.W.codeIn K cd26 "_size" = true)
    (k26 : PySem.W.keepIn K (.ref f26) = true)
    (a27 : PySem.W.nsIn K mainGlobals "_top" = some (some (.ref f27)))
    (l27 : K.lookup f27 = some ⟨oc27, od27, .func (PySem.W.fnOf "_top" "_top" (defArgs s__top) (defBody s__top) (defScope s__top) .none kV27 dc27 pm27 an27 cd27 ct27), sl27⟩)
    (c27 : PySem.W.codeIn K cd27 "_top" = true)
    (k27 : PySem.W.keepIn K (.ref f27) = true)
    (a28 : PySem.W.nsIn K mainGlobals "_whole" = some (some (.ref f28)))
    (l28 : K.lookup f28 = some ⟨oc28, od28, .func (PySem.W.fnOf "_whole" "_whole" (defArgs s__whole) (defBody s__whole) (defScope s__whole) .none kV28 dc28 pm28 an28 cd28 ct28), sl28⟩)
    (c28 : PySem.W.codeIn K cd28 "_whole" = true)
    (k28 : PySem.W.keepIn K (.ref f28) = true)
    (a29 : PySem.W.nsIn K mainGlobals "_check_box_and_wishes" = some (some (.ref f29)))
    (l29 : K.lookup f29 = some ⟨oc29, od29, .func (PySem.W.fnOf "_check_box_and_wishes" "_check_box_and_wishes" (defArgs s__check_box_and_wishes) (defBody s__check_box_and_wishes) (defScope s__check_box_and_wishes) .none kV29 dc29 pm29 an29 cd29 ct29), sl29⟩)
    (c29 : PySem.W.codeIn K cd29 "_check_box_and_wishes" = true)
    (k29 : PySem.W.keepIn K (.ref f29) = true)
    (a30 : PySem.W.nsIn K mainGlobals "_check_each" = some (some (.ref f30)))
    (l30 : K.lookup f30 = some ⟨oc30, od30, .func (PySem.W.fnOf "_check_each" "_check_each" (defArgs s__check_each) (defBody s__check_each) (defScope s__check_each) .none kV30 dc30 pm30 an30 cd30 ct30), sl30⟩)
    (c30 : PySem.W.codeIn K cd30 "_check_each" = true)
    (k30 : PySem.W.keepIn K (.ref f30) = true)
    (a31 : PySem.W.nsIn K mainGlobals "_check_aim" = some (some (.ref f31)))
    (l31 : K.lookup f31 = some ⟨oc31, od31, .func (PySem.W.fnOf "_check_aim" "_check_aim" (defArgs s__check_aim) (defBody s__check_aim) (defScope s__check_aim) .none kV31 dc31 pm31 an31 cd31 ct31), sl31⟩)
    (c31 : PySem.W.codeIn K cd31 "_check_aim" = true)
    (k31 : PySem.W.keepIn K (.ref f31) = true)
    (a32 : PySem.W.nsIn K mainGlobals "_law_cell" = some (some (.ref f32)))
    (l32 : K.lookup f32 = some ⟨oc32, od32, .func (PySem.W.fnOf "_law_cell" "_law_cell" (defArgs s__law_cell) (defBody s__law_cell) (defScope s__law_cell) .none kV32 dc32 pm32 an32 cd32 ct32), sl32⟩)
    (c32 : PySem.W.codeIn K cd32 "_law_cell" = true)
    (k32 : PySem.W.keepIn K (.ref f32) = true)
    (a33 : PySem.W.nsIn K mainGlobals "_law_stream" = some (some (.ref f33)))
    (l33 : K.lookup f33 = some ⟨oc33, od33, .func (PySem.W.fnOf "_law_stream" "_law_stream" (defArgs s__law_stream) (defBody s__law_stream) (defScope s__law_stream) .none kV33 dc33 pm33 an33 cd33 ct33), sl33⟩)
    (c33 : PySem.W.codeIn K cd33 "_law_stream" = true)
    (k33 : PySem.W.keepIn K (.ref f33) = true)
    (a34 : PySem.W.nsIn K mainGlobals "_law_take" = some (some (.ref f34)))
    (l34 : K.lookup f34 = some ⟨oc34, od34, .func (PySem.W.fnOf "_law_take" "_law_take" (defArgs s__law_take) (defBody s__law_take) (defScope s__law_take) .none kV34 dc34 pm34 an34 cd34 ct34), sl34⟩)
    (c34 : PySem.W.codeIn K cd34 "_law_take" = true)
    (k34 : PySem.W.keepIn K (.ref f34) = true)
    (a35 : PySem.W.nsIn K mainGlobals "_law_common" = some (some (.ref f35)))
    (l35 : K.lookup f35 = some ⟨oc35, od35, .func (PySem.W.fnOf "_law_common" "_law_common" (defArgs s__law_common) (defBody s__law_common) (defScope s__law_common) .none kV35 dc35 pm35 an35 cd35 ct35), sl35⟩)
    (c35 : PySem.W.codeIn K cd35 "_law_common" = true)
    (k35 : PySem.W.keepIn K (.ref f35) = true)
    (a36 : PySem.W.nsIn K mainGlobals "_law_fraction" = some (some (.ref f36)))
    (l36 : K.lookup f36 = some ⟨oc36, od36, .func (PySem.W.fnOf "_law_fraction" "_law_fraction" (defArgs s__law_fraction) (defBody s__law_fraction) (defScope s__law_fraction) .none kV36 dc36 pm36 an36 cd36 ct36), sl36⟩)
    (c36 : PySem.W.codeIn K cd36 "_law_fraction" = true)
    (k36 : PySem.W.keepIn K (.ref f36) = true)
    (a37 : PySem.W.nsIn K mainGlobals "_law_plus" = some (some (.ref f37)))
    (l37 : K.lookup f37 = some ⟨oc37, od37, .func (PySem.W.fnOf "_law_plus" "_law_plus" (defArgs s__law_plus) (defBody s__law_plus) (defScope s__law_plus) .none kV37 dc37 pm37 an37 cd37 ct37), sl37⟩)
    (c37 : PySem.W.codeIn K cd37 "_law_plus" = true)
    (k37 : PySem.W.keepIn K (.ref f37) = true)
    (a38 : PySem.W.nsIn K mainGlobals "_law_times" = some (some (.ref f38)))
    (l38 : K.lookup f38 = some ⟨oc38, od38, .func (PySem.W.fnOf "_law_times" "_law_times" (defArgs s__law_times) (defBody s__law_times) (defScope s__law_times) .none kV38 dc38 pm38 an38 cd38 ct38), sl38⟩)
    (c38 : PySem.W.codeIn K cd38 "_law_times" = true)
    (k38 : PySem.W.keepIn K (.ref f38) = true)
    (a39 : PySem.W.nsIn K mainGlobals "_law_less" = some (some (.ref f39)))
    (l39 : K.lookup f39 = some ⟨oc39, od39, .func (PySem.W.fnOf "_law_less" "_law_less" (defArgs s__law_less) (defBody s__law_less) (defScope s__law_less) .none kV39 dc39 pm39 an39 cd39 ct39), sl39⟩)
    (c39 : PySem.W.codeIn K cd39 "_law_less" = true)
    (k39 : PySem.W.keepIn K (.ref f39) = true)
    (a40 : PySem.W.nsIn K mainGlobals "_law_weighed" = some (some (.ref f40)))
    (l40 : K.lookup f40 = some ⟨oc40, od40, .func (PySem.W.fnOf "_law_weighed" "_law_weighed" (defArgs s__law_weighed) (defBody s__law_weighed) (defScope s__law_weighed) .none kV40 dc40 pm40 an40 cd40 ct40), sl40⟩)
    (c40 : PySem.W.codeIn K cd40 "_law_weighed" = true)
    (k40 : PySem.W.keepIn K (.ref f40) = true)
    (a41 : PySem.W.nsIn K mainGlobals "_law_number" = some (some (.ref f41)))
    (l41 : K.lookup f41 = some ⟨oc41, od41, .func (PySem.W.fnOf "_law_number" "_law_number" (defArgs s__law_number) (defBody s__law_number) (defScope s__law_number) .none kV41 dc41 pm41 an41 cd41 ct41), sl41⟩)
    (c41 : PySem.W.codeIn K cd41 "_law_number" = true)
    (k41 : PySem.W.keepIn K (.ref f41) = true)
    (a42 : PySem.W.nsIn K mainGlobals "_law_box" = some (some (.ref f42)))
    (l42 : K.lookup f42 = some ⟨oc42, od42, .func (PySem.W.fnOf "_law_box" "_law_box" (defArgs s__law_box) (defBody s__law_box) (defScope s__law_box) .none kV42 dc42 pm42 an42 cd42 ct42), sl42⟩)
    (c42 : PySem.W.codeIn K cd42 "_law_box" = true)
    (k42 : PySem.W.keepIn K (.ref f42) = true)
    (a43 : PySem.W.nsIn K mainGlobals "_law_row" = some (some (.ref f43)))
    (l43 : K.lookup f43 = some ⟨oc43, od43, .func (PySem.W.fnOf "_law_row" "_law_row" (defArgs s__law_row) (defBody s__law_row) (defScope s__law_row) .none kV43 dc43 pm43 an43 cd43 ct43), sl43⟩)
    (c43 : PySem.W.codeIn K cd43 "_law_row" = true)
    (k43 : PySem.W.keepIn K (.ref f43) = true)
    (a44 : PySem.W.nsIn K mainGlobals "_law_wish" = some (some (.ref f44)))
    (l44 : K.lookup f44 = some ⟨oc44, od44, .func (PySem.W.fnOf "_law_wish" "_law_wish" (defArgs s__law_wish) (defBody s__law_wish) (defScope s__law_wish) .none kV44 dc44 pm44 an44 cd44 ct44), sl44⟩)
    (c44 : PySem.W.codeIn K cd44 "_law_wish" = true)
    (k44 : PySem.W.keepIn K (.ref f44) = true)
    (a45 : PySem.W.nsIn K mainGlobals "_law_wishes" = some (some (.ref f45)))
    (l45 : K.lookup f45 = some ⟨oc45, od45, .func (PySem.W.fnOf "_law_wishes" "_law_wishes" (defArgs s__law_wishes) (defBody s__law_wishes) (defScope s__law_wishes) .none kV45 dc45 pm45 an45 cd45 ct45), sl45⟩)
    (c45 : PySem.W.codeIn K cd45 "_law_wishes" = true)
    (k45 : PySem.W.keepIn K (.ref f45) = true)
    (a46 : PySem.W.nsIn K mainGlobals "_law_box_wishes" = some (some (.ref f46)))
    (l46 : K.lookup f46 = some ⟨oc46, od46, .func (PySem.W.fnOf "_law_box_wishes" "_law_box_wishes" (defArgs s__law_box_wishes) (defBody s__law_box_wishes) (defScope s__law_box_wishes) .none kV46 dc46 pm46 an46 cd46 ct46), sl46⟩)
    (c46 : PySem.W.codeIn K cd46 "_law_box_wishes" = true)
    (k46 : PySem.W.keepIn K (.ref f46) = true)
    (a47 : PySem.W.nsIn K mainGlobals "_law_minus" = some (some (.ref f47)))
    (l47 : K.lookup f47 = some ⟨oc47, od47, .func (PySem.W.fnOf "_law_minus" "_law_minus" (defArgs s__law_minus) (defBody s__law_minus) (defScope s__law_minus) .none kV47 dc47 pm47 an47 cd47 ct47), sl47⟩)
    (c47 : PySem.W.codeIn K cd47 "_law_minus" = true)
    (k47 : PySem.W.keepIn K (.ref f47) = true)
    (a48 : PySem.W.nsIn K mainGlobals "_law_ratio" = some (some (.ref f48)))
    (l48 : K.lookup f48 = some ⟨oc48, od48, .func (PySem.W.fnOf "_law_ratio" "_law_ratio" (defArgs s__law_ratio) (defBody s__law_ratio) (defScope s__law_ratio) .none kV48 dc48 pm48 an48 cd48 ct48), sl48⟩)
    (c48 : PySem.W.codeIn K cd48 "_law_ratio" = true)
    (k48 : PySem.W.keepIn K (.ref f48) = true)
    (a49 : PySem.W.nsIn K mainGlobals "_law_meet" = some (some (.ref f49)))
    (l49 : K.lookup f49 = some ⟨oc49, od49, .func (PySem.W.fnOf "_law_meet" "_law_meet" (defArgs s__law_meet) (defBody s__law_meet) (defScope s__law_meet) .none kV49 dc49 pm49 an49 cd49 ct49), sl49⟩)
    (c49 : PySem.W.codeIn K cd49 "_law_meet" = true)
    (k49 : PySem.W.keepIn K (.ref f49) = true)
    (a50 : PySem.W.nsIn K mainGlobals "_law_corners" = some (some (.ref f50)))
    (l50 : K.lookup f50 = some ⟨oc50, od50, .func (PySem.W.fnOf "_law_corners" "_law_corners" (defArgs s__law_corners) (defBody s__law_corners) (defScope s__law_corners) .none kV50 dc50 pm50 an50 cd50 ct50), sl50⟩)
    (c50 : PySem.W.codeIn K cd50 "_law_corners" = true)
    (k50 : PySem.W.keepIn K (.ref f50) = true)
    (a51 : PySem.W.nsIn K mainGlobals "_law_stands" = some (some (.ref f51)))
    (l51 : K.lookup f51 = some ⟨oc51, od51, .func (PySem.W.fnOf "_law_stands" "_law_stands" (defArgs s__law_stands) (defBody s__law_stands) (defScope s__law_stands) .none kV51 dc51 pm51 an51 cd51 ct51), sl51⟩)
    (c51 : PySem.W.codeIn K cd51 "_law_stands" = true)
    (k51 : PySem.W.keepIn K (.ref f51) = true)
    (a52 : PySem.W.nsIn K mainGlobals "_law_box_of" = some (some (.ref f52)))
    (l52 : K.lookup f52 = some ⟨oc52, od52, .func (PySem.W.fnOf "_law_box_of" "_law_box_of" (defArgs s__law_box_of) (defBody s__law_box_of) (defScope s__law_box_of) .none kV52 dc52 pm52 an52 cd52 ct52), sl52⟩)
    (c52 : PySem.W.codeIn K cd52 "_law_box_of" = true)
    (k52 : PySem.W.keepIn K (.ref f52) = true)
    (a53 : PySem.W.nsIn K mainGlobals "law" = some (some (.ref f53)))
    (l53 : K.lookup f53 = some ⟨oc53, od53, .func (PySem.W.fnOf "law" "law" (defArgs s_law) (defBody s_law) (defScope s_law) .none kV53 dc53 pm53 an53 cd53 ct53), sl53⟩)
    (c53 : PySem.W.codeIn K cd53 "law" = true)
    (k53 : PySem.W.keepIn K (.ref f53) = true)
    (z_len : PySem.W.nsIn K mainGlobals "len" = some none)
    (z_range : PySem.W.nsIn K mainGlobals "range" = some none)
    (z_zip : PySem.W.nsIn K mainGlobals "zip" = some none)
    (z_tuple : PySem.W.nsIn K mainGlobals "tuple" = some none)
    (z_int : PySem.W.nsIn K mainGlobals "int" = some none)
    (z_abs : PySem.W.nsIn K mainGlobals "abs" = some none)
    (z_isinstance : PySem.W.nsIn K mainGlobals "isinstance" = some none)
    (z_bool : PySem.W.nsIn K mainGlobals "bool" = some none)
    (z_list : PySem.W.nsIn K mainGlobals "list" = some none)
    (z_max : PySem.W.nsIn K mainGlobals "max" = some none)
    (z_min : PySem.W.nsIn K mainGlobals "min" = some none)
    (z_all : PySem.W.nsIn K mainGlobals "all" = some none)
    (z_enumerate : PySem.W.nsIn K mainGlobals "enumerate" = some none)
    (zgcd : PySem.W.nsIn K mainGlobals "gcd" = some (some (.builtin "math.gcd")))
    (nNOUGHT : PySem.W.nsIn K mainGlobals "NOUGHT" = some (some (.ref aCNOUGHT)))
    (vNOUGHT : K.lookup aCNOUGHT = some ⟨.type "tuple", dCNOUGHT, .seq #[.int 0 t1NOUGHT, .int 1 t2NOUGHT] nCNOUGHT, slCNOUGHT⟩)
    (nONE : PySem.W.nsIn K mainGlobals "ONE" = some (some (.ref aCONE)))
    (vONE : K.lookup aCONE = some ⟨.type "tuple", dCONE, .seq #[.int 1 t1ONE, .int 1 t2ONE] nCONE, slCONE⟩)
    (nMINUS_ONE : PySem.W.nsIn K mainGlobals "MINUS_ONE" = some (some (.ref aCMINUS_ONE)))
    (vMINUS_ONE : K.lookup aCMINUS_ONE = some ⟨.type "tuple", dCMINUS_ONE, .seq #[.int (-1) t1MINUS_ONE, .int 1 t2MINUS_ONE] nCMINUS_ONE, slCMINUS_ONE⟩)
    (aCM : PySem.W.nsIn K mainGlobals "Most" = some (some (.ref CM)))
    (pgCM : PySem.W.plainGet K CM Str.empty = true)
    (hdCM : PySem.W.hasDictIn K CM = true)
    (poCM : PySem.W.plainOver K CM = true)
    (saCM : PySem.W.findIn K (.ref CM) "__setattr__" = some (some (.builtin "object.__setattr__")))
    (mkCM : PySem.W.makesIn K CM = true)
    (kcCM : PySem.W.keepIn K (.ref CM) = true)
    (iiCM : PySem.W.findIn K (.ref CM) "__init__" = some (some (.ref fMI)))
    (haCM : PySem.W.findIn K (.ref CM) "__class__" = some (some (.builtin "object.__class__")))
    (hmCM : PySem.W.mroIn K CM (.type "object") = some true)
    (meCM : PySem.W.kitOne K (.ref CM) (.ref CM) = some true)
    (nmCM : PySem.W.findIn K (.ref CM) "multiples" = some none)
    (nsCM : PySem.W.findIn K (.ref CM) "spot" = some none)
    (aCE : PySem.W.nsIn K mainGlobals "Empty" = some (some (.ref CE)))
    (pgCE : PySem.W.plainGet K CE Str.empty = true)
    (hdCE : PySem.W.hasDictIn K CE = true)
    (poCE : PySem.W.plainOver K CE = true)
    (saCE : PySem.W.findIn K (.ref CE) "__setattr__" = some (some (.builtin "object.__setattr__")))
    (mkCE : PySem.W.makesIn K CE = true)
    (kcCE : PySem.W.keepIn K (.ref CE) = true)
    (iiCE : PySem.W.findIn K (.ref CE) "__init__" = some (some (.ref fEI)))
    (haCE : PySem.W.findIn K (.ref CE) "__class__" = some (some (.builtin "object.__class__")))
    (hmCE : PySem.W.mroIn K CE (.type "object") = some true)
    (meCE : PySem.W.kitOne K (.ref CE) (.ref CE) = some true)
    (nmCE : PySem.W.findIn K (.ref CE) "multiples" = some none)
    (hnO : PySem.W.specialIn K (.builtin "object.__class__") "__get__" = some (some (.builtin "getset_descriptor.__get__")))
    (htO : PySem.W.takesIn K (.builtin "object.__class__") = some true)
    (ktEM : PySem.W.kitOne K (.ref CE) (.ref CM) = some false)
    (qMI : PySem.W.isFn K (.ref fMI) = true)
    (lMI : K.lookup fMI = some ⟨oc_MI, od_MI, .func (PySem.W.fnOf "__init__" "Most.__init__" (defArgs s_Most___init__) (defBody s_Most___init__) (defScope s_Most___init__) .none kV_MI dc_MI pm_MI an_MI cd_MI ct_MI), sl_MI⟩)
    (cMI : PySem.W.codeIn K cd_MI "Most.__init__" = true)
    (kMI : PySem.W.keepIn K (.ref fMI) = true)
    (qEI : PySem.W.isFn K (.ref fEI) = true)
    (lEI : K.lookup fEI = some ⟨oc_EI, od_EI, .func (PySem.W.fnOf "__init__" "Empty.__init__" (defArgs s_Empty___init__) (defBody s_Empty___init__) (defScope s_Empty___init__) .none kV_EI dc_EI pm_EI an_EI cd_EI ct_EI), sl_EI⟩)
    (cEI : PySem.W.codeIn K cd_EI "Empty.__init__" = true)
    (kEI : PySem.W.keepIn K (.ref fEI) = true)
    (wMhas_spot : PySem.W.findIn K (.ref CM) "has_spot" = some (some (.ref fMhas_spot)))
    (qMhas_spot : PySem.W.isFn K (.ref fMhas_spot) = true)
    (lMhas_spot : K.lookup fMhas_spot = some ⟨oc_Mhas_spot, od_Mhas_spot, .func (PySem.W.fnOf "has_spot" "Most.has_spot" (defArgs s_Most_has_spot) (defBody s_Most_has_spot) (defScope s_Most_has_spot) .none kV_Mhas_spot dc_Mhas_spot pm_Mhas_spot an_Mhas_spot cd_Mhas_spot ct_Mhas_spot), sl_Mhas_spot⟩)
    (cMhas_spot : PySem.W.codeIn K cd_Mhas_spot "Most.has_spot" = true)
    (kMhas_spot : PySem.W.keepIn K (.ref fMhas_spot) = true)
    (wEhas_spot : PySem.W.findIn K (.ref CE) "has_spot" = some (some (.ref fEhas_spot)))
    (qEhas_spot : PySem.W.isFn K (.ref fEhas_spot) = true)
    (lEhas_spot : K.lookup fEhas_spot = some ⟨oc_Ehas_spot, od_Ehas_spot, .func (PySem.W.fnOf "has_spot" "Empty.has_spot" (defArgs s_Empty_has_spot) (defBody s_Empty_has_spot) (defScope s_Empty_has_spot) .none kV_Ehas_spot dc_Ehas_spot pm_Ehas_spot an_Ehas_spot cd_Ehas_spot ct_Ehas_spot), sl_Ehas_spot⟩)
    (cEhas_spot : PySem.W.codeIn K cd_Ehas_spot "Empty.has_spot" = true)
    (kEhas_spot : PySem.W.keepIn K (.ref fEhas_spot) = true)
    (nD : PySem.W.nsIn K mainGlobals "DUMMIES" = some (some (.ref aD)))
    (vD : K.lookup aD = some ⟨.type "tuple", dD, .seq #[.ref aD1, .ref aD2] nnD, slD⟩)
    (vD1 : K.lookup aD1 = some ⟨.type "tuple", dD1, .seq #[.int 0 u1, .int 1 u2, .int 0 u3, .int 0 u4] nD1, slD1⟩)
    (vD2 : K.lookup aD2 = some ⟨.type "tuple", dD2, .seq #[.int 0 u5, .int 0 u6, .int 1 u7, .int 0 u8] nD2, slD2⟩)
    (zlcm : PySem.W.nsIn K mainGlobals "lcm" = some (some (.builtin "math.lcm")))
    (iMP : PySem.W.nsIn K mainGlobals "MOST_PLACES" = some (some (.int 3 t_MP)))
    (iMW : PySem.W.nsIn K mainGlobals "MOST_WISHES" = some (some (.int 16 t_MW)))
    (iPL : PySem.W.nsIn K mainGlobals "PLACES" = some (some (.int 3 t_PL)))
    : ∃ fd : FuncData, (∀ (s : Shared) (v : Value), BindsTo s fd ⟨[v], []⟩ [("_law_script", v)]) ∧ ∀ base : Heap, K.In base → base.Ns mainGlobals mg → FnOk l.prog w K mg base CX0 10 fa fd ["_law_script"] (spLaw K) := by
  have e := hfa.symm.trans (PySem.W.mg_of X G a53)
  cases e
  have D_is_whole : Df K mg "is_whole" s_is_whole ["thing"] := Df.of X G a0 l0 c0 k0 fun _ _ _ _ _ _ us hl => match us, hl with | [_], _ => rfl
  have D_is_fraction : Df K mg "is_fraction" s_is_fraction ["thing"] := Df.of X G a1 l1 c1 k1 fun _ _ _ _ _ _ us hl => match us, hl with | [_], _ => rfl
  have D_is_row : Df K mg "is_row" s_is_row ["thing", "many"] := Df.of X G a2 l2 c2 k2 fun _ _ _ _ _ _ us hl => match us, hl with | [_, _], _ => rfl
  have D_fraction_of : Df K mg "fraction_of" s_fraction_of ["top", "bottom"] := Df.of X G a3 l3 c3 k3 fun _ _ _ _ _ _ us hl => match us, hl with | [_, _], _ => rfl
  have D_times : Df K mg "times" s_times ["one", "other"] := Df.of X G a4 l4 c4 k4 fun _ _ _ _ _ _ us hl => match us, hl with | [_, _], _ => rfl
  have D_is_less : Df K mg "is_less" s_is_less ["one", "other"] := Df.of X G a5 l5 c5 k5 fun _ _ _ _ _ _ us hl => match us, hl with | [_, _], _ => rfl
  have D_is_sum : Df K mg "is_sum" s_is_sum ["thing", "many"] := Df.of X G a6 l6 c6 k6 fun _ _ _ _ _ _ us hl => match us, hl with | [_, _], _ => rfl
  have D_sum_times : Df K mg "sum_times" s_sum_times ["by", "one"] := Df.of X G a7 l7 c7 k7 fun _ _ _ _ _ _ us hl => match us, hl with | [_, _], _ => rfl
  have D_place_sum : Df K mg "place_sum" s_place_sum ["many", "place"] := Df.of X G a8 l8 c8 k8 fun _ _ _ _ _ _ us hl => match us, hl with | [_, _], _ => rfl
  have D_is_box : Df K mg "is_box" s_is_box ["thing"] := Df.of X G a9 l9 c9 k9 fun _ _ _ _ _ _ us hl => match us, hl with | [_], _ => rfl
  have D_box_wishes : Df K mg "box_wishes" s_box_wishes ["box"] := Df.of X G a10 l10 c10 k10 fun _ _ _ _ _ _ us hl => match us, hl with | [_], _ => rfl
  have D_check_box : Df K mg "check_box" s_check_box ["thing"] := Df.of X G a11 l11 c11 k11 fun _ _ _ _ _ _ us hl => match us, hl with | [_], _ => rfl
  have D__is_span : Df K mg "_is_span" s__is_span ["thing"] := Df.of X G a12 l12 c12 k12 fun _ _ _ _ _ _ us hl => match us, hl with | [_], _ => rfl
  have D_walk : Df K mg "walk" s_walk ["wishes", "aim", "start"] := Df.of X G a13 l13 c13 k13 fun _ _ _ _ _ _ us hl => match us, hl with | [_, _, _], _ => rfl
  have D__columns : Df K mg "_columns" s__columns ["rows"] := Df.of X G a14 l14 c14 k14 fun _ _ _ _ _ _ us hl => match us, hl with | [_], _ => rfl
  have D__across : Df K mg "_across" s__across ["one", "other"] := Df.of X G a15 l15 c15 k15 fun _ _ _ _ _ _ us hl => match us, hl with | [_, _], _ => rfl
  have D__weigh : Df K mg "_weigh" s__weigh ["one", "other"] := Df.of X G a16 l16 c16 k16 fun _ _ _ _ _ _ us hl => match us, hl with | [_, _], _ => rfl
  have D__spot : Df K mg "_spot" s__spot ["numbers", "columns"] := Df.of X G a17 l17 c17 k17 fun _ _ _ _ _ _ us hl => match us, hl with | [_, _], _ => rfl
  have D__shares : Df K mg "_shares" s__shares ["row", "columns"] := Df.of X G a18 l18 c18 k18 fun _ _ _ _ _ _ us hl => match us, hl with | [_, _], _ => rfl
  have D__first_broken : Df K mg "_first_broken" s__first_broken ["wishes", "spot", "bottom"] := Df.of X G a19 l19 c19 k19 fun _ _ _ _ _ _ us hl => match us, hl with | [_, _, _], _ => rfl
  have D__leaving : Df K mg "_leaving" s__leaving ["held", "shares", "loads"] := Df.of X G a20 l20 c20 k20 fun _ _ _ _ _ _ us hl => match us, hl with | [_, _, _], _ => rfl
  have D__is_sooner : Df K mg "_is_sooner" s__is_sooner ["at", "best", "held", "shares", "loads"] := Df.of X G a21 l21 c21 k21 fun _ _ _ _ _ _ us hl => match us, hl with | [_, _, _, _, _], _ => rfl
  have D__placed : Df K mg "_placed" s__placed ["many", "held", "shares"] := Df.of X G a22 l22 c22 k22 fun _ _ _ _ _ _ us hl => match us, hl with | [_, _, _], _ => rfl
  have D_settle : Df K mg "settle" s_settle ["box", "wishes", "aim"] := Df.of X G a23 l23 c23 k23 fun _ _ _ _ _ _ us hl => match us, hl with | [_, _, _], _ => rfl
  have D__settled : Df K mg "_settled" s__settled ["asked", "aim"] := Df.of X G a24 l24 c24 k24 fun _ _ _ _ _ _ us hl => match us, hl with | [_, _], _ => rfl
  have D__start : Df K mg "_start" s__start ["aim", "many"] := Df.of X G a25 l25 c25 k25 fun _ _ _ _ _ _ us hl => match us, hl with | [_, _], _ => rfl
  have D__size : Df K mg "_size" s__size ["fractions"] := Df.of X G a26 l26 c26 k26 fun _ _ _ _ _ _ us hl => match us, hl with | [_], _ => rfl
  have D__top : Df K mg "_top" s__top ["one", "size"] := Df.of X G a27 l27 c27 k27 fun _ _ _ _ _ _ us hl => match us, hl with | [_, _], _ => rfl
  have D__whole : Df K mg "_whole" s__whole ["row", "many", "size"] := Df.of X G a28 l28 c28 k28 fun _ _ _ _ _ _ us hl => match us, hl with | [_, _, _], _ => rfl
  have D__check_box_and_wishes : Df K mg "_check_box_and_wishes" s__check_box_and_wishes ["box", "wishes"] := Df.of X G a29 l29 c29 k29 fun _ _ _ _ _ _ us hl => match us, hl with | [_, _], _ => rfl
  have D__check_each : Df K mg "_check_each" s__check_each ["wishes", "many"] := Df.of X G a30 l30 c30 k30 fun _ _ _ _ _ _ us hl => match us, hl with | [_, _], _ => rfl
  have D__check_aim : Df K mg "_check_aim" s__check_aim ["box", "wishes", "aim"] := Df.of X G a31 l31 c31 k31 fun _ _ _ _ _ _ us hl => match us, hl with | [_, _, _], _ => rfl
  have D__law_cell : Df K mg "_law_cell" s__law_cell ["_law_script", "_law_k"] := Df.of X G a32 l32 c32 k32 fun _ _ _ _ _ _ us hl => match us, hl with | [_, _], _ => rfl
  have D__law_stream : Df K mg "_law_stream" s__law_stream ["_law_cell_here"] := Df.of X G a33 l33 c33 k33 fun _ _ _ _ _ _ us hl => match us, hl with | [_], _ => rfl
  have D__law_take : Df K mg "_law_take" s__law_take ["_law_stream_here", "_law_many"] := Df.of X G a34 l34 c34 k34 fun _ _ _ _ _ _ us hl => match us, hl with | [_, _], _ => rfl
  have D__law_common : Df K mg "_law_common" s__law_common ["_law_one", "_law_other"] := Df.of X G a35 l35 c35 k35 fun _ _ _ _ _ _ us hl => match us, hl with | [_, _], _ => rfl
  have D__law_fraction : Df K mg "_law_fraction" s__law_fraction ["_law_top", "_law_bottom"] := Df.of X G a36 l36 c36 k36 fun _ _ _ _ _ _ us hl => match us, hl with | [_, _], _ => rfl
  have D__law_plus : Df K mg "_law_plus" s__law_plus ["_law_one", "_law_other"] := Df.of X G a37 l37 c37 k37 fun _ _ _ _ _ _ us hl => match us, hl with | [_, _], _ => rfl
  have D__law_times : Df K mg "_law_times" s__law_times ["_law_one", "_law_other"] := Df.of X G a38 l38 c38 k38 fun _ _ _ _ _ _ us hl => match us, hl with | [_, _], _ => rfl
  have D__law_less : Df K mg "_law_less" s__law_less ["_law_one", "_law_other"] := Df.of X G a39 l39 c39 k39 fun _ _ _ _ _ _ us hl => match us, hl with | [_, _], _ => rfl
  have D__law_weighed : Df K mg "_law_weighed" s__law_weighed ["_law_row_here", "_law_spot"] := Df.of X G a40 l40 c40 k40 fun _ _ _ _ _ _ us hl => match us, hl with | [_, _], _ => rfl
  have D__law_number : Df K mg "_law_number" s__law_number ["_law_stream_here"] := Df.of X G a41 l41 c41 k41 fun _ _ _ _ _ _ us hl => match us, hl with | [_], _ => rfl
  have D__law_box : Df K mg "_law_box" s__law_box ["_law_stream_here"] := Df.of X G a42 l42 c42 k42 fun _ _ _ _ _ _ us hl => match us, hl with | [_], _ => rfl
  have D__law_row : Df K mg "_law_row" s__law_row ["_law_stream_here", "_law_many"] := Df.of X G a43 l43 c43 k43 fun _ _ _ _ _ _ us hl => match us, hl with | [_, _], _ => rfl
  have D__law_wish : Df K mg "_law_wish" s__law_wish ["_law_stream_here", "_law_many"] := Df.of X G a44 l44 c44 k44 fun _ _ _ _ _ _ us hl => match us, hl with | [_, _], _ => rfl
  have D__law_wishes : Df K mg "_law_wishes" s__law_wishes ["_law_stream_here", "_law_box_here"] := Df.of X G a45 l45 c45 k45 fun _ _ _ _ _ _ us hl => match us, hl with | [_, _], _ => rfl
  have D__law_box_wishes : Df K mg "_law_box_wishes" s__law_box_wishes ["_law_box_here"] := Df.of X G a46 l46 c46 k46 fun _ _ _ _ _ _ us hl => match us, hl with | [_], _ => rfl
  have D__law_minus : Df K mg "_law_minus" s__law_minus ["_law_one", "_law_other"] := Df.of X G a47 l47 c47 k47 fun _ _ _ _ _ _ us hl => match us, hl with | [_, _], _ => rfl
  have D__law_ratio : Df K mg "_law_ratio" s__law_ratio ["_law_one", "_law_other"] := Df.of X G a48 l48 c48 k48 fun _ _ _ _ _ _ us hl => match us, hl with | [_, _], _ => rfl
  have D__law_meet : Df K mg "_law_meet" s__law_meet ["_law_one", "_law_other"] := Df.of X G a49 l49 c49 k49 fun _ _ _ _ _ _ us hl => match us, hl with | [_, _], _ => rfl
  have D__law_corners : Df K mg "_law_corners" s__law_corners ["_law_rows", "_law_many"] := Df.of X G a50 l50 c50 k50 fun _ _ _ _ _ _ us hl => match us, hl with | [_, _], _ => rfl
  have D__law_stands : Df K mg "_law_stands" s__law_stands ["_law_rows", "_law_spot"] := Df.of X G a51 l51 c51 k51 fun _ _ _ _ _ _ us hl => match us, hl with | [_, _], _ => rfl
  have D__law_box_of : Df K mg "_law_box_of" s__law_box_of ["_law_stream_here"] := Df.of X G a52 l52 c52 k52 fun _ _ _ _ _ _ us hl => match us, hl with | [_], _ => rfl
  have mlen := PySem.W.mg_none_of X G z_len
  have mrange := PySem.W.mg_none_of X G z_range
  have mzip := PySem.W.mg_none_of X G z_zip
  have mtuple := PySem.W.mg_none_of X G z_tuple
  have mint := PySem.W.mg_none_of X G z_int
  have mabs := PySem.W.mg_none_of X G z_abs
  have misinstance := PySem.W.mg_none_of X G z_isinstance
  have mbool := PySem.W.mg_none_of X G z_bool
  have mlist := PySem.W.mg_none_of X G z_list
  have mmax := PySem.W.mg_none_of X G z_max
  have mmin := PySem.W.mg_none_of X G z_min
  have mall := PySem.W.mg_none_of X G z_all
  have menumerate := PySem.W.mg_none_of X G z_enumerate
  have mgcd := PySem.W.mg_of X G zgcd
  have C_NOUGHT : Cst K mg "NOUGHT" 0 := ⟨aCNOUGHT, PySem.W.mg_of X G nNOUGHT, fun H => ⟨aCNOUGHT, rfl, .inr ⟨_, _, _, vNOUGHT, rfl, rfl, (by show 2 ≤ sizeLine; decide), .cons ⟨_, rfl⟩ (.cons ⟨_, rfl⟩ .nil)⟩⟩⟩
  have C_ONE : Cst K mg "ONE" 1 := ⟨aCONE, PySem.W.mg_of X G nONE, fun H => ⟨aCONE, rfl, .inr ⟨_, _, _, vONE, rfl, rfl, (by show 2 ≤ sizeLine; decide), .cons ⟨_, rfl⟩ (.cons ⟨_, rfl⟩ .nil)⟩⟩⟩
  have C_MINUS_ONE : Cst K mg "MINUS_ONE" (-1) := ⟨aCMINUS_ONE, PySem.W.mg_of X G nMINUS_ONE, fun H => ⟨aCMINUS_ONE, rfl, .inr ⟨_, _, _, vMINUS_ONE, rfl, rfl, (by show 2 ≤ sizeLine; decide), .cons ⟨_, rfl⟩ (.cons ⟨_, rfl⟩ .nil)⟩⟩⟩
  have gCM := PySem.W.mg_of X G aCM
  have TCM : Cls K CM := ⟨pgCM, hdCM, poCM, saCM⟩
  have gCE := PySem.W.mg_of X G aCE
  have TCE : Cls K CE := ⟨pgCE, hdCE, poCE, saCE⟩
  have ICM : C8.InsC K CM := ⟨TCM, haCM, hnO, htO, hmCM, meCM⟩
  have ICE : C8.InsC K CE := ⟨TCE, haCE, hnO, htO, hmCE, meCE⟩
  have FMI := fun_mk (st := s_Most___init__) lMI cMI kMI
  have bMI := FMI.binds (ps := ["self", "spot", "multiples"]) fun _ _ _ _ _ _ us hl => match us, hl with | [_, _, _], _ => rfl
  have FEI := fun_mk (st := s_Empty___init__) lEI cEI kEI
  have bEI := FEI.binds (ps := ["self", "multiples"]) fun _ _ _ _ _ _ us hl => match us, hl with | [_, _], _ => rfl
  have FMhas_spot := fun_mk (st := s_Most_has_spot) lMhas_spot cMhas_spot kMhas_spot
  have bMhas_spot := FMhas_spot.binds (ps := ["self"]) fun _ _ _ _ _ _ us hl => match us, hl with | [_], _ => rfl
  have MMhas_spot : Md K CM "has_spot" "Most.has_spot" s_Most_has_spot ["self"] := ⟨_, _, ⟨wMhas_spot, qMhas_spot, kMhas_spot⟩, FMhas_spot, bMhas_spot⟩
  have FEhas_spot := fun_mk (st := s_Empty_has_spot) lEhas_spot cEhas_spot kEhas_spot
  have bEhas_spot := FEhas_spot.binds (ps := ["self"]) fun _ _ _ _ _ _ us hl => match us, hl with | [_], _ => rfl
  have MEhas_spot : Md K CE "has_spot" "Empty.has_spot" s_Empty_has_spot ["self"] := ⟨_, _, ⟨wEhas_spot, qEhas_spot, kEhas_spot⟩, FEhas_spot, bEhas_spot⟩
  have DU : Dum K mg := ⟨aD, aD1, aD2, PySem.W.mg_of X G nD, fun H => ⟨.inr ⟨_, _, _, vD, rfl, rfl, (by show 2 ≤ sizeLine; decide), .cons rfl (.cons rfl .nil)⟩, .inr ⟨_, _, _, vD1, rfl, rfl, (by show 4 ≤ sizeLine; decide), (.cons ⟨_, rfl⟩ (.cons ⟨_, rfl⟩ (.cons ⟨_, rfl⟩ (.cons ⟨_, rfl⟩ .nil))))⟩, .inr ⟨_, _, _, vD2, rfl, rfl, (by show 4 ≤ sizeLine; decide), (.cons ⟨_, rfl⟩ (.cons ⟨_, rfl⟩ (.cons ⟨_, rfl⟩ (.cons ⟨_, rfl⟩ .nil))))⟩⟩⟩
  have mlcm := PySem.W.mg_of X G zlcm
  have mMP := PySem.W.mg_of X G iMP
  have mMW := PySem.W.mg_of X G iMW
  have mPL := PySem.W.mg_of X G iPL
  have F_law := fun_mk (st := s_law) l53 c53 k53
  refine ⟨PySem.W.fnOf "law" "law" (defArgs s_law) (defBody s_law) (defScope s_law) .none kV53 dc53 pm53 an53 cd53 ct53, fun s v => .of_eq rfl, fun base _ _ => ?_⟩
  have g1 := ok_fraction_of (P := l.prog) (w := w) (base := base) D_fraction_of mgcd
  have g3 := ok_times D_times g1
  have gl := ok_is_less (P := l.prog) (w := w) (base := base) D_is_less
  have w1 := ok_is_whole (P := l.prog) (w := w) (base := base) D_is_whole misinstance mint mbool
  have w2 := ok_is_fraction D_is_fraction w1 misinstance mtuple mlen mgcd
  have w3 := ok_is_row D_is_row w2 misinstance mtuple mlen mall
  have w4 := ok_is_sum D_is_sum w3 w2 misinstance mtuple mlen
  have w5 := ok__is_span D__is_span w3 gl
  have w6 := ok_is_box D_is_box w5 mMP misinstance mtuple mlen mall
  have w7 := ok_check_box D_check_box w6
  have s2 := ok_sum_times D_sum_times g3 mtuple
  have s4 := ok_place_sum (P := l.prog) (w := w) (base := base) D_place_sum C_NOUGHT C_ONE mrange mtuple
  have v1 := ok__weigh (P := l.prog) (w := w) (base := base) D__weigh
  have v2 := ok__across (P := l.prog) (w := w) (base := base) D__across
  have v3 := ok__columns D__columns v2 v1 mtuple
  have v4 := ok__spot D__spot v1 mtuple mrange
  have v5 := ok__shares D__shares v1
  have v6 := ok__first_broken D__first_broken v1 menumerate
  have v7 := ok__is_sooner (P := l.prog) (w := w) (base := base) D__is_sooner
  have v8 := ok__leaving D__leaving v7 menumerate
  have v9 := ok__placed (P := l.prog) (w := w) (base := base) D__placed mzip
  have wk := ok_walk D_walk v3 v4 v5 v6 v8 v9 mlist mlen
  have z1 := ok__size (P := l.prog) (w := w) (base := base) D__size mlcm
  have z2 := ok__top (P := l.prog) (w := w) (base := base) D__top
  have z3 := ok__whole D__whole mPL z2 mtuple
  have z4 := ok__start (P := l.prog) (w := w) (base := base) D__start mPL menumerate mlen mlist mrange
  have z5 := ok__settled D__settled ⟨mkCM, iiCM, qMI, kcCM⟩ (fn_most FMI TCM nsCM nmCM) bMI gCM ⟨mkCE, iiCE, qEI, kcCE⟩ (fn_empty FEI TCE nmCE) bEI gCE DU z1 z2 z3 z4 wk g1 mlen mlist mtuple mzip
  have y1 := ok_box_wishes D_box_wishes C_MINUS_ONE w7 s4 s2 mlen mrange mzip
  have y6 := ok__check_each D__check_each w4
  have y7 := ok__check_box_and_wishes D__check_box_and_wishes mMW w7 y6 misinstance mtuple mlist mlen
  have y8 := ok__check_aim D__check_aim y7 w3 mlen
  have y9 := ok_settle D_settle y8 y1 z5 mlist
  have h0 := ok__law_common (P := l.prog) (w := w) (base := base) D__law_common
  have h1 := ok__law_fraction D__law_fraction h0 mabs
  have h2 := ok__law_plus D__law_plus h1
  have h3 := ok__law_times D__law_times h1
  have h4 := ok__law_less (P := l.prog) (w := w) (base := base) D__law_less
  have h5 := ok__law_weighed D__law_weighed mzip h2 h3
  have h6 := ok__law_cell (P := l.prog) (w := w) (base := base) D__law_cell mlen
  have h7 := ok__law_stream (P := l.prog) (w := w) (base := base) D__law_stream mint
  have h8 := ok__law_take (P := l.prog) (w := w) (base := base) D__law_take
  have h9 := ok__law_number D__law_number h8 h1
  have i1 := ok__law_box D__law_box h8 h1 h2 mrange mtuple
  have i2 := ok__law_row D__law_row h9 mtuple mrange
  have i3 := ok__law_wish D__law_wish h9 i2
  have i4 := ok__law_wishes D__law_wishes h8 i3 h5 mlen mrange mtuple
  have i6 := ok__law_box_wishes (P := l.prog) (w := w) (base := base) D__law_box_wishes mlen mint mrange mtuple
  have j1 := ok__law_minus D__law_minus h1
  have j2 := ok__law_ratio D__law_ratio h1
  have j3 := ok__law_meet D__law_meet h3 j1 j2
  have j4 := ok__law_corners D__law_corners j2 j3 menumerate
  have j5 := ok__law_stands D__law_stands h4 h5
  have j6 := ok__law_box_of D__law_box_of i1
  exact fn_law F_law ⟨h6, h7, j6, i2, i4, i6, j4, j5, h4, h5, y9, ok_Most_has_spot MMhas_spot, ok_Empty_has_spot MEhas_spot, ICM, ICE, nsCM, gCM, ktEM⟩ mrange mmax mmin mlen misinstance
end K20
open PySem PySem.W PyProof.Rows
set_option maxRecDepth 100000 in
set_option maxHeartbeats 0 in
theorem PySem.Challenge.cw_noughtcut_k20_whole_none_better_holds : PySem.Challenge.rw_noughtcut_k20_whole_none_better.Holds := by
  w_on; o_law; k_head; (case hw => w_witness2)
  k_fill
  refine L2.walk_of (l := PySem.Challenge.rw_noughtcut_k20_whole_none_better) (n := 63) (k := 10) (x := "_law_script") (CX := fun _ => L2.CX0) (sp := fun w => Nc.spLaw _) rfl (by decide) rfl ⟨rfl, by decide, by decide⟩ (fun w h Y => PySem.W.kIn_of Y) ?F (fun _ _ a ns hl _ hS => ⟨a, ns, rfl, hS, hl, fun _ => rfl⟩) (fun _ _ _ _ _ h => h)
  case F =>
    intro w mg fa h KX G hmg
    refine' K20.all_mk KX G hmg ?a0 ?l0 ?c0 ?k0 ?a1 ?l1 ?c1 ?k1 ?a2 ?l2 ?c2 ?k2 ?a3 ?l3 ?c3 ?k3 ?a4 ?l4 ?c4 ?k4 ?a5 ?l5 ?c5 ?k5 ?a6 ?l6 ?c6 ?k6 ?a7 ?l7 ?c7 ?k7 ?a8 ?l8 ?c8 ?k8 ?a9 ?l9 ?c9 ?k9 ?a10 ?l10 ?c10 ?k10 ?a11 ?l11 ?c11 ?k11 ?a12 ?l12 ?c12 ?k12 ?a13 ?l13 ?c13 ?k13 ?a14 ?l14 ?c14 ?k14 ?a15 ?l15 ?c15 ?k15 ?a16 ?l16 ?c16 ?k16 ?a17 ?l17 ?c17 ?k17 ?a18 ?l18 ?c18 ?k18 ?a19 ?l19 ?c19 ?k19 ?a20 ?l20 ?c20 ?k20 ?a21 ?l21 ?c21 ?k21 ?a22 ?l22 ?c22 ?k22 ?a23 ?l23 ?c23 ?k23 ?a24 ?l24 ?c24 ?k24 ?a25 ?l25 ?c25 ?k25 ?a26 ?l26 ?c26 ?k26 ?a27 ?l27 ?c27 ?k27 ?a28 ?l28 ?c28 ?k28 ?a29 ?l29 ?c29 ?k29 ?a30 ?l30 ?c30 ?k30 ?a31 ?l31 ?c31 ?k31 ?a32 ?l32 ?c32 ?k32 ?a33 ?l33 ?c33 ?k33 ?a34 ?l34 ?c34 ?k34 ?a35 ?l35 ?c35 ?k35 ?a36 ?l36 ?c36 ?k36 ?a37 ?l37 ?c37 ?k37 ?a38 ?l38 ?c38 ?k38 ?a39 ?l39 ?c39 ?k39 ?a40 ?l40 ?c40 ?k40 ?a41 ?l41 ?c41 ?k41 ?a42 ?l42 ?c42 ?k42 ?a43 ?l43 ?c43 ?k43 ?a44 ?l44 ?c44 ?k44 ?a45 ?l45 ?c45 ?k45 ?a46 ?l46 ?c46 ?k46 ?a47 ?l47 ?c47 ?k47 ?a48 ?l48 ?c48 ?k48 ?a49 ?l49 ?c49 ?k49 ?a50 ?l50 ?c50 ?k50 ?a51 ?l51 ?c51 ?k51 ?a52 ?l52 ?c52 ?k52 ?a53 ?l53 ?c53 ?k53 ?z_len ?z_range ?z_zip ?z_tuple ?z_int ?z_abs ?z_isinstance ?z_bool ?z_list ?z_max ?z_min ?z_all ?z_enumerate ?zgcd ?nNOUGHT ?vNOUGHT ?nONE ?vONE ?nMINUS_ONE ?vMINUS_ONE ?aCM ?pgCM ?hdCM ?poCM ?saCM ?mkCM ?kcCM ?iiCM ?haCM ?hmCM ?meCM ?nmCM ?nsCM ?aCE ?pgCE ?hdCE ?poCE ?saCE ?mkCE ?kcCE ?iiCE ?haCE ?hmCE ?meCE ?nmCE ?hnO ?htO ?ktEM ?qMI ?lMI ?cMI ?kMI ?qEI ?lEI ?cEI ?kEI ?wMhas_spot ?qMhas_spot ?lMhas_spot ?cMhas_spot ?kMhas_spot ?wEhas_spot ?qEhas_spot ?lEhas_spot ?cEhas_spot ?kEhas_spot ?nD ?vD ?vD1 ?vD2 ?zlcm ?iMP ?iMW ?iPL
    (case a0 => k_is)
    (case l0 => k_is)
    (case c0 => k_is)
    (case k0 => k_is)
    (case a1 => k_is)
    (case l1 => k_is)
    (case c1 => k_is)
    (case k1 => k_is)
    (case a2 => k_is)
    (case l2 => k_is)
    (case c2 => k_is)
    (case k2 => k_is)
    (case a3 => k_is)
    (case l3 => k_is)
    (case c3 => k_is)
    (case k3 => k_is)
    (case a4 => k_is)
    (case l4 => k_is)
    (case c4 => k_is)
    (case k4 => k_is)
    (case a5 => k_is)
    (case l5 => k_is)
    (case c5 => k_is)
    (case k5 => k_is)
    (case a6 => k_is)
    (case l6 => k_is)
    (case c6 => k_is)
    (case k6 => k_is)
    (case a7 => k_is)
    (case l7 => k_is)
    (case c7 => k_is)
    (case k7 => k_is)
    (case a8 => k_is)
    (case l8 => k_is)
    (case c8 => k_is)
    (case k8 => k_is)
    (case a9 => k_is)
    (case l9 => k_is)
    (case c9 => k_is)
    (case k9 => k_is)
    (case a10 => k_is)
    (case l10 => k_is)
    (case c10 => k_is)
    (case k10 => k_is)
    (case a11 => k_is)
    (case l11 => k_is)
    (case c11 => k_is)
    (case k11 => k_is)
    (case a12 => k_is)
    (case l12 => k_is)
    (case c12 => k_is)
    (case k12 => k_is)
    (case a13 => k_is)
    (case l13 => k_is)
    (case c13 => k_is)
    (case k13 => k_is)
    (case a14 => k_is)
    (case l14 => k_is)
    (case c14 => k_is)
    (case k14 => k_is)
    (case a15 => k_is)
    (case l15 => k_is)
    (case c15 => k_is)
    (case k15 => k_is)
    (case a16 => k_is)
    (case l16 => k_is)
    (case c16 => k_is)
    (case k16 => k_is)
    (case a17 => k_is)
    (case l17 => k_is)
    (case c17 => k_is)
    (case k17 => k_is)
    (case a18 => k_is)
    (case l18 => k_is)
    (case c18 => k_is)
    (case k18 => k_is)
    (case a19 => k_is)
    (case l19 => k_is)
    (case c19 => k_is)
    (case k19 => k_is)
    (case a20 => k_is)
    (case l20 => k_is)
    (case c20 => k_is)
    (case k20 => k_is)
    (case a21 => k_is)
    (case l21 => k_is)
    (case c21 => k_is)
    (case k21 => k_is)
    (case a22 => k_is)
    (case l22 => k_is)
    (case c22 => k_is)
    (case k22 => k_is)
    (case a23 => k_is)
    (case l23 => k_is)
    (case c23 => k_is)
    (case k23 => k_is)
    (case a24 => k_is)
    (case l24 => k_is)
    (case c24 => k_is)
    (case k24 => k_is)
    (case a25 => k_is)
    (case l25 => k_is)
    (case c25 => k_is)
    (case k25 => k_is)
    (case a26 => k_is)
    (case l26 => k_is)
    (case c26 => k_is)
    (case k26 => k_is)
    (case a27 => k_is)
    (case l27 => k_is)
    (case c27 => k_is)
    (case k27 => k_is)
    (case a28 => k_is)
    (case l28 => k_is)
    (case c28 => k_is)
    (case k28 => k_is)
    (case a29 => k_is)
    (case l29 => k_is)
    (case c29 => k_is)
    (case k29 => k_is)
    (case a30 => k_is)
    (case l30 => k_is)
    (case c30 => k_is)
    (case k30 => k_is)
    (case a31 => k_is)
    (case l31 => k_is)
    (case c31 => k_is)
    (case k31 => k_is)
    (case a32 => k_is)
    (case l32 => k_is)
    (case c32 => k_is)
    (case k32 => k_is)
    (case a33 => k_is)
    (case l33 => k_is)
    (case c33 => k_is)
    (case k33 => k_is)
    (case a34 => k_is)
    (case l34 => k_is)
    (case c34 => k_is)
    (case k34 => k_is)
    (case a35 => k_is)
    (case l35 => k_is)
    (case c35 => k_is)
    (case k35 => k_is)
    (case a36 => k_is)
    (case l36 => k_is)
    (case c36 => k_is)
    (case k36 => k_is)
    (case a37 => k_is)
    (case l37 => k_is)
    (case c37 => k_is)
    (case k37 => k_is)
    (case a38 => k_is)
    (case l38 => k_is)
    (case c38 => k_is)
    (case k38 => k_is)
    (case a39 => k_is)
    (case l39 => k_is)
    (case c39 => k_is)
    (case k39 => k_is)
    (case a40 => k_is)
    (case l40 => k_is)
    (case c40 => k_is)
    (case k40 => k_is)
    (case a41 => k_is)
    (case l41 => k_is)
    (case c41 => k_is)
    (case k41 => k_is)
    (case a42 => k_is)
    (case l42 => k_is)
    (case c42 => k_is)
    (case k42 => k_is)
    (case a43 => k_is)
    (case l43 => k_is)
    (case c43 => k_is)
    (case k43 => k_is)
    (case a44 => k_is)
    (case l44 => k_is)
    (case c44 => k_is)
    (case k44 => k_is)
    (case a45 => k_is)
    (case l45 => k_is)
    (case c45 => k_is)
    (case k45 => k_is)
    (case a46 => k_is)
    (case l46 => k_is)
    (case c46 => k_is)
    (case k46 => k_is)
    (case a47 => k_is)
    (case l47 => k_is)
    (case c47 => k_is)
    (case k47 => k_is)
    (case a48 => k_is)
    (case l48 => k_is)
    (case c48 => k_is)
    (case k48 => k_is)
    (case a49 => k_is)
    (case l49 => k_is)
    (case c49 => k_is)
    (case k49 => k_is)
    (case a50 => k_is)
    (case l50 => k_is)
    (case c50 => k_is)
    (case k50 => k_is)
    (case a51 => k_is)
    (case l51 => k_is)
    (case c51 => k_is)
    (case k51 => k_is)
    (case a52 => k_is)
    (case l52 => k_is)
    (case c52 => k_is)
    (case k52 => k_is)
    (case a53 => k_is)
    (case l53 => k_is)
    (case c53 => k_is)
    (case k53 => k_is)
    (case z_len => k_is)
    (case z_range => k_is)
    (case z_zip => k_is)
    (case z_tuple => k_is)
    (case z_int => k_is)
    (case z_abs => k_is)
    (case z_isinstance => k_is)
    (case z_bool => k_is)
    (case z_list => k_is)
    (case z_max => k_is)
    (case z_min => k_is)
    (case z_all => k_is)
    (case z_enumerate => k_is)
    (case zgcd => k_is)
    (case nNOUGHT => k_is)
    (case vNOUGHT => k_is)
    (case nONE => k_is)
    (case vONE => k_is)
    (case nMINUS_ONE => k_is)
    (case vMINUS_ONE => k_is)
    (case aCM => k_is)
    (case pgCM => k_is)
    (case hdCM => k_is)
    (case poCM => k_is)
    (case saCM => k_is)
    (case mkCM => k_is)
    (case kcCM => k_is)
    (case iiCM => k_is)
    (case haCM => k_is)
    (case hmCM => k_is)
    (case meCM => first | k_is | rfl | (with_unfolding_all rfl))
    (case nmCM => k_is)
    (case nsCM => k_is)
    (case aCE => k_is)
    (case pgCE => k_is)
    (case hdCE => k_is)
    (case poCE => k_is)
    (case saCE => k_is)
    (case mkCE => k_is)
    (case kcCE => k_is)
    (case iiCE => k_is)
    (case haCE => k_is)
    (case hmCE => k_is)
    (case meCE => first | k_is | rfl | (with_unfolding_all rfl))
    (case nmCE => k_is)
    (case hnO => k_is)
    (case htO => k_is)
    (case ktEM => first | k_is | rfl | (with_unfolding_all rfl))
    (case qMI => k_is)
    (case lMI => k_is)
    (case cMI => k_is)
    (case kMI => k_is)
    (case qEI => k_is)
    (case lEI => k_is)
    (case cEI => k_is)
    (case kEI => k_is)
    (case wMhas_spot => k_is)
    (case qMhas_spot => k_is)
    (case lMhas_spot => k_is)
    (case cMhas_spot => k_is)
    (case kMhas_spot => k_is)
    (case wEhas_spot => k_is)
    (case qEhas_spot => k_is)
    (case lEhas_spot => k_is)
    (case cEhas_spot => k_is)
    (case kEhas_spot => k_is)
    (case nD => k_is)
    (case vD => k_is)
    (case vD1 => k_is)
    (case vD2 => k_is)
    (case zlcm => k_is)
    (case iMP => k_is)
    (case iMW => k_is)
    (case iPL => k_is)
