import PyProof.Rows.All
import Wide.All
import OpenK.AllK
import Wide.FinOn
import HandS.Base
import HandS.Call
import HandS.List
import HandS.Comp
import HandS.Iter
import HandS.Ends
import HandS.Words
import HandS.Evl
import HandS.WordsList
import HandS.Zip
import HandS.Wide
import HandS.Gcd
import HandS.IsInst
import HandS.TupMul
import HandS.Text
import HandS.ClsMeth
import HandS.Codes
import HandS.RaiseMore
import HandS.ListEq
import HandS.TupLe
import HandS.Flow
import HandS.TupAny
import HandS.Style
import HandS.Conv
import HandS.ForMost
import PySem.Challenge.RW_noughtcut_k12_whole_nodes_scaled_and_exc
set_option Elab.async false
set_option linter.all false
section
namespace Nc
/-! ### fractions: Rat's own top and bottom -/
def Sz (n d : Nat) (r : Rat) : Prop := r.num.natAbs < 2 ^ n ∧ r.den < 2 ^ d
theorem den_pos (r : Rat) : (0 : Int) < (r.den : Int) := by
  have := r.den_nz
  omega
theorem num_div {t b : Int} (hb : 0 < b) : t / ((Nat.gcd t.natAbs b.natAbs : Nat) : Int) = (Rat.divInt t b).num := by
  rw [Rat.num_divInt, Int.sign_eq_one_of_pos hb, Int.one_mul, Int.gcd_comm]
  rfl
theorem den_div {t b : Int} (hb : 0 < b) : b / ((Nat.gcd t.natAbs b.natAbs : Nat) : Int) = ((Rat.divInt t b).den : Int) := by
  rw [Rat.den_divInt, if_neg (by omega), Int.gcd_comm]
  have e : b = ((b.natAbs : Nat) : Int) := by omega
  conv => lhs; rw [e]
  rfl
theorem gcd_pos {t b : Int} (hb : 0 < b) : (0 : Int) < ((Nat.gcd t.natAbs b.natAbs : Nat) : Int) := by
  have := Nat.gcd_pos_of_pos_right t.natAbs (n := b.natAbs) (by omega)
  omega
theorem gcd_le {t b : Int} (hb : 0 < b) : ((Nat.gcd t.natAbs b.natAbs : Nat) : Int) ≤ b := by
  have := Nat.gcd_le_right t.natAbs (n := b.natAbs) (by omega)
  omega
theorem add_is (r s : Rat) : Rat.divInt (r.num * (s.den : Int) + s.num * (r.den : Int)) ((r.den : Int) * (s.den : Int)) = r + s := by
  have h1 := den_pos r
  have h2 := den_pos s
  rw [← Rat.divInt_add_divInt r.num s.num (by omega) (by omega), Rat.num_divInt_den, Rat.num_divInt_den]
theorem mul_is (r s : Rat) : Rat.divInt (r.num * s.num) ((r.den : Int) * (s.den : Int)) = r * s := by
  rw [← Rat.divInt_mul_divInt r.num s.num, Rat.num_divInt_den, Rat.num_divInt_den]
theorem natAbs_ediv_le (a b : Int) : (a / b).natAbs ≤ a.natAbs := Int.natAbs_ediv_le_natAbs a b
/-- the size of a quotient by the shared part -/
theorem sz_div {t b : Int} {n d : Nat} (hb : 0 < b) (ht : t.natAbs < 2 ^ n) (hz : b.natAbs < 2 ^ d) : Sz n d (Rat.divInt t b) := by
  constructor
  · rw [← num_div hb]
    exact Nat.lt_of_le_of_lt (natAbs_ediv_le _ _) ht
  · have h := den_div (t := t) hb
    have h2 := natAbs_ediv_le b ((Nat.gcd t.natAbs b.natAbs : Nat) : Int)
    rw [h] at h2
    have : ((Rat.divInt t b).den : Int).natAbs = (Rat.divInt t b).den := Int.natAbs_natCast _
    omega
theorem lt_mul {a b : Nat} {i j : Int} (ha : i.natAbs < 2 ^ a) (hb : j.natAbs < 2 ^ b) : (i * j).natAbs < 2 ^ (a + b) := by
  rw [Int.natAbs_mul, Nat.pow_add]
  exact Nat.mul_lt_mul'' ha hb
theorem lt_add {n : Nat} {i j : Int} (ha : i.natAbs < 2 ^ n) (hb : j.natAbs < 2 ^ n) : (i + j).natAbs < 2 ^ (n + 1) := by
  have := Int.natAbs_add_le i j
  rw [Nat.pow_succ]
  omega
theorem lt_mono {n m : Nat} {i : Nat} (h : i < 2 ^ n) (hm : n ≤ m) : i < 2 ^ m := Nat.lt_of_lt_of_le h (Nat.pow_le_pow_right (by decide) hm)
theorem Sz.mono {n m d e : Nat} {r : Rat} (h : Sz n d r) (hm : n ≤ m) (he : d ≤ e) : Sz m e r := ⟨lt_mono h.1 hm, lt_mono h.2 he⟩
theorem Sz.den {n d : Nat} {r : Rat} (h : Sz n d r) : ((r.den : Int)).natAbs < 2 ^ d := by
  rw [Int.natAbs_natCast]
  exact h.2
theorem sz_add {n d m e N : Nat} {r s : Rat} (hr : Sz n d r) (hs : Sz m e s) (h1 : n + e ≤ N := by omega) (h2 : m + d ≤ N := by omega) : Sz (N + 1) (d + e) (r + s) := by
  rw [← add_is]
  have k1 := lt_mono (lt_mul hr.1 hs.den) h1
  have k2 := lt_mono (lt_mul hs.1 hr.den) h2
  have k3 := lt_mul hr.den hs.den
  exact sz_div (Int.mul_pos (den_pos r) (den_pos s)) (lt_add k1 k2) k3
theorem sz_mul {n d m e : Nat} {r s : Rat} (hr : Sz n d r) (hs : Sz m e s) : Sz (n + m) (d + e) (r * s) := by
  rw [← mul_is]
  exact sz_div (Int.mul_pos (den_pos r) (den_pos s)) (lt_mul hr.1 hs.1) (lt_mul hr.den hs.den)
theorem sz_zero : Sz 1 1 (0 : Rat) := ⟨by decide, by decide⟩
theorem sz_one : Sz 1 1 (1 : Rat) := ⟨by decide, by decide⟩
/-! ### rows -/
/-- what a row weighs another one -/
def weighs (l : List (Rat × Rat)) : Rat := l.foldl (fun t p => t + p.1 * p.2) 0
theorem foldl_weigh : ∀ (l : List (Rat × Rat)) (t : Rat), l.foldl (fun t p => t + p.1 * p.2) t = t + weighs l
  | [], t => by simp [weighs, Rat.add_zero]
  | p :: r, t => by
    unfold weighs
    simp only [List.foldl_cons]
    rw [foldl_weigh r, foldl_weigh r (0 + p.1 * p.2)]
    grind
theorem weighs_cons (p : Rat × Rat) (r : List (Rat × Rat)) : weighs (p :: r) = p.1 * p.2 + weighs r := by
  unfold weighs
  simp only [List.foldl_cons]
  rw [foldl_weigh r]
  unfold weighs
  grind
theorem weighs_take {l : List (Rat × Rat)} {i : Nat} {p : Rat × Rat} (h : l[i]? = some p) : weighs (l.take (i + 1)) = weighs (l.take i) + p.1 * p.2 := by
  unfold weighs
  rw [List.take_add_one, h, List.foldl_append]
  rfl
theorem weighs_add : ∀ (a b c : List Rat), a.length = b.length → weighs (((a.zip b).map fun p => p.1 + p.2).zip c) = weighs (a.zip c) + weighs (b.zip c)
  | [], [], c, _ => by simp [weighs, Rat.add_zero]
  | x :: a, y :: b, [], _ => by simp [weighs, Rat.add_zero]
  | x :: a, y :: b, z :: c, h => by
    have ih := weighs_add a b c (by simpa using h)
    simp only [List.zip_cons_cons, List.map_cons, weighs_cons]
    rw [ih]
    grind
theorem weighs_mul (by_ : Rat) : ∀ (a c : List Rat), weighs ((a.map fun x => by_ * x).zip c) = by_ * weighs (a.zip c)
  | [], c => by simp [weighs, Rat.mul_zero]
  | x :: a, [] => by simp [weighs, Rat.mul_zero]
  | x :: a, z :: c => by
    have ih := weighs_mul by_ a c
    simp only [List.zip_cons_cons, List.map_cons, weighs_cons]
    rw [ih]
    grind
/-! ### sums: a row and a number -/
abbrev Sum2 := List Rat × Rat
def tells (s : Sum2) (row : List Rat) : Rat := weighs (s.1.zip row) + s.2
def splus (s t : Sum2) : Sum2 := ((s.1.zip t.1).map fun p => p.1 + p.2, s.2 + t.2)
def stimes (q : Rat) (s : Sum2) : Sum2 := (s.1.map fun x => q * x, q * s.2)
theorem tells_splus (s t : Sum2) (row : List Rat) (h : s.1.length = t.1.length) : tells (splus s t) row = tells s row + tells t row := by
  unfold tells splus
  simp only
  rw [weighs_add _ _ _ h]
  grind
theorem tells_stimes (q : Rat) (s : Sum2) (row : List Rat) : tells (stimes q s) row = q * tells s row := by
  unfold tells stimes
  simp only
  rw [weighs_mul]
  grind
theorem splus_comm (s t : Sum2) : splus s t = splus t s := by
  unfold splus
  have : (s.1.zip t.1).map (fun p => p.1 + p.2) = (t.1.zip s.1).map fun p => p.1 + p.2 := by
    apply List.ext_getElem
    · simp [Nat.min_comm]
    · intro i h1 h2
      simp only [List.getElem_map, List.getElem_zip]
      exact Rat.add_comm _ _
  rw [this, Rat.add_comm]
/-- all of a row below a size -/
def SzL (n d : Nat) (l : List Rat) : Prop := ∀ r ∈ l, Sz n d r
theorem sz_weighs {n d m e : Nat} (hn : d ≤ n) (hm : e ≤ m) : ∀ (i : Nat) (l : List (Rat × Rat)), i ≤ l.length → (∀ p ∈ l, Sz n d p.1 ∧ Sz m e p.2) → Sz (1 + i * (n + m + 1)) (1 + i * (d + e)) (weighs (l.take i))
  | 0, l, _, _ => by simpa [weighs] using sz_zero
  | i + 1, l, h, hl => by
    have ih := sz_weighs hn hm i l (by omega) hl
    have e1 : l[i]? = some l[i] := List.getElem?_eq_getElem (by omega)
    rw [weighs_take e1]
    have hp := hl l[i] (List.getElem_mem _)
    have le : i * (d + e) ≤ i * (n + m + 1) := Nat.mul_le_mul_left i (by omega)
    have := sz_add (N := i * (n + m + 1) + (n + m + 1)) ih (sz_mul hp.1 hp.2) (by omega) (by omega)
    exact this.mono (by rw [Nat.add_mul]; omega) (by rw [Nat.add_mul]; omega)
theorem sz_of_weighs {n d m e : Nat} {a b : List Rat} (hn : d ≤ n) (hm : e ≤ m) (ha : SzL n d a) (hb : SzL m e b) (hl : a.length = b.length) : Sz (1 + a.length * (n + m + 1)) (1 + a.length * (d + e)) (weighs (a.zip b)) := by
  have h := sz_weighs hn hm a.length (a.zip b) (by rw [List.length_zip]; omega) (fun p hp => ⟨ha _ (List.of_mem_zip hp).1, hb _ (List.of_mem_zip hp).2⟩)
  rwa [List.take_of_length_le (by rw [List.length_zip]; omega)] at h
/-! ### the greatest shared divisor, step by step -/
theorem gcd_step {a b : Int} (ha : 0 ≤ a) (hb : 0 < b) : Nat.gcd b.natAbs (a % b).natAbs = Nat.gcd a.natAbs b.natAbs := by
  have e : (a % b).natAbs = a.natAbs % b.natAbs := by
    rw [Int.natAbs_emod_of_nonneg ha]
  rw [e, Nat.gcd_comm a.natAbs, Nat.gcd_rec b.natAbs a.natAbs, Nat.gcd_comm]
end Nc
end
section
set_option maxRecDepth 100000
set_option maxHeartbeats 4000000
namespace Nc
open PySem L2 Evl PyProof.Rows
/-! ### what stands for a fraction, a row, a sum -/
def FrV (K : PySem.W.Frag) (H : Hp) (v : V) (r : Rat) : Prop := ∃ t, v = .ref t ∧ SqT K H t [.int r.num, .int (r.den : Int)]
abbrev FrL (K : PySem.W.Frag) (H : Hp) : List V → List Rat → Prop := Paired (FrV K H)
def RowV (K : PySem.W.Frag) (H : Hp) (v : V) (rs : List Rat) : Prop := ∃ t xs, v = .ref t ∧ SqT K H t xs ∧ FrL K H xs rs
def SumV (K : PySem.W.Frag) (H : Hp) (v : V) (s : Sum2) : Prop := ∃ t a b, v = .ref t ∧ SqT K H t [a, b] ∧ RowV K H a s.1 ∧ FrV K H b s.2
variable {K : PySem.W.Frag} {H H' : Hp}
theorem FrV.ex {v : V} {r : Rat} (e : Ex H H') (h : FrV K H v r) : FrV K H' v r := by
  obtain ⟨t, rfl, q⟩ := h
  exact ⟨t, rfl, ex_t e q⟩
theorem pmono {α β : Type} {F G : α → β → Prop} (h : ∀ a b, F a b → G a b) : ∀ {xs : List α} {ys : List β}, Paired F xs ys → Paired G xs ys
  | _, _, .nil => .nil
  | _, _, .cons a t => .cons (h _ _ a) (pmono h t)
theorem FrL.ex {xs : List V} {rs : List Rat} (e : Ex H H') (h : FrL K H xs rs) : FrL K H' xs rs := pmono (fun _ _ => FrV.ex e) h
theorem RowV.ex {v : V} {rs : List Rat} (e : Ex H H') (h : RowV K H v rs) : RowV K H' v rs := by
  obtain ⟨t, xs, rfl, q, l⟩ := h
  exact ⟨t, xs, rfl, ex_t e q, FrL.ex e l⟩
theorem SumV.ex {v : V} {s : Sum2} (e : Ex H H') (h : SumV K H v s) : SumV K H' v s := by
  obtain ⟨t, a, b, rfl, q, l, n⟩ := h
  exact ⟨t, a, b, rfl, ex_t e q, l.ex e, n.ex e⟩
theorem pget {α β : Type} {F : α → β → Prop} : ∀ {xs : List α} {ys : List β} {i : Nat} {x : α}, Paired F xs ys → xs[i]? = some x → ∃ y, ys[i]? = some y ∧ F x y
  | _, _, _, _, .nil, e => by simp at e
  | _, _, 0, _, .cons r _, e => by simp at e; subst e; exact ⟨_, rfl, r⟩
  | _, _, i + 1, x, .cons _ t, e => by
    obtain ⟨u, h1, h2⟩ := pget (i := i) (x := x) t (by simpa using e)
    exact ⟨u, by simpa using h1, h2⟩
theorem pget' {α β : Type} {F : α → β → Prop} : ∀ {xs : List α} {ys : List β} {i : Nat} {y : β}, Paired F xs ys → ys[i]? = some y → ∃ x, xs[i]? = some x ∧ F x y
  | _, _, _, _, .nil, e => by simp at e
  | _, _, 0, _, .cons r _, e => by simp at e; subst e; exact ⟨_, rfl, r⟩
  | _, _, i + 1, y, .cons _ t, e => by
    obtain ⟨u, h1, h2⟩ := pget' (i := i) (y := y) t (by simpa using e)
    exact ⟨u, by simpa using h1, h2⟩
/-! ### data -/
def fd (r : Rat) : PyData := .tuple [.int r.num, .int (r.den : Int)]
def sd (s : Sum2) : PyData := .tuple [.tuple (s.1.map fd), fd s.2]
theorem FrV.dp {v : V} {r : Rat} (h : FrV K H v r) : Dp K H v (fd r) := by
  obtain ⟨t, rfl, q⟩ := h
  exact .tup q (.cons (.int _) (.cons (.int _) .nil))
theorem FrL.dp : ∀ {xs : List V} {rs : List Rat}, FrL K H xs rs → DpAll K H xs (rs.map fd)
  | _, _, .nil => .nil
  | _, _, .cons a t => .cons a.dp (FrL.dp t)
theorem RowV.dp {v : V} {rs : List Rat} (h : RowV K H v rs) : Dp K H v (.tuple (rs.map fd)) := by
  obtain ⟨t, xs, rfl, q, l⟩ := h
  exact .tup q (FrL.dp l)
theorem SumV.dp {v : V} {s : Sum2} (h : SumV K H v s) : Dp K H v (sd s) := by
  obtain ⟨t, a, b, rfl, q, l, n⟩ := h
  exact .tup q (.cons l.dp (.cons n.dp .nil))
/-! ### shapes -/
theorem lay_fd (r : Rat) : (fd r).canLay0 = true := rfl
theorem layAll_fd : ∀ rs : List Rat, PyData.canLayAll0 (rs.map fd) = true
  | [] => rfl
  | r :: rs => by
    show ((fd r).canLay0 && PyData.canLayAll0 (rs.map fd)) = true
    rw [layAll_fd rs]
    rfl
end Nc
end
section
set_option maxRecDepth 100000
set_option maxHeartbeats 4000000
namespace Nc
open PySem L2 Evl PyProof.Rows
/-! ### a def of the top, with and without its promise -/
structure Df (K : PySem.W.Frag) (mg : Str → Option Value) (x : Str) (st : Stmt) (ps : List Str) : Prop where
  ex : ∃ f fd, mg x = some (.ref f) ∧ Fun K x x st f fd ∧ Binds K fd ps []
structure Ok (P : Program) (w : World) (K : PySem.W.Frag) (mg : Str → Option Value) (base : Heap) (k : Nat) (x : Str) (ps : List Str) (sp : Sp) : Prop where
  ex : ∃ f fd, mg x = some (.ref f) ∧ PySem.W.keepIn K (.ref f) = true ∧ FnOk P w K mg base CX0 k f fd ps sp ∧ Binds K fd ps []
theorem Df.ok {P : Program} {w : World} {K : PySem.W.Frag} {mg : Str → Option Value} {base : Heap} {k : Nat} {x : Str} {st : Stmt} {ps : List Str} {sp : Sp} (D : Df K mg x st ps)
    (h : ∀ f fd, Fun K x x st f fd → FnOk P w K mg base CX0 k f fd ps sp) : Ok P w K mg base k x ps sp := by
  obtain ⟨f, fd, g, F, b⟩ := D.ex
  exact ⟨f, fd, g, F.kp, h f fd F, b⟩
theorem Ok.mono {P : Program} {w : World} {K : PySem.W.Frag} {mg : Str → Option Value} {base : Heap} {j k : Nat} {x : Str} {ps : List Str} {sp : Sp} (D : Ok P w K mg base j x ps sp) (h : j ≤ k) : Ok P w K mg base k x ps sp := by
  obtain ⟨f, fd, g, kp, F, b⟩ := D.ex
  exact ⟨f, fd, g, kp, F.mono h, b⟩
theorem Df.of {K : PySem.W.Frag} {h : Heap} {mg : Str → Option Value} (X : K.In h) (G : h.Ns mainGlobals mg) {x : Str} {st : Stmt} {ps : List Str} {f : Addr} {oc : Value} {od an : Option Addr} {osl : Array (Option Value)} {kV doc pm cdv ct : Value}
    (a : PySem.W.nsIn K mainGlobals x = some (some (.ref f))) (l : K.lookup f = some ⟨oc, od, .func (PySem.W.fnOf x x (defArgs st) (defBody st) (defScope st) .none kV doc pm an cdv ct), osl⟩)
    (c : PySem.W.codeIn K cdv x = true) (k : PySem.W.keepIn K (.ref f) = true)
    (hb : ∀ (kV doc pm : Value) (an : Option Addr) (cdv ct : Value) (us : List Value), us.length = ps.length → bindArgs (PySem.W.fnOf x x (defArgs st) (defBody st) (defScope st) .none kV doc pm an cdv ct) ⟨us, []⟩ = pure (ps.zip us)) : Df K mg x st ps :=
  have F := fun_mk (st := st) l c k
  ⟨f, _, PySem.W.mg_of X G a, F, F.binds hb⟩
section
variable {X : Cx} {k : Nat} {x : Str} {ps : List Str} {sp : Sp} {e : Expr} {es : List Expr} {t : TA} {p pos : Pos}
/-- a call of such a def -/
theorem cl (D : Ok X.prog X.w X.K X.mg X.base k x ps sp) (hr : Room k X.A) (ha : PA X (e :: es) t) (hg : Gl X x := by rfl) (hdb : (x == ("__debug__" : Str)) = false := by decide)
    (he : starEach (e :: es) X.env = (false, eval e X.env) :: starEach es X.env := by rfl) (hpl : (backTo pos (starEach es X.env)).any (·.1) = false := by rfl) : PE X (.Call (.Name x p) (e :: es) [] pos) (tCall sp [] E0 t) := by
  obtain ⟨f, fd, g, kp, F, b⟩ := D.ex
  exact pe_call F hr hg g kp b .nil pass0 ha hdb he hpl
end
/-! ### small facts -/
theorem at0 {a : V} {l : List V} : atI (a :: l) 0 = some a := atI_nat (j := 0) rfl
theorem at1 {a b : V} {l : List V} : atI (a :: b :: l) 1 = some b := atI_nat (j := 1) rfl
theorem at2 {a b c : V} {l : List V} : atI (a :: b :: c :: l) 2 = some c := atI_nat (j := 2) rfl
theorem at3 {a b c d : V} {l : List V} : atI (a :: b :: c :: d :: l) 3 = some d := atI_nat (j := 3) rfl
theorem at_mem {xs : List V} {d : Int} (h0 : 0 ≤ d) (h1 : d < xs.length) : ∃ v, atI xs d = some v ∧ v ∈ xs := by
  have h : d.toNat < xs.length := by omega
  refine ⟨xs[d.toNat], ?_, List.getElem_mem _⟩
  have e : d = (d.toNat : Int) := by omega
  have q : atI xs (d.toNat : Int) = some xs[d.toNat] := atI_nat (List.getElem?_eq_getElem h)
  rw [← e] at q
  exact q
theorem mulOk {i j : Int} {a b : Nat} (ha : i.natAbs < 2 ^ a) (hb : j.natAbs < 2 ^ b) (h0 : 0 < a := by omega) (h1 : 0 < b := by omega) (h : a + b ≤ 1000000 := by omega) : CMulW i j := wide_mul ha hb h0 h1 h
section
variable {K : PySem.W.Frag} {σ : L2.St} {H : Hp}
/-- an item of a tuple that stands in a slot -/
theorem ix0 {i : Nat} {t : Addr} {a : V} {l : List V} (hs : σ[i]? = some (some (.ref t))) (q : SqT K H t (a :: l)) : Ev (tOp (rIxT K) (tVar i) (tC (.int 0))) σ H a := ev_op (ev_var hs) ev_c (rv_ixT q at0)
theorem ix1 {i : Nat} {t : Addr} {a b : V} {l : List V} (hs : σ[i]? = some (some (.ref t))) (q : SqT K H t (a :: b :: l)) : Ev (tOp (rIxT K) (tVar i) (tC (.int 1))) σ H b := ev_op (ev_var hs) ev_c (rv_ixT q at1)
end
theorem ix_tK {X : Cx} (K : PySem.W.Frag) (h : X.K = K := by rfl) : IxR X (rIxT K) := by
  subst h
  exact ix_tup
theorem ix_lK {X : Cx} (K : PySem.W.Frag) (h : X.K = K := by rfl) : IxR X (rIxL K) := by
  subst h
  exact ix_list
/-! ### promises of the fractions' defs -/
/-- a fraction of two whole numbers, the bottom above nought -/
def spPart (K : PySem.W.Frag) : Sp := fun vs H Q _ => ∃ (t b : Int) (n : Nat), vs = [.int t, .int b] ∧ 0 < b ∧ b.natAbs < 2 ^ n ∧ 0 < n ∧ n ≤ 9000 ∧ ∀ v H', Ex H H' → FrV K H' v (Rat.divInt t b) → Q v H'
/-- two fractions, a third one of them -/
def sp2 (g : Rat → Rat → Rat) (K : PySem.W.Frag) : Sp := fun vs H Q _ => ∃ (x y : V) (r s : Rat) (n d m e : Nat), vs = [x, y] ∧ FrV K H x r ∧ FrV K H y s ∧ Sz n d r ∧ Sz m e s ∧ (0 < n ∧ 0 < d ∧ 0 < m ∧ 0 < e ∧ d + e ≤ 8900 ∧ n + m + d + e ≤ 900000) ∧ ∀ v H', Ex H H' → FrV K H' v (g r s) → Q v H'
abbrev spPlus := sp2 (· + ·)
abbrev spTimes := sp2 (· * ·)
/-- a made pair is a fraction -/
theorem made {K : PySem.W.Frag} {H : Hp} {p : Addr} {a b : Int} {r : Rat} (e1 : a = r.num) (e2 : b = (r.den : Int)) : FrV K (upd H p (.tup [.int a, .int b])) (.ref p) r := ⟨p, rfl, by rw [e1, e2]; exact st_of upd_same⟩
/-- what one row weighs another -/
def spWeigh (K : PySem.W.Frag) : Sp := fun vs H Q _ => ∃ (x y : V) (rs ss : List Rat) (n d m e : Nat), vs = [x, y] ∧ RowV K H x rs ∧ RowV K H y ss ∧ rs.length = ss.length ∧ SzL n d rs ∧ SzL m e ss ∧
  (0 < d ∧ 0 < e ∧ d ≤ n ∧ e ≤ m ∧ 1 + rs.length * (d + e) ≤ 8900 ∧ 1 + rs.length * (n + m + 1) ≤ 400000) ∧ ∀ v H', Ex H H' → FrV K H' v (weighs (rs.zip ss)) → Q v H'
/-- what a sum tells at a row -/
def spTells (K : PySem.W.Frag) : Sp := fun vs H Q _ => ∃ (x y : V) (s : Sum2) (ss : List Rat) (n d m e : Nat), vs = [x, y] ∧ SumV K H x s ∧ RowV K H y ss ∧ s.1.length = ss.length ∧ SzL n d s.1 ∧ Sz n d s.2 ∧ SzL m e ss ∧
  (0 < d ∧ 0 < e ∧ d ≤ n ∧ e ≤ m ∧ 1 + s.1.length * (d + e) + d ≤ 8900 ∧ 1 + s.1.length * (n + m + 1) ≤ 400000 ∧ n ≤ 400000) ∧ ∀ v H', Ex H H' → FrV K H' v (tells s ss) → Q v H'
/-- a module's constant that is a fraction -/
structure Cst (K : PySem.W.Frag) (mg : Str → Option Value) (x : Str) (r : Rat) : Prop where
  ex : ∃ a, mg x = some (.ref a) ∧ ∀ H, FrV K H (.ref a) r
end Nc
end
section
set_option maxRecDepth 100000
set_option maxHeartbeats 4000000
namespace Nc
open PySem PySem.Spec PyProof.Rows L2
theorem tuple_mul1 (l : Addr) (items : Array Value) (n : Nat) (dd : Option Addr) (sl : Array (Option Value)) (u : Tok) :
    Meets (Builtin.«tuple.__mul__» ⟨[.ref l, .int 1 u], []⟩) (fun _ R s => s.heap.get? l = some { cls := .type "tuple", dict := dd, data := .seq items n, slots := sl } ∧
      R (.ok (.ret (Value.ref l))) s) :=
  .of_wp fun prog w A R s h => by
    obtain ⟨hp, g, d, tk, os⟩ := s
    obtain ⟨hl, h⟩ := h
    have f1 := AutoSeq1.idx_int
    wp_walk using wpAny_loadPart' hl
    repeat (first
      | (refine wpAny_ite_true (by simp) ?_; wp_walk using wpAny_loadPart' hl)
      | (refine wpAny_ite_false (by simp) ?_; wp_walk using wpAny_loadPart' hl))
    exact ⟨_, rfl, h⟩
theorem tuple_mul0 (l : Addr) (items : Array Value) (n : Nat) (dd : Option Addr) (sl : Array (Option Value)) (u : Tok) (c1 : items.isEmpty = false) :
    Meets (Builtin.«tuple.__mul__» ⟨[.ref l, .int 0 u], []⟩) (fun _ R s => s.heap.get? l = some { cls := .type "tuple", dict := dd, data := .seq items n, slots := sl } ∧
      R (.ok (.ret (Value.ref s.heap.objs.size))) { s with heap := s.heap.push { cls := Value.type "tuple", data := Data.seq #[] }, toks := s.toks }) :=
  .of_wp fun prog w A R s h => by
    obtain ⟨hp, g, d, tk, os⟩ := s
    obtain ⟨hl, h⟩ := h
    have f1 := AutoSeq1.idx_int
    wp_walk using wpAny_loadPart' hl
    repeat (first
      | (refine wpAny_ite_true (by simp) ?_; wp_walk using wpAny_loadPart' hl)
      | (refine wpAny_ite_false (by simp [c1]) ?_; wp_walk using wpAny_loadPart' hl))
    exact ⟨_, rfl, h⟩
def rRepA (K : PySem.W.Frag) : R2 := fun x y H Q => ∃ l k xs, x = .ref l ∧ y = .int k ∧ SqT K H l xs ∧ xs ≠ [] ∧ 0 ≤ k ∧ k ≤ 1000 ∧ xs.length ≤ 1000 ∧ ∀ p H', Evl.Ex H H' → SqT K H' p (List.replicate k.toNat xs).flatten → Q (.ref p) H'
theorem op_repA {X : Cx} : OpR X (binaryOp .Mult) (rRepA X.K) := by
  intro pins s σ H x y v u Q I rx ry h
  obtain ⟨l, k, xs, rfl, rfl, hT, hne, h1, h2, hz, q⟩ := h
  by_cases h3 : 2 ≤ k
  · exact op_repT pins s σ H _ _ v u Q I rx ry ⟨l, k, xs, rfl, rfl, hT, hne, h3, h2, hz, fun p hp => q p _ (Evl.Ex.new hp) (Evl.st_of upd_same)⟩
  cases rx
  obtain ⟨t, rfl⟩ := ry
  obtain ⟨its, r, ⟨⟨cls, dd, data, sl⟩, ho, hc, n, hd⟩, hs⟩ := I.tuple hT
  simp only at hc hd
  subst hc hd
  have hle : its.length = xs.length := r.length.symm
  have hn : its ≠ [] := fun e => hne (by
    rw [e] at hle
    exact List.eq_nil_of_length_eq_zero hle.symm)
  have hi : its.toArray.isEmpty = false := by
    cases its with
    | nil => exact absurd rfl hn
    | cons a b => rfl
  by_cases h4 : k = 1
  · subst h4
    refine wpAny_binaryOp_repeat_ref (T := "tuple") (U := "int") (by decide) ⟨_, ho, rfl⟩ (fun s' => typeIs_int s' 1 t) noFill_tuple_mul F.fills_int_mul F.slot_int_rmul repeat_tuple F.slot_int_index.lookup
      (call_meets F.slot_int_rmul (typeIs_int s 1 t) F.entry_int_rmul (F.args_int_rmul_2 _ _) (int_rmul_tuple 1 t l its.toArray n dd sl)
        ⟨ho, rfl, ⟨_, ho, rfl⟩, call_meets F.slot_tuple_mul ⟨_, ho, rfl⟩ F.entry_tuple_mul (F.args_tuple_mul_2 _ _) (tuple_mul1 l its.toArray n dd sl t) ⟨ho, ?_⟩⟩)
    refine ⟨.ref l, H, I, rfl, q l H (Evl.Ex.refl H) ?_⟩
    have e : (List.replicate (1 : Int).toNat xs).flatten = xs := by simp
    rw [e]
    exact hT
  · have h5 : k = 0 := by omega
    subst h5
    refine wpAny_binaryOp_repeat_ref (T := "tuple") (U := "int") (by decide) ⟨_, ho, rfl⟩ (fun s' => typeIs_int s' 0 t) noFill_tuple_mul F.fills_int_mul F.slot_int_rmul repeat_tuple F.slot_int_index.lookup
      (call_meets F.slot_int_rmul (typeIs_int s 0 t) F.entry_int_rmul (F.args_int_rmul_2 _ _) (int_rmul_tuple 0 t l its.toArray n dd sl)
        ⟨ho, rfl, ⟨_, ho, rfl⟩, call_meets F.slot_tuple_mul ⟨_, ho, rfl⟩ F.entry_tuple_mul (F.args_tuple_mul_2 _ _) (tuple_mul0 l its.toArray n dd sl t hi) ⟨ho, ?_⟩⟩)
    refine ⟨.ref s.heap.objs.size, _, I.laid (t' := s.toks) (o := .tup []) (fun b ob q => Heap.get?_push_of_some _ q) (Nat.le_refl _) ?_, rfl, q _ _ (Evl.Ex.new (I.hok.fresh (Nat.le_refl _))) (Evl.st_of upd_same)⟩
    exact ⟨Nat.zero_le _, [], .nil, IsTup.new _ _⟩
end Nc
end
section
set_option maxRecDepth 100000
set_option maxHeartbeats 4000000
namespace Nc
open PySem PySem.Spec PyProof.Rows L2 Evl
/-- a comprehension over zip of two tuples of one length -/
theorem lc_zipT {K : PySem.W.Frag} {a b : Addr} {xs ys : List V} {g : TG} {tt : TT} {te : TE} {vs : List Nat} {σ : L2.St} {H1 : Hp} {D : Addr} {Qd : Hp → Prop} (hl : xs.length = ys.length) (Pv : Nat → Hp → Prop) (h0 : Pv 0 (upd H1 D (.lst []))) (hq : ∀ i H, Pv i H → SqT K H a xs ∧ SqT K H b ys)
    (hs : ∀ (i : Nat) (x y : V) (T : Addr) (H : Hp), xs[i]? = some x → ys[i]? = some y → Pv i H → H T = none → g (.ref T) (wipe σ vs) (upd H T (.tup [x, y])) fun σ2 H2 => wipe σ2 vs = wipe σ vs ∧ tt σ2 H2 fun b H3 =>
      if b = true then te σ2 H3 fun y H4 => ∃ acc, H4 D = some (.lst acc) ∧ acc.length < sizeLine ∧ Pv (i + 1) (upd H4 D (.lst (acc ++ [y]))) else Pv (i + 1) H3) (hd : ∀ H, Pv xs.length H → Qd H) :
    ∃ W : Nat → Nat → Hp → Prop, (∃ m, W 0 m (upd H1 D (.lst []))) ∧ ∀ i m H, W i m H →
      ((RZ.ItzT K a b).stop i H ∧ Qd H) ∨ ((RZ.ItzT K a b).go i H ∧ ∃ Nx : Hp → Prop, (∀ H', Nx H' → ∃ m', m' < m ∧ W (i + 1) m' H') ∧ ∀ x H', (RZ.ItzT K a b).yld i H x H' → g x (wipe σ vs) H' fun σ2 H2 => wipe σ2 vs = wipe σ vs ∧ tt σ2 H2 fun b H3 =>
        if b = true then te σ2 H3 fun y H4 => ∃ acc, H4 D = some (.lst acc) ∧ acc.length < sizeLine ∧ Nx (upd H4 D (.lst (acc ++ [y]))) else Nx H3) := by
  refine ⟨fun i m H => m = xs.length - i ∧ i ≤ xs.length ∧ Pv i H, ⟨xs.length, rfl, Nat.zero_le _, h0⟩, ?_⟩
  rintro i m H ⟨rfl, hi, p⟩
  obtain ⟨qx, qy⟩ := hq i H p
  by_cases hlt : i < xs.length
  · have hx : xs[i]? = some xs[i] := List.getElem?_eq_getElem hlt
    have hlt2 : i < ys.length := by omega
    have hy : ys[i]? = some ys[i] := List.getElem?_eq_getElem hlt2
    refine .inr ⟨⟨xs, ys, _, _, qx, qy, hx, hy⟩, Pv (i + 1), fun H' p' => ⟨xs.length - (i + 1), by omega, rfl, hlt, p'⟩, fun v H' y => ?_⟩
    obtain ⟨T, x', y', rfl, hT, rfl, f1, f2⟩ := y
    exact hs i x' y' T H (f1 xs qx) (f2 ys qy) p hT
  · have e : i = xs.length := by omega
    subst e
    exact .inl ⟨⟨xs, ys, qx, qy, Or.inl (Nat.le_refl _)⟩, hd H p⟩
section
variable {K : PySem.W.Frag} {H H' H1 H4 : Hp} {D : Addr}
/-- a tuple stands as it stood where a list changes -/
theorem sqt_mut {t : Addr} {xs ys : List V} {o : HO} (hD : H D = some (.lst xs)) (h : SqT K H t ys) : SqT K (upd H D o) t ys := by
  rcases h with (h | ⟨ob, h⟩) | h
  · exact .inl (.inl (by rw [upd_ne (ne_of h hD (by intro z; cases z))]; exact h))
  · exact .inl (.inr ⟨ob, by rw [upd_ne (ne_of h hD (by intro z; cases z))]; exact h⟩)
  · exact .inr h
theorem FrV.mut {xs : List V} {o : HO} {v : V} {r : Rat} (hD : H D = some (.lst xs)) (h : FrV K H v r) : FrV K (upd H D o) v r := by
  obtain ⟨t, rfl, q⟩ := h
  exact ⟨t, rfl, sqt_mut hD q⟩
theorem RowV.mut {xs : List V} {o : HO} {v : V} {r : List Rat} (hD : H D = some (.lst xs)) (h : RowV K H v r) : RowV K (upd H D o) v r := by
  obtain ⟨t, ys, rfl, q, l⟩ := h
  exact ⟨t, ys, rfl, sqt_mut hD q, pmono (fun _ _ => FrV.mut hD) l⟩
theorem SumV.mut {xs : List V} {o : HO} {v : V} {s : Sum2} (hD : H D = some (.lst xs)) (h : SumV K H v s) : SumV K (upd H D o) v s := by
  obtain ⟨t, a, b, rfl, q, l, n⟩ := h
  exact ⟨t, a, b, rfl, sqt_mut hD q, l.mut hD, n.mut hD⟩
/-- what a comprehension has built of things of a kind R behind i turns -/
def Bld {α : Type} (R : Hp → V → α → Prop) (H1 : Hp) (D : Addr) (L : List α) (i : Nat) (H' : Hp) : Prop := Ex H1 H' ∧ ∃ xs, H' D = some (.lst xs) ∧ xs.length = i ∧ Paired (R H') xs (L.take i)
/-- a kind of things that stay as they are where the heap grows, where a list changes -/
structure Stays {α : Type} (R : Hp → V → α → Prop) : Prop where
  ex : ∀ {H H' v a}, Ex H H' → R H v a → R H' v a
  mt : ∀ {H D xs o v a}, H D = some (.lst xs) → R H v a → R (upd H D o) v a
theorem stF : Stays (FrV K) := ⟨FrV.ex, FrV.mut⟩
theorem stR : Stays (RowV K) := ⟨RowV.ex, RowV.mut⟩
theorem stS : Stays (SumV K) := ⟨SumV.ex, SumV.mut⟩
theorem bld0 {α : Type} {R : Hp → V → α → Prop} {L : List α} (hD : H1 D = none) : Bld R H1 D L 0 (upd H1 D (.lst [])) := ⟨Ex.new hD, [], upd_same, rfl, .nil⟩
theorem bld_step {α : Type} {R : Hp → V → α → Prop} (S : Stays R) {L : List α} {i : Nat} {v : V} {a : α} (hD : H1 D = none) (b : Bld R H1 D L i H') (e : Ex H' H4) (hi : L[i]? = some a) (hz : i < 100000) (hv : R H4 v a) :
    ∃ acc, H4 D = some (.lst acc) ∧ acc.length < sizeLine ∧ Bld R H1 D L (i + 1) (upd H4 D (.lst (acc ++ [v]))) := by
  obtain ⟨e1, xs, hx, hl, p⟩ := b
  have h4 := e D _ hx
  refine ⟨xs, h4, sz_lt (by omega), Ex.mut (e1.trans e) hD, xs ++ [v], upd_same, by simp [hl], ?_⟩
  rw [List.take_add_one, hi]
  exact Paired.snoc (pmono (fun _ _ q => S.mt h4 (S.ex e q)) p) (S.mt h4 hv)
theorem bld_end {α : Type} {R : Hp → V → α → Prop} {L : List α} {n : Nat} (hn : n = L.length) (b : Bld R H1 D L n H') : Ex H1 H' ∧ ∃ xs, H' D = some (.lst xs) ∧ Paired (R H') xs L := by
  obtain ⟨e1, xs, hx, hl, p⟩ := b
  refine ⟨e1, xs, hx, ?_⟩
  rwa [hn, List.take_length] at p
/-- the tuple made of what was built -/
theorem bld_row {L : List Rat} {n : Nat} {l : Addr} {xs : List V} (hx : H' D = some (.lst xs)) (p : FrL K H' xs L) (hl : H' l = none) : RowV K (upd H' l (.tup xs)) (.ref l) L :=
  ⟨l, xs, rfl, st_of upd_same, FrL.ex (Ex.new hl) p⟩
end
/-! ### promises of the sums' defs -/
def spSumP (K : PySem.W.Frag) : Sp := fun vs H Q _ => ∃ (x y : V) (s t : Sum2) (n d m e : Nat), vs = [x, y] ∧ SumV K H x s ∧ SumV K H y t ∧ s.1.length = t.1.length ∧ s.1.length ≤ 100 ∧ SzL n d s.1 ∧ Sz n d s.2 ∧ SzL m e t.1 ∧ Sz m e t.2 ∧
  (0 < n ∧ 0 < d ∧ 0 < m ∧ 0 < e ∧ d + e ≤ 8900 ∧ n + m + d + e ≤ 900000) ∧ ∀ v H', Ex H H' → SumV K H' v (splus s t) → Q v H'
def spSumT (K : PySem.W.Frag) : Sp := fun vs H Q _ => ∃ (x y : V) (r : Rat) (t : Sum2) (n d m e : Nat), vs = [x, y] ∧ FrV K H x r ∧ SumV K H y t ∧ t.1.length ≤ 100 ∧ Sz n d r ∧ SzL m e t.1 ∧ Sz m e t.2 ∧
  (0 < n ∧ 0 < d ∧ 0 < m ∧ 0 < e ∧ d + e ≤ 8900 ∧ n + m + d + e ≤ 900000) ∧ ∀ v H', Ex H H' → SumV K H' v (stimes r t) → Q v H'
def spFlat (K : PySem.W.Frag) : Sp := fun vs H Q _ => ∃ (k : Nat) (y : V) (r : Rat), vs = [.int (k : Int), y] ∧ FrV K H y r ∧ k ≤ 100 ∧ ∀ v H', Ex H H' → SumV K H' v (List.replicate k 0, r) → Q v H'
/-- the row with 1 at a place -/
def unit (k p : Nat) : List Rat := (List.range k).map fun i => if i = p then 1 else 0
def spPlace (K : PySem.W.Frag) : Sp := fun vs H Q _ => ∃ (k p : Nat), vs = [.int (k : Int), .int (p : Int)] ∧ k ≤ 100 ∧ ∀ v H', Ex H H' → SumV K H' v (unit k p, 0) → Q v H'
end Nc
end
section
set_option maxRecDepth 100000
set_option maxHeartbeats 4000000
namespace Nc
open PySem PySem.Spec PyProof.Rows L2 Evl
/-! ### the stream: a list of three whole numbers at s, that alone changes -/
def Stm (s : Addr) (H : Hp) : Prop := ∃ a b c : Int, H s = some (.lst [.int a, .int b, .int c])
structure Dr (s : Addr) (H H' : Hp) : Prop where
  keep : ∀ a o, a ≠ s → H a = some o → H' a = some o
  st : Stm s H'
section
variable {K : PySem.W.Frag} {s p : Addr} {H H' H2 : Hp}
theorem Dr.refl (h : Stm s H) : Dr s H H := ⟨fun _ _ _ q => q, h⟩
theorem Dr.trans (a : Dr s H H') (b : Dr s H' H2) : Dr s H H2 := ⟨fun x o hx q => b.keep x o hx (a.keep x o hx q), b.st⟩
theorem Stm.ne (h : Stm s H) (hp : H p = none) : s ≠ p := by
  obtain ⟨a, b, c, e⟩ := h
  exact ne_of_none e hp
theorem Dr.new {o : HO} (h : Stm s H) (hp : H p = none) : Dr s H (upd H p o) := ⟨fun a u ha q => by rw [upd_ne (ne_of_none q hp)]; exact q, by
  obtain ⟨a, b, c, e⟩ := id h
  exact ⟨a, b, c, by rw [upd_ne (h.ne hp)]; exact e⟩⟩
/-- another list changes -/
theorem Dr.mut {o : HO} (d : Dr s H H') (hp : H p = none) (hs : s ≠ p) : Dr s H (upd H' p o) := ⟨fun a u ha q => by rw [upd_ne (ne_of_none q hp)]; exact d.keep a u ha q, by
  obtain ⟨a, b, c, e⟩ := d.st
  exact ⟨a, b, c, by rw [upd_ne hs]; exact e⟩⟩
theorem Dr.ex (h : Stm s H) (e : Ex H H') : Dr s H H' := ⟨fun a o _ q => e a o q, by
  obtain ⟨a, b, c, q⟩ := h
  exact ⟨a, b, c, e _ _ q⟩⟩
theorem sqt_dr {t : Addr} {xs : List V} (h : Stm s H) (d : Dr s H H') (q : SqT K H t xs) : SqT K H' t xs := by
  obtain ⟨a, b, c, e⟩ := h
  rcases q with (q | ⟨o, q⟩) | q
  · exact .inl (.inl (d.keep _ _ (ne_of q e (by intro z; cases z)) q))
  · exact .inl (.inr ⟨o, d.keep _ _ (ne_of q e (by intro z; cases z)) q⟩)
  · exact .inr q
theorem FrV.dr {v : V} {r : Rat} (h : Stm s H) (d : Dr s H H') (q : FrV K H v r) : FrV K H' v r := by
  obtain ⟨t, rfl, q⟩ := q
  exact ⟨t, rfl, sqt_dr h d q⟩
theorem FrL.dr {xs : List V} {rs : List Rat} (h : Stm s H) (d : Dr s H H') (q : FrL K H xs rs) : FrL K H' xs rs := pmono (fun _ _ => FrV.dr h d) q
theorem RowV.dr {v : V} {rs : List Rat} (h : Stm s H) (d : Dr s H H') (q : RowV K H v rs) : RowV K H' v rs := by
  obtain ⟨t, xs, rfl, q, l⟩ := q
  exact ⟨t, xs, rfl, sqt_dr h d q, FrL.dr h d l⟩
theorem SumV.dr {v : V} {z : Sum2} (h : Stm s H) (d : Dr s H H') (q : SumV K H v z) : SumV K H' v z := by
  obtain ⟨t, a, b, rfl, q, l, n⟩ := q
  exact ⟨t, a, b, rfl, sqt_dr h d q, l.dr h d, n.dr h d⟩
/-- the stream's list changes -/
theorem Dr.put {xs : List V} {a b c : Int} (h : H s = some (.lst xs)) : Dr s H (upd H s (.lst [.int a, .int b, .int c])) := ⟨fun x o hx q => by rw [upd_ne hx]; exact q, ⟨a, b, c, upd_same⟩⟩
end
theorem b01 (k : Bool) : -(2 ^ 64) < (if k = true then (1 : Int) else 0) ∧ (if k = true then (1 : Int) else 0) < 2 ^ 64 := by
  cases k <;> decide
theorem modb (x : Int) {m : Int} (h : 0 < m) (hm : m ≤ 2 ^ 64) : -(2 ^ 64) < x % m ∧ x % m < 2 ^ 64 := by
  have h1 := Int.emod_nonneg x (b := m) (by omega)
  have h2 := Int.emod_lt_of_pos x h
  omega
theorem cdivT {i m : Int} (h : 0 < m) (hm : m < 2 ^ 200) : CDivW i m := wide_div (b := 200) h (by omega) (by decide) (by decide)
/-! ### promises of what is drawn -/
def spCell (K : PySem.W.Frag) : Sp := fun vs H Q _ => ∃ (a : Addr) (ns : List Int) (k : Nat), vs = [.ref a, .int (k : Int)] ∧ SqL K H a (ns.map V.int) ∧ k ≤ 100 ∧ ∀ c : Int, Q (.int c) H
def spStream : Sp := fun vs H Q _ => ∃ c : Int, vs = [.int c] ∧ ∀ s a b d, H s = none → Q (.ref s) (upd H s (.lst [.int a, .int b, .int d]))
def spTake : Sp := fun vs H Q _ => ∃ (s : Addr) (m : Int), vs = [.ref s, .int m] ∧ Stm s H ∧ 0 < m ∧ m < 2 ^ 200 ∧ ∀ d H', 0 ≤ d → d < m → Dr s H H' → Q (.int d) H'
/-- a whole number above nought, below a bound -/
def spDraw (n : Nat) : Sp := fun vs H Q _ => ∃ s : Addr, vs = [.ref s] ∧ Stm s H ∧ ∀ d H', 0 < d → d.natAbs < 2 ^ n → Dr s H H' → Q (.int d) H'
/-- a fraction of that size -/
def spNum (K : PySem.W.Frag) (n d : Nat) : Sp := fun vs H Q _ => ∃ s : Addr, vs = [.ref s] ∧ Stm s H ∧ ∀ v r H', Dr s H H' → FrV K H' v r → Sz n d r → Q v H'
/-- a row of so many -/
def spRow (K : PySem.W.Frag) (n d : Nat) : Sp := fun vs H Q _ => ∃ (s : Addr) (k : Nat), vs = [.ref s, .int (k : Int)] ∧ Stm s H ∧ k ≤ 100 ∧ ∀ v L H', Dr s H H' → RowV K H' v L → L.length = k → SzL n d L → Q v H'
end Nc
end
section
set_option maxRecDepth 100000
set_option maxHeartbeats 4000000
namespace Nc
open PySem PySem.Spec PyProof.Rows L2 Evl
theorem depthAll_fd : ∀ rs : List Rat, PyData.depthAll (rs.map fd) ≤ 1
  | [] => Nat.zero_le _
  | r :: rs => by
    have ih := depthAll_fd rs
    show max (PyData.depth (fd r)) (PyData.depthAll (rs.map fd)) ≤ 1
    have : PyData.depth (fd r) = 1 := rfl
    omega
theorem lay_row (rs : List Rat) : (PyData.tuple (rs.map fd)).canLay0 = true := layAll_fd rs
theorem shaped_row (rs : List Rat) : SeqAt.shaped (.tuple (rs.map fd)) = true := by
  unfold SeqAt.shaped
  rw [lay_row, Bool.true_and]
  refine decide_eq_true ?_
  have := depthAll_fd rs
  show PyData.depthAll (rs.map fd) + 1 ≤ 64
  omega
theorem shaped_list (rs : List Rat) : SeqAt.shaped (.list (rs.map fd)) = true := by
  unfold SeqAt.shaped
  have h : (PyData.list (rs.map fd)).canLay0 = true := layAll_fd rs
  rw [h, Bool.true_and]
  refine decide_eq_true ?_
  have := depthAll_fd rs
  show PyData.depthAll (rs.map fd) + 1 ≤ 64
  omega
theorem shaped_fd (r : Rat) : SeqAt.shaped (fd r) = true := rfl
theorem lay_sd (s : Sum2) : (sd s).canLay0 = true := by
  show ((PyData.tuple (s.1.map fd)).canLay0 && ((fd s.2).canLay0 && true)) = true
  rw [lay_row]
  rfl
theorem shaped_sd (s : Sum2) : SeqAt.shaped (sd s) = true := by
  unfold SeqAt.shaped
  rw [lay_sd, Bool.true_and]
  refine decide_eq_true ?_
  have h1 := depthAll_fd s.1
  have h2 : PyData.depth (fd s.2) = 1 := rfl
  show max (PyData.depthAll (s.1.map fd) + 1) (max (PyData.depth (fd s.2)) 0) + 1 ≤ 64
  omega
theorem eqv_sd (s : Sum2) : PyData.eqv (sd s) (sd s) = true := SeqAt.eqv_refl _ (lay_sd s)
theorem eqv_fd (r : Rat) : PyData.eqv (fd r) (fd r) = true := SeqAt.eqv_refl _ rfl
theorem eqv_row (rs : List Rat) : PyData.eqv (.tuple (rs.map fd)) (.tuple (rs.map fd)) = true := SeqAt.eqv_refl _ (lay_row rs)
theorem eqv_list (rs : List Rat) : PyData.eqv (.list (rs.map fd)) (.list (rs.map fd)) = true := SeqAt.eqv_refl _ (layAll_fd rs)
/-- a tuple's type -/
theorem tyT {K : PySem.W.Frag} {H : Hp} {t : Addr} {xs : List V} (q : SqT K H t xs) : TyX K H (.ref t) (.type "tuple") := by
  rcases q with (q | ⟨o, q⟩) | ⟨o, its, n, h, hc, _⟩
  · exact .base (.tup q)
  · exact .fTuple q
  · exact .kTuple h hc
theorem tyI {K : PySem.W.Frag} {H : Hp} (i : Int) : TyX K H (.int i) (.type "int") := .base (.int i)
theorem sz_tells {n d m e : Nat} {s : Sum2} {row : List Rat} (hn : d ≤ n) (hm : e ≤ m) (ha : SzL n d s.1) (hb : SzL m e row) (hc : Sz n d s.2) (hl : s.1.length = row.length) : Sz (1 + s.1.length * (n + m + 1) + n + 1) (1 + s.1.length * (d + e) + d) (tells s row) := by
  have h := sz_of_weighs hn hm ha hb hl
  have le : s.1.length * (d + e) ≤ s.1.length * (n + m + 1) := Nat.mul_le_mul_left _ (by omega)
  exact sz_add (N := 1 + s.1.length * (n + m + 1) + n) h hc (by omega) (by omega)
theorem len_splus (s t : Sum2) (h : s.1.length = t.1.length) : (splus s t).1.length = s.1.length := by
  unfold splus
  simp
  omega
theorem len_stimes (q : Rat) (s : Sum2) : (stimes q s).1.length = s.1.length := by
  unfold stimes
  simp
theorem szl_splus {n d m e N : Nat} {s t : Sum2} (h1 : SzL n d s.1) (h2 : SzL m e t.1) (k1 : n + e ≤ N := by omega) (k2 : m + d ≤ N := by omega) : SzL (N + 1) (d + e) (splus s t).1 := by
  intro r hr
  unfold splus at hr
  obtain ⟨p, hp, rfl⟩ := List.mem_map.mp hr
  have := List.of_mem_zip hp
  exact sz_add (h1 _ this.1) (h2 _ this.2)
theorem szl_stimes {n d m e : Nat} {q : Rat} {s : Sum2} (h1 : Sz n d q) (h2 : SzL m e s.1) : SzL (n + m) (d + e) (stimes q s).1 := by
  intro r hr
  unfold stimes at hr
  obtain ⟨p, hp, rfl⟩ := List.mem_map.mp hr
  exact sz_mul h1 (h2 _ hp)
/-- the found sum is the due one, by its own kinds -/
def spWhole (K : PySem.W.Frag) : Sp := fun vs H Q _ => ∃ (x y : V) (s : Sum2), vs = [x, y] ∧ SumV K H x s ∧ SumV K H y s ∧ s.1.length ≤ 100 ∧ ∀ H', Ex H H' → Q (.bl true) H'
def spPlaces : Sp := fun vs H Q _ => ∃ k : Nat, vs = [.int (k : Int)] ∧ k ≤ 100 ∧ ∀ H', Ex H H' → Q (.bl true) H'
/-- all goes well, the stream alone changes -/
def spRight : Sp := fun vs H Q _ => ∃ s : Addr, vs = [.ref s] ∧ Stm s H ∧ ∀ H', (∀ a o, a ≠ s → H a = some o → H' a = some o) → Q (.bl true) H'
def spLaw (K : PySem.W.Frag) : Sp := fun vs H Q _ => ∃ (a : Addr) (ns : List Int), vs = [.ref a] ∧ SqL K H a (ns.map V.int) ∧ ns.length ≤ 63 ∧ ∀ H', Q (.bl true) H'
end Nc
end
section
set_option maxRecDepth 100000
set_option maxHeartbeats 4000000
namespace Nc
open PySem PySem.Spec PyProof.Rows L2 Evl
/-! ### bottoms of either sign -/
theorem gcdI_dvd_left (t b : Int) : ((Nat.gcd t.natAbs b.natAbs : Nat) : Int) ∣ t := Int.ofNat_dvd_left.mpr (Nat.gcd_dvd_left _ _)
theorem gcdI_dvd_right (t b : Int) : ((Nat.gcd t.natAbs b.natAbs : Nat) : Int) ∣ b := Int.ofNat_dvd_left.mpr (Nat.gcd_dvd_right _ _)
theorem gcd_posZ {t b : Int} (hb : b ≠ 0) : (0 : Int) < ((Nat.gcd t.natAbs b.natAbs : Nat) : Int) := by
  have := Nat.gcd_pos_of_pos_right t.natAbs (n := b.natAbs) (by omega)
  omega
theorem gcd_leZ {t b : Int} (hb : b ≠ 0) : ((Nat.gcd t.natAbs b.natAbs : Nat) : Int).natAbs ≤ b.natAbs := by
  rw [Int.natAbs_natCast]
  exact Nat.gcd_le_right t.natAbs (n := b.natAbs) (by omega)
theorem num_neg {t b : Int} (hb : b < 0) : t.fdiv (-((Nat.gcd t.natAbs b.natAbs : Nat) : Int)) = (Rat.divInt t b).num := by
  rw [Int.fdiv_eq_ediv_of_dvd (Int.neg_dvd.mpr (gcdI_dvd_left t b)), Int.ediv_neg, Rat.num_divInt, Int.sign_eq_neg_one_of_neg hb, Int.gcd_comm]
  have : -1 * t = -t := by omega
  rw [this]
  exact (Int.neg_ediv_of_dvd (gcdI_dvd_left t b)).symm
theorem den_neg {t b : Int} (hb : b < 0) : b.fdiv (-((Nat.gcd t.natAbs b.natAbs : Nat) : Int)) = ((Rat.divInt t b).den : Int) := by
  rw [Int.fdiv_eq_ediv_of_dvd (Int.neg_dvd.mpr (gcdI_dvd_right t b)), Int.ediv_neg, Rat.den_divInt, if_neg (by omega), Int.gcd_comm]
  have e : ((b.natAbs : Nat) : Int) = -b := by omega
  rw [Int.natCast_ediv, e]
  exact (Int.neg_ediv_of_dvd (gcdI_dvd_right t b)).symm
theorem num_pos {t b : Int} (hb : 0 < b) : t.fdiv ((Nat.gcd t.natAbs b.natAbs : Nat) : Int) = (Rat.divInt t b).num := by
  rw [Int.fdiv_eq_ediv_of_dvd (gcdI_dvd_left t b)]
  exact num_div hb
theorem den_posI {t b : Int} (hb : 0 < b) : b.fdiv ((Nat.gcd t.natAbs b.natAbs : Nat) : Int) = ((Rat.divInt t b).den : Int) := by
  rw [Int.fdiv_eq_ediv_of_dvd (gcdI_dvd_right t b)]
  exact den_div hb
theorem sz_divZ {t b : Int} {n d : Nat} (hb : b ≠ 0) (ht : t.natAbs < 2 ^ n) (hz : b.natAbs < 2 ^ d) : Sz n d (Rat.divInt t b) := by
  by_cases h : 0 < b
  · exact sz_div h ht hz
  · have h2 : (0 : Int) < -b := by omega
    have e : Rat.divInt t b = Rat.divInt (-t) (-b) := by
      rw [Rat.divInt_eq_divInt_iff hb (by omega)]
      rw [Int.mul_neg, Int.neg_mul]
    rw [e]
    exact sz_div h2 (by omega) (by omega)
theorem cross {t b : Int} (hb : b ≠ 0) : (Rat.divInt t b).num * b = t * ((Rat.divInt t b).den : Int) := by
  have h := Rat.num_divInt_den (Rat.divInt t b)
  have hd := den_pos (Rat.divInt t b)
  rwa [Rat.divInt_eq_divInt_iff (by omega) hb] at h
theorem sub_is (r s : Rat) : Rat.divInt (r.num * (s.den : Int) - s.num * (r.den : Int)) ((r.den : Int) * (s.den : Int)) = r - s := by
  have h1 := den_pos r
  have h2 := den_pos s
  rw [← Rat.divInt_sub_divInt r.num s.num (by omega) (by omega), Rat.num_divInt_den, Rat.num_divInt_den]
theorem lt_sub {n : Nat} {i j : Int} (ha : i.natAbs < 2 ^ n) (hb : j.natAbs < 2 ^ n) : (i - j).natAbs < 2 ^ (n + 1) := by
  rw [Nat.pow_succ]
  omega
theorem weighs_comm : ∀ (a b : List Rat), weighs (a.zip b) = weighs (b.zip a)
  | [], b => by cases b <;> rfl
  | x :: a, [] => rfl
  | x :: a, y :: b => by
    simp only [List.zip_cons_cons, weighs_cons]
    rw [weighs_comm a b, Rat.mul_comm]
/-! ### // by any divisor below 2 ^ 9000; a text so many times -/
def CDivZ (_ j : Int) : Prop := j ≠ 0 ∧ j.natAbs.log2 < 9000
theorem op_fdivZ {X : Cx} : OpR X (binaryOp .FloorDiv) (rI CDivZ fun i j => .int (i.fdiv j)) := opI fun i j _ _ _ _ _ hc q => floordiv_int hc.1 q (.inl (PyProof.noPylong_of_log2 hc.2))
theorem cdivZ {i j : Int} {b : Nat} (h : j ≠ 0) (hb : j.natAbs < 2 ^ b) (h0 : 0 < b) (h9 : b ≤ 9000) : CDivZ i j := ⟨h, Nat.lt_of_lt_of_le (PySem.Flt.log2_lt_of h0 hb) h9⟩
theorem op_mulStr {X : Cx} {x : Str} {n : Int} (hr : (decide (n < -(2 ^ 63 : Int)) || decide (n ≥ 2 ^ 63)) = false) (h1 : ¬ n < 1) (h2 : (n == 1 || x.length == 0) = false)
    (hb : ¬ ((x.length : Int) > (2 ^ 63 - 1) / n)) (hl : Builtin.Str.tooLong (x.length * n.toNat) = false) :
    OpR X (binaryOp .Mult) (fun a b H Q => a = .str x ∧ b = .int n ∧ (⟨(List.replicate n.toNat x.cps).foldl (· ++ ·) #[]⟩ : Str).length ≤ sizeLine ∧ Q (.str ⟨(List.replicate n.toNat x.cps).foldl (· ++ ·) #[]⟩) H) := by
  intro pins s σ H a b v u Q I ra rb h
  obtain ⟨rfl, rfl, hz, q⟩ := h
  obtain ⟨t, rfl⟩ := ra
  obtain ⟨t2, rfl⟩ := rb
  refine PySem.P.mul_str hr (fun _ _ => hb) (fun _ _ => hl) ?_
  rw [if_neg h1, if_neg (by rw [h2]; decide)]
  exact ⟨hz, ⟨.str _, H, I.tok _, ⟨_, rfl⟩, q⟩⟩
end Nc
end
section
set_option maxRecDepth 100000
set_option maxHeartbeats 4000000
namespace Nc
open PySem PySem.Spec PyProof.Rows L2 Evl
/-! ### promises of k02's defs -/
def spPartZ (K : PySem.W.Frag) : Sp := fun vs H Q _ => ∃ (t b : Int) (n : Nat), vs = [.int t, .int b] ∧ b ≠ 0 ∧ b.natAbs < 2 ^ n ∧ 0 < n ∧ n ≤ 9000 ∧ ∀ v H', Ex H H' → FrV K H' v (Rat.divInt t b) → Q v H'
theorem Ok.imp {P : Program} {w : World} {K : PySem.W.Frag} {mg : Str → Option Value} {base : Heap} {k : Nat} {x : Str} {ps : List Str} {sp sp' : Sp} (D : Ok P w K mg base k x ps sp) (h : ∀ vs H Q E, sp' vs H Q E → sp vs H Q E) : Ok P w K mg base k x ps sp' := by
  obtain ⟨f, fd, g, kp, F, b⟩ := D.ex
  exact ⟨f, fd, g, kp, F.imp h, b⟩
theorem part_imp {K : PySem.W.Frag} : ∀ vs H Q E, spPart K vs H Q E → spPartZ K vs H Q E := by
  rintro vs H Q E ⟨t, b, n, h1, h2, h3, h4, h5, q⟩
  exact ⟨t, b, n, h1, by omega, h3, h4, h5, q⟩
abbrev spMinus := sp2 (· - ·)
def spRatio (K : PySem.W.Frag) : Sp := fun vs H Q _ => ∃ (x y : V) (r s : Rat) (n d m e : Nat), vs = [x, y] ∧ FrV K H x r ∧ FrV K H y s ∧ Sz n d r ∧ Sz m e s ∧ s.num ≠ 0 ∧ (0 < n ∧ 0 < d ∧ 0 < m ∧ 0 < e ∧ d + m ≤ 8900 ∧ n + m + d + e ≤ 900000) ∧
  ∀ v H', Ex H H' → FrV K H' v (Rat.divInt (r.num * (s.den : Int)) ((r.den : Int) * s.num)) → Q v H'
def spLess (K : PySem.W.Frag) : Sp := fun vs H Q _ => ∃ (x y : V) (r s : Rat) (n d m e : Nat), vs = [x, y] ∧ FrV K H x r ∧ FrV K H y s ∧ Sz n d r ∧ Sz m e s ∧ (0 < n ∧ 0 < d ∧ 0 < m ∧ 0 < e ∧ n + m + d + e ≤ 900000) ∧ Q (.bl (decide (r.num * (s.den : Int) < s.num * (r.den : Int)))) H
/-- the greatest shared divisor -/
def spCommon : Sp := fun vs H Q _ => ∃ a b : Int, vs = [.int a, .int b] ∧ 0 ≤ a ∧ 0 < b ∧ Q (.int ((Nat.gcd a.natAbs b.natAbs : Nat) : Int)) H
/-- a whole number of so many bits at most -/
def spInt (n : Nat) : Sp := fun vs H Q _ => ∃ s : Addr, vs = [.ref s] ∧ Stm s H ∧ ∀ d H', d.natAbs < 2 ^ n → Dr s H H' → Q (.int d) H'
/-- the found fraction is that of a top and a bottom -/
def spIs (K : PySem.W.Frag) : Sp := fun vs H Q _ => ∃ (x : V) (t b : Int) (n : Nat), vs = [x, .int t, .int b] ∧ b ≠ 0 ∧ FrV K H x (Rat.divInt t b) ∧ t.natAbs < 2 ^ n ∧ b.natAbs < 2 ^ n ∧ 0 < n ∧ n ≤ 400000 ∧ ∀ H', Ex H H' → Q (.bl true) H'
def spPair (K : PySem.W.Frag) : Sp := fun vs H Q _ => ∃ (x y : V) (r s : Rat), vs = [x, y] ∧ FrV K H x r ∧ FrV K H y s ∧ Sz 2700 200 r ∧ Sz 2700 200 s ∧ ∀ H', Ex H H' → Q (.bl true) H'
/-- a row of at most six long ones, or of at most thirty-one short ones -/
def SzR (L : List Rat) : Prop := (L.length ≤ 6 ∧ SzL 1330 100 L) ∨ (L.length ≤ 31 ∧ SzL 4 4 L)
def spRow2 (K : PySem.W.Frag) : Sp := fun vs H Q _ => ∃ (s : Addr) (k : Nat), vs = [.ref s, .int (k : Int)] ∧ Stm s H ∧ k ≤ 31 ∧ ∀ v L H', Dr s H H' → RowV K H' v L → L.length = k → SzR L → (6 < k → SzL 4 4 L) → Q v H'
/-- what two rows come to, not divided -/
def spDue (K : PySem.W.Frag) : Sp := fun vs H Q _ => ∃ (x y : V) (a b : List Rat), vs = [x, y] ∧ RowV K H x a ∧ RowV K H y b ∧ a.length = b.length ∧ SzR a ∧ SzR b ∧ a.length ≤ 31 ∧
  ∀ (p : Addr) (t u : Int) H', Ex H H' → SqT K H' p [.int t, .int u] → 0 < u → weighs (a.zip b) = Rat.divInt t u → t.natAbs < 2 ^ 90000 → u.natAbs < 2 ^ 90000 → Q (.ref p) H'
end Nc
end
section
set_option maxRecDepth 100000
set_option maxHeartbeats 4000000
namespace Nc
open PySem PySem.Spec PyProof.Rows L2 Evl
/-! ### a def's promise where no repr is under way around it -/
structure GOk (P : Program) (w : World) (K : PySem.W.Frag) (mg : Str → Option Value) (base : Heap) (k : Nat) (f : Addr) (fd : FuncData) (ps : List Str) (sp : Sp) : Prop where
  many : ∀ vs H Q E, sp vs H Q E → vs.length = ps.length
  go : ∀ (A : Around) (stack : List Env) (s : Shared) (H : Hp) (us : List Value) (vs : List V) (Q : VK), A.guards = some [] → Room k A → Env0 P w K mg base A stack s H →
    BindsTo s fd ⟨us, []⟩ (ps.zip us) → Vals vs us → sp vs H Q E0 → codeAny (model P w) A (.call (.ref f) ⟨us, []⟩) (CR CX0 stack P w H s Q E0) s
section
variable {P : Program} {w : World} {K : PySem.W.Frag} {mg : Str → Option Value} {base : Heap} {k : Nat} {f : Addr} {fd : FuncData} {x qual : Str} {st : Stmt} {N ps : List Str} {sp : Sp}
/-- by its body's term, which may say repr -/
theorem gok (F : Fun K x qual st f fd) (S : FnScope N ps (defScope st)) (many : ∀ vs H Q E, sp vs H Q E → vs.length = ps.length)
    (body : ∀ (cdv : Value) (A : Around) (stack : List Env) (s : Shared) (H : Hp) (vs : List V) (Q : VK) (_ : A.guards = some []) (_ : Room k (A.deeper (envOfC qual (defScope st) s.heap.objs.size f cdv))), sp vs H Q E0 →
      ∃ t, PSs (cxOf CX0 P w K mg base N qual (defScope st) f cdv A stack s H E0).nox (defBody st) t ∧ t ⟨fun _ H' => Q .non H', Q, fun _ _ => False, fun _ _ => False⟩ (start N vs) H) : GOk P w K mg base (k + 1) f fd ps sp := by
  obtain ⟨oc, od, kV, doc, pm, an, cdv, ct, osl, rfl, lk, hcd⟩ := F.ex
  constructor
  · exact many
  intro A stack s H us vs Q hG hR e0 hb rv hsp
  have sz := many _ _ _ _ hsp
  have inK : K.In s.heap := e0.mod.kin.keeps fun b o e => And.left (e0.bs b o e)
  have kinds : ∀ y ∈ ps.zip us, (defScope st).names.lookup y.1 = some .local ∨ ((defScope st).names.lookup y.1 = some .cell ∧ ((cellsFrom (s.heap.objs.size + 1) (defScope st).names []).lookup y.1).isSome = true) := by
    rintro ⟨n, v⟩ hy
    have hn := S.par n (List.of_mem_zip hy).1
    exact hn.imp id fun c => ⟨c, PySem.W.cellsFrom_some _ _ _ (.inl c)⟩
  obtain ⟨t, ht, hq⟩ := body cdv A stack s H vs Q hG (hR.deeper _) hsp
  apply codeAny_call_function (ho := inK _ _ lk) (hd' := rfl) (hco := S.co) (hgen := S.gen) (hbody := rfl) (hcd := PySem.W.codeRec_of inK hcd) hR.depth
  apply hb
  apply wpAny_newFunctionEnv_cells S.kind kinds
  rintro env rfl s1 x1
  constructor
  · exact (e0.mod.nolimit.keeps fun b o e => And.left (e0.bs b o e)).keeps x1.toInCall.keep
  apply codeAny_func
  have I := inv_start (CX := CX0) (E := E0) S hR.hd e0 sz rv x1
  refine wpAny_mono (ht.nox.run [] s1 _ H _ I hq) ?_ fun _ _ z => z
  have leave : ∀ {σ' : L2.St} {H' : Hp} {v : V} {u : Value} {s'' : Shared}, Inv (cxOf CX0 P w K mg base N qual (defScope st) f cdv A stack s H E0) [] σ' H' s'' → RelV v u → Q v H' → CE stack P w H s Q u s'' := fun J r z => ⟨_, _, J.os, J.bare, J.base, J.hok, r, z⟩
  rintro (_ | _ | _ | u) s2 hs
  all_goals first
    | (obtain ⟨_, _, J, z⟩ := hs; exact leave (v := .non) (u := .none) J rfl z)
    | (obtain ⟨_, _, _, J, r, z⟩ := hs; exact leave J r z)
    | (obtain ⟨_, _, _, z⟩ := hs; exact z.elim)
end
section
variable {X : Cx} {k : Nat} {f : Addr} {fd : FuncData} {ps : List Str} {sp : Sp} {x : Str} {e : Expr} {es : List Expr} {ta : TA} {p pos : Pos}
/-- a call of such a def, from where no repr is under way -/
theorem clG (F : GOk X.prog X.w X.K X.mg X.base k f fd ps sp) (hG : X.A.guards = some []) (hR : Room k X.A) (hm : X.mg x = some (.ref f)) (hk : PySem.W.keepIn X.K (.ref f) = true) (hb : Binds X.K fd ps []) (ha : PA X (e :: es) ta)
    (hg : Gl X x := by rfl) (hdb : (x == ("__debug__" : Str)) = false := by decide) (he : starEach (e :: es) X.env = (false, eval e X.env) :: starEach es X.env := by rfl) (hpl : (backTo pos (starEach es X.env)).any (·.1) = false := by rfl) :
    PE X (.Call (.Name x p) (e :: es) [] pos) (tCall sp [] E0 ta) := by
  constructor
  intro pins s σ H Q I h
  apply wpAny_Call_Name_kw
  apply ld_glob I hg hm (hd := hdb)
  apply PySem.W.callWith_K (h₀ := X.base) I.ok.mod.kin hk (he := he) (hplain := hpl)
  refine thn (ha.run pos pins s σ H _ I h) ?_
  rintro us s1 ⟨vs, H1, J, rv, z⟩
  refine ⟨J.kIn, ?_⟩
  have z' : sp vs H1 Q E0 := by simpa using z
  have sz : us.length = ps.length := by rw [← rv.length]; exact F.many _ _ _ _ z'
  have hb' := hb s1 us J.kIn (by simpa using sz)
  simp only [List.append_nil] at hb'
  apply wpAny_call
  refine codeAny_mono (F.go X.A X.stack s1 H1 us vs Q hG hR J.env0 hb' rv z') ?_
  rintro (_ | (_ | _ | _ | u)) s2 hr
  all_goals first
    | exact J.after hr
    | exact hr.elim
/-- repr of data -/
def rRepr (K : PySem.W.Frag) : List V → Hp → VK → Prop := fun vs H Q => ∃ v d, vs = [v] ∧ Dp K H v d ∧ (∃ a, v = .ref a) ∧ d.showable = true ∧ d.hasDict = false ∧ d.depth ≤ 60 ∧ d.shown.length ≤ sizeLine ∧ Q (.str d.shown) H
theorem call_reprD (hG : X.A.guards = some []) (hu : X.A.units + 64 < cLine) : CallR X (.builtin "repr") (rRepr X.K) := by
  intro pins s σ H vs us Q I rv h
  obtain ⟨v, d, rfl, hd, ⟨a, rfl⟩, h1, h2, h3, h4, q⟩ := h
  cases rv with
  | cons r rr =>
    cases rr
    cases r
    obtain ⟨as, R⟩ := Dp.reads I d _ _ hd rfl
    exact repr_of_reads' R h1 (fun z => by rw [h2] at z; cases z) hG (by omega) (fun _ _ z => z) (fun h' u tk kp => ⟨.str d.shown, H, I.kept (t' := tk) kp, ⟨u, rfl⟩, q⟩) h4
end
/-! ### the law's own call -/
/-- the script alone is tracked, and it only where the module doesn't write it -/
noncomputable def onlyA (K : PySem.W.Frag) (a : Addr) (ob : Obj) (xs : List V) : Hp := open Classical in fun b => if b = a ∧ K.lookup a = none then some (.frz ob (.lst xs)) else none
theorem onlyA_some {K : PySem.W.Frag} {a b : Addr} {ob : Obj} {xs : List V} {u : HO} (h : onlyA K a ob xs b = some u) : b = a ∧ K.lookup a = none ∧ u = .frz ob (.lst xs) := by
  unfold onlyA at h
  split at h
  · rename_i c
    exact ⟨c.1, c.2, (Option.some.inj h).symm⟩
  · cases h
theorem gcall {P : Program} {w : World} {K : PySem.W.Frag} {mg mb : Str → Option Value} {k : Nat} {fa a : Addr} {fd : FuncData} {x : Str} {sp : Sp} {s1 : Shared} {us : List Value} {ns : List Int} (inK : K.In s1.heap) (gl : s1.heap.Ns mainGlobals mg) (bl : s1.heap.Ns builtinsNs mb)
    (bb : ∀ y : Str, y ≠ "__name__" → mb y = bootBuiltins y) (nl : s1.heap.NoLimit) (ng : s1.gens = #[]) (at_ : s1.heap.get? a = some { cls := .type "list", data := .seq us.toArray }) (hints : IntsAre us ns) (sz : ns.length ≤ sizeLine) (hR : Room k callerA)
    (F : ∀ base : Heap, K.In base → base.Ns mainGlobals mg → GOk P w K mg base k fa fd [x] sp) (binds : ∀ (s : Shared) (u : Value), BindsTo s fd ⟨[u], []⟩ [(x, u)]) (hsp : ∀ H : Hp, SqL K H a (ns.map V.int) → sp [.ref a] H (fun v _ => v = .bl true) E0) :
    codeAny (model P w) callerA (.call (.ref fa) ⟨[.ref a], []⟩) (fun r s' => r = .ok (.ret (.bool true)) ∧ OldK s1.heap s'.heap ∧ s'.os = s1.os ∧ AllBare s'.gens) s1 := by
  have rv := vals_ints hints
  have ln := hints.length
  have okA : ObjOk P w (onlyA K a { cls := .type "list", data := .seq us.toArray } (ns.map V.int)) s1.heap a (.frz { cls := .type "list", data := .seq us.toArray } (.lst (ns.map V.int))) := ⟨at_, by simpa using sz, us, _, rv, at_⟩
  generalize hobj : ({ cls := .type "list", data := .seq us.toArray } : Obj) = ob at at_ okA
  generalize hH : onlyA K a ob (ns.map V.int) = H0 at okA
  have only : ∀ {b u}, H0 b = some u → b = a ∧ K.lookup a = none ∧ u = .frz ob (.lst (ns.map V.int)) := by
    subst hH
    exact onlyA_some
  have seq : SqL K H0 a (ns.map V.int) := by
    cases hk : K.lookup a with
    | none =>
      refine .inl (.inr ⟨ob, ?_⟩)
      rw [← hH]
      unfold onlyA
      rw [if_pos ⟨rfl, hk⟩]
    | some o =>
      have e := inK a o hk
      rw [at_] at e
      cases e
      subst hobj
      exact .inr ⟨_, us.toArray, _, hk, rfl, rfl, rfl, by rw [List.size_toArray, ln]; exact sz, by simpa using rv⟩
  have unseen : ∀ {b : Addr} {o : Obj}, s1.heap.get? b = some o → (b = a → False) → H0 b = none := by
    intro b o hb hn
    cases q : H0 b with
    | none => rfl
    | some u => exact (hn (only q).1).elim
  have kept : ∀ {b : Addr} {m : Str → Option Value}, s1.heap.Ns b m → (hidT s1.heap H0).Ns b m := by
    rintro b m ⟨o, es, ep, hb, hd, r⟩
    refine ⟨o, es, ep, hidT_get hb (unseen hb fun z => ?_), hd, r⟩
    rw [z, at_] at hb
    cases hb
    rw [← hobj] at hd
    cases hd
  have kIn : K.In (hidT s1.heap H0) := fun b o hb => hidT_get (inK b o hb) (by
    cases q : H0 b with
    | none => rfl
    | some u =>
      obtain ⟨rfl, n, _⟩ := only q
      rw [n] at hb
      cases hb)
  have limit : (hidT s1.heap H0).NoLimit := by
    obtain ⟨mc, h1, h2⟩ := nl
    exact ⟨mc, kept h1, h2⟩
  have hok : HOk P w H0 s1.heap := by
    intro b u hb
    obtain ⟨rfl, _, rfl⟩ := only hb
    exact okA
  have e0 : Env0 P w K mg (hidT s1.heap H0) callerA [] s1 H0 := by
    refine ⟨rfl, ⟨kIn, kept gl, ⟨mb, kept bl, bb⟩, limit⟩, fun b o e => of_hidT e, Nat.le_of_eq (hidT_size _ _), trivial, fun b hb => ?_, hok, .of_eq ng⟩
    cases hb
  refine codeAny_mono ((F _ kIn (kept gl)).go callerA [] s1 H0 [.ref a] [.ref a] _ rfl hR e0 (binds s1 (.ref a)) (.cons rfl .nil) (hsp H0 seq)) ?_
  rintro (_ | (_ | _ | _ | u)) s2 hr
  all_goals first
    | (obtain ⟨v, H2, os, bare, un, ok2, r2, rfl⟩ := hr
       obtain rfl : u = Value.bool true := r2
       refine ⟨rfl, OldK.of_keep fun b o hb => ?_, os, bare⟩
       cases q : H0 b with
       | none => exact un.keep b o hb q (fun z => by cases z) (by simp)
       | some y =>
         obtain ⟨rfl, _, rfl⟩ := only q
         have h3 := ok2 b _ (un.frzs b _ _ q)
         rw [at_] at hb
         cases hb
         exact h3.1)
    | exact hr.elim
theorem gwalk {l : PySem.W.OpenLaw} {n k : Nat} {q : Program} {loose : List Str} {XP : (Str → Option Value) → Heap → Prop} {YP : World → Heap → Prop} {d : DefRec} {K : Params → PySem.W.Frag} {sp : PySem.W.Frag → Sp} {x : Str} (most : l.most = some n) (sz : n ≤ sizeLine) (nodef : d.params.defaults = []) (hR : Room k callerA)
    (inK : ∀ (w : World) (h : Heap), YP w h → (K w.params).In h)
    (F : ∀ (w : World) (mg : Str → Option Value) (fa : Addr) (h : Heap), (K w.params).In h → h.Ns mainGlobals mg → mg d.name = some (.ref fa) →
      ∃ fd : FuncData, (∀ (s : Shared) (u : Value), BindsTo s fd ⟨[u], []⟩ [(x, u)]) ∧ ∀ base : Heap, (K w.params).In base → base.Ns mainGlobals mg → GOk l.prog w (K w.params) mg base k fa fd [x] (sp (K w.params)))
    (hsp : ∀ (K : PySem.W.Frag) (H : Hp) (a : Addr) (ns : List Int), ns.length ≤ n → SqL K H a (ns.map V.int) → sp K [.ref a] H (fun v _ => v = .bl true) E0) : PySem.W.WalkO q loose XP YP l.row.toRowW d [] (fun f vs => PySem.call f vs) := by
  apply Att.attach_call most nodef
  intro w s0 s1 mg mb fa o pm cd doc a us ns G Y ho hd hcd hmg hobj hints hl hg
  obtain ⟨fd, hb, hF⟩ := F w mg fa _ (inK w _ Y) G.T.g hmg
  exact gcall (inK w _ Y) G.T.g G.T.b G.T.builtins G.T.nolimit hg hobj hints (Nat.le_trans hl sz) hR hF hb fun H hS => hsp _ H a ns hl hS
end Nc
end
set_option maxRecDepth 100000
set_option maxHeartbeats 4000000
namespace Nc
open PySem PySem.Spec PyProof.Rows L2 Evl
section
variable {K : PySem.W.Frag} {H H' : Hp}
/-! ### nodes, layers -/
def NodesV (K : PySem.W.Frag) (H : Hp) (v : V) (zs : List Sum2) : Prop := ∃ t xs, v = .ref t ∧ SqT K H t xs ∧ Paired (SumV K H) xs zs
theorem NodesV.ex {v : V} {zs : List Sum2} (e : Ex H H') (h : NodesV K H v zs) : NodesV K H' v zs := by
  obtain ⟨t, xs, rfl, q, l⟩ := h
  exact ⟨t, xs, rfl, ex_t e q, pmono (fun _ _ => SumV.ex e) l⟩
def NodeOk (n : Nat) (zs : List Sum2) : Prop := ∀ z ∈ zs, z.1.length = n ∧ SzL 100 100 z.1 ∧ Sz 100 100 z.2
def LayerAt (C : Addr) (H : Hp) (p : Addr) (v : V) : Prop := ∃ dx, H p = some (.ins C dx [(("_nodes" : Str), v)])
theorem LayerAt.ex {C p : Addr} {v : V} (e : Ex H H') (h : LayerAt C H p v) : LayerAt C H' p v := by
  obtain ⟨dx, h⟩ := h
  exact ⟨dx, e _ _ h⟩
def cutR (r : Rat) : Rat := if r.num < 0 then 0 else r
def passR (c : Bool) (l : List Rat) : List Rat := if c = true then l.map cutR else l
/-! ### methods -/
structure Md (K : PySem.W.Frag) (C : Addr) (m qual : Str) (st : Stmt) (ps : List Str) : Prop where
  ex : ∃ f fd, Meth K C m f ∧ Fun K m qual st f fd ∧ Binds K fd ps []
structure MOk (P : Program) (w : World) (K : PySem.W.Frag) (mg : Str → Option Value) (base : Heap) (k : Nat) (C : Addr) (m : Str) (ps : List Str) (sp : Sp) : Prop where
  ex : ∃ f fd, Meth K C m f ∧ FnOk P w K mg base CX0 k f fd ps sp ∧ Binds K fd ps []
theorem Md.ok {P : Program} {w : World} {mg : Str → Option Value} {base : Heap} {k : Nat} {C : Addr} {m qual : Str} {st : Stmt} {ps : List Str} {sp : Sp} (D : Md K C m qual st ps)
    (h : ∀ f fd, Fun K m qual st f fd → FnOk P w K mg base CX0 k f fd ps sp) : MOk P w K mg base k C m ps sp := by
  obtain ⟨f, fd, g, F, b⟩ := D.ex
  exact ⟨f, fd, g, h f fd F, b⟩
/-! ### promises -/
def spReck (K : PySem.W.Frag) : Sp := fun vs H Q _ => ∃ (x y : V) (zs : List Sum2) (L : List Rat), vs = [x, y] ∧ NodesV K H x zs ∧ RowV K H y L ∧ NodeOk L.length zs ∧ L.length ≤ 20 ∧ zs.length ≤ 50 ∧ SzL 100 100 L ∧ ∀ v H', Ex H H' → RowV K H' v (zs.map fun z => tells z L) → Q v H'
def spCutN (K : PySem.W.Frag) : Sp := fun vs H Q _ => ∃ (x : V) (r : Rat), vs = [x] ∧ FrV K H x r ∧ ∀ v, FrV K H v (cutR r) → Q v H
def spInitL (K : PySem.W.Frag) (C : Addr) : Sp := fun vs H Q _ => ∃ (p dx a : Addr) (xs : List V) (zs : List Sum2), vs = [.ref p, .ref a] ∧ H p = some (.ins C dx []) ∧ (SqL K H a xs ∨ SqT K H a xs) ∧ Paired (SumV K H) xs zs ∧
  ∀ H' v, (∀ b o, b ≠ p → H b = some o → H' b = some o) → LayerAt C H' p v → NodesV K H' v zs → Q .non H'
def spToldL (C : Addr) : Sp := fun vs H Q _ => ∃ (p : Addr) (v : V), vs = [.ref p] ∧ LayerAt C H p v ∧ Q v H
def spPass (K : PySem.W.Frag) (C : Addr) (c : Bool) : Sp := fun vs H Q _ => ∃ (p : Addr) (v y : V) (zs : List Sum2) (L : List Rat), vs = [.ref p, y] ∧ LayerAt C H p v ∧ NodesV K H v zs ∧ RowV K H y L ∧ NodeOk L.length zs ∧ L.length ≤ 20 ∧ zs.length ≤ 50 ∧ SzL 100 100 L ∧
  ∀ v H', Ex H H' → RowV K H' v (passR c (zs.map fun z => tells z L)) → Q v H'
def spIsRow (K : PySem.W.Frag) : Sp := fun vs H Q _ => ∃ (x y : V) (L : List Rat), vs = [x, y] ∧ RowV K H x L ∧ RowV K H y L ∧ L.length ≤ 100 ∧ ∀ H', Ex H H' → Q (.bl true) H'
def spNode (K : PySem.W.Frag) : Sp := fun vs H Q _ => ∃ (s : Addr) (k : Nat), vs = [.ref s, .int (k : Int)] ∧ Stm s H ∧ k ≤ 20 ∧ ∀ v z H', Dr s H H' → SumV K H' v z → z.1.length = k → SzL 100 100 z.1 → Sz 100 100 z.2 → Q v H'
def spOne (K : PySem.W.Frag) (C : Addr) (c : Bool) : Sp := fun vs H Q _ => ∃ (p an ar : Addr) (v : V) (xs ys : List V) (zs : List Sum2) (Ls : List (List Rat)) (n : Nat), vs = [.ref p, .bl c, .ref an, .ref ar] ∧ LayerAt C H p v ∧ NodesV K H v zs ∧ SqL K H an xs ∧ Paired (SumV K H) xs zs ∧
  SqL K H ar ys ∧ Paired (RowV K H) ys Ls ∧ NodeOk n zs ∧ (∀ L ∈ Ls, L.length = n ∧ SzL 100 100 L) ∧ n ≤ 20 ∧ zs.length ≤ 50 ∧ ∀ H', Ex H H' → Q (.bl true) H'
/-! ### data of nodes -/
theorem sums_dp : ∀ {xs : List V} {zs : List Sum2}, Paired (SumV K H) xs zs → DpAll K H xs (zs.map sd)
  | _, _, .nil => .nil
  | _, _, .cons a t => .cons a.dp (sums_dp t)
end
theorem lay_sds : ∀ zs : List Sum2, PyData.canLayAll0 (zs.map sd) = true
  | [] => rfl
  | z :: zs => by
    show ((sd z).canLay0 && PyData.canLayAll0 (zs.map sd)) = true
    rw [lay_sd, lay_sds zs]
    rfl
theorem depth_sds : ∀ zs : List Sum2, PyData.depthAll (zs.map sd) ≤ 4
  | [] => Nat.zero_le _
  | z :: zs => by
    have ih := depth_sds zs
    have h1 := depthAll_fd z.1
    have h2 : PyData.depth (fd z.2) = 1 := rfl
    show max (max (PyData.depthAll (z.1.map fd) + 1) (max (PyData.depth (fd z.2)) 0) + 1) (PyData.depthAll (zs.map sd)) ≤ 4
    omega
theorem shaped_sds (zs : List Sum2) : SeqAt.shaped (.tuple (zs.map sd)) = true := by
  unfold SeqAt.shaped
  have h : (PyData.tuple (zs.map sd)).canLay0 = true := lay_sds zs
  rw [h, Bool.true_and]
  refine decide_eq_true ?_
  have := depth_sds zs
  show PyData.depthAll (zs.map sd) + 1 ≤ 64
  omega
theorem eqv_sds (zs : List Sum2) : PyData.eqv (.tuple (zs.map sd)) (.tuple (zs.map sd)) = true := SeqAt.eqv_refl _ (lay_sds zs)
theorem sz_cut {r : Rat} : cutR r = 0 ∨ cutR r = r := by
  unfold cutR
  split
  · exact .inl rfl
  · exact .inr rfl
end Nc
section
set_option maxRecDepth 100000
set_option maxHeartbeats 4000000
namespace Nc
open PySem PySem.Spec PyProof.Rows L2 Evl
/-! ### coarser rules: a new object by what it holds -/
def tTupE (t : TA) : TE := fun σ H Q => t σ H fun xs H1 => xs.length ≤ sizeLine ∧ ∀ p H2, H1 p = none → Ex H1 H2 → H2 p = some (.tup xs) → Q (.ref p) H2
def tLstE (t : TA) : TE := fun σ H Q => t σ H fun xs H1 => xs.length ≤ sizeLine ∧ ∀ p H2, H1 p = none → Ex H1 H2 → H2 p = some (.lst xs) → Q (.ref p) H2
def tDicE : TE := fun _ H Q => ∀ p H2, H p = none → Ex H H2 → H2 p = some (.dK []) → Q (.ref p) H2
section
variable {X : Cx} {es : List Expr} {t : TA} {pos : Pos}
theorem pe_tupE {x1} (h : PA X es t) : PE X (.Tuple es x1 pos) (tTupE t) := by
  constructor
  intro pins s σ H Q I hq
  refine wpAny_Tuple_spliced (thn (h.run _ pins s σ H _ I hq) ?_)
  rintro us s2 ⟨vs, H2, J, rv, sz, k⟩
  have fr := J.fresh
  refine ⟨rv.length ▸ sz, .ref _, _, J.laid (o := .tup vs) (t' := s2.toks) (fun _ _ => Heap.get?_push_of_some _) (Nat.le_refl _) ⟨sz, us, rv, _, Heap.get?_push_size _ rfl, rfl, _, rfl⟩, rfl, k _ _ fr (Ex.new fr) upd_same⟩
theorem pe_lstE (h : PA X es t) : PE X (.List es pos) (tLstE t) := by
  constructor
  intro pins s σ H Q I hq
  refine wpAny_List_spliced (thn (h.run _ pins s σ H _ I hq) ?_)
  rintro us s2 ⟨vs, H2, J, rv, sz, k⟩
  have fr := J.fresh
  refine ⟨rv.length ▸ sz, .ref _, _, J.laid (o := .lst vs) (t' := s2.toks) (fun _ _ => Heap.get?_push_of_some _) (Nat.le_refl _) ⟨sz, us, 0, rv, Heap.get?_push_size _ rfl⟩, rfl, k _ _ fr (Ex.new fr) upd_same⟩
theorem pe_dicE : PE X (.Dict [] [] pos) tDicE := ⟨fun pins s σ H Q I h => pe_dnewK.run pins s σ H Q I fun p hp => h p _ hp (Ex.new hp) upd_same⟩
def rCatE : R2 := fun x y H Q => ∃ l b xs zs, x = .ref l ∧ y = .ref b ∧ H l = some (.lst xs) ∧ H b = some (.lst zs) ∧ xs.length + zs.length ≤ sizeLine ∧ ∀ p H2, H p = none → Ex H H2 → H2 p = some (.lst (xs ++ zs)) → Q (.ref p) H2
theorem op_catE : OpR X (binaryOp .Add) rCatE := by
  intro pins s σ H x y v u Q I rx ry h
  obtain ⟨l, b, xs, zs, e1, e2, hH, hB, hz, q⟩ := h
  exact op_cat pins s σ H x y v u Q I rx ry ⟨l, b, xs, zs, e1, e2, hH, hB, hz, fun p hp => q p _ hp (Ex.new hp) upd_same⟩
def rSlE (K : PySem.W.Frag) : V → Option Int → Option Int → Hp → VK → Prop := fun x lo hi H Q => ∃ a xs, x = .ref a ∧ SqL K H a xs ∧ ∀ p H2, H p = none → Ex H H2 → H2 p = some (.lst (cutV xs lo hi)) → Q (.ref p) H2
theorem sl_listE : SlR X (rSlE X.K) := by
  intro pins s σ H x v vl vu lo hi sl Q I rx hs pl pu h
  obtain ⟨a, xs, e, hx, q⟩ := h
  exact sl_list pins s σ H x v vl vu lo hi sl Q I rx hs pl pu ⟨a, xs, e, hx, fun p hp => q p _ hp (Ex.new hp) upd_same⟩
def rTupE (K : PySem.W.Frag) : List V → Hp → VK → Prop := fun vs H Q => ∃ p ys, vs = [.ref p] ∧ SqL K H p ys ∧ ∀ l H2, H l = none → Ex H H2 → H2 l = some (.tup ys) → Q (.ref l) H2
theorem call_tupE : CallR X (.type "tuple") (rTupE X.K) := by
  intro pins s σ H vs us Q I r h
  obtain ⟨p, ys, e, hq, q⟩ := h
  exact call_tuple_of pins s σ H vs us Q I r ⟨p, ys, e, .inl ⟨hq, fun p hp => q p _ hp (Ex.new hp) upd_same⟩⟩
def rLstE (K : PySem.W.Frag) : List V → Hp → VK → Prop := fun vs H Q => ∃ p ys, vs = [.ref p] ∧ SqL K H p ys ∧ ∀ l H2, H l = none → Ex H H2 → H2 l = some (.lst ys) → Q (.ref l) H2
theorem call_lstE : CallR X (.type "list") (rLstE X.K) := by
  intro pins s σ H vs us Q I r h
  obtain ⟨p, ys, e, hq, q⟩ := h
  exact call_list_of pins s σ H vs us Q I r ⟨p, ys, e, .inl hq, fun p hp => q p _ hp (Ex.new hp) upd_same⟩
/-! ### a list == [] -/
def rEqNil (K : PySem.W.Frag) : R2 := fun x y H Q => ∃ a b xs, x = .ref a ∧ y = .ref b ∧ SqL K H a xs ∧ SqL K H b [] ∧ Q (.bl xs.isEmpty) H
theorem op_eqNil (hu : X.A.units + 64 < cLine) : OpR X (compareOp .Eq) (rEqNil X.K) := by
  intro pins s σ H x y v u Q I rx ry h
  obtain ⟨a, b, xs, rfl, rfl, ha, hb, q⟩ := h
  cases rx
  cases ry
  obtain ⟨its, r1, p1, _⟩ := I.list ha
  obtain ⟨its2, r2, p2, _⟩ := I.list hb
  cases r2
  cases r1 with
  | nil =>
    refine SeqAt.eq_listAt (e := fun _ => true) p1.isList p2.isList rfl (by omega) (fun j h1 _ => absurd h1 (Nat.not_lt_zero j)) ?_
    exact ⟨.bl true, H, I, rfl, q⟩
  | cons h1 h2 =>
    refine SeqAt.eq_list_lengthsAt p1.isList p2.isList (by simp) (by omega) ?_
    exact ⟨.bl false, H, I, rfl, q⟩
end
/-! ### a def of the top whose promise holds where no repr is under way -/
structure GO (P : Program) (w : World) (K : PySem.W.Frag) (mg : Str → Option Value) (base : Heap) (k : Nat) (x : Str) (ps : List Str) (sp : Sp) : Prop where
  ex : ∃ f fd, mg x = some (.ref f) ∧ PySem.W.keepIn K (.ref f) = true ∧ GOk P w K mg base k f fd ps sp ∧ Binds K fd ps []
theorem Df.go {P : Program} {w : World} {K : PySem.W.Frag} {mg : Str → Option Value} {base : Heap} {k : Nat} {x : Str} {st : Stmt} {ps : List Str} {sp : Sp} (D : Df K mg x st ps)
    (h : ∀ f fd, Fun K x x st f fd → GOk P w K mg base k f fd ps sp) : GO P w K mg base k x ps sp := by
  obtain ⟨f, fd, g, F, b⟩ := D.ex
  exact ⟨f, fd, g, F.kp, h f fd F, b⟩
section
variable {X : Cx} {k : Nat} {x : Str} {ps : List Str} {sp : Sp} {e : Expr} {es : List Expr} {t : TA} {p pos : Pos}
theorem clg (D : GO X.prog X.w X.K X.mg X.base k x ps sp) (hG : X.A.guards = some []) (hr : Room k X.A) (ha : PA X (e :: es) t) (hg : Gl X x := by rfl) (hdb : (x == ("__debug__" : Str)) = false := by decide)
    (he : starEach (e :: es) X.env = (false, eval e X.env) :: starEach es X.env := by rfl) (hpl : (backTo pos (starEach es X.env)).any (·.1) = false := by rfl) : PE X (.Call (.Name x p) (e :: es) [] pos) (tCall sp [] E0 t) := by
  obtain ⟨f, fd, g, kp, F, b⟩ := D.ex
  exact clG F hG hr g kp b ha hg hdb he hpl
end
/-! ### kinds -/
inductive Kn where
  | non | bl | int | str | tup | lst | dic
  deriving DecidableEq
def Kn.nm : Kn → String
  | .non => "NoneType" | .bl => "bool" | .int => "int" | .str => "str" | .tup => "tuple" | .lst => "list" | .dic => "dict"
def KdV (K : PySem.W.Frag) (H : Hp) (v : V) (k : Kn) : Prop := TyX K H v (.type k.nm) ∧ (k = .int → ∃ i, v = .int i)
theorem kd_int (k : Kn) : kitB k.nm "int" = some (decide (k = .int) || decide (k = .bl)) := by cases k <;> decide +kernel
theorem kd_bool (k : Kn) : kitB k.nm "bool" = some (decide (k = .bl)) := by cases k <;> decide +kernel
theorem kd_tup (k : Kn) : kitB k.nm "tuple" = some (decide (k = .tup)) := by cases k <;> decide +kernel
section
variable {K : PySem.W.Frag} {H H' : Hp} {s : Addr}
theorem tyL {t : Addr} {xs : List V} (q : SqL K H t xs) : TyX K H (.ref t) (.type "list") := by
  rcases q with (q | ⟨o, q⟩) | ⟨o, us, n, hk, hc, _⟩
  · exact .base (.lst q)
  · exact .base (.frz q)
  · exact .kList hk (by assumption)
/-- a small thing -/
inductive Lf : V → Prop
  | non : Lf .non
  | bl (b : Bool) : Lf (.bl b)
  | int (i : Int) (h : i.natAbs < 2 ^ 250) : Lf (.int i)
  | str (x : Str) (h : x ∈ [("1" : Str), "1/2", "", "a", "a b", "late", "b", "c"]) : Lf (.str x)
theorem Lf.kd {v : V} (h : Lf v) : ∃ k, KdV K H v k ∧ k ≠ .tup := by
  cases h with
  | non => exact ⟨.non, ⟨.base .non, fun z => by cases z⟩, by decide⟩
  | bl b => exact ⟨.bl, ⟨.base (.bl b), fun z => by cases z⟩, by decide⟩
  | int i h => exact ⟨.int, ⟨.base (.int i), fun _ => ⟨i, rfl⟩⟩, by decide⟩
  | str x h => exact ⟨.str, ⟨.base (.str x), fun z => by cases z⟩, by decide⟩
/-- a thing as the law draws it: s is the stream -/
inductive Bt (K : PySem.W.Frag) (s : Addr) (H : Hp) : V → Prop
  | leaf {v} (h : Lf v) : Bt K s H v
  | tup {t xs} (q : SqT K H t xs) (h : ∀ x ∈ xs, Lf x) (n : xs.length ≤ 3) : Bt K s H (.ref t)
  | lst {a xs} (q : H a = some (.lst xs)) (e : a ≠ s) (h : ∀ x ∈ xs, Lf x) (n : xs.length ≤ 3) : Bt K s H (.ref a)
  | dic {a} (q : H a = some (.dK [])) : Bt K s H (.ref a)
  | two {t u xs} (q : SqT K H t [.ref u, .ref u]) (p : SqT K H u xs) (h : ∀ x ∈ xs, Lf x) (n : xs.length ≤ 3) : Bt K s H (.ref t)
theorem Bt.ex {v : V} (e : Ex H H') (h : Bt K s H v) : Bt K s H' v := by
  cases h with
  | leaf h => exact .leaf h
  | tup q h n => exact .tup (ex_t e q) h n
  | lst q d h n => exact .lst (e _ _ q) d h n
  | dic q => exact .dic (e _ _ q)
  | two q p h n => exact .two (ex_t e q) (ex_t e p) h n
theorem Bt.dr {v : V} (hs : Stm s H) (d : Dr s H H') (h : Bt K s H v) : Bt K s H' v := by
  cases h with
  | leaf h => exact .leaf h
  | tup q h n => exact .tup (sqt_dr hs d q) h n
  | lst q e h n => exact .lst (d.keep _ _ e q) e h n
  | dic q =>
    obtain ⟨a, b, c, e⟩ := id hs
    exact .dic (d.keep _ _ (ne_of q e (by intro z; cases z)) q)
  | two q p h n => exact .two (sqt_dr hs d q) (sqt_dr hs d p) h n
theorem FrV.bt {v : V} {r : Rat} (h : FrV K H v r) (z : Sz 250 250 r) : Bt K s H v := by
  obtain ⟨t, rfl, q⟩ := h
  refine .tup q (fun x hx => ?_) (by show 2 ≤ 3; decide)
  simp only [List.mem_cons, List.not_mem_nil, or_false] at hx
  rcases hx with rfl | rfl
  · exact .int _ z.1
  · exact .int _ z.den
/-- whether a thing is a fraction -/
inductive Th (K : PySem.W.Frag) (H : Hp) : V → Bool → Prop
  | oth {v k} (h : KdV K H v k) (n : k ≠ .tup) : Th K H v false
  | tupN {t xs} (q : SqT K H t xs) (n : xs.length ≠ 2) : Th K H (.ref t) false
  | two {t x y kx ky} (q : SqT K H t [x, y]) (hx : KdV K H x kx) (hy : KdV K H y ky) (n : ¬ (kx = .int ∧ ky = .int)) : Th K H (.ref t) false
  | nums {t a b} (q : SqT K H t [.int a, .int b]) : Th K H (.ref t) (decide (0 < b) && decide (Nat.gcd a.natAbs b.natAbs = 1))
theorem th_tup {t : Addr} {xs : List V} (q : SqT K H t xs) (h : ∀ x ∈ xs, ∃ k, KdV K H x k) : ∃ b, Th K H (.ref t) b := by
  match xs, q, h with
  | [], q, _ => exact ⟨_, .tupN q (by simp)⟩
  | [_], q, _ => exact ⟨_, .tupN q (by simp)⟩
  | _ :: _ :: _ :: _, q, _ => exact ⟨_, .tupN q (by simp)⟩
  | [x, y], q, h =>
    obtain ⟨kx, hx⟩ := h x (by simp)
    obtain ⟨ky, hy⟩ := h y (by simp)
    by_cases e : kx = .int ∧ ky = .int
    · obtain ⟨a, rfl⟩ := hx.2 e.1
      obtain ⟨b, rfl⟩ := hy.2 e.2
      exact ⟨_, .nums q⟩
    · exact ⟨_, .two q hx hy e⟩
theorem Bt.th {v : V} (h : Bt K s H v) : ∃ b, Th K H v b := by
  cases h with
  | leaf h =>
    obtain ⟨k, hk, n⟩ := h.kd (K := K) (H := H)
    exact ⟨_, .oth hk n⟩
  | tup q h n => exact th_tup q fun x hx => (h x hx).kd.imp fun _ => And.left
  | lst q e h n => exact ⟨_, .oth (k := .lst) ⟨tyL (sq_of q), fun z => by cases z⟩ (by decide)⟩
  | dic q => exact ⟨_, .oth (k := .dic) ⟨.base (.dK q), fun z => by cases z⟩ (by decide)⟩
  | two q p h n =>
    refine th_tup q fun x hx => ?_
    simp only [List.mem_cons, List.not_mem_nil, or_false, or_self] at hx
    subst hx
    exact ⟨.tup, tyT p, fun z => by cases z⟩
theorem Bt.kd {v : V} (h : Bt K s H v) : ∃ k, KdV K H v k := by
  cases h with
  | leaf h => exact h.kd.imp fun _ => And.left
  | tup q h n => exact ⟨.tup, tyT q, fun z => by cases z⟩
  | lst q e h n => exact ⟨.lst, tyL (sq_of q), fun z => by cases z⟩
  | dic q => exact ⟨.dic, .base (.dK q), fun z => by cases z⟩
  | two q p h n => exact ⟨.tup, tyT q, fun z => by cases z⟩
end
/-! ### repr of such things -/
/-- what repr of v tells here -/
inductive Rp (K : PySem.W.Frag) (H : Hp) : V → Str → Prop
  | non : Rp K H .non "None"
  | bl (b : Bool) : Rp K H (.bl b) (if b then "True" else "False")
  | int (i : Int) (h : i.natAbs.log2 < 1920) : Rp K H (.int i) (toString i)
  | str (x : Str) (h : (reprText x).length ≤ sizeLine) : Rp K H (.str x) (reprText x)
  | dat {a d} (h : Dp K H (.ref a) d) (h1 : d.showable = true) (h2 : d.hasDict = false) (h3 : d.depth ≤ 60) (h4 : d.shown.length ≤ sizeLine) : Rp K H (.ref a) d.shown
  | dic {a} (q : H a = some (.dK [])) : Rp K H (.ref a) (PyData.dict []).shown
def rRp (K : PySem.W.Frag) : List V → Hp → VK → Prop := fun vs H Q => ∃ v x, vs = [v] ∧ Rp K H v x ∧ Q (.str x) H
theorem room {u : Nat} (hu : u + 64 < cLine) : u + ((PyData.dict []).depth + 1) < cLine := by
  have : (PyData.dict []).depth ≤ 2 := by decide
  omega
theorem call_rp {X : Cx} (hG : X.A.guards = some []) (hu : X.A.units + 64 < cLine) : CallR X (.builtin "repr") (rRp X.K) := by
  intro pins s σ H xs us Q I r h
  obtain ⟨v, x, rfl, h, q⟩ := h
  cases h with
  | non =>
    obtain ⟨u, rfl, rx⟩ := vals1 r
    cases (show u = Value.none from rx)
    exact PySem.P.repr_of_none ⟨.str _, H, I.tok _, ⟨_, rfl⟩, q⟩
  | bl b =>
    obtain ⟨u, rfl, rx⟩ := vals1 r
    cases (show u = Value.bool b from rx)
    exact PySem.P.repr_of_bool ⟨.str _, H, I.tok _, ⟨_, rfl⟩, q⟩
  | int i hz =>
    obtain ⟨u, rfl, t, rfl⟩ := vals1 r
    exact PySem.P.repr_of_int hz ⟨.str _, H, I.tok _, ⟨_, rfl⟩, q⟩
  | str x hz =>
    obtain ⟨u, rfl, t, rfl⟩ := vals1 r
    exact PySem.P.repr_of_str ⟨.str _, H, I.tok _, ⟨_, rfl⟩, q⟩ hz
  | dat h h1 h2 h3 h4 => exact call_reprD hG hu pins s σ H _ us Q I r ⟨_, _, rfl, h, ⟨_, rfl⟩, h1, h2, h3, h4, q⟩
  | @dic a hq =>
    obtain ⟨u, rfl, rx⟩ := vals1 r
    cases (show u = Value.ref a from rx)
    obtain ⟨_, ya, va, ra, o, es, ep, g1, g2, g3, g4⟩ := (show ObjOk X.prog X.w H s.heap a (.dK []) from I.hok a _ hq)
    cases ra
    have he : es.toList = [] := by
      have hp := g4.2.1
      generalize es.toList = l at hp
      cases hp
      rfl
    have R : Reads s.heap (.ref a) (.dict []) ([a] ++ [] ++ []) := by
      refine Reads.dict g1 g2.1 g3 ?_ ?_
      · rw [he]
        exact .nil
      · rw [he]
        exact .nil
    refine repr_of_reads' R rfl (fun _ hm => ?_) hG (room hu) (fun _ _ z => z) (fun h' u tk kp => ⟨.str _, H, I.kept (t' := tk) kp, ⟨u, rfl⟩, q⟩) (by decide)
    simp only [List.append_nil, List.mem_singleton] at hm
    subst hm
    simp at ya
/-! ### data of such things -/
def lfD : V → PyData
  | .bl b => .bool b
  | .int i => .int i
  | .str x => .str x
  | _ => .none
section
variable {K : PySem.W.Frag} {H : Hp} {s : Addr}
theorem Lf.dp {v : V} (h : Lf v) : Dp K H v (lfD v) := by
  cases h with
  | non => exact .non
  | bl b => exact .bl b
  | int i h => exact .int i
  | str x h => exact .str x
theorem lfs_dp : ∀ {xs : List V}, (∀ x ∈ xs, Lf x) → DpAll K H xs (xs.map lfD)
  | [], _ => .nil
  | x :: xs, h => .cons (h x (by simp)).dp (lfs_dp fun y hy => h y (by simp [hy]))
theorem log2_lt {i : Int} (h : i.natAbs < 2 ^ 250) : i.natAbs.log2 < 1920 := Nat.lt_of_lt_of_le (PySem.Flt.log2_lt_of (by decide) h) (by decide)
theorem Lf.sh {v : V} (h : Lf v) : (lfD v).showable = true ∧ (lfD v).hasDict = false ∧ (lfD v).depth = 0 ∧ (lfD v).leavesShort 92 = true ∧ (lfD v).bulk ≤ 4 := by
  cases h with
  | non => exact ⟨rfl, rfl, rfl, rfl, by decide⟩
  | bl b => exact ⟨rfl, rfl, rfl, rfl, by show 0 ≤ 4; decide⟩
  | int i h =>
    refine ⟨decide_eq_true (log2_lt h), rfl, rfl, decide_eq_true ?_, by show 0 ≤ 4; decide⟩
    have h10 : i.natAbs < 10 ^ 91 := Nat.lt_of_lt_of_le h (by decide +kernel)
    have := int_text_length_le10 (k := 91) (by decide) h10
    show (Str.ofString (toString i)).length ≤ 92
    rw [PySem.ofString_length]
    exact this
  | str x h =>
    simp only [List.mem_cons, List.not_mem_nil, or_false] at h
    rcases h with rfl | rfl | rfl | rfl | rfl | rfl | rfl | rfl <;> exact ⟨rfl, rfl, rfl, by decide, by decide⟩
theorem lfs_sh : ∀ {xs : List V}, (∀ x ∈ xs, Lf x) → PyData.showableAll (xs.map lfD) = true ∧ PyData.hasDictAll (xs.map lfD) = false ∧ PyData.depthAll (xs.map lfD) = 0 ∧ PyData.leavesShortAll 92 (xs.map lfD) = true ∧ PyData.bulkAll (xs.map lfD) ≤ 5 * xs.length
  | [], _ => ⟨rfl, rfl, rfl, rfl, Nat.le_refl _⟩
  | x :: xs, h => by
    obtain ⟨a1, a2, a3, a4, a5⟩ := (h x (by simp)).sh
    obtain ⟨b1, b2, b3, b4, b5⟩ := lfs_sh (xs := xs) fun y hy => h y (by simp [hy])
    simp only [List.map_cons, PyData.showableAll, PyData.hasDictAll, PyData.depthAll, PyData.leavesShortAll, PyData.bulkAll, a1, a2, a3, a4, b1, b2, b3, b4, Bool.and_self, Bool.or_self, List.length_cons, Nat.max_self, true_and]
    omega
theorem shown_fits {d : PyData} (h : d.leavesShort 92 = true) (hb : d.bulk ≤ 60) : d.shown.length ≤ sizeLine := by
  have h1 := PyData.shown_le_bulk 92 (by decide) d h
  have h2 : (92 + 2) * d.bulk + 92 ≤ 10000 := by omega
  have h3 : 10000 ≤ sizeLine := by decide
  omega
theorem Bt.rp {v : V} (h : Bt K s H v) : ∃ x, Rp K H v x := by
  cases h with
  | leaf h =>
    cases h with
    | non => exact ⟨_, .non⟩
    | bl b => exact ⟨_, .bl b⟩
    | int i h => exact ⟨_, .int i (log2_lt h)⟩
    | str x h =>
      refine ⟨_, .str x ?_⟩
      obtain ⟨_, _, _, a4, a5⟩ := (Lf.str x h).sh
      have z := shown_fits a4 (by omega)
      simpa only [lfD, PyData.shown] using z
  | tup q h n =>
    obtain ⟨b1, b2, b3, b4, b5⟩ := lfs_sh h
    refine ⟨_, .dat (.tup q (lfs_dp h)) b1 b2 ?_ (shown_fits b4 ?_)⟩
    · show PyData.depthAll _ + 1 ≤ 60
      omega
    · show PyData.bulkAll _ ≤ 60
      omega
  | lst q e h n =>
    obtain ⟨b1, b2, b3, b4, b5⟩ := lfs_sh h
    refine ⟨_, .dat (.lst (sq_of q) (lfs_dp h)) b1 b2 ?_ (shown_fits b4 ?_)⟩
    · show PyData.depthAll _ + 1 ≤ 60
      omega
    · show PyData.bulkAll _ ≤ 60
      omega
  | dic q => exact ⟨_, .dic q⟩
  | @two t u xs q p h n =>
    obtain ⟨b1, b2, b3, b4, b5⟩ := lfs_sh h
    have hd : Dp K H (.ref u) (.tuple (xs.map lfD)) := .tup p (lfs_dp h)
    refine ⟨_, .dat (d := .tuple [.tuple (xs.map lfD), .tuple (xs.map lfD)]) (.tup q (.cons hd (.cons hd .nil))) ?_ ?_ ?_ (shown_fits ?_ ?_)⟩
    · simp only [PyData.showable, PyData.showableAll, b1, Bool.and_self]
    · simp only [PyData.hasDict, PyData.hasDictAll, b2, Bool.or_self]
    · simp only [PyData.depth, PyData.depthAll, b3]
      decide
    · simp only [PyData.leavesShort, PyData.leavesShortAll, b4, Bool.and_self]
    · simp only [PyData.bulk, PyData.bulkAll]
      omega
end
end Nc
end
section
namespace Nc
/-! ### bottoms that divide a shared number -/
theorem den_of_div {k : Int} {D : Nat} (hD : 0 < D) : (Rat.divInt k (D : Int)).den ∣ D := by
  rw [Rat.den_divInt, if_neg (by omega)]
  exact Nat.div_dvd_of_dvd (Nat.gcd_dvd_left _ _)
theorem div_of_den {r : Rat} {D : Nat} (hD : 0 < D) (h : r.den ∣ D) : ∃ k : Int, r = Rat.divInt k (D : Int) := by
  obtain ⟨c, rfl⟩ := h
  have hc : 0 < c := Nat.pos_of_ne_zero fun z => by
    rw [z, Nat.mul_zero] at hD
    omega
  refine ⟨r.num * (c : Int), ?_⟩
  rw [Int.natCast_mul, Rat.divInt_mul_right (by omega), Rat.num_divInt_den]
/-- a top below 2 ^ n, a bottom that divides D -/
def Sv (n D : Nat) (r : Rat) : Prop := r.num.natAbs < 2 ^ n ∧ r.den ∣ D
def SvL (n D : Nat) (l : List Rat) : Prop := ∀ r ∈ l, Sv n D r
theorem Sv.mono {n m D E : Nat} {r : Rat} (h : Sv n D r) (hn : n ≤ m) (hD : D ∣ E) : Sv m E r := ⟨lt_mono h.1 hn, Nat.dvd_trans h.2 hD⟩
theorem SvL.mono {n m D E : Nat} {l : List Rat} (h : SvL n D l) (hn : n ≤ m) (hD : D ∣ E) : SvL m E l := fun r hr => (h r hr).mono hn hD
theorem Sv.sz {n D d : Nat} {r : Rat} (h : Sv n D r) (hD : 0 < D) (hd : D < 2 ^ d) : Sz n d r := ⟨h.1, Nat.lt_of_le_of_lt (Nat.le_of_dvd hD h.2) hd⟩
theorem den_add {r s : Rat} {D : Nat} (hD : 0 < D) (hr : r.den ∣ D) (hs : s.den ∣ D) : (r + s).den ∣ D := by
  obtain ⟨a, rfl⟩ := div_of_den hD hr
  obtain ⟨b, rfl⟩ := div_of_den hD hs
  have e : Rat.divInt a (D : Int) + Rat.divInt b (D : Int) = Rat.divInt (a + b) (D : Int) := by
    rw [Rat.divInt_add_divInt _ _ (by omega) (by omega), ← Int.add_mul, Rat.divInt_mul_right (by omega)]
  rw [e]
  exact den_of_div hD
theorem den_mul (r s : Rat) : (r * s).den ∣ r.den * s.den := by
  have h1 := r.den_nz
  have h2 := s.den_nz
  have e := mul_is r s
  rw [← Int.natCast_mul] at e
  rw [← e]
  exact den_of_div (Nat.mul_pos (by omega) (by omega))
theorem sv_mul {n m D E : Nat} {r s : Rat} (hr : Sv n D r) (hs : Sv m E s) : Sv (n + m) (D * E) (r * s) := by
  refine ⟨?_, Nat.dvd_trans (den_mul r s) (Nat.mul_dvd_mul hr.2 hs.2)⟩
  rw [← mul_is]
  have h1 := den_pos r
  have h2 := den_pos s
  rw [← num_div (Int.mul_pos h1 h2)]
  exact Nat.lt_of_le_of_lt (natAbs_ediv_le _ _) (lt_mul hr.1 hs.1)
theorem sv_add {n m D d N : Nat} {r s : Rat} (hD : 0 < D) (hd : D < 2 ^ d) (hr : Sv n D r) (hs : Sv m D s) (h1 : n + d ≤ N := by omega) (h2 : m + d ≤ N := by omega) : Sv (N + 1) D (r + s) :=
  ⟨(sz_add (hr.sz hD hd) (hs.sz hD hd) h1 h2).1, den_add hD hr.2 hs.2⟩
theorem sv_zero {n D : Nat} (h : 0 < n) : Sv n D 0 := ⟨Nat.two_pow_pos n, Nat.one_dvd D⟩
theorem sv_weighs {n m W D d : Nat} (hWD : 0 < W * D) (hd : W * D < 2 ^ d) : ∀ (i : Nat) (l : List (Rat × Rat)), i ≤ l.length → (∀ p ∈ l, Sv n W p.1 ∧ Sv m D p.2) → Sv (1 + i * (n + m + d + 1)) (W * D) (weighs (l.take i))
  | 0, l, _, _ => by simpa [weighs] using (sv_zero (n := 1) (D := W * D) (by decide))
  | i + 1, l, h, hl => by
    have ih := sv_weighs hWD hd i l (by omega) hl
    have e1 : l[i]? = some l[i] := List.getElem?_eq_getElem (by omega)
    rw [weighs_take e1]
    have hp := hl l[i] (List.getElem_mem _)
    have := sv_add (N := i * (n + m + d + 1) + (n + m + d + 1)) hWD hd ih (sv_mul hp.1 hp.2) (by omega) (by omega)
    exact this.mono (by rw [Nat.add_mul]; omega) (Nat.dvd_refl _)
theorem sv_of_weighs {n m W D d : Nat} {a b : List Rat} (hWD : 0 < W * D) (hd : W * D < 2 ^ d) (ha : SvL n W a) (hb : SvL m D b) (hl : a.length = b.length) : Sv (1 + a.length * (n + m + d + 1)) (W * D) (weighs (a.zip b)) := by
  have h := sv_weighs hWD hd a.length (a.zip b) (by rw [List.length_zip]; omega) (fun p hp => ⟨ha _ (List.of_mem_zip hp).1, hb _ (List.of_mem_zip hp).2⟩)
  rwa [List.take_of_length_le (by rw [List.length_zip]; omega)] at h
theorem sv_tells {n m W D d : Nat} {s : Sum2} {row : List Rat} (hWD : 0 < W * D) (hd : W * D < 2 ^ d) (ha : SvL n W s.1) (hc : Sv n W s.2) (hb : SvL m D row) (hl : s.1.length = row.length) : Sv (1 + s.1.length * (n + m + d + 1) + n + d + 1) (W * D) (tells s row) :=
  sv_add (N := 1 + s.1.length * (n + m + d + 1) + n + d) hWD hd (sv_of_weighs hWD hd ha hb hl) (hc.mono (Nat.le_refl _) (Nat.dvd_mul_right _ _)) (by omega) (by omega)
/-! ### nets -/
def cutQ (r : Rat) : Rat := if r.num < 0 then 0 else r
theorem sv_cutQ {n D : Nat} {r : Rat} (h : Sv n D r) : Sv n D (cutQ r) := by
  unfold cutQ
  split
  · exact ⟨Nat.lt_of_le_of_lt (Nat.zero_le _) h.1, Nat.one_dvd D⟩
  · exact h
/-- what the nodes of all layers come to -/
def rowsAt : List (List Sum2) → List Rat → List (List Rat)
  | [], _ => []
  | l :: ls, x => (l.map fun z => tells z x) :: rowsAt ls ((l.map fun z => tells z x).map cutQ)
/-- the layers stand upon one another, the first over n things -/
def Over : Nat → List (List Sum2) → Prop
  | _, [] => True
  | n, l :: ls => (∀ z ∈ l, z.1.length = n) ∧ (1 ≤ l.length ∧ l.length ≤ 4) ∧ Over l.length ls
/-- all numbers of the layers: tops below 2 ^ n, bottoms dividing W -/
def Num (n W : Nat) (ls : List (List Sum2)) : Prop := ∀ l ∈ ls, ∀ z ∈ l, SvL n W z.1 ∧ Sv n W z.2
/-- the tops' bits behind i layers -/
def tb : Nat → Nat
  | 0 => 100
  | i + 1 => 1 + 4 * (100 + tb i + 1201) + 1302
theorem tb_le : ∀ i, i ≤ 4 → tb i ≤ 600000
  | 0, _ => by decide
  | 1, _ => by decide
  | 2, _ => by decide
  | 3, _ => by decide
  | 4, _ => by decide
theorem tb_le3 : ∀ i, i ≤ 3 → tb i ≤ 150000
  | 0, _ => by decide
  | 1, _ => by decide
  | 2, _ => by decide
  | 3, _ => by decide
end Nc
end
section
set_option maxRecDepth 100000
set_option maxHeartbeats 4000000
namespace Nc
open PySem PySem.Spec PyProof.Rows L2 Evl
/-! ### kinds of things -/
def spWh (K : PySem.W.Frag) : Sp := fun vs H Q _ => ∃ v k, vs = [v] ∧ KdV K H v k ∧ Q (.bl (decide (k = .int))) H
def spFr (K : PySem.W.Frag) : Sp := fun vs H Q _ => ∃ v b, vs = [v] ∧ Th K H v b ∧ Q (.bl b) H
def spTold : Sp := fun vs H Q _ => ∃ a : Bool, vs = [.bl a, .bl a] ∧ Q (.bl true) H
/-- a row as the law draws it -/
inductive Rw (K : PySem.W.Frag) (H : Hp) : V → Option (List Bool) → Prop
  | oth {v k} (h : KdV K H v k) (n : k ≠ .tup) : Rw K H v none
  | tup {t xs bs} (q : SqT K H t xs) (p : Paired (Th K H) xs bs) (z : xs.length ≤ 100) : Rw K H (.ref t) (some bs)
def rwB : Option (List Bool) → Int → Bool
  | none, _ => false
  | some bs, k => decide ((bs.length : Int) = k) && bs.all id
def spIsRw (K : PySem.W.Frag) : Sp := fun vs H Q _ => ∃ (v : V) (k : Int) (f : Option (List Bool)), vs = [v, .int k] ∧ Rw K H v f ∧ ∀ H', Ex H H' → Q (.bl (rwB f k)) H'
theorem ifB {b : Bool} {A B : Prop} (h1 : b = true → A) (h2 : b = false → B) : if b = true then A else B := by
  cases b
  · exact iteF (h2 rfl)
  · exact iteT (h1 rfl)
theorem th_ex {K : PySem.W.Frag} {H H' : Hp} {v : V} {b : Bool} (kd : ∀ {v k}, KdV K H v k → KdV K H' v k) (e : Ex H H') (h : Th K H v b) : Th K H' v b := by
  cases h with
  | oth h n => exact .oth (kd h) n
  | tupN q n => exact .tupN (ex_t e q) n
  | two q hx hy n => exact .two (ex_t e q) (kd hx) (kd hy) n
  | nums q => exact .nums (ex_t e q)
theorem tyx_ex {K : PySem.W.Frag} {H H' : Hp} {v : V} {t : Value} (e : Ex H H') (h : TyX K H v t) : TyX K H' v t := by
  cases h with
  | base h =>
    cases h with
    | non => exact .base .non
    | bl x => exact .base (.bl x)
    | int x => exact .base (.int x)
    | str x => exact .base (.str x)
    | flt x => exact .base (.flt x)
    | lst q => exact .base (.lst (e _ _ q))
    | frz q => exact .base (.frz (e _ _ q))
    | tup q => exact .base (.tup (e _ _ q))
    | dK q => exact .base (.dK (e _ _ q))
    | dT q => exact .base (.dT (e _ _ q))
    | ins q cl ha hn htk hm => exact .base (.ins (e _ _ q) cl ha hn htk hm)
  | byt b => exact .byt b
  | set q => exact .set (e _ _ q)
  | kList q c => exact .kList q c
  | kTuple q c => exact .kTuple q c
  | kDict q c => exact .kDict q c
  | fTuple q => exact .fTuple (e _ _ q)
  | fDict q => exact .fDict (e _ _ q)
theorem kd_ex {K : PySem.W.Frag} {H H' : Hp} {v : V} {k : Kn} (e : Ex H H') (h : KdV K H v k) : KdV K H' v k := ⟨tyx_ex e h.1, h.2⟩
theorem th_exx {K : PySem.W.Frag} {H H' : Hp} {v : V} {b : Bool} (e : Ex H H') (h : Th K H v b) : Th K H' v b := th_ex (kd_ex e) e h
theorem eq_of_nd {a b : Int} (e : (!decide (V.int a = V.int b)) = false) : a = b := by
  by_cases h : V.int a = V.int b
  · exact V.int.inj h
  · rw [decide_eq_false h] at e
    cases e
theorem dec_int (n : Nat) : decide (V.int (n : Int) = V.int 1) = decide (n = 1) := by
  by_cases h : n = 1
  · rw [decide_eq_true h, h]
    decide
  · rw [decide_eq_false h]
    refine decide_eq_false fun z => h ?_
    have := V.int.inj z
    omega
theorem q_bl {a b : Bool} {Q : VK} {H : Hp} (q : Q (.bl b) H) (e : a = b) : Q (.bl a) H := by
  rw [e]
  exact q
theorem ne_of_nd {a b : Int} (e : (!decide (V.int a = V.int b)) = true) : decide (a = b) = false := by
  by_cases h : a = b
  · rw [decide_eq_true (congrArg V.int h)] at e
    cases e
  · exact decide_eq_false h
theorem of_nd {p : Prop} [Decidable p] (e : (!decide p) = false) : p := by
  by_cases h : p
  · exact h
  · rw [decide_eq_false h] at e
    cases e

section
variable {X : Cx} {e : Expr} {t1 t2 : TE}
/-- a term that is read in one of two ways -/
def tOr (t1 t2 : TE) : TE := fun σ H Q => t1 σ H Q ∨ t2 σ H Q
theorem pe_or (h1 : PE X e t1) (h2 : PE X e t2) : PE X e (tOr t1 t2) := ⟨fun pins s σ H Q I h => h.elim (h1.run pins s σ H Q I) (h2.run pins s σ H Q I)⟩
end
/-! ### the stream: a list, the last item of which tells how many long numbers are left -/
def Lst (s : Addr) (H : Hp) : Prop := ∃ xs, H s = some (.lst xs)
structure Dk (s : Addr) (H H' : Hp) : Prop where
  keep : ∀ a o, a ≠ s → H a = some o → H' a = some o
  st : Lst s H'
def St4 (s : Addr) (k : Nat) (H : Hp) : Prop := ∃ a b c : Int, H s = some (.lst [.int a, .int b, .int c, .int (k : Int)])
section
variable {K : PySem.W.Frag} {s p : Addr} {H H' H2 : Hp} {k : Nat}
theorem St4.lst (h : St4 s k H) : Lst s H := by
  obtain ⟨a, b, c, e⟩ := h
  exact ⟨_, e⟩
theorem Lst.ne (h : Lst s H) (hp : H p = none) : s ≠ p := by
  obtain ⟨xs, e⟩ := h
  exact ne_of_none e hp
theorem Lst.ex (h : Lst s H) (e : Ex H H') : Lst s H' := by
  obtain ⟨xs, q⟩ := h
  exact ⟨xs, e _ _ q⟩
theorem St4.ex (h : St4 s k H) (e : Ex H H') : St4 s k H' := by
  obtain ⟨a, b, c, q⟩ := h
  exact ⟨a, b, c, e _ _ q⟩
theorem St4.new {o : HO} (h : St4 s k H) (hp : H p = none) : St4 s k (upd H p o) := h.ex (Ex.new hp)
theorem St4.mut {o : HO} (h : St4 s k H) (hs : s ≠ p) : St4 s k (upd H p o) := by
  obtain ⟨a, b, c, q⟩ := h
  exact ⟨a, b, c, by rw [upd_ne hs]; exact q⟩
theorem Dk.refl (h : Lst s H) : Dk s H H := ⟨fun _ _ _ q => q, h⟩
theorem Dk.trans (a : Dk s H H') (b : Dk s H' H2) : Dk s H H2 := ⟨fun x o hx q => b.keep x o hx (a.keep x o hx q), b.st⟩
theorem Dk.ex (h : Lst s H) (e : Ex H H') : Dk s H H' := ⟨fun a o _ q => e a o q, h.ex e⟩
theorem Dk.new {o : HO} (h : Lst s H) (hp : H p = none) : Dk s H (upd H p o) := Dk.ex h (Ex.new hp)
theorem Dk.then (a : Dk s H H') (e : Ex H' H2) : Dk s H H2 := a.trans (Dk.ex a.st e)
theorem Dk.mut {o : HO} (d : Dk s H H') (hp : H p = none) (hs : s ≠ p) : Dk s H (upd H' p o) := ⟨fun a u ha q => by rw [upd_ne (ne_of_none q hp)]; exact d.keep a u ha q, by
  obtain ⟨xs, e⟩ := d.st
  exact ⟨xs, by rw [upd_ne hs]; exact e⟩⟩
theorem Dk.put {xs ys : List V} (h : H s = some (.lst xs)) : Dk s H (upd H s (.lst ys)) := ⟨fun x o hx q => by rw [upd_ne hx]; exact q, ⟨ys, upd_same⟩⟩
theorem sqt_dk {t : Addr} {xs : List V} (h : Lst s H) (d : Dk s H H') (q : SqT K H t xs) : SqT K H' t xs := by
  obtain ⟨ys, e⟩ := h
  rcases q with (q | ⟨o, q⟩) | q
  · exact .inl (.inl (d.keep _ _ (ne_of q e (by intro z; cases z)) q))
  · exact .inl (.inr ⟨o, d.keep _ _ (ne_of q e (by intro z; cases z)) q⟩)
  · exact .inr q
theorem FrV.dk {v : V} {r : Rat} (h : Lst s H) (d : Dk s H H') (q : FrV K H v r) : FrV K H' v r := by
  obtain ⟨t, rfl, q⟩ := q
  exact ⟨t, rfl, sqt_dk h d q⟩
theorem RowV.dk {v : V} {rs : List Rat} (h : Lst s H) (d : Dk s H H') (q : RowV K H v rs) : RowV K H' v rs := by
  obtain ⟨t, xs, rfl, q, l⟩ := q
  exact ⟨t, xs, rfl, sqt_dk h d q, pmono (fun _ _ => FrV.dk h d) l⟩
theorem SumV.dk {v : V} {z : Sum2} (h : Lst s H) (d : Dk s H H') (q : SumV K H v z) : SumV K H' v z := by
  obtain ⟨t, a, b, rfl, q, l, n⟩ := q
  exact ⟨t, a, b, rfl, sqt_dk h d q, l.dk h d, n.dk h d⟩
theorem NodesV.dk {v : V} {zs : List Sum2} (h : Lst s H) (d : Dk s H H') (q : NodesV K H v zs) : NodesV K H' v zs := by
  obtain ⟨t, xs, rfl, q, l⟩ := q
  exact ⟨t, xs, rfl, sqt_dk h d q, pmono (fun _ _ => SumV.dk h d) l⟩
theorem NodesV.mut {D : Addr} {xs : List V} {o : HO} {v : V} {zs : List Sum2} (hD : H D = some (.lst xs)) (h : NodesV K H v zs) : NodesV K (upd H D o) v zs := by
  obtain ⟨t, us, rfl, qt, lu⟩ := h
  exact ⟨t, us, rfl, sqt_mut hD qt, pmono (fun _ _ => SumV.mut hD) lu⟩
end
/-! ### layers as lists of lists -/
def LyV (K : PySem.W.Frag) (H : Hp) (v : V) (l : List Sum2) : Prop := ∃ a xs, v = .ref a ∧ SqL K H a xs ∧ Paired (SumV K H) xs l
def LayI (K : PySem.W.Frag) (H : Hp) (v : V) (ls : List (List Sum2)) : Prop := ∃ D ys, v = .ref D ∧ SqL K H D ys ∧ Paired (LyV K H) ys ls
/-- the same, lists that are no stream -/
def LyS (K : PySem.W.Frag) (s : Addr) (H : Hp) (v : V) (l : List Sum2) : Prop := ∃ a xs, v = .ref a ∧ a ≠ s ∧ H a = some (.lst xs) ∧ Paired (SumV K H) xs l
def LayS (K : PySem.W.Frag) (s : Addr) (H : Hp) (D : Addr) (ls : List (List Sum2)) : Prop := D ≠ s ∧ ∃ ys, H D = some (.lst ys) ∧ Paired (LyS K s H) ys ls
section
variable {K : PySem.W.Frag} {s p D : Addr} {H H' H2 : Hp} {k : Nat} {v : V} {l : List Sum2} {ls : List (List Sum2)}
theorem LyV.ex (e : Ex H H') (h : LyV K H v l) : LyV K H' v l := by
  obtain ⟨a, xs, rfl, q, p⟩ := h
  exact ⟨a, xs, rfl, ex_l e q, pmono (fun _ _ => SumV.ex e) p⟩
theorem LayI.ex (e : Ex H H') (h : LayI K H v ls) : LayI K H' v ls := by
  obtain ⟨D, ys, rfl, q, p⟩ := h
  exact ⟨D, ys, rfl, ex_l e q, pmono (fun _ _ => LyV.ex e) p⟩
theorem LyS.ex (e : Ex H H') (h : LyS K s H v l) : LyS K s H' v l := by
  obtain ⟨a, xs, rfl, n, q, p⟩ := h
  exact ⟨a, xs, rfl, n, e _ _ q, pmono (fun _ _ => SumV.ex e) p⟩
theorem LyS.dk (h0 : Lst s H) (d : Dk s H H') (h : LyS K s H v l) : LyS K s H' v l := by
  obtain ⟨a, xs, rfl, n, q, p⟩ := h
  exact ⟨a, xs, rfl, n, d.keep _ _ n q, pmono (fun _ _ => SumV.dk h0 d) p⟩
theorem LyS.toV (h : LyS K s H v l) : LyV K H v l := by
  obtain ⟨a, xs, rfl, n, q, p⟩ := h
  exact ⟨a, xs, rfl, sq_of q, p⟩
theorem LayS.ex (e : Ex H H') (h : LayS K s H D ls) : LayS K s H' D ls := by
  obtain ⟨n, ys, q, p⟩ := h
  exact ⟨n, ys, e _ _ q, pmono (fun _ _ => LyS.ex e) p⟩
theorem LayS.dk (h0 : Lst s H) (d : Dk s H H') (h : LayS K s H D ls) : LayS K s H' D ls := by
  obtain ⟨n, ys, q, p⟩ := h
  exact ⟨n, ys, d.keep _ _ n q, pmono (fun _ _ => LyS.dk h0 d) p⟩
theorem LayS.i (h : LayS K s H D ls) : LayI K H (.ref D) ls := by
  obtain ⟨n, ys, q, p⟩ := h
  exact ⟨D, ys, rfl, sq_of q, pmono (fun _ _ => LyS.toV) p⟩
end
/-! ### nets -/
def LayV (K : PySem.W.Frag) (CL CC : Addr) (H : Hp) (v : V) (l : List Sum2) : Prop := ∃ p C nv, v = .ref p ∧ (C = CL ∨ C = CC) ∧ LayerAt C H p nv ∧ NodesV K H nv l
def NetV (K : PySem.W.Frag) (CN CL CC : Addr) (H : Hp) (p : Addr) (n : Nat) (ls : List (List Sum2)) : Prop := ∃ dx t ps, H p = some (.ins CN dx [(("_ins" : Str), .int (n : Int)), (("_layers" : Str), .ref t)]) ∧ SqT K H t ps ∧ Paired (LayV K CL CC H) ps ls
/-- what a net tells -/
def TdV (K : PySem.W.Frag) (H : Hp) (v : V) (n : Nat) (ls : List (List Sum2)) : Prop := ∃ t u ys, v = .ref t ∧ SqT K H t [.int (n : Int), .ref u] ∧ SqT K H u ys ∧ Paired (NodesV K H) ys ls
def nd (ls : List (List Sum2)) : List PyData := ls.map fun l => .tuple (l.map sd)
section
variable {K : PySem.W.Frag} {s p D CN CL CC : Addr} {H H' H2 : Hp} {k n : Nat} {v : V} {l : List Sum2} {ls : List (List Sum2)}
theorem LayV.ex (e : Ex H H') (h : LayV K CL CC H v l) : LayV K CL CC H' v l := by
  obtain ⟨p, C, nv, rfl, c, la, nn⟩ := h
  exact ⟨p, C, nv, rfl, c, la.ex e, nn.ex e⟩
theorem LayV.mut {xs : List V} {o : HO} (hD : H D = some (.lst xs)) (h : LayV K CL CC H v l) : LayV K CL CC (upd H D o) v l := by
  obtain ⟨p, C, nv, rfl, c, ⟨dx, la⟩, nn⟩ := h
  exact ⟨p, C, nv, rfl, c, ⟨dx, by rw [upd_ne (ne_of la hD (by intro z; cases z))]; exact la⟩, nn.mut hD⟩
theorem LayV.dk (h0 : Lst s H) (d : Dk s H H') (h : LayV K CL CC H v l) : LayV K CL CC H' v l := by
  obtain ⟨p, C, nv, rfl, c, ⟨dx, la⟩, nn⟩ := h
  obtain ⟨xs, hx⟩ := id h0
  exact ⟨p, C, nv, rfl, c, ⟨dx, d.keep _ _ (ne_of la hx (by intro z; cases z)) la⟩, nn.dk h0 d⟩
theorem stL : Stays (LayV K CL CC) := ⟨LayV.ex, LayV.mut⟩
theorem NetV.ex (e : Ex H H') (h : NetV K CN CL CC H p n ls) : NetV K CN CL CC H' p n ls := by
  obtain ⟨dx, t, ps, hp, q, l⟩ := h
  exact ⟨dx, t, ps, e _ _ hp, ex_t e q, pmono (fun _ _ => LayV.ex e) l⟩
theorem NetV.dk (h0 : Lst s H) (d : Dk s H H') (h : NetV K CN CL CC H p n ls) : NetV K CN CL CC H' p n ls := by
  obtain ⟨dx, t, ps, hp, q, l⟩ := h
  obtain ⟨xs, hx⟩ := id h0
  exact ⟨dx, t, ps, d.keep _ _ (ne_of hp hx (by intro z; cases z)) hp, sqt_dk h0 d q, pmono (fun _ _ => LayV.dk h0 d) l⟩
theorem TdV.ex (e : Ex H H') (h : TdV K H v n ls) : TdV K H' v n ls := by
  obtain ⟨t, u, ys, rfl, q, q2, l⟩ := h
  exact ⟨t, u, ys, rfl, ex_t e q, ex_t e q2, pmono (fun _ _ => NodesV.ex e) l⟩
theorem TdV.dk (h0 : Lst s H) (d : Dk s H H') (h : TdV K H v n ls) : TdV K H' v n ls := by
  obtain ⟨t, u, ys, rfl, q, q2, l⟩ := h
  exact ⟨t, u, ys, rfl, sqt_dk h0 d q, sqt_dk h0 d q2, pmono (fun _ _ => NodesV.dk h0 d) l⟩
theorem NodesV.dp (h : NodesV K H v l) : Dp K H v (.tuple (l.map sd)) := by
  obtain ⟨t, xs, rfl, q, p⟩ := h
  exact .tup q (sums_dp p)
theorem nds_dp : ∀ {xs : List V} {ls : List (List Sum2)}, Paired (NodesV K H) xs ls → DpAll K H xs (nd ls)
  | _, _, .nil => .nil
  | _, _, .cons a t => .cons a.dp (nds_dp t)
theorem TdV.dp (h : TdV K H v n ls) : Dp K H v (.tuple [.int (n : Int), .tuple (nd ls)]) := by
  obtain ⟨t, u, ys, rfl, q, q2, l⟩ := h
  exact .tup q (.cons (.int _) (.cons (.tup q2 (nds_dp l)) .nil))
end
theorem lay_nd : ∀ ls : List (List Sum2), PyData.canLayAll0 (nd ls) = true
  | [] => rfl
  | z :: zs => by
    show (PyData.canLayAll0 (z.map sd) && PyData.canLayAll0 (nd zs)) = true
    rw [lay_sds, lay_nd zs]
    rfl
theorem depth_nd : ∀ ls : List (List Sum2), PyData.depthAll (nd ls) ≤ 5
  | [] => Nat.zero_le _
  | z :: zs => by
    have ih := depth_nd zs
    have h1 := depth_sds z
    show max (PyData.depthAll (z.map sd) + 1) (PyData.depthAll (nd zs)) ≤ 5
    omega
theorem lay_td (n : Nat) (ls : List (List Sum2)) : (PyData.tuple [.int (n : Int), .tuple (nd ls)]).canLay0 = true := by
  show (true && (PyData.canLayAll0 (nd ls) && true)) = true
  rw [lay_nd]
  rfl
theorem shaped_td (n : Nat) (ls : List (List Sum2)) : SeqAt.shaped (.tuple [.int (n : Int), .tuple (nd ls)]) = true := by
  unfold SeqAt.shaped
  rw [lay_td, Bool.true_and]
  refine decide_eq_true ?_
  have := depth_nd ls
  show max 0 (max (PyData.depthAll (nd ls) + 1) 0) + 1 ≤ 64
  omega
theorem eqv_td (n : Nat) (ls : List (List Sum2)) : PyData.eqv (.tuple [.int (n : Int), .tuple (nd ls)]) (.tuple [.int (n : Int), .tuple (nd ls)]) = true := SeqAt.eqv_refl _ (lay_td n ls)
/-- a list of rows -/
def rd (rs : List (List Rat)) : List PyData := rs.map fun r => .tuple (r.map fd)
theorem rows_dp {K : PySem.W.Frag} {H : Hp} : ∀ {xs : List V} {rs : List (List Rat)}, Paired (RowV K H) xs rs → DpAll K H xs (rd rs)
  | _, _, .nil => .nil
  | _, _, .cons a t => .cons a.dp (rows_dp t)
theorem lay_rd : ∀ rs : List (List Rat), PyData.canLayAll0 (rd rs) = true
  | [] => rfl
  | r :: rs => by
    show (PyData.canLayAll0 (r.map fd) && PyData.canLayAll0 (rd rs)) = true
    rw [layAll_fd, lay_rd rs]
    rfl
theorem depth_rd : ∀ rs : List (List Rat), PyData.depthAll (rd rs) ≤ 2
  | [] => Nat.zero_le _
  | z :: zs => by
    have ih := depth_rd zs
    have h1 := depthAll_fd z
    show max (PyData.depthAll (z.map fd) + 1) (PyData.depthAll (rd zs)) ≤ 2
    omega
theorem shaped_rd (rs : List (List Rat)) : SeqAt.shaped (.list (rd rs)) = true := by
  unfold SeqAt.shaped
  have h : (PyData.list (rd rs)).canLay0 = true := lay_rd rs
  rw [h, Bool.true_and]
  refine decide_eq_true ?_
  have := depth_rd rs
  show PyData.depthAll (rd rs) + 1 ≤ 64
  omega
theorem eqv_rd (rs : List (List Rat)) : PyData.eqv (.list (rd rs)) (.list (rd rs)) = true := SeqAt.eqv_refl _ (lay_rd rs)
/-! ### what is known of a net's numbers -/
structure NetOk (n : Nat) (ls : List (List Sum2)) (W : Nat) : Prop where
  n1 : 1 ≤ n
  n3 : n ≤ 3
  over : Over n ls
  l1 : 1 ≤ ls.length
  l4 : ls.length ≤ 4
  num : Num 100 W ls
  w0 : 0 < W
/-- a spot's common bottom fits beside it -/
structure Fits (W D : Nat) : Prop where
  d0 : 0 < D
  lt : W ^ 4 * D < 2 ^ 1200
theorem Fits.at {W D : Nat} (hW : 0 < W) (h : Fits W D) {i : Nat} (hi : i ≤ 3) : 0 < W * (W ^ i * D) ∧ W * (W ^ i * D) < 2 ^ 1200 := by
  have h1 : W * (W ^ i * D) = W ^ (i + 1) * D := by rw [Nat.pow_succ, ← Nat.mul_assoc, Nat.mul_comm W]
  rw [h1]
  refine ⟨Nat.mul_pos (Nat.pow_pos hW) h.d0, Nat.lt_of_le_of_lt (Nat.mul_le_mul_right D (Nat.pow_le_pow_right hW (by omega))) h.lt⟩
/-! ### promises -/
def spTake4 : Sp := fun vs H Q _ => ∃ (s : Addr) (m : Int) (k : Nat), vs = [.ref s, .int m] ∧ St4 s k H ∧ 0 < m ∧ m < 2 ^ 200 ∧ ∀ d H', 0 ≤ d → d < m → Dk s H H' → St4 s k H' → Q (.int d) H'
def spStream4 : Sp := fun vs H Q _ => ∃ c : Int, vs = [.int c] ∧ ∀ s, H s = none → ∀ H', Ex H H' → St4 s 2 H' → Q (.ref s) H'
def spDraw4 : Sp := fun vs H Q _ => ∃ (s : Addr) (k : Nat), vs = [.ref s] ∧ St4 s k H ∧ ∀ d H', 0 < d → d.natAbs < 2 ^ 100 → Dk s H H' → St4 s k H' → Q (.int d) H'
/-- so many long numbers were drawn, their bottoms' product is M -/
structure Used (k k' M : Nat) : Prop where
  le : k' ≤ k
  pos : 0 < M
  lt : M ≤ 2 ^ (100 * (k - k'))
theorem Used.refl (k : Nat) : Used k k 1 := ⟨Nat.le_refl _, Nat.one_pos, by rw [Nat.sub_self]; decide⟩
theorem Used.trans {k k1 k2 M N : Nat} (a : Used k k1 M) (b : Used k1 k2 N) : Used k k2 (M * N) := by
  refine ⟨Nat.le_trans b.le a.le, Nat.mul_pos a.pos b.pos, Nat.le_trans (Nat.mul_le_mul a.lt b.lt) ?_⟩
  rw [← Nat.pow_add]
  have h1 := a.le
  have h2 := b.le
  exact Nat.pow_le_pow_right (by decide) (by omega)
theorem sv_l {n M N : Nat} {r : Rat} (h : Sv n (6 * M) r) : Sv n (6 * (M * N)) r := h.mono (Nat.le_refl _) (Nat.mul_dvd_mul_left 6 (Nat.dvd_mul_right _ _))
theorem sv_r {n M N : Nat} {r : Rat} (h : Sv n (6 * N) r) : Sv n (6 * (M * N)) r := h.mono (Nat.le_refl _) (Nat.mul_dvd_mul_left 6 (Nat.dvd_mul_left _ _))
def spNum4 (K : PySem.W.Frag) : Sp := fun vs H Q _ => ∃ (s : Addr) (k : Nat), vs = [.ref s] ∧ St4 s k H ∧ ∀ v r H' k' M, Dk s H H' → St4 s k' H' → Used k k' M → FrV K H' v r → Sv 100 (6 * M) r → Q v H'
def spNode4 (K : PySem.W.Frag) : Sp := fun vs H Q _ => ∃ (s : Addr) (k n : Nat), vs = [.ref s, .int (n : Int)] ∧ St4 s k H ∧ n ≤ 20 ∧ ∀ v z H' k' M, Dk s H H' → St4 s k' H' → Used k k' M → SumV K H' v z → z.1.length = n → SvL 100 (6 * M) z.1 → Sv 100 (6 * M) z.2 → Q v H'
def spSpot4 (K : PySem.W.Frag) : Sp := fun vs H Q _ => ∃ (s : Addr) (k n : Nat), vs = [.ref s, .int (n : Int)] ∧ St4 s k H ∧ n ≤ 20 ∧ ∀ v L H' k' M, Dk s H H' → St4 s k' H' → Used k k' M → RowV K H' v L → L.length = n → SvL 100 (6 * M) L → Q v H'
def spSize4 : Sp := fun vs H Q _ => ∃ (s : Addr) (m k : Nat), vs = [.ref s, .int (m : Int)] ∧ St4 s k H ∧ 2 ≤ m ∧ m ≤ 10 ∧ ∀ (d : Nat) H', 1 ≤ d → d ≤ m → Dk s H H' → St4 s k H' → Q (.int (d : Int)) H'
def spLays4 (K : PySem.W.Frag) : Sp := fun vs H Q _ => ∃ (s : Addr) (n k : Nat), vs = [.ref s, .int (n : Int)] ∧ St4 s k H ∧ 1 ≤ n ∧ n ≤ 3 ∧ ∀ D ls H' k' M, H D = none → Dk s H H' → St4 s k' H' → Used k k' M → LayS K s H' D ls → NetOk n ls (6 * M) → Q (.ref D) H'
def spWeighD (K : PySem.W.Frag) : Sp := fun vs H Q _ => ∃ (x y : V) (rs ss : List Rat) (m W D : Nat), vs = [x, y] ∧ RowV K H x rs ∧ RowV K H y ss ∧ rs.length = ss.length ∧ rs.length ≤ 4 ∧ SvL 100 W rs ∧ SvL m D ss ∧ m ≤ 150000 ∧ 0 < W * D ∧ W * D < 2 ^ 1200 ∧ ∀ v H', Ex H H' → FrV K H' v (weighs (rs.zip ss)) → Q v H'
def spTellsD (K : PySem.W.Frag) : Sp := fun vs H Q _ => ∃ (x y : V) (z : Sum2) (ss : List Rat) (m W D : Nat), vs = [x, y] ∧ SumV K H x z ∧ RowV K H y ss ∧ z.1.length = ss.length ∧ z.1.length ≤ 4 ∧ SvL 100 W z.1 ∧ Sv 100 W z.2 ∧ SvL m D ss ∧ m ≤ 150000 ∧ 0 < W * D ∧ W * D < 2 ^ 1200 ∧ ∀ v H', Ex H H' → FrV K H' v (tells z ss) → Q v H'
def NodesOk (n W : Nat) (l : List Sum2) : Prop := ∀ z ∈ l, z.1.length = n ∧ SvL 100 W z.1 ∧ Sv 100 W z.2
/-- the facts of a reckoning: nodes, a row -/
structure Rk (l : List Sum2) (L : List Rat) (m W D : Nat) : Prop where
  nodes : NodesOk L.length W l
  len : L.length ≤ 4
  many : l.length ≤ 4
  row : SvL m D L
  top : m ≤ 150000
  pos : 0 < W * D
  lt : W * D < 2 ^ 1200
def spReckD (K : PySem.W.Frag) : Sp := fun vs H Q _ => ∃ (x y : V) (l : List Sum2) (L : List Rat) (m W D : Nat), vs = [x, y] ∧ NodesV K H x l ∧ RowV K H y L ∧ Rk l L m W D ∧ ∀ v H', Ex H H' → RowV K H' v (l.map fun z => tells z L) → Q v H'
def spPassD (K : PySem.W.Frag) (C : Addr) : Sp := fun vs H Q _ => ∃ (p : Addr) (nv y : V) (l : List Sum2) (L : List Rat) (m W D : Nat), vs = [.ref p, y] ∧ LayerAt C H p nv ∧ NodesV K H nv l ∧ RowV K H y L ∧ Rk l L m W D ∧ ∀ v H', Ex H H' → RowV K H' v (l.map fun z => tells z L) → Q v H'
def spCutQ (K : PySem.W.Frag) : Sp := fun vs H Q _ => ∃ (x : V) (r : Rat), vs = [x] ∧ FrV K H x r ∧ ∀ v, FrV K H v (cutQ r) → Q v H
def spCutRow (K : PySem.W.Frag) : Sp := fun vs H Q _ => ∃ (x : V) (L : List Rat), vs = [x] ∧ RowV K H x L ∧ L.length ≤ 100 ∧ ∀ v H', Ex H H' → RowV K H' v (L.map cutQ) → Q v H'
def spRowsD (K : PySem.W.Frag) : Sp := fun vs H Q _ => ∃ (x y : V) (ls : List (List Sum2)) (L : List Rat) (W D : Nat), vs = [x, y] ∧ LayI K H x ls ∧ RowV K H y L ∧ NetOk L.length ls W ∧ SvL 100 D L ∧ Fits W D ∧
  ∀ F rs H', H F = none → Ex H H' → H' F = some (.lst rs) → Paired (RowV K H') rs (rowsAt ls L) → Q (.ref F) H'
def spSumsAt (K : PySem.W.Frag) (CN CL CC : Addr) : Sp := fun vs H Q _ => ∃ (p : Addr) (y : V) (ls : List (List Sum2)) (L : List Rat) (W D : Nat), vs = [.ref p, y] ∧ NetV K CN CL CC H p L.length ls ∧ RowV K H y L ∧ NetOk L.length ls W ∧ SvL 100 D L ∧ Fits W D ∧
  ∀ F rs H', H F = none → Ex H H' → H' F = some (.lst rs) → Paired (RowV K H') rs (rowsAt ls L) → Q (.ref F) H'
def spOutsAt (K : PySem.W.Frag) (CN CL CC : Addr) : Sp := fun vs H Q _ => ∃ (p : Addr) (y : V) (ls : List (List Sum2)) (L : List Rat) (W D : Nat), vs = [.ref p, y] ∧ NetV K CN CL CC H p L.length ls ∧ RowV K H y L ∧ NetOk L.length ls W ∧ SvL 100 D L ∧ Fits W D ∧
  ∀ v o H', Ex H H' → (rowsAt ls L)[ls.length - 1]? = some o → RowV K H' v o → Q v H'
def spToldN (K : PySem.W.Frag) (CN CL CC : Addr) : Sp := fun vs H Q _ => ∃ (p : Addr) (n : Nat) (ls : List (List Sum2)), vs = [.ref p] ∧ NetV K CN CL CC H p n ls ∧ ls.length ≤ 100 ∧ ∀ v H', Ex H H' → TdV K H' v n ls → Q v H'
def spInsN (K : PySem.W.Frag) (CN CL CC : Addr) : Sp := fun vs H Q _ => ∃ (p : Addr) (n : Nat) (ls : List (List Sum2)), vs = [.ref p] ∧ NetV K CN CL CC H p n ls ∧ Q (.int (n : Int)) H
def spLaysTold (K : PySem.W.Frag) (CN CL CC : Addr) : Sp := fun vs H Q _ => ∃ (p : Addr) (n : Nat) (ls : List (List Sum2)), vs = [.ref p] ∧ NetV K CN CL CC H p n ls ∧ ls.length ≤ 100 ∧ (∀ l ∈ ls, l.length ≤ 100) ∧
  ∀ F ys H', H F = none → Ex H H' → H' F = some (.lst ys) → Paired (fun v l => ∃ a xs, v = .ref a ∧ H a = none ∧ a ≠ F ∧ H' a = some (.lst xs) ∧ Paired (SumV K H') xs l) ys ls → Q (.ref F) H'
/-- the making of a net -/
def spInitN (K : PySem.W.Frag) (CN CL CC : Addr) : Sp := fun vs H Q _ => ∃ (p dx : Addr) (x : V) (n : Nat) (ls : List (List Sum2)) (W : Nat), vs = [.ref p, .int (n : Int), x] ∧ H p = some (.ins CN dx []) ∧ LayI K H x ls ∧ NetOk n ls W ∧
  ∀ H', (∀ b o, b ≠ p → H b = some o → H' b = some o) → NetV K CN CL CC H' p n ls → Q .non H'
def spIsSum (K : PySem.W.Frag) : Sp := fun vs H Q _ => ∃ (x : V) (z : Sum2), vs = [x, .int (z.1.length : Int)] ∧ SumV K H x z ∧ z.1.length ≤ 100 ∧ ∀ H', Ex H H' → Q (.bl true) H'
def spAreIns : Sp := fun vs H Q _ => ∃ n : Nat, vs = [.int (n : Int)] ∧ 1 ≤ n ∧ n ≤ 3 ∧ Q (.bl true) H
def spAreLays (K : PySem.W.Frag) : Sp := fun vs H Q _ => ∃ (x : V) (n : Nat) (ls : List (List Sum2)) (W : Nat), vs = [x, .int (n : Int)] ∧ LayI K H x ls ∧ NetOk n ls W ∧ ∀ H', Ex H H' → Q (.bl true) H'
/-- a good row, a good fraction -/
theorem FrV.th {K : PySem.W.Frag} {H : Hp} {v : V} {r : Rat} (h : FrV K H v r) : Th K H v true := by
  obtain ⟨t, rfl, q⟩ := h
  have e := Th.nums q
  have e1 : decide ((0 : Int) < (r.den : Int)) = true := decide_eq_true (den_pos r)
  have e2 : decide (Nat.gcd r.num.natAbs ((r.den : Int)).natAbs = 1) = true := decide_eq_true (by rw [Int.natAbs_natCast]; exact r.reduced)
  rw [e1, e2] at e
  exact e
theorem frl_th {K : PySem.W.Frag} {H : Hp} : ∀ {xs : List V} {rs : List Rat}, FrL K H xs rs → Paired (Th K H) xs (List.replicate rs.length true)
  | _, _, .nil => .nil
  | _, _, .cons a t => .cons a.th (frl_th t)
theorem RowV.rw {K : PySem.W.Frag} {H : Hp} {v : V} {rs : List Rat} (h : RowV K H v rs) (hl : rs.length ≤ 100) : Rw K H v (some (List.replicate rs.length true)) := by
  obtain ⟨t, xs, rfl, q, l⟩ := h
  exact .tup q (frl_th l) (by rw [Paired.length l]; exact hl)
theorem rwB_rep (n : Nat) : rwB (some (List.replicate n true)) (n : Int) = true := by
  show (decide (((List.replicate n true).length : Int) = (n : Int)) && (List.replicate n true).all id) = true
  rw [List.length_replicate, decide_eq_true rfl, Bool.true_and]
  simp
/-! ### a step of the reckoning -/
theorem rk_next {l : List Sum2} {A : List Rat} {i W D : Nat} (k : Rk l A (tb i) W (W ^ i * D)) : SvL (tb (i + 1)) (W ^ (i + 1) * D) ((l.map fun z => tells z A).map cutQ) := by
  intro r hr
  obtain ⟨u, hu, rfl⟩ := List.mem_map.mp hr
  obtain ⟨z, hz, rfl⟩ := List.mem_map.mp hu
  obtain ⟨h1, h2, h3⟩ := k.nodes z hz
  have h := sv_tells k.pos k.lt h2 h3 k.row h1
  have hl : z.1.length ≤ 4 := by
    rw [h1]
    exact k.len
  have hb : z.1.length * (100 + tb i + 1200 + 1) ≤ 4 * (100 + tb i + 1200 + 1) := Nat.mul_le_mul_right _ hl
  have e : W ^ (i + 1) * D = W * (W ^ i * D) := by rw [Nat.pow_succ, ← Nat.mul_assoc, Nat.mul_comm W]
  rw [e]
  refine sv_cutQ (h.mono ?_ (Nat.dvd_refl _))
  show _ ≤ 1 + 4 * (100 + tb i + 1201) + 1302
  omega
theorem drop_at {α : Type} {ls : List α} {i : Nat} {l : α} (h : ls[i]? = some l) : ls.drop i = l :: ls.drop (i + 1) := by
  obtain ⟨h1, h2⟩ := List.getElem?_eq_some_iff.mp h
  rw [List.drop_eq_getElem_cons h1, h2]
theorem rk_of {ls : List (List Sum2)} {n W D i : Nat} {l : List Sum2} {A : List Rat} (ok : NetOk n ls W) (f : Fits W D) (hi : ls[i]? = some l) (ov : Over A.length (ls.drop i)) (hA : SvL (tb i) (W ^ i * D) A) (h4 : A.length ≤ 4) :
    Rk l A (tb i) W (W ^ i * D) ∧ Over l.length (ls.drop (i + 1)) ∧ l.length ≤ 4 ∧ 1 ≤ l.length ∧ i ≤ 3 := by
  have hi1 := (List.getElem?_eq_some_iff.mp hi).1
  have hl4 := ok.l4
  have hi3 : i ≤ 3 := by omega
  rw [drop_at hi] at ov
  obtain ⟨o1, o2, o3⟩ := ov
  have hm := List.mem_of_getElem? hi
  exact ⟨⟨fun z hz => ⟨o1 z hz, ok.num l hm z hz⟩, h4, o2.2, hA, tb_le3 i hi3, (f.at ok.w0 hi3).1, (f.at ok.w0 hi3).2⟩, o3, o2.2, o2.1, hi3⟩
theorem rowsAt_cons {ls : List (List Sum2)} {i : Nat} {l : List Sum2} {A : List Rat} (hi : ls[i]? = some l) : rowsAt (ls.drop i) A = (l.map fun z => tells z A) :: rowsAt (ls.drop (i + 1)) ((l.map fun z => tells z A).map cutQ) := by
  rw [drop_at hi]
  rfl
/-- what stands behind i layers: the rows told, the row ahead -/
structure Mid (ls : List (List Sum2)) (L : List Rat) (W D i : Nat) (dn : List (List Rat)) (A : List Rat) : Prop where
  len : dn.length = i
  eq : rowsAt ls L = dn ++ rowsAt (ls.drop i) A
  over : Over A.length (ls.drop i)
  row : SvL (tb i) (W ^ i * D) A
  a4 : A.length ≤ 4
theorem mid0 {ls : List (List Sum2)} {L : List Rat} {W D : Nat} (ok : NetOk L.length ls W) (h : SvL 100 D L) : Mid ls L W D 0 [] L := by
  have := ok.n3
  refine ⟨rfl, rfl, ok.over, ?_, by omega⟩
  rw [Nat.pow_zero, Nat.one_mul]
  exact h
theorem mid_step {ls : List (List Sum2)} {L A : List Rat} {n W D i : Nat} {dn : List (List Rat)} {l : List Sum2} (ok : NetOk n ls W) (f : Fits W D) (m : Mid ls L W D i dn A) (hi : ls[i]? = some l) :
    Rk l A (tb i) W (W ^ i * D) ∧ Mid ls L W D (i + 1) (dn ++ [l.map fun z => tells z A]) ((l.map fun z => tells z A).map cutQ) ∧ l.length ≤ 4 := by
  obtain ⟨k, o, l4, l1, i3⟩ := rk_of ok f hi m.over m.row m.a4
  refine ⟨k, ⟨by simp [m.len], ?_, ?_, rk_next k, by simpa using l4⟩, l4⟩
  · rw [m.eq, rowsAt_cons hi, List.append_assoc]
    rfl
  · simpa using o
theorem mid_end {ls : List (List Sum2)} {L A : List Rat} {W D : Nat} {dn : List (List Rat)} (m : Mid ls L W D ls.length dn A) : dn = rowsAt ls L := by
  rw [m.eq, List.drop_length]
  show dn = dn ++ []
  rw [List.append_nil]
theorem rowsAt_length : ∀ (ls : List (List Sum2)) (L : List Rat), (rowsAt ls L).length = ls.length
  | [], _ => rfl
  | l :: ls, L => by
    show (rowsAt ls _).length + 1 = _
    rw [rowsAt_length ls]
    rfl
/-! ### layers that grow -/
def lastN : Nat → List (List Sum2) → Nat
  | n, [] => n
  | _, l :: ls => lastN l.length ls
theorem over_snoc : ∀ {n : Nat} {ls : List (List Sum2)} {l : List Sum2}, Over n ls → (∀ z ∈ l, z.1.length = lastN n ls) → 1 ≤ l.length → l.length ≤ 4 → Over n (ls ++ [l]) ∧ lastN n (ls ++ [l]) = l.length
  | n, [], l, _, h, h1, h4 => ⟨⟨h, ⟨h1, h4⟩, trivial⟩, rfl⟩
  | n, a :: ls, l, o, h, h1, h4 => by
    obtain ⟨o1, o2, o3⟩ := o
    obtain ⟨i1, i2⟩ := over_snoc (n := a.length) (ls := ls) o3 h h1 h4
    exact ⟨⟨o1, o2, i1⟩, i2⟩
theorem sv_div {t b : Int} {n : Nat} (hb : 0 < b) (ht : t.natAbs < 2 ^ n) : Sv n b.toNat (Rat.divInt t b) := by
  constructor
  · rw [← num_div hb]
    exact Nat.lt_of_le_of_lt (natAbs_ediv_le _ _) ht
  · have h := den_of_div (k := t) (D := b.toNat) (by omega)
    rwa [Int.toNat_of_nonneg (by omega)] at h
theorem stN {K : PySem.W.Frag} : Stays (NodesV K) := ⟨NodesV.ex, NodesV.mut⟩
/-- a turn of the drawing of a row -/
theorem row_turn4 {K : PySem.W.Frag} {s D : Addr} {H H' H4 : Hp} {i k k2 N : Nat} {v : V} {r : Rat} (hS : Lst s H) (hD : H D = none) (hi : i < 1000)
    (h : ∃ L xs k' M, H' D = some (.lst xs) ∧ FrL K H' xs L ∧ L.length = i ∧ SvL 100 (6 * M) L ∧ Dk s H H' ∧ St4 s k' H' ∧ Used k k' M ∧ Used k' k2 N) (r4 : Dk s H' H4) (t4 : St4 s k2 H4) (hv : FrV K H4 v r) (hs : Sv 100 (6 * N) r) :
    ∃ acc, H4 D = some (.lst acc) ∧ acc.length < sizeLine ∧ ∃ L xs k' M, upd H4 D (.lst (acc ++ [v])) D = some (.lst xs) ∧ FrL K (upd H4 D (.lst (acc ++ [v]))) xs L ∧ L.length = i + 1 ∧ SvL 100 (6 * M) L ∧ Dk s H (upd H4 D (.lst (acc ++ [v]))) ∧ St4 s k' (upd H4 D (.lst (acc ++ [v]))) ∧ Used k k' M := by
  obtain ⟨L, xs, k', M, hx, hl, hn, hz, r1, t1, u1, u2⟩ := h
  have hsD := hS.ne hD
  have h4 := r4.keep D _ (Ne.symm hsD) hx
  have hln := Paired.length hl
  refine ⟨xs, h4, sz_lt (by omega), L ++ [r], xs ++ [v], k2, M * N, upd_same, ?_, by simp [hn], ?_, (r1.trans r4).mut hD hsD, t4.mut hsD, u1.trans u2⟩
  · exact Paired.snoc (pmono (fun _ _ q => FrV.mut h4 (FrV.dk r1.st r4 q)) hl) (FrV.mut h4 hv)
  · intro a ha
    rcases List.mem_append.mp ha with ha | ha
    · exact sv_l (hz a ha)
    · rw [List.mem_singleton.mp ha]
      exact sv_r hs
end Nc
end
section
set_option maxRecDepth 100000
set_option maxHeartbeats 4000000
namespace Nc
open PySem PySem.Spec PyProof.Rows L2 Evl
theorem ite_t {b : Bool} {A B : Prop} (h : b = true) (x : A) : if b = true then A else B := by
  rw [if_pos h]
  exact x
theorem ite_f {b : Bool} {A B : Prop} (h : b = false) (x : B) : if b = true then A else B := by
  rw [if_neg (by rw [h]; decide)]
  exact x
theorem ite_nt {b : Bool} {A B : Prop} (h : b = true) (x : B) : if (!b) = true then A else B := by
  rw [if_neg (by rw [h]; decide)]
  exact x
theorem ite_nf {b : Bool} {A B : Prop} (h : b = false) (x : A) : if (!b) = true then A else B := by
  rw [if_pos (by rw [h]; decide)]
  exact x
theorem kitLT {K : PySem.W.Frag} : PySem.W.kitAny K (.type "list") [.type "list", .type "tuple"] = some true := by
  simp [PySem.W.kitAny, kit_ty (K := K) (a := "list") (b := "list") (r := true) (by decide +kernel)]
theorem kitTT {K : PySem.W.Frag} : PySem.W.kitAny K (.type "tuple") [.type "list", .type "tuple"] = some true := by
  simp [PySem.W.kitAny, kit_ty (K := K) (a := "tuple") (b := "list") (r := false) (by decide +kernel), kit_ty (K := K) (a := "tuple") (b := "tuple") (r := true) (by decide +kernel)]
theorem cut_init {ys : List V} (h : ys ≠ []) : cutV ys none (some (-1)) = ys.dropLast := by
  have : ys.length ≠ 0 := fun z => h (List.eq_nil_of_length_eq_zero z)
  unfold cutV
  simp [HT.sIx, List.dropLast_eq_take]
  omega
theorem cut_to {ys : List V} {i : Nat} (h : i ≤ ys.length) : cutV ys none (some (i : Int)) = ys.take i := by
  unfold cutV
  simp only [HT.sIx]
  rw [if_neg (by omega), List.drop_zero, Int.toNat_natCast, Nat.min_eq_left h, Nat.sub_zero]
theorem cut_from {ys : List V} {i : Nat} (h : i ≤ ys.length) : cutV ys (some (i : Int)) none = ys.drop i := by
  unfold cutV
  simp only [HT.sIx]
  rw [if_neg (by omega), Int.toNat_natCast, Nat.min_eq_left h]
  exact List.take_of_length_le (by rw [List.length_drop]; omega)
theorem at_last {ys : List V} {v : V} (h : ys[ys.length - 1]? = some v) : atI ys (-1) = some v := by
  have hn : ys ≠ [] := fun z => by
    rw [z] at h
    cases h
  have e := List.dropLast_concat_getLast hn
  have hl : ys.getLast hn = v := by
    rw [List.getLast_eq_getElem]
    rw [List.getElem?_eq_getElem (by have := List.length_pos_iff.mpr hn; omega)] at h
    exact Option.some.inj h
  rw [hl] at e
  rw [← e]
  exact atI_last _ _
/-! ### where one object changes that is no list and no tuple -/
def Ch (p : Addr) (H H' : Hp) : Prop := ∀ b o, b ≠ p → H b = some o → H' b = some o
section
variable {K : PySem.W.Frag} {H H' H2 : Hp} {p C dx : Addr} {fs : List (Str × V)}
theorem Ch.trans (a : Ch p H H') (b : Ch p H' H2) : Ch p H H2 := fun x o hx q => b x o hx (a x o hx q)
theorem Ch.ex (e : Ex H H') : Ch p H H' := fun x o _ q => e x o q
theorem Ch.put {o : HO} : Ch p H (upd H p o) := fun x u hx q => by
  rw [upd_ne hx]
  exact q
theorem sqt_ch {t : Addr} {xs : List V} (hp : H p = some (.ins C dx fs)) (c : Ch p H H') (q : SqT K H t xs) : SqT K H' t xs := by
  rcases q with (q | ⟨o, q⟩) | q
  · exact .inl (.inl (c _ _ (ne_of q hp (by intro z; cases z)) q))
  · exact .inl (.inr ⟨o, c _ _ (ne_of q hp (by intro z; cases z)) q⟩)
  · exact .inr q
theorem sql_ch {t : Addr} {xs : List V} (hp : H p = some (.ins C dx fs)) (c : Ch p H H') (q : SqL K H t xs) : SqL K H' t xs := by
  rcases q with (q | ⟨o, q⟩) | q
  · exact .inl (.inl (c _ _ (ne_of q hp (by intro z; cases z)) q))
  · exact .inl (.inr ⟨o, c _ _ (ne_of q hp (by intro z; cases z)) q⟩)
  · exact .inr q
theorem FrV.ch {v : V} {r : Rat} (hp : H p = some (.ins C dx fs)) (c : Ch p H H') (q : FrV K H v r) : FrV K H' v r := by
  obtain ⟨t, rfl, q⟩ := q
  exact ⟨t, rfl, sqt_ch hp c q⟩
theorem RowV.ch {v : V} {rs : List Rat} (hp : H p = some (.ins C dx fs)) (c : Ch p H H') (q : RowV K H v rs) : RowV K H' v rs := by
  obtain ⟨t, xs, rfl, q, l⟩ := q
  exact ⟨t, xs, rfl, sqt_ch hp c q, pmono (fun _ _ => FrV.ch hp c) l⟩
theorem SumV.ch {v : V} {z : Sum2} (hp : H p = some (.ins C dx fs)) (c : Ch p H H') (q : SumV K H v z) : SumV K H' v z := by
  obtain ⟨t, a, b, rfl, q, l, n⟩ := q
  exact ⟨t, a, b, rfl, sqt_ch hp c q, l.ch hp c, n.ch hp c⟩
theorem LyV.ch {v : V} {l : List Sum2} (hp : H p = some (.ins C dx fs)) (c : Ch p H H') (q : LyV K H v l) : LyV K H' v l := by
  obtain ⟨a, xs, rfl, q, l⟩ := q
  exact ⟨a, xs, rfl, sql_ch hp c q, pmono (fun _ _ => SumV.ch hp c) l⟩
theorem LayI.ch {v : V} {ls : List (List Sum2)} (hp : H p = some (.ins C dx fs)) (c : Ch p H H') (q : LayI K H v ls) : LayI K H' v ls := by
  obtain ⟨D, ys, rfl, q, l⟩ := q
  exact ⟨D, ys, rfl, sql_ch hp c q, pmono (fun _ _ => LyV.ch hp c) l⟩
theorem NodesV.ch {v : V} {l : List Sum2} (hp : H p = some (.ins C dx fs)) (c : Ch p H H') (q : NodesV K H v l) : NodesV K H' v l := by
  obtain ⟨a, xs, rfl, q, l⟩ := q
  exact ⟨a, xs, rfl, sqt_ch hp c q, pmono (fun _ _ => SumV.ch hp c) l⟩
theorem LayV.ch {CL CC : Addr} {v : V} {l : List Sum2} {n : Int} (hp : H p = some (.ins C dx [(("_ins" : Str), .int n)])) (c : Ch p H H') (q : LayV K CL CC H v l) : LayV K CL CC H' v l := by
  obtain ⟨a, D, nv, rfl, hc, ⟨dy, la⟩, nn⟩ := q
  refine ⟨a, D, nv, rfl, hc, ⟨dy, c _ _ (fun z => ?_) la⟩, nn.ch hp c⟩
  subst z
  rw [hp] at la
  have h1 := Option.some.inj la
  injection h1 with _ _ h2
  have h3 := congrArg (List.map Prod.fst) h2
  have h4 : (("_ins" : Str) == ("_nodes" : Str)) = true := by
    have h5 : [("_ins" : Str)] = [("_nodes" : Str)] := h3
    have h6 := List.head_eq_of_cons_eq h5
    rw [h6]
    exact beq_self_eq_true _
  exact absurd h4 (by decide +kernel)
end
theorem pair_init {α β : Type} {R : α → β → Prop} : ∀ {xs : List α} {ys : List β}, Paired R xs ys → Paired R xs.dropLast ys.dropLast
  | _, _, .nil => .nil
  | _, _, .cons a .nil => .nil
  | _, _, .cons a (.cons b t) => .cons a (pair_init (.cons b t))
theorem pair_app {α β : Type} {R : α → β → Prop} : ∀ {xs us : List α} {ys vs : List β}, Paired R xs ys → Paired R us vs → Paired R (xs ++ us) (ys ++ vs)
  | _, _, _, _, .nil, h => h
  | _, _, _, _, .cons a t, h => .cons a (pair_app t h)
theorem init_last {α : Type} {l : List α} {a : α} (h : l[l.length - 1]? = some a) : l.dropLast ++ [a] = l := by
  have hn : l ≠ [] := fun z => by
    rw [z] at h
    cases h
  have e := List.dropLast_concat_getLast hn
  have hl : l.getLast hn = a := by
    rw [List.getLast_eq_getElem]
    rw [List.getElem?_eq_getElem (by have := List.length_pos_iff.mpr hn; omega)] at h
    exact Option.some.inj h
  rwa [hl] at e
/-! ### rules with K written out, for the blocks of comprehensions -/
def rTupK (K : PySem.W.Frag) : List V → Hp → VK → Prop := fun xs H Q => ∃ p ys, xs = [.ref p] ∧ ((SqL K H p ys ∧ ∀ l, H l = none → Q (.ref l) (upd H l (.tup ys))) ∨ (SqT K H p ys ∧ Q (.ref p) H))
theorem call_tupK {X : Cx} (K : PySem.W.Frag) (h : X.K = K := by rfl) : CallR X (.type "tuple") (rTupK K) := by
  subst h
  exact call_tuple_of
def rLstK (K : PySem.W.Frag) : List V → Hp → VK → Prop := fun xs H Q => ∃ p ys, xs = [.ref p] ∧ (SqL K H p ys ∨ SqT K H p ys) ∧ ∀ l, H l = none → Q (.ref l) (upd H l (.lst ys))
theorem call_lstK {X : Cx} (K : PySem.W.Frag) (h : X.K = K := by rfl) : CallR X (.type "list") (rLstK K) := by
  subst h
  exact call_list_of
/-- the classes of layers and nets -/
structure NDefs (P : Program) (w : World) (K : PySem.W.Frag) (mg : Str → Option Value) (base : Heap) (CN CL CC : Addr) : Prop where
  tN : Cls K CN
  nI : NoAttr K CN "_ins"
  nL : NoAttr K CN "_layers"
  tL : Cls K CL
  tC : Cls K CC
  toldL : MOk P w K mg base 1 CL "told" ["self"] (spToldL CL)
  toldC : MOk P w K mg base 1 CC "told" ["self"] (spToldL CC)
  sumsL : MOk P w K mg base 6 CL "sums" ["self", "ahead"] (spPassD K CL)
  sumsC : MOk P w K mg base 6 CC "sums" ["self", "ahead"] (spPassD K CC)
theorem no_m {v : V} {m : Str} (h : ¬ m = "_nodes") : List.lookup m [(("_nodes" : Str), v)] = none := by
  have qw : (m == ("_nodes" : Str)) = false := by simpa using h
  simp [List.lookup, qw]
theorem no_n {v w : V} {m : Str} (h : ¬ m = "_ins") (h2 : ¬ m = "_layers") : List.lookup m [(("_ins" : Str), v), (("_layers" : Str), w)] = none := by
  have qw : (m == ("_ins" : Str)) = false := by simpa using h
  have qw2 : (m == ("_layers" : Str)) = false := by simpa using h2
  simp [List.lookup, qw, qw2]
end Nc
end
section
set_option maxRecDepth 100000
set_option maxHeartbeats 4000000
namespace Nc
open PySem PySem.Spec PyProof.Rows L2 Evl
/-! ### tuples put together, cut, of any length -/
def rCatTE (K : PySem.W.Frag) : R2 := fun x y H Q => ∃ a b xs ys, x = .ref a ∧ y = .ref b ∧ SqT K H a xs ∧ SqT K H b ys ∧ xs.length + ys.length ≤ sizeLine ∧ ∀ p H2, Ex H H2 → SqT K H2 p (xs ++ ys) → Q (.ref p) H2
theorem op_catTE {X : Cx} (K : PySem.W.Frag) (h : X.K = K := by rfl) : OpR X (binaryOp .Add) (rCatTE K) := by
  subst h
  intro pins s σ H x y v u Q I rx ry h
  obtain ⟨a, b, xs, ys, e1, e2, hx, hy, hz, q⟩ := h
  refine op_catA pins s σ H x y v u Q I rx ry ⟨a, b, xs, ys, e1, e2, hx, hy, hz, fun e => ?_, fun _ e => ?_, fun _ _ p hp => q p _ (Ex.new hp) (st_of upd_same)⟩
  · subst e
    exact q b H (Ex.refl H) hy
  · subst e
    exact q a H (Ex.refl H) (by rw [List.append_nil]; exact hx)
def rSlTE (K : PySem.W.Frag) : V → Option Int → Option Int → Hp → VK → Prop := fun x lo hi H Q => ∃ a xs, x = .ref a ∧ SqT K H a xs ∧ ∀ p H2, Ex H H2 → SqT K H2 p (cutV xs lo hi) → Q (.ref p) H2
theorem sl_tupE {X : Cx} (K : PySem.W.Frag) (h : X.K = K := by rfl) : SlR X (rSlTE K) := by
  subst h
  intro pins s σ H x v vl vu lo hi sl Q I rx hs pl pu h
  obtain ⟨a, xs, e, hx, q⟩ := h
  refine sl_tupA pins s σ H x v vl vu lo hi sl Q I rx hs pl pu ⟨a, xs, e, hx, fun hw => ?_, fun _ p hp => q p _ (Ex.new hp) (st_of upd_same)⟩
  refine q a H (Ex.refl H) ?_
  have : cutV xs lo hi = xs := by
    unfold cutV
    rw [hw.1, hw.2, List.drop_zero, Nat.sub_zero, List.take_length]
  rw [this]
  exact hx
theorem mem_cut {xs : List V} {lo hi : Option Int} {v : V} (h : v ∈ cutV xs lo hi) : v ∈ xs := List.mem_of_mem_drop (List.mem_of_mem_take h)
/-! ### the net of a node -/
theorem over_take : ∀ {n : Nat} {ls : List (List Sum2)} {i : Nat} {l : List Sum2}, Over n ls → ls[i]? = some l → Over n (ls.take i) ∧ ∀ z ∈ l, z.1.length = lastN n (ls.take i)
  | n, [], i, l, _, h => by simp at h
  | n, a :: ls, 0, l, o, h => by
    simp at h
    subst h
    exact ⟨trivial, o.1⟩
  | n, a :: ls, i + 1, l, o, h => by
    obtain ⟨o1, o2, o3⟩ := o
    obtain ⟨h1, h2⟩ := over_take (n := a.length) (ls := ls) (i := i) (l := l) o3 (by simpa using h)
    exact ⟨⟨o1, o2, h1⟩, h2⟩
def nodeNet (ls : List (List Sum2)) (i : Nat) (z : Sum2) : List (List Sum2) := ls.take i ++ [[z]]
theorem netok_node {n W : Nat} {ls : List (List Sum2)} {i : Nat} {l : List Sum2} {z : Sum2} (ok : NetOk n ls W) (hl : ls[i]? = some l) (hz : z ∈ l) : NetOk n (nodeNet ls i z) W := by
  obtain ⟨o1, o2⟩ := over_take ok.over hl
  have hi := (List.getElem?_eq_some_iff.mp hl).1
  have h4 := ok.l4
  have hm := List.mem_of_getElem? hl
  obtain ⟨o3, _⟩ := over_snoc o1 (l := [z]) (fun a ha => by rw [List.mem_singleton.mp ha]; exact o2 z hz) (by simp) (by simp)
  refine ⟨ok.n1, ok.n3, o3, ?_, ?_, ?_, ok.w0⟩
  · simp [nodeNet]
  · simp [nodeNet]
    omega
  · intro a ha b hb
    rcases List.mem_append.mp ha with ha | ha
    · exact ok.num a (List.mem_of_mem_take ha) b hb
    · rw [List.mem_singleton.mp ha] at hb
      rw [List.mem_singleton.mp hb]
      exact ok.num l hm z hz
theorem node_len {ls : List (List Sum2)} {i : Nat} {l : List Sum2} {z : Sum2} (hl : ls[i]? = some l) : (nodeNet ls i z).length = i + 1 := by
  have hi := (List.getElem?_eq_some_iff.mp hl).1
  simp [nodeNet]
  omega
theorem node_last {ls : List (List Sum2)} {i : Nat} {l : List Sum2} {z : Sum2} (hl : ls[i]? = some l) : (nodeNet ls i z)[(nodeNet ls i z).length - 1]? = some [z] := by
  have hi := (List.getElem?_eq_some_iff.mp hl).1
  have h : (ls.take i).length = i := by
    rw [List.length_take]
    omega
  rw [node_len hl]
  unfold nodeNet
  rw [show i + 1 - 1 = (ls.take i).length by omega]
  exact List.getElem?_concat_length
theorem rows_node : ∀ {ls : List (List Sum2)} {i j : Nat} {L : List Rat} {l : List Sum2} {z : Sum2}, ls[i]? = some l → l[j]? = some z → ∃ r x, (rowsAt ls L)[i]? = some r ∧ r[j]? = some x ∧ (rowsAt (nodeNet ls i z) L)[i]? = some [x]
  | [], i, j, L, l, z, h, _ => by simp at h
  | a :: ls, 0, j, L, l, z, h, hz => by
    simp at h
    subst h
    refine ⟨_, tells z L, rfl, ?_, rfl⟩
    rw [List.getElem?_map, hz]
    rfl
  | a :: ls, i + 1, j, L, l, z, h, hz => rows_node (ls := ls) (i := i) (L := (a.map fun z => tells z L).map cutQ) (by simpa using h) hz
theorem pair_take {α β : Type} {R : α → β → Prop} : ∀ {xs : List α} {ys : List β} {i : Nat}, Paired R xs ys → Paired R (xs.take i) (ys.take i)
  | _, _, 0, _ => .nil
  | _, _, i + 1, .nil => .nil
  | _, _, i + 1, .cons a t => .cons a (pair_take t)
/-! ### promises -/
def spCheckN (K : PySem.W.Frag) (CN CL CC : Addr) : Sp := fun vs H Q _ => ∃ (p : Addr) (n i j : Nat) (ls : List (List Sum2)) (l : List Sum2) (z : Sum2), vs = [.ref p, .int (i : Int), .int (j : Int)] ∧ NetV K CN CL CC H p n ls ∧ ls.length ≤ 100 ∧ (∀ l ∈ ls, l.length ≤ 100) ∧ ls[i]? = some l ∧ l[j]? = some z ∧ ∀ H', Ex H H' → Q .non H'
def spNodeNet (K : PySem.W.Frag) (CN CL CC : Addr) : Sp := fun vs H Q _ => ∃ (p : Addr) (n i j W : Nat) (ls : List (List Sum2)) (l : List Sum2) (z : Sum2), vs = [.ref p, .int (i : Int), .int (j : Int)] ∧ NetV K CN CL CC H p n ls ∧ NetOk n ls W ∧ ls[i]? = some l ∧ l[j]? = some z ∧ ∀ q' H', Ex H H' → NetV K CN CL CC H' q' n (nodeNet ls i z) → Q (.ref q') H'
def spOutsN (K : PySem.W.Frag) (CN CL CC : Addr) : Sp := fun vs H Q _ => ∃ (p : Addr) (n : Nat) (ls : List (List Sum2)) (l : List Sum2), vs = [.ref p] ∧ NetV K CN CL CC H p n ls ∧ ls[ls.length - 1]? = some l ∧ Q (.int (l.length : Int)) H
theorem over_len : ∀ {n : Nat} {ls : List (List Sum2)}, Over n ls → ∀ l ∈ ls, l.length ≤ 4
  | _, [], _, l, h => by cases h
  | n, a :: ls, o, l, h => by
    rcases List.mem_cons.mp h with rfl | h
    · exact o.2.1.2
    · exact over_len o.2.2 l h
theorem ex_none {H H' : Hp} {p : Addr} (e : Ex H H') (h : H' p = none) : H p = none := Option.eq_none_iff_forall_ne_some.mpr fun o ho => by
  rw [e _ _ ho] at h
  cases h
end Nc
end
section
set_option maxRecDepth 100000
set_option maxHeartbeats 4000000
namespace Nc
open PySem PySem.Spec PyProof.Rows L2 Evl
/-! ### patterns -/
def pstep (pw : Int × Int) (r : Rat) : Int × Int := (if 0 < r.num then pw.1 + pw.2 else pw.1, 2 * pw.2)
def pfold (rows : List (List Rat)) : Int × Int := rows.flatten.foldl pstep (0, 1)
def patR (rows : List (List Rat)) : Int := (pfold rows.dropLast).1
theorem pfold_take {rows : List (List Rat)} {i : Nat} {r : List Rat} (h : rows[i]? = some r) : pfold (rows.take (i + 1)) = r.foldl pstep (pfold (rows.take i)) := by
  unfold pfold
  rw [List.take_add_one, h, List.flatten_append, List.foldl_append]
  simp
theorem fold_take {r : List Rat} {j : Nat} {x : Rat} {st : Int × Int} (h : r[j]? = some x) : (r.take (j + 1)).foldl pstep st = pstep ((r.take j).foldl pstep st) x := by
  rw [List.take_add_one, h, List.foldl_append]
  rfl
def spPatAt (K : PySem.W.Frag) (CN CL CC : Addr) : Sp := fun vs H Q _ => ∃ (p : Addr) (y : V) (ls : List (List Sum2)) (L : List Rat) (W D : Nat), vs = [.ref p, y] ∧ NetV K CN CL CC H p L.length ls ∧ RowV K H y L ∧ NetOk L.length ls W ∧ SvL 100 D L ∧ Fits W D ∧ ∀ H', Ex H H' → Q (.int (patR (rowsAt ls L))) H'
def spPatL (K : PySem.W.Frag) : Sp := fun vs H Q _ => ∃ (F : Addr) (rs : List V) (rows : List (List Rat)), vs = [.ref F] ∧ SqL K H F rs ∧ Paired (RowV K H) rs rows ∧ rows ≠ [] ∧ ∀ H', Ex H H' → Q (.int (patR rows)) H'
/-! ### short numbers -/
def short (r : Rat) : Bool := decide (((r.num.natAbs : Nat) : Int) < 100) && decide ((r.den : Int) < 100)
theorem short_sz {r : Rat} (h : short r = true) : Sz 7 7 r := by
  unfold short at h
  rw [Bool.and_eq_true] at h
  have h1 := of_decide_eq_true h.1
  have h2 := of_decide_eq_true h.2
  exact ⟨by omega, by omega⟩
def spShort (K : PySem.W.Frag) : Sp := fun vs H Q _ => ∃ (x : V) (L : List Rat), vs = [x] ∧ RowV K H x L ∧ L.length ≤ 100 ∧ ∀ H', Ex H H' → Q (.bl ((L.map short).all id)) H'
theorem all_short {L : List Rat} (h : (L.map short).all id = true) : SzL 7 7 L := by
  intro r hr
  rw [List.all_map] at h
  have := List.all_eq_true.mp h r hr
  exact short_sz this
theorem pair_drop {α β : Type} {R : α → β → Prop} : ∀ {xs : List α} {ys : List β} {i : Nat}, Paired R xs ys → Paired R (xs.drop i) (ys.drop i)
  | _, _, 0, h => h
  | _, _, i + 1, .nil => .nil
  | _, _, i + 1, .cons a t => pair_drop (i := i) t
def spNought (K : PySem.W.Frag) : Sp := fun vs H Q _ => ∃ (x y : V) (ls : List (List Sum2)) (L : List Rat) (W D : Nat), vs = [x, y] ∧ LayI K H x ls ∧ RowV K H y L ∧ NetOk L.length ls W ∧ SvL 100 D L ∧ 0 < D ∧ W ≤ 2 ^ 203 ∧ D ≤ 2 ^ 203 ∧
  ∀ v L' D' H', Ex H H' → RowV K H' v L' → L'.length = L.length → SvL 100 D' L' → Fits W D' → Q v H'
def spPlain (K : PySem.W.Frag) : Sp := fun vs H Q _ => ∃ (x : V) (L : List Rat), vs = [x] ∧ RowV K H x L ∧ Q (.bl true) H
/-- a spot put so -/
def putAt (L : List Rat) (i : Nat) (r : Rat) : List Rat := L.take i ++ [r] ++ L.drop (i + 1)
theorem len_put {L : List Rat} {i : Nat} {r : Rat} (h : i < L.length) : (putAt L i r).length = L.length := by
  simp [putAt]
  omega
theorem sv_put {n D E : Nat} {L : List Rat} {i : Nat} {r : Rat} (h : SvL n D L) (hr : Sv n E r) (hD : D ∣ E) : SvL n E (putAt L i r) := by
  intro a ha
  rcases List.mem_append.mp ha with ha | ha
  · rcases List.mem_append.mp ha with ha | ha
    · exact (h a (List.mem_of_mem_take ha)).mono (Nat.le_refl _) hD
    · rw [List.mem_singleton.mp ha]
      exact hr
  · exact (h a (List.mem_of_mem_drop ha)).mono (Nat.le_refl _) hD
theorem sz_put {n d : Nat} {L : List Rat} {i : Nat} {r : Rat} (h : SzL n d L) (hr : Sz n d r) : SzL n d (putAt L i r) := by
  intro a ha
  rcases List.mem_append.mp ha with ha | ha
  · rcases List.mem_append.mp ha with ha | ha
    · exact h a (List.mem_of_mem_take ha)
    · rw [List.mem_singleton.mp ha]
      exact hr
  · exact h a (List.mem_of_mem_drop ha)
theorem fits_put {W D E : Nat} (hW : W ≤ 2 ^ 203) (hD : D ≤ 2 ^ 203) (d0 : 0 < D) (e0 : 0 < E) (hE : E ≤ 2 ^ 70) : Fits W (D * E) := by
  refine ⟨Nat.mul_pos d0 e0, ?_⟩
  have h3 : W ^ 4 * (D * E) ≤ (2 ^ 203) ^ 4 * (2 ^ 203 * 2 ^ 70) := Nat.mul_le_mul (Nat.pow_le_pow_left hW 4) (Nat.mul_le_mul hD hE)
  exact Nat.lt_of_le_of_lt h3 (by decide +kernel)
end Nc
end
section
set_option maxRecDepth 100000
set_option maxHeartbeats 4000000
namespace Nc
open PySem PySem.Spec PyProof.Rows L2 Evl
/-! ### sums with one thing otherwise -/
theorem weighs_set : ∀ {l : List (Rat × Rat)} {a : Nat} {p : Rat × Rat} (q : Rat × Rat), l[a]? = some p → weighs (l.set a q) = weighs l - p.1 * p.2 + q.1 * q.2
  | [], a, p, q, h => by simp at h
  | x :: l, 0, p, q, h => by
    simp at h
    subst h
    simp only [List.set_cons_zero, weighs_cons]
    grind
  | x :: l, a + 1, p, q, h => by
    have ih := weighs_set (l := l) (a := a) (p := p) q (by simpa using h)
    simp only [List.set_cons_succ, weighs_cons]
    rw [ih]
    grind
theorem zip_set : ∀ {xs ys : List Rat} {a : Nat} {u v : Rat}, (xs.set a u).zip (ys.set a v) = (xs.zip ys).set a (u, v)
  | [], ys, a, u, v => by simp
  | x :: xs, [], a, u, v => by simp
  | x :: xs, y :: ys, 0, u, v => by simp
  | x :: xs, y :: ys, a + 1, u, v => by
    have ih := zip_set (xs := xs) (ys := ys) (a := a) (u := u) (v := v)
    simp [ih]
theorem get_zip {xs ys : List Rat} {a : Nat} {u v : Rat} (h1 : xs[a]? = some u) (h2 : ys[a]? = some v) : (xs.zip ys)[a]? = some (u, v) := by
  rw [List.getElem?_zip_eq_some]
  exact ⟨h1, h2⟩
theorem put_set {L : List Rat} {i : Nat} {r : Rat} (h : i < L.length) : putAt L i r = L.set i r := by
  unfold putAt
  rw [List.set_eq_take_append_cons_drop, if_pos h, List.append_assoc]
  rfl
/-- a weight divided, what it weighs multiplied: all stays -/
theorem weighs_scaled {w y : List Rat} {j : Nat} {a b c d : Rat} (h1 : w[j]? = some a) (h2 : y[j]? = some b) (hc : d * c = 1) : weighs ((w.set j (d * a)).zip (y.set j (c * b))) = weighs (w.zip y) := by
  rw [zip_set, weighs_set _ (get_zip h1 h2)]
  show weighs (w.zip y) - a * b + d * a * (c * b) = _
  have : d * a * (c * b) = a * b := by
    have e : d * a * (c * b) = (d * c) * (a * b) := by grind
    rw [e, hc]
    grind
  rw [this]
  grind
/-- two places exchanged -/
def swap {α : Type} (l : List α) (i j : Nat) (x y : α) : List α := (l.set i y).set j x
theorem swap_get {α : Type} {l : List α} {i j : Nat} {x y : α} (h1 : l[i]? = some x) (h2 : l[j]? = some y) : (l.set i y)[j]? = some y := by
  by_cases e : i = j
  · subst e
    have hi := (List.getElem?_eq_some_iff.mp h1).1
    rw [List.getElem?_set_self hi]
  · rw [List.getElem?_set_ne e]
    exact h2
theorem weighs_swap {w y : List Rat} {i j : Nat} {a b c d : Rat} (h1 : w[i]? = some a) (h2 : w[j]? = some b) (h3 : y[i]? = some c) (h4 : y[j]? = some d) : weighs ((swap w i j a b).zip (swap y i j c d)) = weighs (w.zip y) := by
  unfold swap
  rw [zip_set, zip_set]
  have e1 := get_zip h1 h3
  have e2 : ((w.zip y).set i (b, d))[j]? = some (b, d) := swap_get e1 (get_zip h2 h4)
  rw [weighs_set _ e2, weighs_set _ e1]
  grind
theorem len_swap {α : Type} {l : List α} {i j : Nat} {x y : α} : (swap l i j x y).length = l.length := by
  simp [swap]
theorem map_swap {α β : Type} {f : α → β} {l : List α} {i j : Nat} {x y : α} : (swap l i j x y).map f = swap (l.map f) i j (f x) (f y) := by
  simp [swap, List.map_set]
/-! ### patterns as sums of bits -/
def bit (r : Rat) : Int := if 0 < r.num then 1 else 0
def pval : List Rat → Int
  | [] => 0
  | x :: xs => bit x + 2 * pval xs
theorem pfold_val : ∀ (F : List Rat) (p w : Int), (F.foldl pstep (p, w)).1 = p + w * pval F
  | [], p, w => by simp [pval]
  | x :: xs, p, w => by
    show ((xs.foldl pstep (pstep (p, w) x))).1 = _
    have e : pstep (p, w) x = (p + w * bit x, 2 * w) := by
      unfold pstep bit
      by_cases h : 0 < x.num
      · simp [h]
      · simp [h]
    rw [e, pfold_val xs]
    show p + w * bit x + 2 * w * pval xs = p + w * (bit x + 2 * pval xs)
    rw [Int.mul_add, Int.mul_comm 2 w, Int.mul_assoc, Int.add_assoc]
theorem patR_val (rows : List (List Rat)) : patR rows = pval rows.dropLast.flatten := by
  unfold patR pfold
  rw [pfold_val]
  omega
theorem pval_set : ∀ {F : List Rat} {k : Nat} {x : Rat} (q : Rat), F[k]? = some x → pval (F.set k q) = pval F + (bit q - bit x) * 2 ^ k
  | [], k, x, q, h => by simp at h
  | y :: F, 0, x, q, h => by
    simp at h
    subst h
    simp only [List.set_cons_zero, pval, Int.pow_zero]
    omega
  | y :: F, k + 1, x, q, h => by
    have ih := pval_set (F := F) (k := k) (x := x) q (by simpa using h)
    simp only [List.set_cons_succ, pval]
    rw [ih, Int.pow_succ]
    grind
theorem bit01 (r : Rat) : bit r = 0 ∨ bit r = 1 := by
  unfold bit
  split
  · exact .inr rfl
  · exact .inl rfl
theorem pval_nn : ∀ F : List Rat, 0 ≤ pval F
  | [] => Int.le_refl 0
  | x :: xs => by
    have := pval_nn xs
    have := bit01 x
    show 0 ≤ bit x + 2 * pval xs
    omega
theorem pval_bit : ∀ {F : List Rat} {k : Nat} {x : Rat}, F[k]? = some x → (pval F / 2 ^ k) % 2 = bit x
  | [], k, x, h => by simp at h
  | y :: F, 0, x, h => by
    simp at h
    subst h
    have := bit01 y
    simp only [pval, Int.pow_zero, Int.ediv_one]
    omega
  | y :: F, k + 1, x, h => by
    have ih := pval_bit (F := F) (k := k) (x := x) (by simpa using h)
    have e : (bit y + 2 * pval F) / 2 ^ (k + 1) = pval F / 2 ^ k := by
      have := bit01 y
      have e2 : (bit y + 2 * pval F) / 2 = pval F := by omega
      have p2 : (2 : Int) ^ (k + 1) = 2 * 2 ^ k := by rw [Int.pow_succ, Int.mul_comm]
      rw [p2, ← Int.ediv_ediv_of_nonneg (by decide : (0 : Int) ≤ 2), e2]
    show (bit y + 2 * pval F) / 2 ^ (k + 1) % 2 = bit x
    rw [e]
    exact ih
theorem pval_swap {F : List Rat} {i j : Nat} {x y : Rat} (h1 : F[i]? = some x) (h2 : F[j]? = some y) : pval (swap F i j x y) = pval F + (bit y - bit x) * 2 ^ i + (bit x - bit y) * 2 ^ j := by
  unfold swap
  rw [pval_set _ (swap_get h1 h2), pval_set _ h1]
/-! ### rows of layers put behind one another -/
def endRow : List (List Sum2) → List Rat → List Rat
  | [], x => x
  | l :: ls, x => endRow ls ((l.map fun z => tells z x).map cutQ)
theorem rowsAt_append : ∀ (A B : List (List Sum2)) (x : List Rat), rowsAt (A ++ B) x = rowsAt A x ++ rowsAt B (endRow A x)
  | [], B, x => rfl
  | l :: A, B, x => by
    show _ :: rowsAt (A ++ B) _ = _
    rw [rowsAt_append A B]
    rfl
theorem endRow_len : ∀ {n : Nat} {A : List (List Sum2)} {x : List Rat}, x.length = n → (endRow A x).length = lastN n A
  | n, [], x, h => h
  | n, l :: A, x, h => endRow_len (n := l.length) (A := A) (by simp)
theorem over_append : ∀ {n : Nat} {A B : List (List Sum2)}, Over n (A ++ B) ↔ (Over n A ∧ Over (lastN n A) B)
  | n, [], B => by simp [Over, lastN]
  | n, l :: A, B => by
    show _ ∧ _ ∧ Over l.length (A ++ B) ↔ _
    rw [over_append (n := l.length) (A := A)]
    constructor
    · rintro ⟨h1, h2, h3, h4⟩
      exact ⟨⟨h1, h2, h3⟩, h4⟩
    · rintro ⟨⟨h1, h2, h3⟩, h4⟩
      exact ⟨h1, h2, h3, h4⟩
theorem flat_len : ∀ {n : Nat} {A : List (List Sum2)} {x : List Rat}, (rowsAt A x).flatten.length = (A.map List.length).sum
  | n, [], x => rfl
  | n, l :: A, x => by
    show (_ ++ (rowsAt A _).flatten).length = _
    rw [List.length_append, flat_len (n := n) (A := A), List.map_cons, List.sum_cons, List.length_map]
theorem num_negR {q : Rat} : q.num < 0 ↔ q < 0 := by
  rw [← Rat.not_le, ← Rat.num_nonneg]
  omega
theorem num_posR {q : Rat} : 0 < q.num ↔ 0 < q := by
  rw [Rat.lt_iff]
  simp
theorem cut_scaled {c r : Rat} (hc : 0 < c.num) : cutQ (c * r) = c * cutQ r := by
  have hc' : 0 < c := num_posR.mp hc
  unfold cutQ
  by_cases h : r.num < 0
  · have hr : r < 0 := num_negR.mp h
    have : c * r < 0 := by
      have := Rat.mul_lt_mul_of_pos_left hr hc'
      rwa [Rat.mul_zero] at this
    rw [if_pos h, if_pos (num_negR.mpr this), Rat.mul_zero]
  · have hr : ¬ r < 0 := fun z => h (num_negR.mpr z)
    have hr0 : 0 ≤ r := Rat.not_lt.mp hr
    have : 0 ≤ c * r := Rat.mul_nonneg (Rat.le_of_lt hc') hr0
    rw [if_neg h, if_neg (fun z => Rat.not_lt.mpr this (num_negR.mp z))]
theorem bit_scaled {c r : Rat} (hc : 0 < c.num) : bit (c * r) = bit r := by
  have hc' : 0 < c := num_posR.mp hc
  unfold bit
  by_cases h : 0 < r.num
  · have hr : 0 < r := num_posR.mp h
    rw [if_pos h, if_pos (num_posR.mpr (Rat.mul_pos hc' hr))]
  · have hr : ¬ 0 < r := fun z => h (num_posR.mpr z)
    have hr0 : r ≤ 0 := Rat.not_lt.mp hr
    have : c * r ≤ 0 := by
      have := Rat.mul_le_mul_of_nonneg_left hr0 (Rat.le_of_lt hc')
      rwa [Rat.mul_zero] at this
    rw [if_neg h, if_neg (fun z => Rat.not_lt.mpr this (num_posR.mp z))]
end Nc
end
section
set_option maxRecDepth 100000
set_option maxHeartbeats 4000000
namespace Nc
open PySem PySem.Spec PyProof.Rows L2 Evl
/-! ### a net with two layers otherwise -/
theorem set2 {α : Type} : ∀ {ls : List α} {i : Nat} {l l2 : α} (u v : α), ls[i]? = some l → ls[i + 1]? = some l2 → ls = ls.take i ++ l :: l2 :: ls.drop (i + 2) ∧ (ls.set i u).set (i + 1) v = ls.take i ++ u :: v :: ls.drop (i + 2)
  | [], i, l, l2, u, v, h, _ => by simp at h
  | [a], 0, l, l2, u, v, _, h => by simp at h
  | a :: b :: ls, 0, l, l2, u, v, h1, h2 => by
    simp at h1 h2
    subst h1 h2
    exact ⟨rfl, rfl⟩
  | a :: ls, i + 1, l, l2, u, v, h1, h2 => by
    obtain ⟨e1, e2⟩ := set2 (ls := ls) (i := i) (l := l) (l2 := l2) u v (by simpa using h1) (by simpa using h2)
    constructor
    · show a :: ls = a :: (ls.take i ++ l :: l2 :: ls.drop (i + 2))
      rw [← e1]
    · show a :: ((ls.set i u).set (i + 1) v) = a :: (ls.take i ++ u :: v :: ls.drop (i + 2))
      rw [e2]
/-- as the law tells a pattern with two bits exchanged -/
def lawbits (P : Int) (A B : Nat) : Int := P + ((P / 2 ^ B) % 2 - (P / 2 ^ A) % 2) * 2 ^ A + ((P / 2 ^ A) % 2 - (P / 2 ^ B) % 2) * 2 ^ B
structure Sw (n : Nat) (ls ls' : List (List Sum2)) (i a b h : Nat) (g : Rat → Rat) : Prop where
  len : ls'.length = ls.length
  row : ∀ L : List Rat, L.length = n → ∃ r r' x, (rowsAt ls L)[i]? = some r ∧ (rowsAt ls' L)[i]? = some r' ∧ r[a]? = some x ∧ r'[b]? = some (g x)
  last : ∀ L : List Rat, L.length = n → (rowsAt ls' L)[ls'.length - 1]? = (rowsAt ls L)[ls.length - 1]?
  pat : ∀ L : List Rat, L.length = n → patR (rowsAt ls' L) = lawbits (patR (rowsAt ls L)) (h + a) (h + b)
theorem at_mid {α : Type} {P T : List α} {r : α} {i : Nat} (h : P.length = i) : (P ++ r :: T)[i]? = some r := by
  subst h
  simp
theorem last_app {α : Type} {P T : List α} {r r' : α} (hT : T ≠ []) {m m' : Nat} (hm : m = (P ++ r :: T).length) (hm' : m' = (P ++ r' :: T).length) : (P ++ r' :: T)[m' - 1]? = (P ++ r :: T)[m - 1]? := by
  have hp : 0 < T.length := List.length_pos_iff.mpr hT
  have e1 : (P ++ r' :: T)[m' - 1]? = T[T.length - 1]? := by
    rw [hm', List.getElem?_append_right (by simp <;> omega)]
    simp only [List.length_append, List.length_cons]
    rw [show P.length + (T.length + 1) - 1 - P.length = (T.length - 1) + 1 by omega]
    simp
  have e2 : (P ++ r :: T)[m - 1]? = T[T.length - 1]? := by
    rw [hm, List.getElem?_append_right (by simp <;> omega)]
    simp only [List.length_append, List.length_cons]
    rw [show P.length + (T.length + 1) - 1 - P.length = (T.length - 1) + 1 by omega]
    simp
  rw [e1, e2]
theorem flat_app {P T : List (List Rat)} {r : List Rat} (hT : T ≠ []) : (P ++ r :: T).dropLast.flatten = P.flatten ++ (r ++ T.dropLast.flatten) := by
  have : (P ++ r :: T).dropLast = P ++ r :: T.dropLast := by
    rw [List.dropLast_append_of_ne_nil (by simp)]
    cases T with
    | nil => exact absurd rfl hT
    | cons a t => rfl
  rw [this]
  simp
theorem set_app {P Y X : List Rat} {k : Nat} {q : Rat} (hk : k < Y.length) : P ++ (Y.set k q ++ X) = (P ++ (Y ++ X)).set (P.length + k) q := by
  rw [List.set_append_right _ _ (by omega), show P.length + k - P.length = k by omega, List.set_append_left _ _ hk]
theorem get_app {P Y X : List Rat} {k : Nat} {q : Rat} (hk : Y[k]? = some q) : (P ++ (Y ++ X))[P.length + k]? = some q := by
  have h := (List.getElem?_eq_some_iff.mp hk).1
  rw [List.getElem?_append_right (by omega), show P.length + k - P.length = k by omega, List.getElem?_append_left h]
  exact hk
section
variable {n i : Nat} {ls : List (List Sum2)} {l l2 l' l2' : List Sum2}
/-- what is shared: the rows of both -/
theorem rows_two (hl : ls[i]? = some l) (hl2 : ls[i + 1]? = some l2) (L : List Rat)
    (h2 : (l2'.map fun z => tells z ((l'.map fun z => tells z (endRow (ls.take i) L)).map cutQ)) = (l2.map fun z => tells z ((l.map fun z => tells z (endRow (ls.take i) L)).map cutQ))) :
    ∃ P T, T ≠ [] ∧ P.length = i ∧ P.flatten.length = ((ls.take i).map List.length).sum ∧ rowsAt ls L = P ++ (l.map fun z => tells z (endRow (ls.take i) L)) :: T ∧ rowsAt ((ls.set i l').set (i + 1) l2') L = P ++ (l'.map fun z => tells z (endRow (ls.take i) L)) :: T := by
  obtain ⟨e1, e2⟩ := set2 l' l2' hl hl2
  have hi := (List.getElem?_eq_some_iff.mp hl).1
  refine ⟨rowsAt (ls.take i) L, rowsAt (l2 :: ls.drop (i + 2)) ((l.map fun z => tells z (endRow (ls.take i) L)).map cutQ), by simp [rowsAt], by rw [rowsAt_length, List.length_take]; omega, flat_len (n := 0), ?_, ?_⟩
  · conv => lhs; rw [e1]
    rw [rowsAt_append]
    rfl
  · rw [e2, rowsAt_append]
    show _ ++ _ :: (l2'.map fun z => tells z _) :: rowsAt _ ((l2'.map fun z => tells z _).map cutQ) = _
    rw [h2]
    rfl
end
def scZ (j : Nat) (d : Rat) (z : Sum2) : Sum2 := (z.1.set j (d * z.1.getD j 0), z.2)
def exZ (a b : Nat) (z : Sum2) : Sum2 := (swap z.1 a b (z.1.getD a 0) (z.1.getD b 0), z.2)
theorem getD_some {l : List Rat} {j : Nat} (h : j < l.length) : l[j]? = some (l.getD j 0) := by
  rw [List.getElem?_eq_getElem h]
  simp [List.getD, List.getElem?_eq_getElem h]
theorem sw_scaled {n i j : Nat} {ls : List (List Sum2)} {l l2 : List Sum2} {z : Sum2} {c d : Rat} (ov : Over n ls) (hl : ls[i]? = some l) (hl2 : ls[i + 1]? = some l2) (hz : l[j]? = some z) (hc : 0 < c.num) (hd : d * c = 1) :
    Sw n ls ((ls.set i (l.set j (stimes c z))).set (i + 1) (l2.map (scZ j d))) i j j ((ls.take i).map List.length).sum (c * ·) := by
  have hi2 := (List.getElem?_eq_some_iff.mp hl2).1
  have hj := (List.getElem?_eq_some_iff.mp hz).1
  have hr : ∀ x : List Rat, ((l.set j (stimes c z)).map fun z => tells z x) = (l.map fun z => tells z x).set j (c * tells z x) := by
    intro x
    rw [List.map_set, tells_stimes]
  have w2 : ∀ y ∈ l2, y.1.length = l.length := by
    have o := over_append.mp (by rw [← (set2 l l2 hl hl2).1]; exact ov)
    exact o.2.2.2.1
  have step : ∀ L : List Rat, ((l2.map (scZ j d)).map fun u => tells u (((l.set j (stimes c z)).map fun z => tells z (endRow (ls.take i) L)).map cutQ)) = (l2.map fun z => tells z ((l.map fun z => tells z (endRow (ls.take i) L)).map cutQ)) := by
    intro L
    rw [List.map_map]
    refine List.map_congr_left fun y hy => ?_
    have hyl := w2 y hy
    show tells (scZ j d y) (List.map cutQ (List.map (fun z => tells z (endRow (ls.take i) L)) (l.set j (stimes c z)))) = tells y (List.map cutQ (List.map (fun z => tells z (endRow (ls.take i) L)) l))
    rw [hr, List.map_set, cut_scaled hc]
    have hr1 : (((l.map fun z => tells z (endRow (ls.take i) L)).map cutQ))[j]? = some (cutQ (tells z (endRow (ls.take i) L))) := by
      simp [hz]
    show weighs ((y.1.set j (d * y.1.getD j 0)).zip _) + y.2 = weighs (y.1.zip _) + y.2
    rw [weighs_scaled (getD_some (by omega)) hr1 hd]
  refine ⟨by simp, fun L hL => ?_, fun L hL => ?_, fun L hL => ?_⟩
  · obtain ⟨P, T, hT, hP, hPf, e1, e2⟩ := rows_two hl hl2 L (step L)
    refine ⟨_, _, tells z (endRow (ls.take i) L), by rw [e1]; exact at_mid hP, by rw [e2]; exact at_mid hP, by simp [hz], ?_⟩
    rw [hr, List.getElem?_set_self (by simpa using hj)]
  · obtain ⟨P, T, hT, hP, hPf, e1, e2⟩ := rows_two hl hl2 L (step L)
    rw [e1, e2]
    exact last_app hT (by rw [← e1, rowsAt_length]) (by rw [← e2, rowsAt_length])
  · obtain ⟨P, T, hT, hP, hPf, e1, e2⟩ := rows_two hl hl2 L (step L)
    rw [patR_val, patR_val, e1, e2, flat_app hT, flat_app hT, hr, set_app (by simpa using hj), ← hPf]
    have hg : (P.flatten ++ ((l.map fun z => tells z (endRow (ls.take i) L)) ++ T.dropLast.flatten))[P.flatten.length + j]? = some (tells z (endRow (ls.take i) L)) := get_app (by simp [hz])
    rw [pval_set _ hg, bit_scaled hc]
    unfold lawbits
    simp only [Int.sub_self, Int.zero_mul, Int.add_zero]
theorem sw_swap {n i a b : Nat} {ls : List (List Sum2)} {l l2 : List Sum2} {y z : Sum2} (ov : Over n ls) (hl : ls[i]? = some l) (hl2 : ls[i + 1]? = some l2) (hy : l[a]? = some y) (hz : l[b]? = some z) :
    Sw n ls ((ls.set i (swap l a b y z)).set (i + 1) (l2.map (exZ a b))) i a b ((ls.take i).map List.length).sum id := by
  have hi2 := (List.getElem?_eq_some_iff.mp hl2).1
  have ha := (List.getElem?_eq_some_iff.mp hy).1
  have hb := (List.getElem?_eq_some_iff.mp hz).1
  have hr : ∀ x : List Rat, ((swap l a b y z).map fun z => tells z x) = swap (l.map fun z => tells z x) a b (tells y x) (tells z x) := fun x => map_swap
  have w2 : ∀ y ∈ l2, y.1.length = l.length := by
    have o := over_append.mp (by rw [← (set2 l l2 hl hl2).1]; exact ov)
    exact o.2.2.2.1
  have step : ∀ L : List Rat, ((l2.map (exZ a b)).map fun u => tells u (((swap l a b y z).map fun z => tells z (endRow (ls.take i) L)).map cutQ)) = (l2.map fun z => tells z ((l.map fun z => tells z (endRow (ls.take i) L)).map cutQ)) := by
    intro L
    rw [List.map_map]
    refine List.map_congr_left fun w hw => ?_
    have hwl := w2 w hw
    show tells (exZ a b w) (List.map cutQ (List.map (fun z => tells z (endRow (ls.take i) L)) (swap l a b y z))) = tells w (List.map cutQ (List.map (fun z => tells z (endRow (ls.take i) L)) l))
    rw [hr, map_swap]
    show weighs ((swap w.1 a b _ _).zip _) + w.2 = weighs (w.1.zip _) + w.2
    rw [weighs_swap (getD_some (by omega)) (getD_some (by omega)) (by simp [hy]) (by simp [hz])]
  refine ⟨by simp, fun L hL => ?_, fun L hL => ?_, fun L hL => ?_⟩
  · obtain ⟨P, T, hT, hP, hPf, e1, e2⟩ := rows_two hl hl2 L (step L)
    refine ⟨_, _, tells y (endRow (ls.take i) L), by rw [e1]; exact at_mid hP, by rw [e2]; exact at_mid hP, by simp [hy], ?_⟩
    rw [hr]
    unfold swap
    rw [List.getElem?_set_self (by simpa using hb)]
    rfl
  · obtain ⟨P, T, hT, hP, hPf, e1, e2⟩ := rows_two hl hl2 L (step L)
    rw [e1, e2]
    exact last_app hT (by rw [← e1, rowsAt_length]) (by rw [← e2, rowsAt_length])
  · obtain ⟨P, T, hT, hP, hPf, e1, e2⟩ := rows_two hl hl2 L (step L)
    have hga : (P.flatten ++ ((l.map fun z => tells z (endRow (ls.take i) L)) ++ T.dropLast.flatten))[P.flatten.length + a]? = some (tells y (endRow (ls.take i) L)) := get_app (by simp [hy])
    have hgb : (P.flatten ++ ((l.map fun z => tells z (endRow (ls.take i) L)) ++ T.dropLast.flatten))[P.flatten.length + b]? = some (tells z (endRow (ls.take i) L)) := get_app (by simp [hz])
    have hsw : P.flatten ++ (swap (l.map fun z => tells z (endRow (ls.take i) L)) a b (tells y (endRow (ls.take i) L)) (tells z (endRow (ls.take i) L)) ++ T.dropLast.flatten) = swap (P.flatten ++ ((l.map fun z => tells z (endRow (ls.take i) L)) ++ T.dropLast.flatten)) (P.flatten.length + a) (P.flatten.length + b) (tells y (endRow (ls.take i) L)) (tells z (endRow (ls.take i) L)) := by
      unfold swap
      rw [set_app (by simpa using hb), set_app (by simpa using ha)]
    rw [patR_val, patR_val, e1, e2, flat_app hT, flat_app hT, hr, hsw, ← hPf, pval_swap hga hgb]
    unfold lawbits
    rw [pval_bit hga, pval_bit hgb]
end Nc
end
section
set_option maxRecDepth 100000
set_option maxHeartbeats 4000000
namespace Nc
open PySem PySem.Spec PyProof.Rows L2 Evl
section
variable {s p : Addr} {H H' : Hp}
theorem Stm.lst (h : Stm s H) : Lst s H := by
  obtain ⟨a, b, c, e⟩ := h
  exact ⟨_, e⟩
theorem Stm.ex (h : Stm s H) (e : Ex H H') : Stm s H' := by
  obtain ⟨a, b, c, q⟩ := h
  exact ⟨a, b, c, e _ _ q⟩
theorem Stm.mut {o : HO} (h : Stm s H) (hs : s ≠ p) : Stm s (upd H p o) := by
  obtain ⟨a, b, c, q⟩ := h
  exact ⟨a, b, c, by rw [upd_ne hs]; exact q⟩
end
def spTake3 : Sp := fun vs H Q _ => ∃ (s : Addr) (m : Int), vs = [.ref s, .int m] ∧ Stm s H ∧ 0 < m ∧ m < 2 ^ 200 ∧ ∀ d H', 0 ≤ d → d < m → Dk s H H' → Stm s H' → Q (.int d) H'
def spStream3 : Sp := fun vs H Q _ => ∃ c : Int, vs = [.int c] ∧ ∀ s, H s = none → ∀ H', Ex H H' → Stm s H' → Q (.ref s) H'
def spNumS (K : PySem.W.Frag) : Sp := fun vs H Q _ => ∃ s : Addr, vs = [.ref s] ∧ Stm s H ∧ ∀ v r H', Dk s H H' → Stm s H' → FrV K H' v r → Sv 3 6 r → Q v H'
def spNodeS (K : PySem.W.Frag) : Sp := fun vs H Q _ => ∃ (s : Addr) (n : Nat), vs = [.ref s, .int (n : Int)] ∧ Stm s H ∧ n ≤ 20 ∧ ∀ v z H', Dk s H H' → Stm s H' → SumV K H' v z → z.1.length = n → SvL 3 6 z.1 → Sv 3 6 z.2 → Q v H'
def spSpotS (K : PySem.W.Frag) : Sp := fun vs H Q _ => ∃ (s : Addr) (n : Nat), vs = [.ref s, .int (n : Int)] ∧ Stm s H ∧ n ≤ 20 ∧ ∀ v L H', Dk s H H' → Stm s H' → RowV K H' v L → L.length = n → SvL 3 6 L → Q v H'
def spLaysS (K : PySem.W.Frag) : Sp := fun vs H Q _ => ∃ (s : Addr) (n : Nat), vs = [.ref s, .int (n : Int)] ∧ Stm s H ∧ 1 ≤ n ∧ n ≤ 3 ∧ ∀ D ls H', H D = none → Dk s H H' → Stm s H' → LayS K s H' D ls → Over n ls → 2 ≤ ls.length → ls.length ≤ 4 → Num 3 6 ls → Q (.ref D) H'
/-! ### layers of new lists, place by place -/
structure LayP (K : PySem.W.Frag) (H H' : Hp) (G : Addr) (ys : List V) (ls : List (List Sum2)) : Prop where
  new : H G = none
  at_ : H' G = some (.lst ys)
  len : ys.length = ls.length
  each : ∀ (k : Nat) (v : V) (l : List Sum2), ys[k]? = some v → ls[k]? = some l → ∃ a xs, v = .ref a ∧ H a = none ∧ a ≠ G ∧ H' a = some (.lst xs) ∧ Paired (SumV K H') xs l
  inj : ∀ (k k' : Nat) (v : V), ys[k]? = some v → ys[k']? = some v → k = k'
theorem pair_of_get {α β : Type} {R : α → β → Prop} : ∀ {xs : List α} {ys : List β}, xs.length = ys.length → (∀ (k : Nat) x y, xs[k]? = some x → ys[k]? = some y → R x y) → Paired R xs ys
  | [], [], _, _ => .nil
  | x :: xs, y :: ys, h, f => .cons (f 0 x y rfl rfl) (pair_of_get (by simpa using h) fun k a b h1 h2 => f (k + 1) a b (by simpa using h1) (by simpa using h2))
section
variable {K : PySem.W.Frag} {H H' H2 : Hp} {G s : Addr} {ys : List V} {ls : List (List Sum2)}
theorem LayP.ex (h : LayP K H H' G ys ls) (e : Ex H' H2) : LayP K H H2 G ys ls :=
  ⟨h.new, e _ _ h.at_, h.len, fun k v l h1 h2 => by
    obtain ⟨a, xs, rfl, n, ng, q, p⟩ := h.each k v l h1 h2
    exact ⟨a, xs, rfl, n, ng, e _ _ q, pmono (fun _ _ => SumV.ex e) p⟩, h.inj⟩
theorem LayP.toS (h : LayP K H H' G ys ls) (hs : Lst s H) : LayS K s H' G ls :=
  ⟨Ne.symm (hs.ne h.new), ys, h.at_, pair_of_get h.len fun k v l h1 h2 => by
    obtain ⟨a, xs, rfl, n, ng, q, p⟩ := h.each k v l h1 h2
    exact ⟨a, xs, rfl, Ne.symm (hs.ne n), q, p⟩⟩
/-- an inner list changes -/
theorem LayP.inner {i : Nat} {a : Addr} {xs xs' : List V} {l' : List Sum2} (h : LayP K H H' G ys ls) (hi : ys[i]? = some (.ref a)) (hn : H a = none) (hG : a ≠ G) (ha : H' a = some (.lst xs)) (p : Paired (SumV K (upd H' a (.lst xs'))) xs' l') :
    LayP K H (upd H' a (.lst xs')) G ys (ls.set i l') :=
  ⟨h.new, by rw [upd_ne (Ne.symm hG)]; exact h.at_, by rw [List.length_set]; exact h.len, fun k v l h1 h2 => by
    by_cases e : k = i
    · subst e
      rw [hi] at h1
      cases h1
      have hlt := (List.getElem?_eq_some_iff.mp hi).1
      rw [h.len] at hlt
      rw [List.getElem?_set_self hlt] at h2
      cases h2
      exact ⟨a, xs', rfl, hn, hG, upd_same, p⟩
    · rw [List.getElem?_set_ne (Ne.symm e)] at h2
      obtain ⟨b, us, rfl, n, ng, q, pu⟩ := h.each k v l h1 h2
      have hba : b ≠ a := fun z => by
        subst z
        exact e (h.inj k i _ h1 hi)
      exact ⟨b, us, rfl, n, ng, by rw [upd_ne hba]; exact q, pmono (fun _ _ => SumV.mut ha) pu⟩, h.inj⟩
/-- an inner list is another one, a new one -/
theorem LayP.outer {i : Nat} {b : Addr} {xs : List V} {l' : List Sum2} (h : LayP K H H' G ys ls) (hi : i < ls.length) (hn : H b = none) (hG : b ≠ G) (hb : H' b = some (.lst xs)) (hnew : ∀ k : Nat, ys[k]? ≠ some (.ref b)) (p : Paired (SumV K H') xs l') :
    LayP K H (upd H' G (.lst (ys.set i (.ref b)))) G (ys.set i (.ref b)) (ls.set i l') :=
  ⟨h.new, upd_same, by rw [List.length_set, List.length_set]; exact h.len, fun k v l h1 h2 => by
    by_cases e : k = i
    · subst e
      rw [List.getElem?_set_self (by rw [h.len]; exact hi)] at h1
      cases h1
      rw [List.getElem?_set_self hi] at h2
      cases h2
      exact ⟨b, xs, rfl, hn, hG, by rw [upd_ne hG]; exact hb, pmono (fun _ _ => SumV.mut h.at_) p⟩
    · rw [List.getElem?_set_ne (Ne.symm e)] at h1 h2
      obtain ⟨a, us, rfl, n, ng, q, pu⟩ := h.each k v l h1 h2
      exact ⟨a, us, rfl, n, ng, by rw [upd_ne ng]; exact q, pmono (fun _ _ => SumV.mut h.at_) pu⟩, fun k k' v h1 h2 => by
    by_cases e : k = i <;> by_cases e' : k' = i
    · omega
    · exfalso
      subst e
      rw [List.getElem?_set_self (by rw [h.len]; exact hi)] at h1
      cases h1
      rw [List.getElem?_set_ne (Ne.symm e')] at h2
      exact hnew k' h2
    · exfalso
      subst e'
      rw [List.getElem?_set_self (by rw [h.len]; exact hi)] at h2
      cases h2
      rw [List.getElem?_set_ne (Ne.symm e)] at h1
      exact hnew k h1
    · rw [List.getElem?_set_ne (Ne.symm e)] at h1
      rw [List.getElem?_set_ne (Ne.symm e')] at h2
      exact h.inj k k' v h1 h2⟩
end
def spOrder : Sp := fun vs H Q _ => ∃ (m a b : Nat), vs = [.int (m : Int), .int (a : Int), .int (b : Int)] ∧ a < m ∧ b < m ∧ m ≤ 100 ∧ ∀ F H', Ex H H' → H' F = some (.lst ((List.range m).map fun k => V.int ((if k = b then a else if k = a then b else k : Nat) : Int))) → Q (.ref F) H'
/-- the one divided by a fraction -/
def binv (q : Rat) : Rat := Rat.divInt (q.den : Int) q.num
theorem binv_num {q : Rat} (h : 0 < q.num) : (binv q).num = (q.den : Int) ∧ ((binv q).den : Int) = q.num ∧ binv q * q = 1 := by
  have g : Nat.gcd ((q.den : Int)).natAbs q.num.natAbs = 1 := by
    rw [Int.natAbs_natCast, Nat.gcd_comm]
    exact q.reduced
  refine ⟨?_, ?_, ?_⟩
  · have := num_div (t := (q.den : Int)) h
    rw [g] at this
    unfold binv
    rw [← this]
    exact (Int.ediv_one _)
  · have := den_div (t := (q.den : Int)) h
    rw [g] at this
    unfold binv
    rw [← this]
    exact (Int.ediv_one _)
  · have e : binv q * q = Rat.divInt (q.den : Int) q.num * Rat.divInt q.num (q.den : Int) := by
      rw [Rat.num_divInt_den]
      rfl
    rw [e, Rat.divInt_mul_divInt]
    have hd := den_pos q
    rw [Int.mul_comm (q.den : Int) q.num]
    have : (q.num * (q.den : Int)) ≠ 0 := Int.mul_ne_zero (by omega) (by omega)
    have h1 : (1 : Rat) = Rat.divInt 1 1 := by decide
    rw [h1, Rat.divInt_eq_divInt_iff this (by decide), Int.mul_one, Int.one_mul]
end Nc
end
section
set_option maxRecDepth 100000
set_option maxHeartbeats 4000000
namespace Nc
open PySem PySem.Spec PyProof.Rows L2 Evl
theorem and1 {x : Int} (h : 0 ≤ x) : PySem.Builtin.bitAnd x 1 = x % 2 := by
  unfold PySem.Builtin.bitAnd
  rw [decide_eq_true h, decide_eq_true (by decide : (0 : Int) ≤ 1)]
  show ((x.toNat &&& 1 : Nat) : Int) = x % 2
  rw [Nat.and_one_is_mod]
  omega
theorem sum_cast : ∀ l : List (List Sum2), (l.map fun x => ((x.length : Nat) : Int)).sum = (((l.map List.length).sum : Nat) : Int)
  | [] => rfl
  | a :: l => by
    rw [List.map_cons, List.map_cons, List.sum_cons, List.sum_cons, sum_cast l]
    omega
theorem pair_set {α β : Type} {R : α → β → Prop} : ∀ {xs : List α} {ys : List β} {j : Nat} {x : α} {y : β}, Paired R xs ys → R x y → Paired R (xs.set j x) (ys.set j y)
  | _, _, _, _, _, .nil, _ => .nil
  | _, _, 0, _, _, .cons a t, h => .cons h t
  | _, _, j + 1, _, _, .cons a t, h => .cons a (pair_set (j := j) t h)
theorem LayP.nil {K : PySem.W.Frag} {H : Hp} {G : Addr} (h : H G = none) : LayP K H (upd H G (.lst [])) G [] [] :=
  ⟨h, upd_same, rfl, fun k v l h1 _ => by simp at h1, fun k k' v h1 _ => by simp at h1⟩
theorem LayP.no {K : PySem.W.Frag} {H H' : Hp} {G c : Addr} {ys : List V} {ls : List (List Sum2)} (h : LayP K H H' G ys ls) (hc : H' c = none) (k : Nat) : ys[k]? ≠ some (.ref c) := fun hk => by
  have hlt := (List.getElem?_eq_some_iff.mp hk).1
  have hlt2 : k < ls.length := by rw [← h.len]; exact hlt
  obtain ⟨a, xs, e, n, ng, q, p⟩ := h.each k _ _ hk (List.getElem?_eq_getElem hlt2)
  cases e
  rw [hc] at q
  cases q
theorem LayP.snoc {K : PySem.W.Frag} {H H' : Hp} {G c : Addr} {ys us : List V} {ls : List (List Sum2)} {l : List Sum2} (h : LayP K H H' G ys ls) (e : Ex H H') (hc : H' c = none) (p : Paired (SumV K H') us l) :
    LayP K H (upd (upd H' c (.lst us)) G (.lst (ys ++ [.ref c]))) G (ys ++ [.ref c]) (ls ++ [l]) := by
  have e2 : Ex H' (upd H' c (.lst us)) := Ex.new hc
  have h2 := h.ex e2
  have k2 : upd H' c (.lst us) c = some (.lst us) := upd_same
  have no := h.no hc
  have hcG : c ≠ G := fun z => by
    rw [z, h.at_] at hc
    cases hc
  have p2 : Paired (SumV K (upd H' c (.lst us))) us l := pmono (fun _ _ => SumV.ex e2) p
  generalize upd H' c (.lst us) = H2 at e2 h2 k2 p2 ⊢
  refine ⟨h.new, upd_same, by simp [h.len], fun k v l' h1 h3 => ?_, fun k k' v h1 h3 => ?_⟩
  · by_cases hk : k < ys.length
    · rw [List.getElem?_append_left hk] at h1
      rw [List.getElem?_append_left (by rw [← h.len]; exact hk)] at h3
      obtain ⟨a, xs, rfl, n, ng, q, pu⟩ := h2.each k v l' h1 h3
      exact ⟨a, xs, rfl, n, ng, by rw [upd_ne ng]; exact q, pmono (fun _ _ => SumV.mut h2.at_) pu⟩
    · have hk2 := (List.getElem?_eq_some_iff.mp h1).1
      simp at hk2
      have ek : k = ys.length := by omega
      subst ek
      simp at h1
      rw [h.len] at h3
      simp at h3
      subst h1 h3
      exact ⟨c, us, rfl, ex_none e hc, hcG, by rw [upd_ne hcG]; exact k2, pmono (fun _ _ => SumV.mut h2.at_) p2⟩
  · by_cases hk : k < ys.length <;> by_cases hk' : k' < ys.length
    · rw [List.getElem?_append_left hk] at h1
      rw [List.getElem?_append_left hk'] at h3
      exact h.inj k k' v h1 h3
    · exfalso
      rw [List.getElem?_append_left hk] at h1
      have z := (List.getElem?_eq_some_iff.mp h3).1
      simp at z
      have ek : k' = ys.length := by omega
      subst ek
      simp at h3
      subst h3
      exact no k h1
    · exfalso
      rw [List.getElem?_append_left hk'] at h3
      have z := (List.getElem?_eq_some_iff.mp h1).1
      simp at z
      have ek : k = ys.length := by omega
      subst ek
      simp at h1
      subst h1
      exact no k' h3
    · have z1 := (List.getElem?_eq_some_iff.mp h1).1
      have z2 := (List.getElem?_eq_some_iff.mp h3).1
      simp at z1 z2
      omega
theorem ixN_at {n i : Nat} (h : i < n) : ixN n (i : Int) = some i := by
  unfold ixN
  rw [if_pos (by omega), if_pos (by omega), Int.toNat_natCast]
theorem swap_ord {α : Type} {l : List α} {a b k : Nat} {x y : α} (h1 : l[a]? = some x) (h2 : l[b]? = some y) (hk : k < l.length) : (swap l a b x y)[k]? = l[if k = b then a else if k = a then b else k]? := by
  have ha := (List.getElem?_eq_some_iff.mp h1).1
  have hb := (List.getElem?_eq_some_iff.mp h2).1
  unfold swap
  by_cases kb : k = b
  · subst kb
    rw [List.getElem?_set_self (by simpa using hk), if_pos rfl, h1]
  · rw [List.getElem?_set_ne (Ne.symm kb), if_neg kb]
    by_cases ka : k = a
    · subst ka
      rw [List.getElem?_set_self hk, if_pos rfl, h2]
    · rw [List.getElem?_set_ne (Ne.symm ka), if_neg ka]
/-- the numbers behind t steps -/
def W60 (t : Nat) : Nat := 6 * 60 ^ t
theorem W60_succ (t : Nat) : 60 * W60 t = W60 (t + 1) := by
  unfold W60
  rw [Nat.pow_succ, ← Nat.mul_assoc, ← Nat.mul_assoc, Nat.mul_comm 60 6, Nat.mul_assoc, Nat.mul_assoc, Nat.mul_comm 60]
def NumB (t : Nat) (ls : List (List Sum2)) : Prop := Num (4 + 3 * t) (W60 t) ls
theorem W60_pos (t : Nat) : 0 < W60 t := Nat.mul_pos (by decide) (Nat.pow_pos (by decide))
theorem W60_lt {t : Nat} (h : t ≤ 4) : W60 t < 2 ^ 50 := by
  have : W60 t ≤ W60 4 := Nat.mul_le_mul_left 6 (Nat.pow_le_pow_right (by decide) h)
  exact Nat.lt_of_le_of_lt this (by decide)
theorem NumB.ok {n t : Nat} {ls : List (List Sum2)} (h : NumB t ls) (ht : t ≤ 4) (n1 : 1 ≤ n) (n3 : n ≤ 3) (ov : Over n ls) (l2 : 2 ≤ ls.length) (l4 : ls.length ≤ 4) : NetOk n ls (W60 t) :=
  ⟨n1, n3, ov, by omega, l4, fun l hl z hz => ⟨fun r hr => ((h l hl z hz).1 r hr).mono (by omega) (Nat.dvd_refl _), (h l hl z hz).2.mono (by omega) (Nat.dvd_refl _)⟩, W60_pos t⟩
theorem fits60 {t : Nat} (h : t ≤ 4) : Fits (W60 t) 6 := by
  refine ⟨by decide, ?_⟩
  have h1 := W60_lt h
  have h3 : W60 t ^ 4 * 6 ≤ (2 ^ 50) ^ 4 * 6 := Nat.mul_le_mul_right 6 (Nat.pow_le_pow_left (by omega) 4)
  exact Nat.lt_of_le_of_lt h3 (by decide)
theorem sv60 {t : Nat} {c r : Rat} (hc : Sv 3 60 c) (hr : Sv (4 + 3 * t) (W60 t) r) : Sv (4 + 3 * (t + 1)) (W60 (t + 1)) (c * r) := by
  have h := sv_mul hc hr
  rw [W60_succ] at h
  exact h.mono (by omega) (Nat.dvd_refl _)
theorem sv_up {t : Nat} {r : Rat} (hr : Sv (4 + 3 * t) (W60 t) r) : Sv (4 + 3 * (t + 1)) (W60 (t + 1)) r :=
  hr.mono (by omega) (by rw [← W60_succ]; exact Nat.dvd_mul_left _ _)
/-- all layers but two stay: what is shown of numbers and lengths -/
theorem mem_set2 {ls : List (List Sum2)} {i : Nat} {u v a : List Sum2} (h : a ∈ (ls.set i u).set (i + 1) v) : a ∈ ls ∨ a = u ∨ a = v := by
  rcases List.mem_or_eq_of_mem_set h with h | h
  · rcases List.mem_or_eq_of_mem_set h with h | h
    · exact .inl h
    · exact .inr (.inl h)
  · exact .inr (.inr h)
theorem over_set2 {n i : Nat} {ls : List (List Sum2)} {l l2 u v : List Sum2} (ov : Over n ls) (hl : ls[i]? = some l) (hl2 : ls[i + 1]? = some l2) (h1 : u.length = l.length) (h2 : v.length = l2.length) (h3 : ∀ z ∈ u, ∃ y ∈ l, z.1.length = y.1.length) (h4 : ∀ z ∈ v, ∃ y ∈ l2, z.1.length = y.1.length) : Over n ((ls.set i u).set (i + 1) v) := by
  obtain ⟨e1, e2⟩ := set2 u v hl hl2
  rw [e1] at ov
  rw [e2]
  obtain ⟨a1, a2, a3, a4, a5, a6⟩ := over_append.mp ov
  refine over_append.mpr ⟨a1, fun z hz => ?_, by rw [h1]; exact a3, fun z hz => ?_, by rw [h2]; exact a5, by rw [h2]; exact a6⟩
  · obtain ⟨y, hy, e⟩ := h3 z hz
    rw [e]
    exact a2 y hy
  · obtain ⟨y, hy, e⟩ := h4 z hz
    rw [e, h1]
    exact a4 y hy
theorem over_two {n i : Nat} {ls : List (List Sum2)} {l l2 : List Sum2} (ov : Over n ls) (hl : ls[i]? = some l) (hl2 : ls[i + 1]? = some l2) : ∀ y ∈ l2, y.1.length = l.length := by
  have o := over_append.mp (by rw [← (set2 l l2 hl hl2).1]; exact ov)
  exact o.2.2.2.1
theorem sv_swap {n D : Nat} {L : List Rat} {a b : Nat} {x y : Rat} (h : SvL n D L) (hx : Sv n D x) (hy : Sv n D y) : SvL n D (swap L a b x y) := by
  intro r hr
  unfold swap at hr
  rcases List.mem_or_eq_of_mem_set hr with hr | rfl
  · rcases List.mem_or_eq_of_mem_set hr with hr | rfl
    · exact h r hr
    · exact hy
  · exact hx
theorem getD_sv {n D : Nat} {L : List Rat} {j : Nat} (h : SvL n D L) (hj : j < L.length) : Sv n D (L.getD j 0) := h _ (List.mem_of_getElem? (getD_some hj))
theorem numB_scaled {t i j : Nat} {ls : List (List Sum2)} {l l2 : List Sum2} {z : Sum2} {c d : Rat} (nb : NumB t ls) (hl : ls[i]? = some l) (hl2 : ls[i + 1]? = some l2) (hz : l[j]? = some z) (w : ∀ y ∈ l2, j < y.1.length) (hc : Sv 3 60 c) (hd : Sv 3 60 d) : NumB (t + 1) ((ls.set i (l.set j (stimes c z))).set (i + 1) (l2.map (scZ j d))) := by
  have ml := List.mem_of_getElem? hl
  have ml2 := List.mem_of_getElem? hl2
  have mz := List.mem_of_getElem? hz
  intro a ha y hy
  rcases mem_set2 ha with ha | rfl | rfl
  · exact ⟨fun r hr => sv_up ((nb a ha y hy).1 r hr), sv_up (nb a ha y hy).2⟩
  · rcases List.mem_or_eq_of_mem_set hy with hy | rfl
    · exact ⟨fun r hr => sv_up ((nb l ml y hy).1 r hr), sv_up (nb l ml y hy).2⟩
    · refine ⟨fun r hr => ?_, sv60 hc (nb l ml z mz).2⟩
      obtain ⟨q, hq, rfl⟩ := List.mem_map.mp hr
      exact sv60 hc ((nb l ml z mz).1 q hq)
  · obtain ⟨u, hu, rfl⟩ := List.mem_map.mp hy
    refine ⟨fun r hr => ?_, sv_up (nb l2 ml2 u hu).2⟩
    rcases List.mem_or_eq_of_mem_set hr with hr | rfl
    · exact sv_up ((nb l2 ml2 u hu).1 r hr)
    · exact sv60 hd (getD_sv (nb l2 ml2 u hu).1 (w u hu))
theorem numB_swap {t i a b : Nat} {ls : List (List Sum2)} {l l2 : List Sum2} {y z : Sum2} (nb : NumB t ls) (hl : ls[i]? = some l) (hl2 : ls[i + 1]? = some l2) (hy : l[a]? = some y) (hz : l[b]? = some z) (w : ∀ u ∈ l2, a < u.1.length ∧ b < u.1.length) : NumB (t + 1) ((ls.set i (swap l a b y z)).set (i + 1) (l2.map (exZ a b))) := by
  have ml := List.mem_of_getElem? hl
  have ml2 := List.mem_of_getElem? hl2
  have mz := List.mem_of_getElem? hz
  have my := List.mem_of_getElem? hy
  intro c hc u hu
  rcases mem_set2 hc with hc | rfl | rfl
  · exact ⟨fun r hr => sv_up ((nb c hc u hu).1 r hr), sv_up (nb c hc u hu).2⟩
  · have : u ∈ l := by
      unfold swap at hu
      rcases List.mem_or_eq_of_mem_set hu with hu | rfl
      · rcases List.mem_or_eq_of_mem_set hu with hu | rfl
        · exact hu
        · exact mz
      · exact my
    exact ⟨fun r hr => sv_up ((nb l ml u this).1 r hr), sv_up (nb l ml u this).2⟩
  · obtain ⟨v, hv, rfl⟩ := List.mem_map.mp hu
    obtain ⟨w1, w2⟩ := w v hv
    exact ⟨fun r hr => sv_up (sv_swap (nb l2 ml2 v hv).1 (getD_sv (nb l2 ml2 v hv).1 w1) (getD_sv (nb l2 ml2 v hv).1 w2) r hr), sv_up (nb l2 ml2 v hv).2⟩
end Nc
end
section
set_option maxRecDepth 100000
set_option maxHeartbeats 4000000
namespace Nc
open PySem PySem.Spec PyProof.Rows L2 Evl
theorem by_all : ∀ d : Fin 6, ∀ e : Fin 4, 0 < (Rat.divInt (1 + (d.val : Int)) (1 + (e.val : Int))).num ∧ (Rat.divInt (1 + (d.val : Int)) (1 + (e.val : Int))).num ≤ 6 ∧ (Rat.divInt (1 + (d.val : Int)) (1 + (e.val : Int))).den ≤ 4 := by decide +kernel
theorem dvd60 {n : Nat} (h0 : 0 < n) (h : n ≤ 6) : n ∣ 60 := by
  have : n = 1 ∨ n = 2 ∨ n = 3 ∨ n = 4 ∨ n = 5 ∨ n = 6 := by omega
  rcases this with rfl | rfl | rfl | rfl | rfl | rfl <;> decide
structure ByOk (q : Rat) : Prop where
  pos : 0 < q.num
  sz : Sz 3 3 q
  szi : Sz 3 3 (binv q)
  sv : Sv 3 60 q
  svi : Sv 3 60 (binv q)
theorem by_ok {d e : Nat} (hd : d < 6) (he : e < 4) : ByOk (Rat.divInt (1 + (d : Int)) (1 + (e : Int))) := by
  obtain ⟨h1, h2, h3⟩ := by_all ⟨d, hd⟩ ⟨e, he⟩
  simp only at h1 h2 h3
  generalize Rat.divInt (1 + (d : Int)) (1 + (e : Int)) = q at h1 h2 h3
  obtain ⟨b1, b2, b3⟩ := binv_num h1
  have hd := q.den_nz
  have e1 : (binv q).num.natAbs = q.den := by
    rw [b1]
    exact Int.natAbs_natCast _
  have e2 : (binv q).den = q.num.natAbs := by omega
  refine ⟨h1, ⟨by omega, by omega⟩, ⟨by omega, by omega⟩, ⟨by omega, dvd60 (by omega) (by omega)⟩, ⟨by omega, ?_⟩⟩
  rw [e2]
  exact dvd60 (by omega) (by omega)
theorem sum_len_le : ∀ {l : List (List Sum2)}, (∀ a ∈ l, a.length ≤ 4) → (l.map List.length).sum ≤ 4 * l.length
  | [], _ => Nat.le_refl _
  | a :: l, h => by
    have h1 := h a (by simp)
    have h2 := sum_len_le (l := l) fun b hb => h b (by simp [hb])
    rw [List.map_cons, List.sum_cons, List.length_cons]
    omega
theorem mid_all {ls : List (List Sum2)} {L : List Rat} {n W D : Nat} (ok : NetOk n ls W) (hn : L.length = n) (f : Fits W D) (h : SvL 100 D L) : ∀ i, i ≤ ls.length → ∃ dn A, Mid ls L W D i dn A
  | 0, _ => ⟨[], L, mid0 (by rw [hn]; exact ok) h⟩
  | i + 1, hi => by
    obtain ⟨dn, A, m⟩ := mid_all ok hn f h i (by omega)
    obtain ⟨_, m2, _⟩ := mid_step ok f m (List.getElem?_eq_getElem (l := ls) (i := i) (by omega))
    exact ⟨_, _, m2⟩
/-- how long what a node comes to can be -/
theorem rows_sz {ls : List (List Sum2)} {L : List Rat} {n W D i j : Nat} {r : List Rat} {x : Rat} (ok : NetOk n ls W) (hn : L.length = n) (f : Fits W D) (h : SvL 100 D L) (hr : (rowsAt ls L)[i]? = some r) (hx : r[j]? = some x) : Sz 600000 1200 x := by
  have hi : i < ls.length := by
    have := (List.getElem?_eq_some_iff.mp hr).1
    rwa [rowsAt_length] at this
  obtain ⟨dn, A, m⟩ := mid_all ok hn f h i (by omega)
  obtain ⟨k, m2, l4⟩ := mid_step ok f m (List.getElem?_eq_getElem hi)
  generalize ls[i] = l at k m2 l4
  have e : r = l.map fun z => tells z A := by
    have h1 := m2.eq
    rw [h1, List.append_assoc, List.getElem?_append_right (by rw [m.len]; exact Nat.le_refl _), m.len, Nat.sub_self] at hr
    simpa using hr.symm
  subst e
  obtain ⟨z, hz, rfl⟩ := List.mem_map.mp (List.mem_of_getElem? hx)
  obtain ⟨n1, n2, n3⟩ := k.nodes z hz
  have sv := sv_tells k.pos k.lt n2 n3 k.row n1
  have hl : z.1.length ≤ 4 := by
    rw [n1]
    exact k.len
  have hb : z.1.length * (100 + tb i + 1200 + 1) ≤ 4 * (100 + tb i + 1200 + 1) := Nat.mul_le_mul_right _ hl
  have ht := tb_le (i + 1) (by have := ok.l4; omega)
  have ht2 : tb (i + 1) = 1 + 4 * (100 + tb i + 1201) + 1302 := rfl
  exact (sv.sz k.pos k.lt).mono (by omega) (Nat.le_refl _)
end Nc
end
section
set_option maxRecDepth 100000
set_option maxHeartbeats 400000
namespace K12
open PySem Evl Nc PyProof.Rows
open L2 hiding spCell
/-! ### the text -/
def topS (i : Nat) : Stmt := PySem.Challenge.pw_noughtcut_k12_whole_nodes_scaled_and_exc.main.body.getD i (.Pass ⟨0, 0, 0, 0⟩)
abbrev s__wall : Stmt := topS 1
theorem sc__wall : FnScope ["k"] ["k"] (defScope s__wall) := ⟨rfl, rfl, rfl, by decide +kernel, rfl, by decide +kernel, by decide +kernel⟩
abbrev s_is_whole : Stmt := topS 8
theorem sc_is_whole : FnScope ["thing"] ["thing"] (defScope s_is_whole) := ⟨rfl, rfl, rfl, by decide +kernel, rfl, by decide +kernel, by decide +kernel⟩
abbrev s_is_fraction : Stmt := topS 9
theorem sc_is_fraction : FnScope ["thing", "top", "bottom"] ["thing"] (defScope s_is_fraction) := ⟨rfl, rfl, rfl, by decide +kernel, rfl, by decide +kernel, by decide +kernel⟩
abbrev s_is_row : Stmt := topS 10
theorem sc_is_row : FnScope ["thing", "many", "part"] ["thing", "many"] (defScope s_is_row) := ⟨rfl, rfl, rfl, by decide +kernel, rfl, by decide +kernel, by decide +kernel⟩
abbrev s_fraction_of : Stmt := topS 11
theorem sc_fraction_of : FnScope ["top", "bottom", "shared"] ["top", "bottom"] (defScope s_fraction_of) := ⟨rfl, rfl, rfl, by decide +kernel, rfl, by decide +kernel, by decide +kernel⟩
abbrev s_plus : Stmt := topS 12
theorem sc_plus : FnScope ["one", "other"] ["one", "other"] (defScope s_plus) := ⟨rfl, rfl, rfl, by decide +kernel, rfl, by decide +kernel, by decide +kernel⟩
abbrev s_times : Stmt := topS 13
theorem sc_times : FnScope ["one", "other"] ["one", "other"] (defScope s_times) := ⟨rfl, rfl, rfl, by decide +kernel, rfl, by decide +kernel, by decide +kernel⟩
abbrev s_cut_at_nought : Stmt := topS 14
theorem sc_cut_at_nought : FnScope ["one"] ["one"] (defScope s_cut_at_nought) := ⟨rfl, rfl, rfl, by decide +kernel, rfl, by decide +kernel, by decide +kernel⟩
abbrev s_weigh : Stmt := topS 15
theorem sc_weigh : FnScope ["row", "other", "total", "one", "by"] ["row", "other"] (defScope s_weigh) := ⟨rfl, rfl, rfl, by decide +kernel, rfl, by decide +kernel, by decide +kernel⟩
abbrev s_is_sum : Stmt := topS 17
theorem sc_is_sum : FnScope ["thing", "many", "row", "number"] ["thing", "many"] (defScope s_is_sum) := ⟨rfl, rfl, rfl, by decide +kernel, rfl, by decide +kernel, by decide +kernel⟩
abbrev s_sum_at : Stmt := topS 19
theorem sc_sum_at : FnScope ["one", "row", "weights", "number"] ["one", "row"] (defScope s_sum_at) := ⟨rfl, rfl, rfl, by decide +kernel, rfl, by decide +kernel, by decide +kernel⟩
abbrev s__reckoned : Stmt := topS 23
theorem sc__reckoned : FnScope ["nodes", "ahead", "node"] ["nodes", "ahead"] (defScope s__reckoned) := ⟨rfl, rfl, rfl, by decide +kernel, rfl, by decide +kernel, by decide +kernel⟩
abbrev s__are_ins : Stmt := topS 29
theorem sc__are_ins : FnScope ["thing"] ["thing"] (defScope s__are_ins) := ⟨rfl, rfl, rfl, by decide +kernel, rfl, by decide +kernel, by decide +kernel⟩
abbrev s__are_layers : Stmt := topS 30
theorem sc__are_layers : FnScope ["thing", "ins", "ahead", "nodes", "node"] ["thing", "ins"] (defScope s__are_layers) := ⟨rfl, rfl, rfl, by decide +kernel, rfl, by decide +kernel, by decide +kernel⟩
abbrev s__law_cell : Stmt := topS 32
theorem sc__law_cell : FnScope ["_law_script", "_law_k"] ["_law_script", "_law_k"] (defScope s__law_cell) := ⟨rfl, rfl, rfl, by decide +kernel, rfl, by decide +kernel, by decide +kernel⟩
abbrev s__law_stream : Stmt := topS 33
theorem sc__law_stream : FnScope ["_law_cell_here"] ["_law_cell_here"] (defScope s__law_stream) := ⟨rfl, rfl, rfl, by decide +kernel, rfl, by decide +kernel, by decide +kernel⟩
abbrev s__law_take : Stmt := topS 34
theorem sc__law_take : FnScope ["_law_stream_here", "_law_many", "_law_digit", "_law_number_here", "_law_more"] ["_law_stream_here", "_law_many"] (defScope s__law_take) := ⟨rfl, rfl, rfl, by decide +kernel, rfl, by decide +kernel, by decide +kernel⟩
abbrev s__law_part : Stmt := topS 35
theorem sc__law_part : FnScope ["_law_top", "_law_bottom", "_law_one", "_law_other"] ["_law_top", "_law_bottom"] (defScope s__law_part) := ⟨rfl, rfl, rfl, by decide +kernel, rfl, by decide +kernel, by decide +kernel⟩
abbrev s__law_plus : Stmt := topS 36
theorem sc__law_plus : FnScope ["_law_one", "_law_other"] ["_law_one", "_law_other"] (defScope s__law_plus) := ⟨rfl, rfl, rfl, by decide +kernel, rfl, by decide +kernel, by decide +kernel⟩
abbrev s__law_times : Stmt := topS 37
theorem sc__law_times : FnScope ["_law_one", "_law_other"] ["_law_one", "_law_other"] (defScope s__law_times) := ⟨rfl, rfl, rfl, by decide +kernel, rfl, by decide +kernel, by decide +kernel⟩
abbrev s__law_weighs : Stmt := topS 38
theorem sc__law_weighs : FnScope ["_law_one", "_law_other", "_law_total", "_law_first", "_law_second"] ["_law_one", "_law_other"] (defScope s__law_weighs) := ⟨rfl, rfl, rfl, by decide +kernel, rfl, by decide +kernel, by decide +kernel⟩
abbrev s__law_tells : Stmt := topS 39
theorem sc__law_tells : FnScope ["_law_node_here", "_law_row"] ["_law_node_here", "_law_row"] (defScope s__law_tells) := ⟨rfl, rfl, rfl, by decide +kernel, rfl, by decide +kernel, by decide +kernel⟩
abbrev s__law_number : Stmt := topS 40
theorem sc__law_number : FnScope ["_law_stream_here"] ["_law_stream_here"] (defScope s__law_number) := ⟨rfl, rfl, rfl, by decide +kernel, rfl, by decide +kernel, by decide +kernel⟩
abbrev s__law_node : Stmt := topS 41
theorem sc__law_node : FnScope ["_law_stream_here", "_law_many", "_law_k"] ["_law_stream_here", "_law_many"] (defScope s__law_node) := ⟨rfl, rfl, rfl, by decide +kernel, rfl, by decide +kernel, by decide +kernel⟩
abbrev s__law_layers : Stmt := topS 42
theorem sc__law_layers : FnScope ["_law_stream_here", "_law_ins", "_law_layers_here", "_law_ahead_here", "_law_k", "_law_many", "_law_j"] ["_law_stream_here", "_law_ins"] (defScope s__law_layers) := ⟨rfl, rfl, rfl, by decide +kernel, rfl, by decide +kernel, by decide +kernel⟩
abbrev s__law_spot : Stmt := topS 43
theorem sc__law_spot : FnScope ["_law_stream_here", "_law_many", "_law_k"] ["_law_stream_here", "_law_many"] (defScope s__law_spot) := ⟨rfl, rfl, rfl, by decide +kernel, rfl, by decide +kernel, by decide +kernel⟩
abbrev s__law_scaled : Stmt := topS 44
theorem sc__law_scaled : FnScope ["_law_layers_here", "_law_layer", "_law_node_here", "_law_by", "_law_found", "_law_row", "_law_number_here", "_law_back", "_law_some", "_law_nodes", "_law_one"] ["_law_layers_here", "_law_layer", "_law_node_here", "_law_by"] (defScope s__law_scaled) := ⟨rfl, rfl, rfl, by decide +kernel, rfl, by decide +kernel, by decide +kernel⟩
abbrev s__law_order : Stmt := topS 45
theorem sc__law_order : FnScope ["_law_many", "_law_one", "_law_other", "_law_found"] ["_law_many", "_law_one", "_law_other"] (defScope s__law_order) := ⟨rfl, rfl, rfl, by decide +kernel, rfl, by decide +kernel, by decide +kernel⟩
abbrev s__law_exchanged : Stmt := topS 46
theorem sc__law_exchanged : FnScope ["_law_layers_here", "_law_layer", "_law_one", "_law_other", "_law_order_here", "_law_found", "_law_nodes", "_law_k", "_law_some", "_law_by"] ["_law_layers_here", "_law_layer", "_law_one", "_law_other"] (defScope s__law_exchanged) := ⟨rfl, rfl, rfl, by decide +kernel, rfl, by decide +kernel, by decide +kernel⟩
abbrev s__law_ahead : Stmt := topS 47
theorem sc__law_ahead : FnScope ["_law_layers_here", "_law_layer", "_law_nodes"] ["_law_layers_here", "_law_layer"] (defScope s__law_ahead) := ⟨rfl, rfl, rfl, by decide +kernel, rfl, by decide +kernel, by decide +kernel⟩
abbrev s__law_bits : Stmt := topS 48
theorem sc__law_bits : FnScope ["_law_pattern", "_law_one", "_law_other", "_law_first", "_law_second"] ["_law_pattern", "_law_one", "_law_other"] (defScope s__law_bits) := ⟨rfl, rfl, rfl, by decide +kernel, rfl, by decide +kernel, by decide +kernel⟩
abbrev s__law_step : Stmt := topS 49
theorem sc__law_step : FnScope ["_law_stream_here", "_law_net", "_law_ins", "_law_layers_here", "_law_spots", "_law_layer", "_law_one", "_law_other", "_law_ahead_here", "_law_by", "_law_scaled_here", "_law_found", "_law_swung", "_law_spot_here", "_law_due", "_law_here", "_law_there"] ["_law_stream_here", "_law_net", "_law_ins", "_law_layers_here", "_law_spots"] (defScope s__law_step) := ⟨rfl, rfl, rfl, by decide +kernel, rfl, by decide +kernel, by decide +kernel⟩
abbrev s_law : Stmt := topS 50
theorem sc_law : FnScope ["_law_script", "_law_k", "_law_stream_here", "_law_ins", "_law_layers_here", "_law_net", "_law_spots", "_law_turn", "_law_told", "_law_j"] ["_law_script"] (defScope s_law) := ⟨rfl, rfl, rfl, by decide +kernel, rfl, by decide +kernel, by decide +kernel⟩
abbrev s_CutError___init__ : Stmt := inClass (topS 3) 0
theorem sc_CutError___init__ : FnScope ["self", "text"] ["self", "text"] (defScope s_CutError___init__) := ⟨rfl, rfl, rfl, by decide +kernel, rfl, by decide +kernel, by decide +kernel⟩
abbrev s_NoNet___init__ : Stmt := inClass (topS 4) 0
theorem sc_NoNet___init__ : FnScope ["self", "found"] ["self", "found"] (defScope s_NoNet___init__) := ⟨rfl, rfl, rfl, by decide +kernel, rfl, by decide +kernel, by decide +kernel⟩
abbrev s_NoSpot___init__ : Stmt := inClass (topS 5) 0
theorem sc_NoSpot___init__ : FnScope ["self", "found"] ["self", "found"] (defScope s_NoSpot___init__) := ⟨rfl, rfl, rfl, by decide +kernel, rfl, by decide +kernel, by decide +kernel⟩
abbrev s_Layer___init__ : Stmt := inClass (topS 21) 0
theorem sc_Layer___init__ : FnScope ["self", "nodes"] ["self", "nodes"] (defScope s_Layer___init__) := ⟨rfl, rfl, rfl, by decide +kernel, rfl, by decide +kernel, by decide +kernel⟩
abbrev s_Layer_told : Stmt := inClass (topS 21) 1
theorem sc_Layer_told : FnScope ["self"] ["self"] (defScope s_Layer_told) := ⟨rfl, rfl, rfl, by decide +kernel, rfl, by decide +kernel, by decide +kernel⟩
abbrev s_Layer_sums : Stmt := inClass (topS 21) 2
theorem sc_Layer_sums : FnScope ["self", "ahead"] ["self", "ahead"] (defScope s_Layer_sums) := ⟨rfl, rfl, rfl, by decide +kernel, rfl, by decide +kernel, by decide +kernel⟩
abbrev s_Layer_passed : Stmt := inClass (topS 21) 3
theorem sc_Layer_passed : FnScope ["self", "ahead"] ["self", "ahead"] (defScope s_Layer_passed) := ⟨rfl, rfl, rfl, by decide +kernel, rfl, by decide +kernel, by decide +kernel⟩
abbrev s_CutLayer_told : Stmt := inClass (topS 22) 0
theorem sc_CutLayer_told : FnScope ["self"] ["self"] (defScope s_CutLayer_told) := ⟨rfl, rfl, rfl, by decide +kernel, rfl, by decide +kernel, by decide +kernel⟩
abbrev s_CutLayer_sums : Stmt := inClass (topS 22) 1
theorem sc_CutLayer_sums : FnScope ["self", "ahead"] ["self", "ahead"] (defScope s_CutLayer_sums) := ⟨rfl, rfl, rfl, by decide +kernel, rfl, by decide +kernel, by decide +kernel⟩
abbrev s_CutLayer_passed : Stmt := inClass (topS 22) 2
theorem sc_CutLayer_passed : FnScope ["self", "ahead", "one"] ["self", "ahead"] (defScope s_CutLayer_passed) := ⟨rfl, rfl, rfl, by decide +kernel, rfl, by decide +kernel, by decide +kernel⟩
abbrev s_Net___init__ : Stmt := inClass (topS 28) 0
theorem sc_Net___init__ : FnScope ["self", "ins", "layers", "nodes"] ["self", "ins", "layers"] (defScope s_Net___init__) := ⟨rfl, rfl, rfl, by decide +kernel, rfl, by decide +kernel, by decide +kernel⟩
abbrev s_Net_ins : Stmt := inClass (topS 28) 1
theorem sc_Net_ins : FnScope ["self"] ["self"] (defScope s_Net_ins) := ⟨rfl, rfl, rfl, by decide +kernel, rfl, by decide +kernel, by decide +kernel⟩
abbrev s_Net_outs : Stmt := inClass (topS 28) 2
theorem sc_Net_outs : FnScope ["self"] ["self"] (defScope s_Net_outs) := ⟨rfl, rfl, rfl, by decide +kernel, rfl, by decide +kernel, by decide +kernel⟩
abbrev s_Net_hidden : Stmt := inClass (topS 28) 3
theorem sc_Net_hidden : FnScope ["self", "layer"] ["self"] (defScope s_Net_hidden) := ⟨rfl, rfl, rfl, by decide +kernel, rfl, by decide +kernel, by decide +kernel⟩
abbrev s_Net_layers_told : Stmt := inClass (topS 28) 4
theorem sc_Net_layers_told : FnScope ["self"] ["self"] (defScope s_Net_layers_told) := ⟨rfl, rfl, rfl, by decide +kernel, rfl, by decide +kernel, by decide +kernel⟩
abbrev s_Net_places : Stmt := inClass (topS 28) 5
theorem sc_Net_places : FnScope ["self"] ["self"] (defScope s_Net_places) := ⟨rfl, rfl, rfl, by decide +kernel, rfl, by decide +kernel, by decide +kernel⟩
abbrev s_Net_told : Stmt := inClass (topS 28) 6
theorem sc_Net_told : FnScope ["self", "layer"] ["self"] (defScope s_Net_told) := ⟨rfl, rfl, rfl, by decide +kernel, rfl, by decide +kernel, by decide +kernel⟩
abbrev s_Net_outs_at : Stmt := inClass (topS 28) 7
theorem sc_Net_outs_at : FnScope ["self", "spot"] ["self", "spot"] (defScope s_Net_outs_at) := ⟨rfl, rfl, rfl, by decide +kernel, rfl, by decide +kernel, by decide +kernel⟩
abbrev s_Net_sums_at : Stmt := inClass (topS 28) 8
theorem sc_Net_sums_at : FnScope ["self", "spot", "found", "ahead", "layer", "sums", "one"] ["self", "spot"] (defScope s_Net_sums_at) := ⟨rfl, rfl, rfl, by decide +kernel, rfl, by decide +kernel, by decide +kernel⟩
abbrev s_Net_pattern_at : Stmt := inClass (topS 28) 9
theorem sc_Net_pattern_at : FnScope ["self", "spot", "pattern", "worth", "sums", "one"] ["self", "spot"] (defScope s_Net_pattern_at) := ⟨rfl, rfl, rfl, by decide +kernel, rfl, by decide +kernel, by decide +kernel⟩

end K12
end
section
set_option maxRecDepth 100000
set_option maxHeartbeats 400000
namespace K12
open PySem Evl Nc PyProof.Rows
open L2 hiding spCell
theorem both {W D n : Nat} (hp : 0 < W * D) (hlt : W * D < 2 ^ n) : 0 < W ∧ 0 < D ∧ W < 2 ^ n ∧ D < 2 ^ n := by
  have w0 : 0 < W := Nat.pos_of_ne_zero fun z => by rw [z, Nat.zero_mul] at hp; omega
  have d0 : 0 < D := Nat.pos_of_ne_zero fun z => by rw [z, Nat.mul_zero] at hp; omega
  exact ⟨w0, d0, Nat.lt_of_le_of_lt (Nat.le_mul_of_pos_right W d0) hlt, Nat.lt_of_le_of_lt (Nat.le_mul_of_pos_left D w0) hlt⟩
section
variable {P : Program} {w : World} {K : PySem.W.Frag} {mg : Str → Option Value} {base : Heap}
theorem ok_fraction_of (D : Df K mg "fraction_of" s_fraction_of ["top", "bottom"]) (mgcd : mg "gcd" = some (.builtin "math.gcd")) : Ok P w K mg base 1 "fraction_of" ["top", "bottom"] (spPart K) := by
  refine D.ok fun f fd F => F.ok sc_fraction_of (fun vs H Q E h => ?_) (fun cdv A outer s H vs Q E hr h => ?_)
  · obtain ⟨t, b, n, rfl, _⟩ := h
    rfl
  · obtain ⟨t, b, n, rfl, hb, hn, h0, h9, q⟩ := h
    refine ⟨_, pss_cons (ps_set (i := 2) sc_fraction_of.nd rfl (.inl rfl) (pe_callBfun cr_gcd (by rfl) mgcd (pa_cons (pv 0) (pa_cons (pv 1) pa_nil))))
      (pss_cons (ps_if (pt_cmpR op_lt (pv 1) pe_int (nomark _)) (pss_one (ps_set (i := 2) sc_fraction_of.nd rfl (.inl rfl) (pe_un un_neg (pv 2)))) pss_nil)
      (pss_one (ps_ret (pe_tup (pa_cons (pe_op op_fdivW (pv 0) (pv 2)) (pa_cons (pe_op op_fdivW (pv 1) (pv 2)) pa_nil)))))), ?_⟩
    have g1 := gcd_pos (t := t) hb
    have g2 := gcd_le (t := t) hb
    have dv : ∀ i : Int, CDivW i ((Nat.gcd t.natAbs b.natAbs : Nat) : Int) := fun i => wide_div g1 (wide_le (by omega) g2 hn) h0 h9
    refine ⟨_, rfl, _, rfl, t, b, rfl, _, rfl, b, 0, rfl, rfl, _, rfl, ?_⟩
    rw [decide_eq_false (by omega : ¬ b < 0)]
    refine iteF ⟨_, rfl, _, rfl, t, _, rfl, rfl, dv _, _, rfl, _, rfl, b, _, rfl, rfl, dv _, (by show 2 ≤ sizeLine; decide), fun p hp => ?_⟩
    exact q _ _ (Ex.new hp) (made (num_div hb) (den_div hb))
theorem ok__law_part (D : Df K mg "_law_part" s__law_part ["_law_top", "_law_bottom"]) (mabs : mg "abs" = none) : Ok P w K mg base 1 "_law_part" ["_law_top", "_law_bottom"] (spPart K) := by
  refine D.ok fun f fd F => F.ok sc__law_part (fun vs H Q E h => ?_) (fun cdv A outer s H vs Q E hr h => ?_)
  · obtain ⟨t, b, n, rfl, _⟩ := h
    rfl
  · obtain ⟨t, b, n, rfl, hb, hn, h0, h9, q⟩ := h
    refine ⟨_, pss_cons (ps_set (i := 2) sc__law_part.nd rfl (.inl rfl) (pe_callB call_abs (by rfl) mabs (by decide +kernel) (pa_cons (pv 0) pa_nil)))
      (pss_cons (ps_set (i := 3) sc__law_part.nd rfl (.inl rfl) (pv 1))
      (pss_cons (ps_while PassesOwn.never (pt_cmpR op_gt (pv 3) pe_int (nomark _)) (pss_one (ps_par (i := 2) (j := 3) rfl sc__law_part.nd rfl rfl (by decide) rfl rfl (pa_cons (pv 3) (pa_cons (pe_op op_mod (pv 2) (pv 3)) pa_nil)) (by rfl))))
      (pss_one (ps_ret (pe_tup (pa_cons (pe_op op_fdivW (pv 0) (pv 2)) (pa_cons (pe_op op_fdivW (pv 1) (pv 2)) pa_nil))))))), ?_⟩
    have g1 := gcd_pos (t := t) hb
    have g2 := gcd_le (t := t) hb
    have dv : ∀ i : Int, CDivW i ((Nat.gcd t.natAbs b.natAbs : Nat) : Int) := fun i => wide_div g1 (wide_le (by omega) g2 hn) h0 h9
    refine ⟨_, rfl, t, rfl, _, rfl, ?_⟩
    refine ⟨fun m σ H' => ∃ a c : Int, σ = [some (.int t), some (.int b), some (.int a), some (.int c)] ∧ 0 ≤ a ∧ 0 ≤ c ∧ m = c.toNat ∧ Nat.gcd a.natAbs c.natAbs = Nat.gcd t.natAbs b.natAbs ∧ H' = H,
      ⟨b.toNat, _, b, rfl, by split <;> omega, by omega, rfl, ?_, rfl⟩, ?_⟩
    · split
      · rw [Int.natAbs_neg]
      · rfl
    · rintro m σ H' ⟨a, c, rfl, ha, hc, rfl, hg, rfl⟩
      refine ⟨_, rfl, c, 0, rfl, rfl, _, rfl, ite2 (fun hd => ?_) (fun hd => ?_)⟩
      · have hc1 : 0 < c := of_decide_eq_true hd
        refine ⟨fun σ' H'' => σ' = [some (.int t), some (.int b), some (.int c), some (.int (a % c))] ∧ H'' = H', ?_, ?_⟩
        · rintro σ' H'' ⟨rfl, rfl⟩
          have z1 := Int.emod_nonneg a (b := c) (by omega)
          have z2 := Int.emod_lt_of_pos a hc1
          exact ⟨(a % c).toNat, by omega, c, a % c, rfl, by omega, z1, rfl, (gcd_step ha hc1).trans hg, rfl⟩
        · exact ⟨_, rfl, _, rfl, _, rfl, a, c, rfl, rfl, hc1, _, _, rfl, rfl, rfl⟩
      · have hc1 : ¬ 0 < c := fun z => hd (decide_eq_true z)
        have hc0 : c = 0 := by omega
        subst hc0
        have ea : a = ((Nat.gcd t.natAbs b.natAbs : Nat) : Int) := by
          rw [← hg]
          simp
          omega
        subst ea
        refine ⟨_, rfl, _, rfl, t, _, rfl, rfl, dv _, _, rfl, _, rfl, b, _, rfl, rfl, dv _, (by show 2 ≤ sizeLine; decide), fun p hp => ?_⟩
        exact q _ _ (Ex.new hp) (made (num_div hb) (den_div hb))
theorem ok_plus (D : Df K mg "plus" s_plus ["one", "other"]) (G : Ok P w K mg base 1 "fraction_of" ["top", "bottom"] (spPart K)) : Ok P w K mg base 2 "plus" ["one", "other"] (spPlus K) := by
  refine D.ok fun f fd F => F.ok sc_plus (fun vs H Q E h => ?_) (fun cdv A outer s H vs Q E hr h => ?_)
  · obtain ⟨x, y, r, s, n, d, m, e, rfl, _⟩ := h
    rfl
  · obtain ⟨x, y, r, s, n, d, m, e, rfl, hx, hy, ha, hb, ⟨n0, d0, m0, e0, hde, hnm⟩, q⟩ := h
    refine ⟨_, pss_one (ps_ret (cl G hr (pa_cons (pe_op op_add (pe_op op_mulW (pe_ix ix_tup (pv 0) pe_int (fun _ _ => rfl)) (pe_ix ix_tup (pv 1) pe_int (fun _ _ => rfl))) (pe_op op_mulW (pe_ix ix_tup (pv 1) pe_int (fun _ _ => rfl)) (pe_ix ix_tup (pv 0) pe_int (fun _ _ => rfl)))) (pa_cons (pe_op op_mulW (pe_ix ix_tup (pv 0) pe_int (fun _ _ => rfl)) (pe_ix ix_tup (pv 1) pe_int (fun _ _ => rfl))) pa_nil)))), ?_⟩
    obtain ⟨t, rfl, h1⟩ := hx
    obtain ⟨u, rfl, h2⟩ := hy
    have hm1 := mulOk ha.1 hb.den
    have hm2 := mulOk hb.1 ha.den
    have hm3 := mulOk ha.den hb.den
    refine ⟨_, rfl, _, _, _, _, rfl, rfl, h1, at0, _, rfl, _, _, _, _, rfl, rfl, h2, at1, _, _, rfl, rfl, hm1, _, rfl, _, _, _, _, rfl, rfl, h2, at0, _, rfl, _, _, _, _, rfl, rfl, h1, at1, _, _, rfl, rfl, hm2, _, _, rfl, rfl, _, rfl, _, _, _, _, rfl, rfl, h1, at1, _, rfl, _, _, _, _, rfl, rfl, h2, at1, _, _, rfl, rfl, hm3, ?_⟩
    refine ⟨_, _, d + e, rfl, Int.mul_pos (den_pos r) (den_pos s), lt_mul ha.den hb.den, by omega, by omega, fun v H' e hv => ?_⟩
    rw [add_is] at hv
    exact q v H' e hv
theorem ok_times (D : Df K mg "times" s_times ["one", "other"]) (G : Ok P w K mg base 1 "fraction_of" ["top", "bottom"] (spPart K)) : Ok P w K mg base 2 "times" ["one", "other"] (spTimes K) := by
  refine D.ok fun f fd F => F.ok sc_times (fun vs H Q E h => ?_) (fun cdv A outer s H vs Q E hr h => ?_)
  · obtain ⟨x, y, r, s, n, d, m, e, rfl, _⟩ := h
    rfl
  · obtain ⟨x, y, r, s, n, d, m, e, rfl, hx, hy, ha, hb, ⟨n0, d0, m0, e0, hde, hnm⟩, q⟩ := h
    refine ⟨_, pss_one (ps_ret (cl G hr (pa_cons (pe_op op_mulW (pe_ix ix_tup (pv 0) pe_int (fun _ _ => rfl)) (pe_ix ix_tup (pv 1) pe_int (fun _ _ => rfl))) (pa_cons (pe_op op_mulW (pe_ix ix_tup (pv 0) pe_int (fun _ _ => rfl)) (pe_ix ix_tup (pv 1) pe_int (fun _ _ => rfl))) pa_nil)))), ?_⟩
    obtain ⟨t, rfl, h1⟩ := hx
    obtain ⟨u, rfl, h2⟩ := hy
    have hm1 := mulOk ha.1 hb.1
    have hm3 := mulOk ha.den hb.den
    refine ⟨_, rfl, _, _, _, _, rfl, rfl, h1, at0, _, rfl, _, _, _, _, rfl, rfl, h2, at0, _, _, rfl, rfl, hm1, _, rfl, _, _, _, _, rfl, rfl, h1, at1, _, rfl, _, _, _, _, rfl, rfl, h2, at1, _, _, rfl, rfl, hm3, ?_⟩
    refine ⟨_, _, d + e, rfl, Int.mul_pos (den_pos r) (den_pos s), lt_mul ha.den hb.den, by omega, by omega, fun v H' e hv => ?_⟩
    rw [mul_is] at hv
    exact q v H' e hv
theorem ok__law_plus (D : Df K mg "_law_plus" s__law_plus ["_law_one", "_law_other"]) (G : Ok P w K mg base 1 "_law_part" ["_law_top", "_law_bottom"] (spPart K)) : Ok P w K mg base 2 "_law_plus" ["_law_one", "_law_other"] (spPlus K) := by
  refine D.ok fun f fd F => F.ok sc__law_plus (fun vs H Q E h => ?_) (fun cdv A outer s H vs Q E hr h => ?_)
  · obtain ⟨x, y, r, s, n, d, m, e, rfl, _⟩ := h
    rfl
  · obtain ⟨x, y, r, s, n, d, m, e, rfl, hx, hy, ha, hb, ⟨n0, d0, m0, e0, hde, hnm⟩, q⟩ := h
    refine ⟨_, pss_one (ps_ret (cl G hr (pa_cons (pe_op op_add (pe_op op_mulW (pe_ix ix_tup (pv 0) pe_int (fun _ _ => rfl)) (pe_ix ix_tup (pv 1) pe_int (fun _ _ => rfl))) (pe_op op_mulW (pe_ix ix_tup (pv 1) pe_int (fun _ _ => rfl)) (pe_ix ix_tup (pv 0) pe_int (fun _ _ => rfl)))) (pa_cons (pe_op op_mulW (pe_ix ix_tup (pv 0) pe_int (fun _ _ => rfl)) (pe_ix ix_tup (pv 1) pe_int (fun _ _ => rfl))) pa_nil)))), ?_⟩
    obtain ⟨t, rfl, h1⟩ := hx
    obtain ⟨u, rfl, h2⟩ := hy
    have hm1 := mulOk ha.1 hb.den
    have hm2 := mulOk hb.1 ha.den
    have hm3 := mulOk ha.den hb.den
    refine ⟨_, rfl, _, _, _, _, rfl, rfl, h1, at0, _, rfl, _, _, _, _, rfl, rfl, h2, at1, _, _, rfl, rfl, hm1, _, rfl, _, _, _, _, rfl, rfl, h2, at0, _, rfl, _, _, _, _, rfl, rfl, h1, at1, _, _, rfl, rfl, hm2, _, _, rfl, rfl, _, rfl, _, _, _, _, rfl, rfl, h1, at1, _, rfl, _, _, _, _, rfl, rfl, h2, at1, _, _, rfl, rfl, hm3, ?_⟩
    refine ⟨_, _, d + e, rfl, Int.mul_pos (den_pos r) (den_pos s), lt_mul ha.den hb.den, by omega, by omega, fun v H' e hv => ?_⟩
    rw [add_is] at hv
    exact q v H' e hv
theorem ok__law_times (D : Df K mg "_law_times" s__law_times ["_law_one", "_law_other"]) (G : Ok P w K mg base 1 "_law_part" ["_law_top", "_law_bottom"] (spPart K)) : Ok P w K mg base 2 "_law_times" ["_law_one", "_law_other"] (spTimes K) := by
  refine D.ok fun f fd F => F.ok sc__law_times (fun vs H Q E h => ?_) (fun cdv A outer s H vs Q E hr h => ?_)
  · obtain ⟨x, y, r, s, n, d, m, e, rfl, _⟩ := h
    rfl
  · obtain ⟨x, y, r, s, n, d, m, e, rfl, hx, hy, ha, hb, ⟨n0, d0, m0, e0, hde, hnm⟩, q⟩ := h
    refine ⟨_, pss_one (ps_ret (cl G hr (pa_cons (pe_op op_mulW (pe_ix ix_tup (pv 0) pe_int (fun _ _ => rfl)) (pe_ix ix_tup (pv 1) pe_int (fun _ _ => rfl))) (pa_cons (pe_op op_mulW (pe_ix ix_tup (pv 0) pe_int (fun _ _ => rfl)) (pe_ix ix_tup (pv 1) pe_int (fun _ _ => rfl))) pa_nil)))), ?_⟩
    obtain ⟨t, rfl, h1⟩ := hx
    obtain ⟨u, rfl, h2⟩ := hy
    have hm1 := mulOk ha.1 hb.1
    have hm3 := mulOk ha.den hb.den
    refine ⟨_, rfl, _, _, _, _, rfl, rfl, h1, at0, _, rfl, _, _, _, _, rfl, rfl, h2, at0, _, _, rfl, rfl, hm1, _, rfl, _, _, _, _, rfl, rfl, h1, at1, _, rfl, _, _, _, _, rfl, rfl, h2, at1, _, _, rfl, rfl, hm3, ?_⟩
    refine ⟨_, _, d + e, rfl, Int.mul_pos (den_pos r) (den_pos s), lt_mul ha.den hb.den, by omega, by omega, fun v H' e hv => ?_⟩
    rw [mul_is] at hv
    exact q v H' e hv
theorem ok_weigh (D : Df K mg "weigh" s_weigh ["row", "other"]) (CN : Cst K mg "NOUGHT" 0) (mzip : mg "zip" = none) (GP : Ok P w K mg base 2 "plus" ["one", "other"] (spPlus K)) (GT : Ok P w K mg base 2 "times" ["one", "other"] (spTimes K)) : Ok P w K mg base 3 "weigh" ["row", "other"] (spWeighD K) := by
  refine D.ok fun f fd F => F.ok sc_weigh (fun vs H Q E h => ?_) (fun cdv A outer s H vs Q E hr h => ?_)
  · obtain ⟨x, y, rs, ss, m, W, D, rfl, _⟩ := h
    rfl
  · obtain ⟨x, y, rs, ss, m, W, D, rfl, ⟨tx, xs, rfl, qx, lx⟩, ⟨ty, ys, rfl, qy, ly⟩, hl, h4, hn, hm, hm1, hp, hlt, q⟩ := h
    obtain ⟨w0, d0, wl, dl⟩ := both hp hlt
    obtain ⟨aN, gN, hN⟩ := CN.ex
    refine ⟨_, pss_cons (ps_set (i := 2) sc_weigh.nd rfl (.inl rfl) (pe_glob (v := .ref aN) (by rfl) gN rfl))
      (pss_cons (ps_for PassesOwn.never rfl (RZ.pi_zipA (by rfl) mzip (pa_cons (pv 0) (pa_cons (pv 1) pa_nil))) (pg_tup rfl (pgs_cons (pg_name (i := 3) sc_weigh.nd rfl (.inl rfl)) (pgs_cons (pg_name (i := 4) sc_weigh.nd rfl (.inl rfl)) pgs_nil)))
        (pss_one (ps_set (i := 2) sc_weigh.nd rfl (.inl rfl) (cl GP hr (pa_cons (pv 2) (pa_cons (cl GT hr (pa_cons (pv 3) (pa_cons (pv 4) pa_nil))) pa_nil))))))
      (pss_one (ps_ret (pv 2)))), ?_⟩
    have e0 := Ex.refl H
    have z0 : FrV K H (.ref aN) (weighs ((rs.zip ss).take 0)) := hN H
    have lx' := Paired.length lx
    have ly' := Paired.length ly
    refine ⟨_, rfl, _, rfl, tx, ty, xs, ys, rfl, .inr ⟨ex_t e0 qx, ex_t e0 qy, RZ.for_zipT (by omega) (fun i σ H' => ∃ (v : V) (o3 o4 : Option V), σ = [some (.ref tx), some (.ref ty), some v, o3, o4] ∧ Ex H H' ∧ FrV K H' v (weighs ((rs.zip ss).take i)))
      ⟨_, none, none, rfl, e0, z0⟩ (fun i σ H' ⟨_, _, _, _, e1, _⟩ => ⟨ex_t e1 qx, ex_t e1 qy⟩) ?_ ?_⟩⟩
    · rintro i x y T σ H' hx hy ⟨v, o3, o4, rfl, e1, hv⟩ hT
      obtain ⟨r, hr1, fr⟩ := pget lx hx
      obtain ⟨u, hu1, fu⟩ := pget ly hy
      have hzip : (rs.zip ss)[i]? = some (r, u) := by
        rw [List.getElem?_zip_eq_some]
        exact ⟨hr1, hu1⟩
      have hi : i < rs.length := (List.getElem?_eq_some_iff.mp hr1).1
      have szr := hn r (List.mem_of_getElem? hr1)
      have szu := hm u (List.mem_of_getElem? hu1)
      have szt := sv_weighs hp hlt i (rs.zip ss) (by rw [List.length_zip]; omega) (fun p hp => ⟨hn _ (List.of_mem_zip hp).1, hm _ (List.of_mem_zip hp).2⟩)
      have b2 : i * (100 + m + 1200 + 1) ≤ 3 * (100 + m + 1200 + 1) := Nat.mul_le_mul_right _ (by omega)
      have eT : Ex H' (upd H' T (.tup [x, y])) := Ex.new hT
      refine ⟨T, [x, y], rfl, st_of upd_same, rfl, x, [y], rfl, y, [], rfl, rfl, ?_⟩
      refine ⟨_, rfl, _, rfl, _, rfl, x, y, r, u, 100, 1200, m + 1, 1200, rfl, fr.ex (e1.trans eT), fu.ex (e1.trans eT), szr.sz w0 wl, (szu.sz d0 dl).mono (by omega) (by omega), ⟨by omega, by omega, by omega, by omega, by omega, by omega⟩, fun v2 H2 e2 hv2 => ?_⟩
      refine ⟨v, v2, _, _, 1 + i * (100 + m + 1200 + 1), 1200, 100 + m, 1200, rfl, hv.ex (eT.trans e2), hv2, szt.sz hp hlt, (sv_mul szr szu).sz hp hlt, ⟨by omega, by omega, by omega, by omega, by omega, by omega⟩, fun v3 H3 e3 hv3 => ?_⟩
      refine ⟨v3, some x, some y, rfl, ((e1.trans eT).trans e2).trans e3, ?_⟩
      rw [weighs_take hzip]
      exact hv3
    · rintro σ H' ⟨v, o3, o4, rfl, e1, hv⟩
      refine ⟨_, rfl, q v H' e1 ?_⟩
      rwa [List.take_of_length_le (by rw [List.length_zip]; omega)] at hv
theorem ok_sum_at (D : Df K mg "sum_at" s_sum_at ["one", "row"]) (GP : Ok P w K mg base 2 "plus" ["one", "other"] (spPlus K)) (GW : Ok P w K mg base 3 "weigh" ["row", "other"] (spWeighD K)) : Ok P w K mg base 4 "sum_at" ["one", "row"] (spTellsD K) := by
  refine D.ok fun f fd F => F.ok sc_sum_at (fun vs H Q E h => ?_) (fun cdv A outer s H vs Q E hr h => ?_)
  · obtain ⟨x, y, z, ss, m, W, D, rfl, _⟩ := h
    rfl
  · obtain ⟨x, y, z, ss, m, W, D, rfl, ⟨t, a, b, rfl, qt, ra, fb⟩, ry, hl, h4, hn, hb, hm, hm1, hp, hlt, q⟩ := h
    obtain ⟨w0, d0, wl, dl⟩ := both hp hlt
    have b2 : z.1.length * (100 + m + 1200 + 1) ≤ 4 * (100 + m + 1200 + 1) := Nat.mul_le_mul_right _ (by omega)
    have sw := sv_of_weighs hp hlt hn hm hl
    refine ⟨_, pss_cons (ps_asg (pv 0) (pg_tup rfl (pgs_cons (pg_name (i := 2) sc_sum_at.nd rfl (.inl rfl)) (pgs_cons (pg_name (i := 3) sc_sum_at.nd rfl (.inl rfl)) pgs_nil))))
      (pss_one (ps_ret (cl GP (hr.mono (by decide)) (pa_cons (cl GW hr (pa_cons (pv 2) (pa_cons (pv 1) pa_nil))) (pa_cons (pv 3) pa_nil))))), ?_⟩
    refine ⟨_, rfl, t, [a, b], rfl, qt, rfl, a, [b], rfl, b, [], rfl, rfl, ?_⟩
    refine ⟨_, rfl, _, rfl, a, y, z.1, ss, m, W, D, rfl, ra, ry, hl, h4, hn, hm, hm1, hp, hlt, fun v H2 e2 hv => ?_⟩
    refine ⟨_, rfl, v, b, _, _, _, 1200, 100, 1200, rfl, hv, fb.ex e2, sw.sz hp hlt, hb.sz w0 wl, ⟨by omega, by omega, by omega, by omega, by omega, by omega⟩, fun v3 H3 e3 hv3 => ?_⟩
    exact q v3 H3 (e2.trans e3) hv3
end

end K12
end
section
set_option maxRecDepth 100000
set_option maxHeartbeats 400000
namespace K12
open PySem Evl Nc PyProof.Rows
open L2 hiding spCell
section
variable {P : Program} {w : World} {K : PySem.W.Frag} {mg : Str → Option Value} {base : Heap}
theorem ok__law_cell (D : Df K mg "_law_cell" s__law_cell ["_law_script", "_law_k"]) (mlen : mg "len" = none) : Ok P w K mg base 1 "_law_cell" ["_law_script", "_law_k"] (spCell K) := by
  refine D.ok fun f fd F => F.ok sc__law_cell (fun vs H Q E h => ?_) (fun cdv A outer s H vs Q E hr h => ?_)
  · obtain ⟨a, ns, k, rfl, _⟩ := h
    rfl
  · obtain ⟨a, ns, k, rfl, hS, hk, q⟩ := h
    refine ⟨_, pss_cons (ps_if (pt_cmpR op_lt (pv 1) (pe_callB call_len_seq (by rfl) mlen PySem.boot_len (pa_cons (pv 0) pa_nil)) (nomark _)) (pss_one (ps_ret (pe_ix ix_list (pv 0) (pv 1) (fun _ _ => rfl)))) pss_nil)
      (pss_one (ps_ret (pe_op op_add (pe_op op_mul pe_int (pv 1)) pe_int))), ?_⟩
    refine ⟨_, rfl, _, rfl, a, _, rfl, .inl hS, _, _, rfl, rfl, _, rfl, ite2 (fun hd => ?_) (fun hd => ?_)⟩
    · have hlt := of_decide_eq_true hd
      rw [List.length_map] at hlt
      have hn : k < ns.length := by omega
      refine ⟨_, rfl, _, rfl, a, _, _, .int ns[k], rfl, rfl, hS, atI_nat ?_, q _⟩
      rw [List.getElem?_map, List.getElem?_eq_getElem hn]
      rfl
    · exact ⟨_, rfl, _, _, rfl, rfl, .inl ⟨by decide, by decide⟩, _, _, rfl, rfl, q _⟩
theorem ok__law_stream (D : Df K mg "_law_stream" s__law_stream ["_law_cell_here"]) (mint : mg "int" = none) : Ok P w K mg base 1 "_law_stream" ["_law_cell_here"] spStream3 := by
  refine D.ok fun f fd F => F.ok sc__law_stream (fun vs H Q E h => ?_) (fun cdv A outer s H vs Q E hr h => ?_)
  · obtain ⟨c, rfl, _⟩ := h
    rfl
  · obtain ⟨c, rfl, q⟩ := h
    refine ⟨_, pss_one (ps_ret (pe_lst (pa_cons (pe_op op_mul (pv 0) (pe_callTy call_int1 (by rfl) mint (by decide +kernel) (pa_cons (pe_cmpR op_ge (pv 0) (pe_op op_pow pe_int pe_int) (nomark _)) pa_nil))) (pa_cons (pe_op op_mod (pv 0) pe_int) (pa_cons pe_int pa_nil))))), ?_⟩
    refine ⟨_, rfl, _, rfl, _, _, rfl, rfl, ⟨by decide, by decide, by decide⟩, _, _, rfl, rfl, .inr ⟨_, rfl, _, _, rfl, rfl, .inr (b01 _), _, rfl, _, _, rfl, rfl, (by show (0 : Int) < _; decide), (by show 3 ≤ sizeLine; decide), fun p hp => ?_⟩⟩
    exact q p hp _ (Ex.new hp) ⟨_, _, _, upd_same⟩
theorem ok__law_take (D : Df K mg "_law_take" s__law_take ["_law_stream_here", "_law_many"]) : Ok P w K mg base 1 "_law_take" ["_law_stream_here", "_law_many"] spTake3 := by
  refine D.ok fun f fd F => F.ok sc__law_take (fun vs H Q E h => ?_) (fun cdv A outer s H vs Q E hr h => ?_)
  · obtain ⟨s, m, rfl, _⟩ := h
    rfl
  · obtain ⟨s, m, rfl, ⟨a, b, c, hS⟩, m0, m1, q⟩ := h
    refine ⟨_, pss_cons (ps_if (pt_cmpR op_gt (pe_ix ix_list (pv 0) pe_int (fun _ _ => rfl)) pe_int (nomark _)) (pss_cons (ps_set (i := 2) sc__law_take.nd rfl (.inl rfl) (pe_op op_mod (pe_ix ix_list (pv 0) pe_int (fun _ _ => rfl)) (pv 1))) (pss_cons (ps_asg (pe_op op_fdivW (pe_ix ix_list (pv 0) pe_int (fun _ _ => rfl)) (pv 1)) (pg_sub (pv 0) pe_int set_list)) (pss_one (ps_ret (pv 2))))) pss_nil)
      (pss_cons (ps_asg (pe_op op_add (pe_ix ix_list (pv 0) pe_int (fun _ _ => rfl)) pe_int) (pg_sub (pv 0) pe_int set_list))
      (pss_cons (ps_set (i := 3) sc__law_take.nd rfl (.inl rfl) (pe_op op_mod (pe_op op_add (pe_op op_add (pe_op op_mul (pe_ix ix_list (pv 0) pe_int (fun _ _ => rfl)) pe_int) (pe_op op_mul pe_int (pe_ix ix_list (pv 0) pe_int (fun _ _ => rfl)))) pe_int) pe_int))
      (pss_cons (ps_set (i := 3) sc__law_take.nd rfl (.inl rfl) (pe_op op_mod (pe_op op_mul (pv 3) (pv 3)) pe_int))
      (pss_cons (ps_set (i := 4) sc__law_take.nd rfl (.inl rfl) (pe_op op_mod (pe_op op_add (pe_op op_mul (pv 3) pe_int) (pe_op op_mul pe_int (pe_ix ix_list (pv 0) pe_int (fun _ _ => rfl)))) pe_int))
      (pss_one (ps_ret (pe_op op_mod (pe_op op_fdiv (pe_op op_mod (pe_op op_mul (pv 4) (pv 3)) pe_int) pe_int) (pv 1)))))))), ?_⟩
    have hL : SqL K H s [.int a, .int b, .int c] := sq_of hS
    refine ⟨_, rfl, _, _, _, _, rfl, rfl, hL, at0, _, _, rfl, rfl, _, rfl, ite2 (fun hd => ?_) (fun hd => ?_)⟩
    · refine ⟨_, rfl, _, _, _, _, rfl, rfl, hL, at0, _, rfl, _, _, rfl, rfl, m0, _, rfl, _, _, _, _, rfl, rfl, hL, at0, _, rfl, _, _, rfl, rfl, cdivT m0 m1, _, rfl, s, _, _, 0, rfl, rfl, hS, rfl, _, rfl, ?_⟩
      exact q _ _ (Int.emod_nonneg _ (by omega)) (Int.emod_lt_of_pos _ m0) (Dk.put hS) ⟨_, _, _, upd_same⟩
    · refine ⟨_, rfl, _, _, _, _, rfl, rfl, hL, at2, _, _, rfl, rfl, _, rfl, s, _, _, 2, rfl, rfl, hS, rfl, ?_⟩
      have d1 : Dk s H (upd H s (.lst [.int a, .int b, .int (c + 1)])) := Dk.put hS
      have t1 : Stm s (upd H s (.lst [.int a, .int b, .int (c + 1)])) := ⟨_, _, _, upd_same⟩
      have hL2 : SqL K (upd H s (.lst [.int a, .int b, .int (c + 1)])) s [.int a, .int b, .int (c + 1)] := sq_of upd_same
      refine ⟨_, rfl, _, _, _, _, rfl, rfl, hL2, at1, _, _, rfl, rfl, .inr ⟨by decide, by decide⟩, _, rfl, _, _, _, _, rfl, rfl, hL2, at2, _, _, rfl, rfl, .inl ⟨by decide, by decide⟩, _, _, rfl, rfl, _, _, rfl, rfl, _, _, rfl, rfl, (by show (0 : Int) < _; decide), ?_⟩
      refine ⟨_, rfl, _, rfl, _, _, rfl, rfl, .inl (modb _ (by decide) (by decide)), _, _, rfl, rfl, (by show (0 : Int) < _; decide), ?_⟩
      refine ⟨_, rfl, _, _, rfl, rfl, .inr ⟨by decide, by decide⟩, _, rfl, _, _, _, _, rfl, rfl, hL2, at2, _, _, rfl, rfl, .inl ⟨by decide, by decide⟩, _, _, rfl, rfl, _, _, rfl, rfl, (by show (0 : Int) < _; decide), ?_⟩
      refine ⟨_, rfl, _, rfl, _, _, rfl, rfl, .inl (modb _ (by decide) (by decide)), _, _, rfl, rfl, (by show (0 : Int) < _; decide), _, _, rfl, rfl, ⟨by decide, by decide⟩, _, rfl, _, _, rfl, rfl, m0, ?_⟩
      exact q _ _ (Int.emod_nonneg _ (by omega)) (Int.emod_lt_of_pos _ m0) d1 t1
theorem d3 {t c : Int} (h0 : 0 ≤ c) (h1 : c < 3) (t0 : 0 ≤ t) (t1 : t < 9) : 0 < 1 + c ∧ (1 + c).natAbs < 2 ^ 100 ∧ (t - 4).natAbs < 2 ^ 3 ∧ (1 + c).toNat ∣ 6 := by
  have h : c = 0 ∨ c = 1 ∨ c = 2 := by omega
  refine ⟨by omega, by omega, by omega, ?_⟩
  rcases h with rfl | rfl | rfl <;> decide
theorem ok__law_number (D : Df K mg "_law_number" s__law_number ["_law_stream_here"]) (GT : Ok P w K mg base 1 "_law_take" ["_law_stream_here", "_law_many"] spTake3) (GP : Ok P w K mg base 1 "_law_part" ["_law_top", "_law_bottom"] (spPart K)) : Ok P w K mg base 2 "_law_number" ["_law_stream_here"] (spNumS K) := by
  refine D.ok fun f fd F => F.ok sc__law_number (fun vs H Q E h => ?_) (fun cdv A outer s H vs Q E hr h => ?_)
  · obtain ⟨s, rfl, _⟩ := h
    rfl
  · obtain ⟨s, rfl, hS, q⟩ := h
    refine ⟨_, (pss_cons (ps_if (pt_cmpR op_eq (cl GT hr (pa_cons (pv 0) (pa_cons pe_int pa_nil))) pe_int (nomark _)) (pss_one (ps_ret (pe_tup (pa_cons pe_int (pa_cons pe_int pa_nil))))) pss_nil)
      (pss_one (ps_ret (cl GP hr (pa_cons (pe_op op_sub (cl GT hr (pa_cons (pv 0) (pa_cons pe_int pa_nil))) pe_int) (pa_cons (pe_op op_add pe_int (cl GT hr (pa_cons (pv 0) (pa_cons pe_int pa_nil)))) pa_nil)))))), ?_⟩
    refine ⟨_, rfl, s, _, rfl, hS, by decide, by decide, fun wy H1 w0 w1 r1 t1 => ?_⟩
    refine ⟨rfl, _, rfl, ite2 (fun _ => ?_) (fun _ => ?_)⟩
    · refine ⟨(by show 2 ≤ sizeLine; decide), fun p hp => ?_⟩
      exact q _ 0 _ (r1.trans (Dk.new r1.st hp)) (t1.ex (Ex.new hp)) (made rfl rfl) (sv_zero (by decide))
    refine ⟨_, rfl, s, _, rfl, t1, by decide, by decide, fun t0 H2 u1 u2 r2 t2 => ?_⟩
    refine ⟨_, _, rfl, rfl, _, rfl, s, _, rfl, t2, by decide, by decide, fun c0 H3 c1 c2 r3 t3 => ?_⟩
    obtain ⟨cb0, cb1, cb2, cb3⟩ := d3 c1 c2 u1 u2
    refine ⟨_, _, rfl, rfl, _, _, 100, rfl, cb0, cb1, by decide, by decide, fun v H' e hv => ?_⟩
    exact q v _ H' (((r1.trans r2).trans r3).then e) (t3.ex e) hv ((sv_div cb0 cb2).mono (Nat.le_refl _) cb3)
theorem ok__law_node (D : Df K mg "_law_node" s__law_node ["_law_stream_here", "_law_many"]) (GN : Ok P w K mg base 2 "_law_number" ["_law_stream_here"] (spNumS K)) (mtuple : mg "tuple" = none) (mrange : mg "range" = none) : Ok P w K mg base 3 "_law_node" ["_law_stream_here", "_law_many"] (spNodeS K) := by
  refine D.ok fun f fd F => F.ok sc__law_node (fun vs H Q E h => ?_) (fun cdv A outer s H vs Q E hr h => ?_)
  · obtain ⟨s, n, rfl, _⟩ := h
    rfl
  · obtain ⟨s, n, rfl, hS, hn, q⟩ := h
    refine ⟨_, pss_one (ps_ret (pe_tup (pa_cons (pe_callTy call_tuple_of (by rfl) mtuple (by decide +kernel) (pa_cons (pe_lc (own := [("_law_k", 2)]) (g := gName 2) (tt := tYes) rfl sc__law_node.nd (pi_range1 (by rfl) mrange (pa_cons (pv 1) pa_nil)) (blkOk_by (N := ["_law_stream_here", "_law_many", "_law_k"]) (sc := defScope s__law_node) (by decide +kernel)) (fun _ _ _ _ _ => (pg_name (i := 2) sc__law_node.nd rfl (.inl rfl))) (fun _ _ _ _ _ => pts_nil) (fun _ _ _ _ _ => cl GN hr (pa_cons (pv 0) pa_nil))) pa_nil)) (pa_cons (cl GN hr (pa_cons (pv 0) pa_nil)) pa_nil)))), ?_⟩
    refine ⟨_, rfl, (n : Int), rfl, by omega, by omega, fun D hD => ?_⟩
    have hsD := hS.lst.ne hD
    refine lc_range (lo := 0) (n := ((n : Int)).toNat) (fun i H' => ∃ L xs, H' D = some (.lst xs) ∧ FrL K H' xs L ∧ L.length = i ∧ SvL 3 6 L ∧ Dk s H H' ∧ Stm s H')
      ⟨[], [], upd_same, .nil, rfl, (fun _ z => by cases z), Dk.new hS.lst hD, hS.mut hsD⟩ ?_ ?_
    · rintro i H' hi ⟨L, xs, z1, z2, z3, z4, z5, z6⟩
      rw [Int.toNat_natCast] at hi
      refine ⟨rfl, ?_⟩
      refine ⟨_, rfl, s, rfl, z6, fun v r H4 r4 t4 hv hs => ?_⟩
      have h4 := r4.keep D _ (Ne.symm hsD) z1
      have hln := Paired.length z2
      refine ⟨xs, h4, sz_lt (by omega), L ++ [r], xs ++ [v], upd_same, ?_, by simp [z3], ?_, (z5.trans r4).mut hD hsD, t4.mut hsD⟩
      · exact Paired.snoc (pmono (fun _ _ q => FrV.mut h4 (FrV.dk z5.st r4 q)) z2) (FrV.mut h4 hv)
      · intro a ha
        rcases List.mem_append.mp ha with ha | ha
        · exact z4 a ha
        · rw [List.mem_singleton.mp ha]
          exact hs
    · rintro H' ⟨L, xs, hx, hl, hn', hz, r1, t1⟩
      rw [Int.toNat_natCast] at hn'
      refine ⟨D, xs, rfl, .inl ⟨sq_of hx, fun l hl' => ?_⟩⟩
      have row : RowV K (upd H' l (.tup xs)) (.ref l) L := ⟨l, xs, rfl, st_of upd_same, FrL.ex (Ex.new hl') hl⟩
      have r2 := r1.then (Ex.new (o := .tup xs) hl')
      have t2 := t1.ex (Ex.new (o := .tup xs) hl')
      refine ⟨_, rfl, s, rfl, t2, fun v r H4 r4 t4 hv hs => ⟨(by show 2 ≤ sizeLine; decide), fun p hp => ?_⟩⟩
      exact q _ (L, r) _ ((r2.trans r4).then (Ex.new hp)) (t4.ex (Ex.new hp)) ⟨p, _, _, rfl, st_of upd_same, (row.dk r2.st r4).ex (Ex.new hp), hv.ex (Ex.new hp)⟩ hn' hz hs
theorem ok__law_spot (D : Df K mg "_law_spot" s__law_spot ["_law_stream_here", "_law_many"]) (GN : Ok P w K mg base 2 "_law_number" ["_law_stream_here"] (spNumS K)) (mtuple : mg "tuple" = none) (mrange : mg "range" = none) : Ok P w K mg base 3 "_law_spot" ["_law_stream_here", "_law_many"] (spSpotS K) := by
  refine D.ok fun f fd F => F.ok sc__law_spot (fun vs H Q E h => ?_) (fun cdv A outer s H vs Q E hr h => ?_)
  · obtain ⟨s, n, rfl, _⟩ := h
    rfl
  · obtain ⟨s, n, rfl, hS, hn, q⟩ := h
    refine ⟨_, pss_one (ps_ret (pe_callTy call_tuple_of (by rfl) mtuple (by decide +kernel) (pa_cons (pe_lc (own := [("_law_k", 2)]) (g := gName 2) (tt := tYes) rfl sc__law_spot.nd (pi_range1 (by rfl) mrange (pa_cons (pv 1) pa_nil)) (blkOk_by (N := ["_law_stream_here", "_law_many", "_law_k"]) (sc := defScope s__law_spot) (by decide +kernel)) (fun _ _ _ _ _ => (pg_name (i := 2) sc__law_spot.nd rfl (.inl rfl))) (fun _ _ _ _ _ => pts_nil) (fun _ _ _ _ _ => cl GN hr (pa_cons (pv 0) pa_nil))) pa_nil))), ?_⟩
    refine ⟨_, rfl, (n : Int), rfl, by omega, by omega, fun D hD => ?_⟩
    have hsD := hS.lst.ne hD
    refine lc_range (lo := 0) (n := ((n : Int)).toNat) (fun i H' => ∃ L xs, H' D = some (.lst xs) ∧ FrL K H' xs L ∧ L.length = i ∧ SvL 3 6 L ∧ Dk s H H' ∧ Stm s H')
      ⟨[], [], upd_same, .nil, rfl, (fun _ z => by cases z), Dk.new hS.lst hD, hS.mut hsD⟩ ?_ ?_
    · rintro i H' hi ⟨L, xs, z1, z2, z3, z4, z5, z6⟩
      rw [Int.toNat_natCast] at hi
      refine ⟨rfl, ?_⟩
      refine ⟨_, rfl, s, rfl, z6, fun v r H4 r4 t4 hv hs => ?_⟩
      have h4 := r4.keep D _ (Ne.symm hsD) z1
      have hln := Paired.length z2
      refine ⟨xs, h4, sz_lt (by omega), L ++ [r], xs ++ [v], upd_same, ?_, by simp [z3], ?_, (z5.trans r4).mut hD hsD, t4.mut hsD⟩
      · exact Paired.snoc (pmono (fun _ _ q => FrV.mut h4 (FrV.dk z5.st r4 q)) z2) (FrV.mut h4 hv)
      · intro a ha
        rcases List.mem_append.mp ha with ha | ha
        · exact z4 a ha
        · rw [List.mem_singleton.mp ha]
          exact hs
    · rintro H' ⟨L, xs, hx, hl, hn', hz, r1, t1⟩
      rw [Int.toNat_natCast] at hn'
      refine ⟨D, xs, rfl, .inl ⟨sq_of hx, fun l hl' => ?_⟩⟩
      have row : RowV K (upd H' l (.tup xs)) (.ref l) L := ⟨l, xs, rfl, st_of upd_same, FrL.ex (Ex.new hl') hl⟩
      have r2 := r1.then (Ex.new (o := .tup xs) hl')
      have t2 := t1.ex (Ex.new (o := .tup xs) hl')
      exact q _ L _ r2 t2 row hn' hz
def LyX (K : PySem.W.Frag) (s D : Addr) (H : Hp) (v : V) (l : List Sum2) : Prop := LyS K s H v l ∧ v ≠ .ref D
theorem ok__law_layers (D : Df K mg "_law_layers" s__law_layers ["_law_stream_here", "_law_ins"]) (GT : Ok P w K mg base 1 "_law_take" ["_law_stream_here", "_law_many"] spTake3) (GD : Ok P w K mg base 3 "_law_node" ["_law_stream_here", "_law_many"] (spNodeS K)) (mrange : mg "range" = none) : Ok P w K mg base 4 "_law_layers" ["_law_stream_here", "_law_ins"] (spLaysS K) := by
  refine D.ok fun f fd F => F.ok sc__law_layers (fun vs H Q E h => ?_) (fun cdv A outer s H vs Q E hr h => ?_)
  · obtain ⟨s, n, rfl, _⟩ := h
    rfl
  · obtain ⟨s, n, rfl, hS, hn1, hn3, q⟩ := h
    have hr1 : Room 1 _ := hr.mono (by decide)
    refine ⟨_, (pss_cons (ps_set (i := 2) sc__law_layers.nd rfl (.inl rfl) (pe_lst pa_nil))
      (pss_cons (ps_set (i := 3) sc__law_layers.nd rfl (.inr rfl) (pv 1))
      (pss_cons (ps_for PassesOwn.never rfl (pi_range1 (by rfl) mrange (pa_cons (pe_op op_add pe_int (cl GT hr1 (pa_cons (pv 0) (pa_cons pe_int pa_nil)))) pa_nil)) (pg_name (i := 4) sc__law_layers.nd rfl (.inl rfl)) (pss_cut (ps_set (i := 5) sc__law_layers.nd rfl (.inl rfl) (pe_op op_add pe_int (cl GT hr1 (pa_cons (pv 0) (pa_cons pe_int pa_nil)))))
      (pss_cons (ps_expr (pe_bm PySem.F.plainAttrs_list PySem.F.slot_list_append PySem.F.type_list_append mt_append (pv 2) (pa_cons (pe_lc (own := [("_law_j", 6)]) (g := gName 6) (tt := tYes) rfl sc__law_layers.nd (pi_range1 (by rfl) mrange (pa_cons (pv 5) pa_nil)) (blkOk_by (N := ["_law_stream_here", "_law_ins", "_law_layers_here", "_law_ahead_here", "_law_k", "_law_many", "_law_j"]) (sc := defScope s__law_layers) (by decide +kernel)) (fun _ _ _ _ _ => (pg_name (i := 6) sc__law_layers.nd rfl (.inl rfl))) (fun _ _ _ _ _ => pts_nil) (fun _ _ _ _ _ => cl GD hr (pa_cons (pv 0) (pa_cons (pv 3) pa_nil)))) pa_nil)))
      (pss_one (ps_set (i := 3) sc__law_layers.nd rfl (.inr rfl) (pv 5))))))
      (pss_one (ps_ret (pv 2)))))), ?_⟩
    refine ⟨(by show 0 ≤ sizeLine; decide), fun D hD => ?_⟩
    have hsD := hS.lst.ne hD
    have e0 : Ex H (upd H D (.lst [])) := Ex.new hD
    have k0 : upd H D (.lst []) D = some (.lst []) := upd_same
    have S0 := hS.ex e0
    have D0 : Dk s H (upd H D (.lst [])) := Dk.ex hS.lst e0
    generalize upd H D (.lst []) = H0 at e0 k0 S0 D0 ⊢
    refine ⟨_, rfl, _, rfl, s, _, rfl, S0, by decide, by decide, fun c H1 c1 c4 r1 t1 => ⟨_, _, rfl, rfl, ?_⟩⟩
    have D1 := D0.trans r1
    have k1 := r1.keep D _ (Ne.symm hsD) k0
    refine ⟨2 + c, rfl, by omega, by omega, for_range (lo := 0) (n := (2 + c).toNat) (fun i σ H' => ∃ (o4 o5 o6 : Option V) (n' : Nat) (ls : List (List Sum2)) (ys : List V), σ = [some (.ref s), some (.int (n : Int)), some (.ref D), some (.int (n' : Int)), o4, o5, o6] ∧ H' D = some (.lst ys) ∧ Paired (LyX K s D H') ys ls ∧ ls.length = i ∧ Over n ls ∧ lastN n ls = n' ∧ 1 ≤ n' ∧ n' ≤ 4 ∧ Num 3 6 ls ∧ Dk s H H' ∧ Stm s H')
      ⟨none, none, none, n, [], [], rfl, k1, .nil, rfl, trivial, rfl, hn1, by omega, (fun _ z => by cases z), D1, t1⟩ ?_ ?_⟩
    · rintro i σ H2 hi ⟨o4, o5, o6, n', ls, ys, rfl, hx, pl, hn, ov, la, a1, a4, nu, r2, t2⟩
      refine ⟨fun σ H3 => ∃ m : Nat, σ = [some (.ref s), some (.int (n : Int)), some (.ref D), some (.int (n' : Int)), some (.int (0 + (i : Int))), some (.int (m : Int)), o6] ∧ 1 ≤ m ∧ m ≤ 4 ∧ Dk s H2 H3 ∧ Stm s H3, ?_, ?_⟩
      · refine ⟨_, rfl, s, _, rfl, t2, by decide, by decide, fun d H3 d0 d1 r3 t3 => ⟨_, _, rfl, rfl, (1 + d).toNat, ?_, by omega, by omega, r3, t3⟩⟩
        have e : (((1 + d).toNat : Nat) : Int) = 1 + d := by omega
        rw [e]
        rfl
      rintro σ H3 ⟨m, rfl, m1, m4, r3, t3⟩
      have x3 := r3.keep D _ (Ne.symm hsD) hx
      have p3 : Paired (LyX K s D H3) ys ls := pmono (fun _ _ q => ⟨LyS.dk r2.st r3 q.1, q.2⟩) pl
      have R3 := r2.trans r3
      refine ⟨_, rfl, .inl ⟨rfl, _, sq_of x3⟩, _, rfl, (m : Int), rfl, by omega, by omega, fun G hG => ?_⟩
      have hsG := t3.lst.ne hG
      have hDG : D ≠ G := ne_of_none x3 hG
      refine lc_range (lo := 0) (n := ((m : Int)).toNat) (fun j H' => ∃ (l : List Sum2) (xs : List V), H' G = some (.lst xs) ∧ Paired (SumV K H') xs l ∧ l.length = j ∧ (∀ z ∈ l, z.1.length = n' ∧ SvL 3 6 z.1 ∧ Sv 3 6 z.2) ∧ Dk s H3 H' ∧ Stm s H')
        ⟨[], [], upd_same, .nil, rfl, (fun _ z => by cases z), Dk.new t3.lst hG, t3.mut hsG⟩ ?_ ?_
      · rintro j H4 hj ⟨l, xs, hxs, pz, hl, hz, r4, t4⟩
        rw [Int.toNat_natCast] at hj
        refine ⟨rfl, ?_⟩
        refine ⟨_, rfl, _, rfl, s, n', rfl, t4, by omega, fun v z H5 r5 t5 hv z1 z2 z3 => ?_⟩
        have x5 := r5.keep G _ (Ne.symm hsG) hxs
        have hln := Paired.length pz
        refine ⟨xs, x5, sz_lt (by omega), l ++ [z], xs ++ [v], upd_same, ?_, by simp [hl], ?_, (r4.trans r5).mut hG hsG, t5.mut hsG⟩
        · exact Paired.snoc (pmono (fun _ _ q => SumV.mut x5 (SumV.dk r4.st r5 q)) pz) (SumV.mut x5 hv)
        · intro a ha
          rcases List.mem_append.mp ha with ha | ha
          · exact hz a ha
          · rw [List.mem_singleton.mp ha]
            exact ⟨z1, z2, z3⟩
      · rintro H4 ⟨l, xs, hxs, pz, hl, hz, r4, t4⟩
        rw [Int.toNat_natCast] at hl
        have x4 := r4.keep D _ (Ne.symm hsD) x3
        have p4 : Paired (LyX K s D H4) ys ls := pmono (fun _ _ q => ⟨LyS.dk t3.lst r4 q.1, q.2⟩) p3
        have hly := Paired.length p4
        have hi5 : i < 5 := by omega
        refine ⟨D, ys, _, rfl, rfl, x4, sz_lt (by omega), ?_⟩
        have em : ∀ {b : Addr} {o : HO}, b ≠ D → H4 b = some o → upd H4 D (.lst (ys ++ [.ref G])) b = some o := fun hb ho => by
          rw [upd_ne hb]
          exact ho
        have lm : ∀ {v l}, LyX K s D H4 v l → LyX K s D (upd H4 D (.lst (ys ++ [.ref G]))) v l := by
          rintro v l ⟨⟨a, zs, rfl, na, qa, pa⟩, nv⟩
          exact ⟨⟨a, zs, rfl, na, em (fun z => nv (by rw [z])) qa, pmono (fun _ _ => SumV.mut x4) pa⟩, nv⟩
        obtain ⟨v1, v2⟩ := over_snoc ov (l := l) (by rw [la]; exact fun z hz' => (hz z hz').1) (by omega) (by omega)
        refine ⟨_, rfl, _, some (.int (m : Int)), _, m, ls ++ [l], ys ++ [.ref G], rfl, upd_same, ?_, by simp [hn], v1, v2.trans (by omega), m1, m4, ?_, (R3.trans r4).mut hD hsD, t4.mut hsD⟩
        · exact Paired.snoc (pmono (fun _ _ => lm) p4) ⟨⟨G, xs, rfl, Ne.symm hsG, em (Ne.symm hDG) hxs, pmono (fun _ _ => SumV.mut x4) pz⟩, fun e => hDG (V.ref.inj e).symm⟩
        · intro a ha z hz'
          rcases List.mem_append.mp ha with ha | ha
          · exact nu a ha z hz'
          · rw [List.mem_singleton.mp ha] at hz'
            exact (hz z hz').2
    · rintro σ H2 ⟨o4, o5, o6, n', ls, ys, rfl, hx, pl, hn, ov, la, a1, a4, nu, r2, t2⟩
      exact ⟨_, rfl, q D ls H2 hD r2 t2 ⟨Ne.symm hsD, ys, hx, pmono (fun _ _ q => q.1) pl⟩ ov (by omega) (by omega) nu⟩
theorem ok__law_order (D : Df K mg "_law_order" s__law_order ["_law_many", "_law_one", "_law_other"]) (mlist : mg "list" = none) (mrange : mg "range" = none) : Ok P w K mg base 1 "_law_order" ["_law_many", "_law_one", "_law_other"] spOrder := by
  refine D.ok fun f fd F => F.ok sc__law_order (fun vs H Q E h => ?_) (fun cdv A outer s H vs Q E hr h => ?_)
  · obtain ⟨m, a, b, rfl, _⟩ := h
    rfl
  · obtain ⟨m, a, b, rfl, ha, hb, hm, q⟩ := h
    refine ⟨_, (pss_cons (ps_set (i := 3) sc__law_order.nd rfl (.inl rfl) (pe_listRg rfl (by rfl) mlist (prg_1 (by rfl) mrange (pv 0))))
      (pss_cons (ps_asg (pe_tup (pa_cons (pv 2) (pa_cons (pv 1) pa_nil))) (pg_tup rfl (pgs_cons (pg_sub (pv 3) (pv 1) set_list) (pgs_cons (pg_sub (pv 3) (pv 2) set_list) pgs_nil))))
      (pss_one (ps_ret (pv 3))))), ?_⟩
    refine ⟨_, rfl, _, rfl, ⟨by decide, by decide, by omega, by omega, by omega⟩, fun F hF => ?_⟩
    have e1 : Ex H (upd H F (.lst (rgV 0 (m : Int)))) := Ex.new hF
    have k1 : upd H F (.lst (rgV 0 (m : Int))) F = some (.lst (rgV 0 (m : Int))) := upd_same
    generalize upd H F (.lst (rgV 0 (m : Int))) = H1 at e1 k1 ⊢
    refine ⟨_, rfl, _, rfl, (by show 2 ≤ sizeLine; decide), fun t ht => ?_⟩
    have e2 : Ex H1 (upd H1 t (.tup [.int (b : Int), .int (a : Int)])) := Ex.new ht
    have k2 : upd H1 t (.tup [.int (b : Int), .int (a : Int)]) t = some (.tup [.int (b : Int), .int (a : Int)]) := upd_same
    have f2 := e2 _ _ k1
    have nF : t ≠ F := (ne_of_none k1 ht).symm
    generalize upd H1 t (.tup [.int (b : Int), .int (a : Int)]) = H2 at e2 k2 f2 ⊢
    have hlen : (rgV 0 (m : Int)).length = m := by simp [rgV]
    have i1 : ixN (rgV 0 (m : Int)).length (a : Int) = some a := by
      unfold ixN
      rw [hlen, if_pos (by omega), if_pos (by omega), Int.toNat_natCast]
    have i2 : ixN ((rgV 0 (m : Int)).set a (.int (b : Int))).length (b : Int) = some b := by
      unfold ixN
      rw [List.length_set, hlen, if_pos (by omega), if_pos (by omega), Int.toNat_natCast]
    refine ⟨t, _, rfl, st_of k2, rfl, _, _, rfl, _, rfl, _, rfl, F, _, _, a, rfl, rfl, f2, i1, _, _, rfl, _, rfl, _, rfl, F, _, _, b, rfl, rfl, upd_same, i2, rfl, _, rfl, ?_⟩
    refine q F _ (Ex.mut (Ex.mut (e1.trans e2) hF) hF) ?_
    rw [upd_same]
    congr 2
    refine List.ext_getElem? fun k => ?_
    by_cases hk : k < m
    · rw [List.getElem?_map, List.getElem?_range hk]
      by_cases kb : k = b
      · subst kb
        rw [List.getElem?_set_self (by rw [List.length_set, hlen]; exact hk)]
        simp
      · rw [List.getElem?_set_ne (Ne.symm kb)]
        by_cases ka : k = a
        · subst ka
          rw [List.getElem?_set_self (by rw [hlen]; exact hk)]
          simp [kb]
        · rw [List.getElem?_set_ne (Ne.symm ka)]
          simp [rgV, hk, ka, kb]
    · rw [List.getElem?_eq_none (by simp [rgV]; omega), List.getElem?_eq_none (by simp; omega)]
end

end K12
end
section
set_option maxRecDepth 100000
set_option maxHeartbeats 400000
namespace K12
open PySem Evl Nc PyProof.Rows
open L2 hiding spCell
section
variable {P : Program} {w : World} {K : PySem.W.Frag} {mg : Str → Option Value} {base : Heap}
theorem ok_is_whole (D : Df K mg "is_whole" s_is_whole ["thing"]) (misi : mg "isinstance" = none) (mint : mg "int" = none) (mbool : mg "bool" = none) : Ok P w K mg base 1 "is_whole" ["thing"] (spWh K) := by
  refine D.ok fun f fd F => F.ok sc_is_whole (fun vs H Q E h => ?_) (fun cdv A outer s H vs Q E hr h => ?_)
  · obtain ⟨v, k, rfl, _⟩ := h
    rfl
  · obtain ⟨v, k, rfl, hk, q⟩ := h
    refine ⟨_, pss_one (ps_ret (pe_and (pe_callB call_isi (by rfl) misi (by decide +kernel) (pa_cons (pv 0) (pa_cons (pe_bltn (v := .ty "int") (by rfl) mint (by decide +kernel) rfl) pa_nil))) (pe_one (pe_not (pe_callB call_isi (by rfl) misi (by decide +kernel) (pa_cons (pv 0) (pa_cons (pe_bltn (v := .ty "bool") (by rfl) mbool (by decide +kernel) rfl) pa_nil))))))), ?_⟩
    refine ⟨_, rfl, v, _, _, _, _, rfl, .ty _, hk.1, kit_ty (kd_int k), _, rfl, ifB (fun e => ?_) (fun e => ?_)⟩
    · refine ⟨_, rfl, v, _, _, _, _, rfl, .ty _, hk.1, kit_ty (kd_bool k), _, rfl, ?_⟩
      cases k <;> first | exact q | exact absurd e (by decide)
    · cases k <;> first | exact q | exact absurd e (by decide)
theorem ok_is_fraction (D : Df K mg "is_fraction" s_is_fraction ["thing"]) (GW : Ok P w K mg base 1 "is_whole" ["thing"] (spWh K)) (misi : mg "isinstance" = none) (mtuple : mg "tuple" = none) (mlen : mg "len" = none) (mgcd : mg "gcd" = some (.builtin "math.gcd")) : Ok P w K mg base 2 "is_fraction" ["thing"] (spFr K) := by
  refine D.ok fun f fd F => F.ok sc_is_fraction (fun vs H Q E h => ?_) (fun cdv A outer s H vs Q E hr h => ?_)
  · obtain ⟨v, b, rfl, _⟩ := h
    rfl
  · obtain ⟨v, b, rfl, ht, q⟩ := h
    have hr1 : Room 1 _ := hr.mono (by decide)
    refine ⟨_, (pss_cons (ps_if (PW.pt (pw_or (pt_not (pt_val (pe_callB call_isi (by rfl) misi (by decide +kernel) (pa_cons (pv 0) (pa_cons (pe_bltn (v := .ty "tuple") (by rfl) mtuple (by decide +kernel) rfl) pa_nil))))) (pw_or1 (pt_cmpR op_ne (pe_callB call_len_seq (by rfl) mlen PySem.boot_len (pa_cons (pv 0) pa_nil)) pe_int (nomark _))))) (pss_one (ps_ret pe_bl)) pss_nil)
      (pss_cons (ps_asg (pv 0) (pg_tup rfl (pgs_cons (pg_name (i := 1) sc_is_fraction.nd rfl (.inl rfl)) (pgs_cons (pg_name (i := 2) sc_is_fraction.nd rfl (.inl rfl)) pgs_nil))))
      (pss_one (ps_ret (pe_and (cl GW hr1 (pa_cons (pv 1) pa_nil)) (pe_and (cl GW hr1 (pa_cons (pv 2) pa_nil)) (pe_and (pe_cmpR op_gt (pv 2) pe_int (nomark _)) (pe_one (pe_cmpR op_eq (pe_callBfun cr_gcd (by rfl) mgcd (pa_cons (pv 1) (pa_cons (pv 2) pa_nil))) pe_int (nomark _)))))))))), ?_⟩
    cases ht with
    | oth h n =>
      refine ⟨_, rfl, v, _, _, _, _, rfl, .ty _, h.1, kit_ty (kd_tup _), _, rfl, ?_⟩
      rw [decide_eq_false n]
      exact iteT (iteT q)
    | tupN qt n =>
      refine ⟨_, rfl, _, _, _, _, _, rfl, .ty _, tyT qt, kit_ty (r := true) (by decide +kernel), _, rfl, ?_⟩
      refine iteF ?_
      refine ⟨_, rfl, _, _, rfl, .inr qt, rfl, _, rfl, ifB (fun e => q) (fun e => ?_)⟩
      have e1 := eq_of_nd e
      exact (n (by omega)).elim
    | @two t x y kx ky qt hx hy n =>
      refine ⟨_, rfl, _, _, _, _, _, rfl, .ty _, tyT qt, kit_ty (r := true) (by decide +kernel), _, rfl, ?_⟩
      refine iteF ?_
      refine ⟨_, rfl, _, _, rfl, .inr qt, rfl, _, rfl, iteNS rfl ?_⟩
      refine ⟨_, rfl, t, [x, y], rfl, qt, rfl, x, [y], rfl, y, [], rfl, rfl, ?_⟩
      refine ⟨_, rfl, x, kx, rfl, hx, _, rfl, ifB (fun e => ?_) (fun e => q)⟩
      refine ⟨_, rfl, y, ky, rfl, hy, _, rfl, ifB (fun e2 => ?_) (fun e2 => q)⟩
      exact (n ⟨of_decide_eq_true e, of_decide_eq_true e2⟩).elim
    | @nums t a b qt =>
      refine ⟨_, rfl, _, _, _, _, _, rfl, .ty _, tyT qt, kit_ty (r := true) (by decide +kernel), _, rfl, ?_⟩
      refine iteF ?_
      refine ⟨_, rfl, _, _, rfl, .inr qt, rfl, _, rfl, iteNS rfl ?_⟩
      refine ⟨_, rfl, t, [.int a, .int b], rfl, qt, rfl, _, [_], rfl, _, [], rfl, rfl, ?_⟩
      refine ⟨_, rfl, _, .int, rfl, ⟨tyI a, fun _ => ⟨a, rfl⟩⟩, _, rfl, iteT ?_⟩
      refine ⟨_, rfl, _, .int, rfl, ⟨tyI b, fun _ => ⟨b, rfl⟩⟩, _, rfl, iteT ?_⟩
      refine ⟨_, rfl, _, _, rfl, rfl, _, rfl, ifB (fun e => ?_) (fun e => ?_)⟩
      · refine ⟨_, rfl, _, rfl, a, b, rfl, rfl, ?_⟩
        rw [e, Bool.true_and] at q
        exact q_bl q (dec_int _)
      · rw [e, Bool.false_and] at q
        exact q
theorem ok_is_row (D : Df K mg "is_row" s_is_row ["thing", "many"]) (GF : Ok P w K mg base 2 "is_fraction" ["thing"] (spFr K)) (misi : mg "isinstance" = none) (mtuple : mg "tuple" = none) (mlen : mg "len" = none) (mall : mg "all" = none) : Ok P w K mg base 3 "is_row" ["thing", "many"] (spIsRw K) := by
  refine D.ok fun f fd F => F.ok sc_is_row (fun vs H Q E h => ?_) (fun cdv A outer s H vs Q E hr h => ?_)
  · obtain ⟨v, k, f, rfl, _⟩ := h
    rfl
  · obtain ⟨v, k, f, rfl, hw, q⟩ := h
    refine ⟨_, (pss_cons (ps_if (PW.pt (pw_or (pt_not (pt_val (pe_callB call_isi (by rfl) misi (by decide +kernel) (pa_cons (pv 0) (pa_cons (pe_bltn (v := .ty "tuple") (by rfl) mtuple (by decide +kernel) rfl) pa_nil))))) (pw_or1 (pt_cmpR op_ne (pe_callB call_len_seq (by rfl) mlen PySem.boot_len (pa_cons (pv 0) pa_nil)) (pv 1) (nomark _))))) (pss_one (ps_ret pe_bl)) pss_nil)
      (pss_one (ps_ret (pe_callB (cr_all rfl) (by rfl) mall (by decide +kernel) (pa_cons (pe_lc (own := [("part", 2)]) (g := gName 2) (tt := tYes) rfl sc_is_row.nd (pi_tup (pv 0)) (blkOk_by (N := ["thing", "many", "part"]) (sc := defScope s_is_row) (by decide +kernel)) (fun _ _ _ _ _ => (pg_name (i := 2) sc_is_row.nd rfl (.inl rfl))) (fun _ _ _ _ _ => pts_nil) (fun _ _ _ _ _ => cl GF (hr.mono (by decide)) (pa_cons (pv 2) pa_nil))) pa_nil))))), ?_⟩
    cases hw with
    | oth h n =>
      refine ⟨_, rfl, v, _, _, _, _, rfl, .ty _, h.1, kit_ty (kd_tup _), _, rfl, ?_⟩
      rw [decide_eq_false n]
      exact iteT (iteT (q _ (Ex.refl H)))
    | @tup t xs bs qt p z =>
      have hl := Paired.length p
      refine ⟨_, rfl, _, _, _, _, _, rfl, .ty _, tyT qt, kit_ty (r := true) (by decide +kernel), _, rfl, iteF ?_⟩
      refine ⟨_, rfl, _, _, rfl, .inr qt, _, rfl, rfl, _, rfl, ifB (fun e => ?_) (fun e => ?_)⟩
      · refine q_bl (q _ (Ex.refl H)) ?_
        show _ = (decide ((bs.length : Int) = k) && bs.all id)
        rw [← hl, ne_of_nd e, Bool.false_and]
      · have e1 := eq_of_nd e
        subst e1
        refine ⟨_, rfl, t, rfl, ⟨_, qt⟩, fun D hD => ?_⟩
        refine lc_tup (K := K) (a := t) (xs := xs) (fun i H' => Ex H H' ∧ H' D = some (.lst ((bs.take i).map V.bl))) ⟨Ex.new hD, upd_same⟩ (fun i H' _ b => ex_t b.1 qt) ?_ ?_
        · rintro i x H' hi ⟨e1, k1⟩
          obtain ⟨b, hb, th⟩ := pget p hi
          have hlt := (List.getElem?_eq_some_iff.mp hi).1
          refine ⟨rfl, ?_⟩
          refine ⟨_, rfl, x, b, rfl, th_exx e1 th, _, k1, sz_lt (by rw [List.length_map, List.length_take]; omega), Ex.mut e1 hD, ?_⟩
          rw [List.take_add_one, hb, List.map_append]
          exact upd_same
        · rintro H1 ⟨e1, k1⟩
          refine ⟨D, bs, rfl, sq_of ?_, ?_⟩
          · rw [k1, List.take_of_length_le (by omega)]
          · refine q_bl (q _ e1) ?_
            show _ = (decide ((bs.length : Int) = (xs.length : Int)) && bs.all id)
            rw [decide_eq_true (by omega), Bool.true_and]
theorem ok_is_sum (D : Df K mg "is_sum" s_is_sum ["thing", "many"]) (GR : Ok P w K mg base 3 "is_row" ["thing", "many"] (spIsRw K)) (GF : Ok P w K mg base 2 "is_fraction" ["thing"] (spFr K)) (misi : mg "isinstance" = none) (mtuple : mg "tuple" = none) (mlen : mg "len" = none) : Ok P w K mg base 4 "is_sum" ["thing", "many"] (spIsSum K) := by
  refine D.ok fun f fd F => F.ok sc_is_sum (fun vs H Q E h => ?_) (fun cdv A outer s H vs Q E hr h => ?_)
  · obtain ⟨x, z, rfl, _⟩ := h
    rfl
  · obtain ⟨x, z, rfl, ⟨t, a, b, rfl, qt, ra, fb⟩, hl, q⟩ := h
    have hr2 : Room 2 _ := hr.mono (by decide)
    refine ⟨_, (pss_cons (ps_if (PW.pt (pw_or (pt_not (pt_val (pe_callB call_isi (by rfl) misi (by decide +kernel) (pa_cons (pv 0) (pa_cons (pe_bltn (v := .ty "tuple") (by rfl) mtuple (by decide +kernel) rfl) pa_nil))))) (pw_or1 (pt_cmpR op_ne (pe_callB call_len_seq (by rfl) mlen PySem.boot_len (pa_cons (pv 0) pa_nil)) pe_int (nomark _))))) (pss_one (ps_ret pe_bl)) pss_nil)
      (pss_cons (ps_asg (pv 0) (pg_tup rfl (pgs_cons (pg_name (i := 2) sc_is_sum.nd rfl (.inl rfl)) (pgs_cons (pg_name (i := 3) sc_is_sum.nd rfl (.inl rfl)) pgs_nil))))
      (pss_one (ps_ret (pe_and (cl GR hr (pa_cons (pv 2) (pa_cons (pv 1) pa_nil))) (pe_one (cl GF hr2 (pa_cons (pv 3) pa_nil)))))))), ?_⟩
    refine ⟨_, rfl, _, _, _, _, _, rfl, .ty _, tyT qt, kit_ty (r := true) (by decide +kernel), _, rfl, iteF ?_⟩
    refine ⟨_, rfl, _, _, rfl, .inr qt, rfl, _, rfl, iteNS rfl ?_⟩
    refine ⟨_, rfl, t, [a, b], rfl, qt, rfl, a, [b], rfl, b, [], rfl, rfl, ?_⟩
    refine ⟨_, rfl, _, rfl, a, _, _, rfl, ra.rw hl, fun H1 e1 => ⟨_, rfl, ?_⟩⟩
    rw [rwB_rep]
    exact iteT ⟨_, rfl, b, true, rfl, (fb.ex e1).th, q H1 e1⟩
theorem ok__are_ins (D : Df K mg "_are_ins" s__are_ins ["thing"]) {tMI : Tok} (GW : Ok P w K mg base 1 "is_whole" ["thing"] (spWh K)) (mMI : mg "MOST_INS" = some (.int 3 tMI)) : Ok P w K mg base 2 "_are_ins" ["thing"] spAreIns := by
  refine D.ok fun f fd F => F.ok sc__are_ins (fun vs H Q E h => ?_) (fun cdv A outer s H vs Q E hr h => ?_)
  · obtain ⟨n, rfl, _⟩ := h
    rfl
  · obtain ⟨n, rfl, n1, n3, q⟩ := h
    refine ⟨_, pss_one (ps_ret (pe_and (cl GW hr (pa_cons (pv 0) pa_nil)) (pe_one (pe_chain op_le op_le pe_int (pv 0) (pe_glob (v := .int 3) (by rfl) mMI ⟨_, rfl⟩))))), ?_⟩
    refine ⟨_, rfl, _, .int, rfl, ⟨tyI _, fun _ => ⟨_, rfl⟩⟩, _, rfl, ite_t (decide_eq_true rfl) ?_⟩
    refine ⟨_, rfl, _, _, rfl, rfl, _, rfl, ite_t (decide_eq_true (by omega)) ?_⟩
    exact ⟨_, _, rfl, rfl, q_bl q (decide_eq_true (by omega))⟩
theorem ok__are_layers (D : Df K mg "_are_layers" s__are_layers ["thing", "ins"]) {tML tMN : Tok} (GI : Ok P w K mg base 4 "is_sum" ["thing", "many"] (spIsSum K)) (mML : mg "MOST_LAYERS" = some (.int 4 tML)) (mMN : mg "MOST_NODES" = some (.int 4 tMN)) (misi : mg "isinstance" = none) (mtuple : mg "tuple" = none) (mlist : mg "list" = none) (mlen : mg "len" = none) (mall : mg "all" = none) : Ok P w K mg base 5 "_are_layers" ["thing", "ins"] (spAreLays K) := by
  refine D.ok fun f fd F => F.ok sc__are_layers (fun vs H Q E h => ?_) (fun cdv A outer s H vs Q E hr h => ?_)
  · obtain ⟨x, n, ls, W, rfl, _⟩ := h
    rfl
  · obtain ⟨x, n, ls, W, rfl, ⟨D, ys, rfl, qD, pl⟩, ok, q⟩ := h
    refine ⟨_, (pss_cons (ps_if (PW.pt (pw_or (pt_not (pt_val (pe_callB call_isiT (by rfl) misi (by decide +kernel) (pa_cons (pv 0) (pa_cons (pe_tup (pa_cons (pe_bltn (v := .ty "list") (by rfl) mlist (by decide +kernel) rfl) (pa_cons (pe_bltn (v := .ty "tuple") (by rfl) mtuple (by decide +kernel) rfl) pa_nil))) pa_nil))))) (pw_or1 (pt_not (pt_chain op_le op_le pe_int (pe_callB call_len_seq (by rfl) mlen PySem.boot_len (pa_cons (pv 0) pa_nil)) (pe_glob (v := .int 4) (by rfl) mML ⟨_, rfl⟩)))))) (pss_one (ps_ret pe_bl)) pss_nil)
      (pss_cons (ps_set (i := 2) sc__are_layers.nd rfl (.inr rfl) (pv 1))
      (pss_cons (ps_for PassesOwn.never rfl (pi_list (pv 0)) (pg_name (i := 3) sc__are_layers.nd rfl (.inl rfl)) (pss_cons (ps_if (PW.pt (pw_or (pt_not (pt_val (pe_callB call_isiT (by rfl) misi (by decide +kernel) (pa_cons (pv 3) (pa_cons (pe_tup (pa_cons (pe_bltn (v := .ty "list") (by rfl) mlist (by decide +kernel) rfl) (pa_cons (pe_bltn (v := .ty "tuple") (by rfl) mtuple (by decide +kernel) rfl) pa_nil))) pa_nil))))) (pw_or1 (pt_not (pt_chain op_le op_le pe_int (pe_callB call_len_seq (by rfl) mlen PySem.boot_len (pa_cons (pv 3) pa_nil)) (pe_glob (v := .int 4) (by rfl) mMN ⟨_, rfl⟩)))))) (pss_one (ps_ret pe_bl)) pss_nil)
      (pss_cons (ps_if (pt_not (pt_val (pe_callB (cr_all rfl) (by rfl) mall (by decide +kernel) (pa_cons (pe_lc (own := [("node", 4)]) (g := gName 4) (tt := tYes) rfl sc__are_layers.nd (pi_list (pv 3)) (blkOk_by (N := ["thing", "ins", "ahead", "nodes", "node"]) (sc := defScope s__are_layers) (by decide +kernel)) (fun _ _ _ _ _ => (pg_name (i := 4) sc__are_layers.nd rfl (.inl rfl))) (fun _ _ _ _ _ => pts_nil) (fun _ _ _ _ _ => cl GI hr (pa_cons (pv 4) (pa_cons (pv 2) pa_nil)))) pa_nil)))) (pss_one (ps_ret pe_bl)) pss_nil)
      (pss_one (ps_set (i := 2) sc__are_layers.nd rfl (.inr rfl) (pe_callB call_len_seq (by rfl) mlen PySem.boot_len (pa_cons (pv 3) pa_nil)))))))
      (pss_one (ps_ret pe_bl))))), ?_⟩
    have hly := Paired.length pl
    have l1 := ok.l1
    have l4 := ok.l4
    have n3 := ok.n3
    refine ⟨_, rfl, (by show 2 ≤ sizeLine; decide), fun p hp => ?_⟩
    have e1 : Ex H (upd H p (.tup [.ty "list", .ty "tuple"])) := Ex.new hp
    refine ⟨_, p, _, _, _, _, rfl, upd_same, .cons (.ty _) (.cons (.ty _) .nil), tyL (ex_l e1 qD), kitLT, _, rfl, iteF ?_⟩
    generalize upd H p (.tup [.ty "list", .ty "tuple"]) = H1 at e1 ⊢
    refine ⟨_, rfl, D, _, rfl, .inl (ex_l e1 qD), _, _, rfl, rfl, _, rfl, ite_t (decide_eq_true (by omega)) ⟨_, _, rfl, rfl, _, rfl, ite_nt (decide_eq_true (by omega)) ?_⟩⟩
    refine ⟨_, rfl, _, rfl, D, rfl, ⟨_, ex_l e1 qD⟩, for_list (K := K) (a := D) (xs := ys) (fun i σ H' => ∃ (n' : Nat) (o3 o4 : Option V), σ = [some (.ref D), some (.int (n : Int)), some (.int (n' : Int)), o3, o4] ∧ Ex H H' ∧ n' ≤ 4 ∧ Over n' (ls.drop i)) ⟨n, none, none, rfl, e1, by omega, ok.over⟩ (fun i σ H' _ ⟨_, _, _, _, e, _⟩ => ex_l e qD) ?_ ?_⟩
    · rintro i v σ H2 hi ⟨n', o3, o4, rfl, e2, hn4, ov⟩
      obtain ⟨l, hl, lv⟩ := pget pl hi
      obtain ⟨a, xs, rfl, qa, pz⟩ := lv.ex e2
      rw [drop_at hl] at ov
      obtain ⟨o1, ⟨o2, o2'⟩, o5⟩ := ov
      have hlx := Paired.length pz
      refine ⟨_, rfl, (by show 2 ≤ sizeLine; decide), fun p hp => ?_⟩
      have e3 : Ex H2 (upd H2 p (.tup [.ty "list", .ty "tuple"])) := Ex.new hp
      refine ⟨_, p, _, _, _, _, rfl, upd_same, .cons (.ty _) (.cons (.ty _) .nil), tyL (ex_l e3 qa), kitLT, _, rfl, iteF ?_⟩
      generalize upd H2 p (.tup [.ty "list", .ty "tuple"]) = H3 at e3 ⊢
      have qa3 := ex_l e3 qa
      have pz3 : Paired (SumV K H3) xs l := pmono (fun _ _ => SumV.ex e3) pz
      refine ⟨_, rfl, a, _, rfl, .inl qa3, _, _, rfl, rfl, _, rfl, ite_t (decide_eq_true (by omega)) ⟨_, _, rfl, rfl, _, rfl, ite_nt (decide_eq_true (by omega)) ?_⟩⟩
      refine ⟨_, rfl, a, rfl, ⟨_, qa3⟩, fun G hG => ?_⟩
      refine lc_list (K := K) (a := a) (xs := xs) (fun j H' => Ex H3 H' ∧ H' G = some (.lst ((List.replicate j true).map V.bl))) ⟨Ex.new hG, upd_same⟩ (fun j H' _ b => ex_l b.1 qa3) ?_ ?_
      · rintro j y H' hj ⟨e4, k4⟩
        obtain ⟨z, hz, sz⟩ := pget pz3 hj
        have hjl := (List.getElem?_eq_some_iff.mp hj).1
        have z1 := o1 z (List.mem_of_getElem? hz)
        refine ⟨rfl, ?_⟩
        refine ⟨_, rfl, _, rfl, y, z, (by rw [z1]; rfl), sz.ex e4, by omega, fun H5 e5 => ⟨_, e5 _ _ k4, sz_lt (by simp; omega), Ex.mut (e4.trans e5) hG, ?_⟩⟩
        rw [List.replicate_succ', List.map_append]
        exact upd_same
      · rintro H5 ⟨e5, k5⟩
        refine ⟨G, _, rfl, sq_of k5, _, rfl, ite_nt (by simp) ?_⟩
        have E5 := e3.trans e5
        exact ⟨_, rfl, a, _, rfl, .inl (ex_l E5 qa), xs.length, _, _, rfl, e2.trans E5, by omega, by rw [hlx]; exact o5⟩
    · rintro σ H2 ⟨n', o3, o4, rfl, e2, _, _⟩
      exact q H2 e2
theorem ok_cut_at_nought (D : Df K mg "cut_at_nought" s_cut_at_nought ["one"]) (CN : Cst K mg "NOUGHT" 0) : Ok P w K mg base 1 "cut_at_nought" ["one"] (spCutQ K) := by
  refine D.ok fun f fd F => F.ok sc_cut_at_nought (fun vs H Q E h => ?_) (fun cdv A outer s H vs Q E hr h => ?_)
  · obtain ⟨x, r, rfl, _⟩ := h
    rfl
  · obtain ⟨x, r, rfl, hx, q⟩ := h
    obtain ⟨aN, gN, hN⟩ := CN.ex
    refine ⟨_, pss_cons (ps_if (pt_cmpR op_lt (pe_ix ix_tup (pv 0) pe_int (fun _ _ => rfl)) pe_int (nomark _)) (pss_one (ps_ret (pe_glob (v := .ref aN) (by rfl) gN rfl))) pss_nil) (pss_one (ps_ret (pv 0))), ?_⟩
    have fx := hx
    obtain ⟨t, rfl, qx⟩ := hx
    refine ⟨_, rfl, _, _, _, _, rfl, rfl, qx, at0, _, _, rfl, rfl, _, rfl, ite2 (fun hd => ?_) (fun hd => ?_)⟩
    · refine q _ ?_
      unfold cutQ
      rw [if_pos (of_decide_eq_true hd)]
      exact hN H
    · refine ⟨_, rfl, q _ ?_⟩
      unfold cutQ
      rw [if_neg (fun z => hd (decide_eq_true z))]
      exact fx
theorem ok__reckoned (D : Df K mg "_reckoned" s__reckoned ["nodes", "ahead"]) (GS : Ok P w K mg base 4 "sum_at" ["one", "row"] (spTellsD K)) (mtuple : mg "tuple" = none) : Ok P w K mg base 5 "_reckoned" ["nodes", "ahead"] (spReckD K) := by
  refine D.ok fun f fd F => F.ok sc__reckoned (fun vs H Q E h => ?_) (fun cdv A outer s H vs Q E hr h => ?_)
  · obtain ⟨x, y, l, L, m, W, D, rfl, _⟩ := h
    rfl
  · obtain ⟨x, y, l, L, m, W, D, rfl, ⟨t, xs, rfl, qt, lz⟩, hy, k, q⟩ := h
    refine ⟨_, pss_one (ps_ret (pe_callTy call_tuple_of (by rfl) mtuple (by decide +kernel) (pa_cons (pe_lc (own := [("node", 2)]) (g := gName 2) (tt := tYes) rfl sc__reckoned.nd (pi_tup (pv 0)) (blkOk_by (N := ["nodes", "ahead", "node"]) (sc := defScope s__reckoned) (by decide +kernel)) (fun _ _ _ _ _ => (pg_name (i := 2) sc__reckoned.nd rfl (.inl rfl))) (fun _ _ _ _ _ => pts_nil) (fun _ _ _ _ _ => cl GS hr (pa_cons (pv 2) (pa_cons (pv 1) pa_nil)))) pa_nil))), ?_⟩
    have hlen := Paired.length lz
    have hm := k.many
    have hL4 := k.len
    refine ⟨_, rfl, t, rfl, ⟨_, qt⟩, fun G hG => ?_⟩
    refine lc_tup (xs := xs) (Bld (FrV K) H G (l.map fun z => tells z L)) (bld0 hG) (fun i H' _ b => ex_t b.1 qt) ?_ ?_
    · rintro i x H' hx b
      obtain ⟨z, hz1, fz⟩ := pget lz hx
      obtain ⟨n1, n2, n3⟩ := k.nodes z (List.mem_of_getElem? hz1)
      refine ⟨rfl, ?_⟩
      refine ⟨_, rfl, _, rfl, x, y, z, L, m, W, D, rfl, fz.ex b.1, hy.ex b.1, n1, by omega, n2, n3, k.row, k.top, k.pos, k.lt, fun v H4 e4 hv => ?_⟩
      refine bld_step stF hG b e4 ?_ ?_ hv
      · rw [List.getElem?_map, hz1]
        rfl
      · have := (List.getElem?_eq_some_iff.mp hx).1
        omega
    · intro H' b
      obtain ⟨e1, ws, hws, pz⟩ := bld_end (by simp; omega) b
      refine ⟨G, ws, rfl, .inl ⟨sq_of hws, fun l hl' => ?_⟩⟩
      exact q _ _ (e1.trans (Ex.new hl')) (bld_row (n := 0) hws pz hl')
theorem ok_Layer_told {C : Addr} (D : Md K C "told" "Layer.told" s_Layer_told ["self"]) (T : Cls K C) (nA : NoAttr K C "_nodes") : MOk P w K mg base 1 C "told" ["self"] (spToldL C) := by
  refine D.ok fun f fd F => F.ok sc_Layer_told (fun vs H Q E h => ?_) (fun cdv A outer s H vs Q E hr h => ?_)
  · obtain ⟨p, v, rfl, _⟩ := h
    rfl
  · obtain ⟨p, v, rfl, ⟨dx, hp⟩, q⟩ := h
    refine ⟨_, pss_one (ps_ret (pe_fld (pv 0) rfl)), ?_⟩
    exact ⟨_, rfl, p, C, dx, _, v, rfl, hp, T, nA, rfl, q⟩
theorem ok_CutLayer_told {C : Addr} (D : Md K C "told" "CutLayer.told" s_CutLayer_told ["self"]) (T : Cls K C) (nA : NoAttr K C "_nodes") : MOk P w K mg base 1 C "told" ["self"] (spToldL C) := by
  refine D.ok fun f fd F => F.ok sc_CutLayer_told (fun vs H Q E h => ?_) (fun cdv A outer s H vs Q E hr h => ?_)
  · obtain ⟨p, v, rfl, _⟩ := h
    rfl
  · obtain ⟨p, v, rfl, ⟨dx, hp⟩, q⟩ := h
    refine ⟨_, pss_one (ps_ret (pe_fld (pv 0) rfl)), ?_⟩
    exact ⟨_, rfl, p, C, dx, _, v, rfl, hp, T, nA, rfl, q⟩
theorem ok_Layer_sums {C : Addr} (D : Md K C "sums" "Layer.sums" s_Layer_sums ["self", "ahead"]) (T : Cls K C) (nA : NoAttr K C "_nodes") (GR : Ok P w K mg base 5 "_reckoned" ["nodes", "ahead"] (spReckD K)) : MOk P w K mg base 6 C "sums" ["self", "ahead"] (spPassD K C) := by
  refine D.ok fun f fd F => F.ok sc_Layer_sums (fun vs H Q E h => ?_) (fun cdv A outer s H vs Q E hr h => ?_)
  · obtain ⟨p, v, y, l, L, m, W, D, rfl, _⟩ := h
    rfl
  · obtain ⟨p, v, y, l, L, m, W, D, rfl, ⟨dx, hp⟩, hv, hy, k, q⟩ := h
    refine ⟨_, pss_one (ps_ret (cl GR hr (pa_cons (pe_fld (pv 0) rfl) (pa_cons (pv 1) pa_nil)))), ?_⟩
    exact ⟨_, rfl, p, C, dx, _, v, rfl, hp, T, nA, rfl, _, rfl, v, y, l, L, m, W, D, rfl, hv, hy, k, q⟩
theorem ok_CutLayer_sums {C : Addr} (D : Md K C "sums" "CutLayer.sums" s_CutLayer_sums ["self", "ahead"]) (T : Cls K C) (nA : NoAttr K C "_nodes") (GR : Ok P w K mg base 5 "_reckoned" ["nodes", "ahead"] (spReckD K)) : MOk P w K mg base 6 C "sums" ["self", "ahead"] (spPassD K C) := by
  refine D.ok fun f fd F => F.ok sc_CutLayer_sums (fun vs H Q E h => ?_) (fun cdv A outer s H vs Q E hr h => ?_)
  · obtain ⟨p, v, y, l, L, m, W, D, rfl, _⟩ := h
    rfl
  · obtain ⟨p, v, y, l, L, m, W, D, rfl, ⟨dx, hp⟩, hv, hy, k, q⟩ := h
    refine ⟨_, pss_one (ps_ret (cl GR hr (pa_cons (pe_fld (pv 0) rfl) (pa_cons (pv 1) pa_nil)))), ?_⟩
    exact ⟨_, rfl, p, C, dx, _, v, rfl, hp, T, nA, rfl, _, rfl, v, y, l, L, m, W, D, rfl, hv, hy, k, q⟩
theorem fn_init {C : Addr} {f : Addr} {fd : FuncData} (F : Fun K "__init__" "Layer.__init__" s_Layer___init__ f fd) (T : Cls K C) (nA : NoAttr K C "_nodes") (mtuple : mg "tuple" = none) : FnOk P w K mg base CX0 1 f fd ["self", "nodes"] (spInitL K C) := by
  refine F.ok sc_Layer___init__ (fun vs H Q E h => ?_) (fun cdv A outer s H vs Q E hr h => ?_)
  · obtain ⟨p, dx, a, xs, zs, rfl, _⟩ := h
    rfl
  · obtain ⟨p, dx, a, xs, zs, rfl, hp, hx, lz, q⟩ := h
    refine ⟨_, pss_one (ps_fld (pv 0) (pe_callTy call_tuple_of (by rfl) mtuple (by decide +kernel) (pa_cons (pv 1) pa_nil)) rfl), ?_⟩
    refine ⟨_, rfl, a, xs, rfl, ?_⟩
    have fin : ∀ (H1 : Hp) (t : Addr), Ex H H1 → SqT K H1 t xs → Q .non (upd H1 p (.ins C dx [(("_nodes" : Str), .ref t)])) := by
      intro H1 t e1 ht
      have hp1 := e1 _ _ hp
      have mv : ∀ {u : Addr} {ys : List V}, SqT K H1 u ys → SqT K (upd H1 p (.ins C dx [(("_nodes" : Str), .ref t)])) u ys := by
        intro u ys hq
        rcases hq with (hq | ⟨o, hq⟩) | hq
        · exact .inl (.inl (by rw [upd_ne (ne_of hq hp1 (by intro z; cases z))]; exact hq))
        · exact .inl (.inr ⟨o, by rw [upd_ne (ne_of hq hp1 (by intro z; cases z))]; exact hq⟩)
        · exact .inr hq
      have mf : ∀ {v r}, FrV K H1 v r → FrV K (upd H1 p (.ins C dx [(("_nodes" : Str), .ref t)])) v r := by
        rintro v r ⟨u, rfl, hq⟩
        exact ⟨u, rfl, mv hq⟩
      refine q _ (.ref t) (fun b o hb ho => by rw [upd_ne hb]; exact e1 _ _ ho) ⟨dx, upd_same⟩ ⟨t, xs, rfl, mv ht, pmono (fun v z hz => ?_) lz⟩
      obtain ⟨u, a1, b1, rfl, q1, ⟨u2, ys, rfl, q2, l2⟩, f1⟩ := hz.ex e1
      exact ⟨u, _, _, rfl, mv q1, ⟨u2, ys, rfl, mv q2, pmono (fun _ _ => mf) l2⟩, mf f1⟩
    rcases hx with hx | hx
    · exact .inl ⟨hx, fun l hl => ⟨_, rfl, p, C, dx, [], rfl, (by rw [upd_ne (ne_of_none hp hl)]; exact hp), T, nA, (by show 0 < 1000; decide), fin _ l (Ex.new hl) (st_of upd_same)⟩⟩
    · exact .inr ⟨hx, _, rfl, p, C, dx, [], rfl, hp, T, nA, (by show 0 < 1000; decide), fin H a (Ex.refl H) hx⟩
end

end K12
end
section
set_option maxRecDepth 100000
set_option maxHeartbeats 400000
namespace K12
open PySem Evl Nc PyProof.Rows
open L2 hiding spCell
section
variable {P : Program} {w : World} {K : PySem.W.Frag} {mg : Str → Option Value} {base : Heap}
theorem ok_Net_sums_at {CN CL CC : Addr} (D : Md K CN "sums_at" "Net.sums_at" s_Net_sums_at ["self", "spot"]) (N : NDefs P w K mg base CN CL CC) (GR : Ok P w K mg base 3 "is_row" ["thing", "many"] (spIsRw K)) (GC : Ok P w K mg base 1 "cut_at_nought" ["one"] (spCutQ K)) (mtuple : mg "tuple" = none) : MOk P w K mg base 7 CN "sums_at" ["self", "spot"] (spSumsAt K CN CL CC) := by
  obtain ⟨fTL, dTL, mTL, FTL, bTL⟩ := N.toldL.ex
  obtain ⟨fTC, dTC, mTC, FTC, bTC⟩ := N.toldC.ex
  obtain ⟨fSL, dSL, mSL, FSL, bSL⟩ := N.sumsL.ex
  obtain ⟨fSC, dSC, mSC, FSC, bSC⟩ := N.sumsC.ex
  refine D.ok fun f fd F => F.ok sc_Net_sums_at (fun vs H Q E h => ?_) (fun cdv A outer s H vs Q E hr h => ?_)
  · obtain ⟨p, y, ls, L, W, D, rfl, _⟩ := h
    rfl
  · obtain ⟨p, y, ls, L, W, D, rfl, ⟨dx, t, ps, hp, qt, pl⟩, hy, ok, sL, ft, q⟩ := h
    have hr1 : Room 1 _ := hr.mono (by decide)
    have hr3 : Room 3 _ := hr.mono (by decide)
    refine ⟨_, (pss_cons (ps_if (pt_not (pt_val (cl GR hr3 (pa_cons (pv 1) (pa_cons (pe_fld (pv 0) rfl) pa_nil))))) (pss_one ps_never) pss_nil)
      (pss_cons (ps_set (i := 2) sc_Net_sums_at.nd rfl (.inl rfl) (pe_lst pa_nil))
      (pss_cons (ps_set (i := 3) sc_Net_sums_at.nd rfl (.inl rfl) (pv 1))
      (pss_cons (ps_for PassesOwn.never rfl (pi_tup (pe_fld (pv 0) rfl)) (pg_name (i := 4) sc_Net_sums_at.nd rfl (.inl rfl)) (pss_cut (ps_set (i := 5) sc_Net_sums_at.nd rfl (.inl rfl) (pe_or (pe_meth (pv 4) N.tL mSL FSL hr bSL .nil pass0 (pa_cons (pv 3) pa_nil)) (pe_meth (pv 4) N.tC mSC FSC hr bSC .nil pass0 (pa_cons (pv 3) pa_nil))))
      (pss_cons (ps_expr (pe_bm PySem.F.plainAttrs_list PySem.F.slot_list_append PySem.F.type_list_append mt_append (pv 2) (pa_cons (pv 5) pa_nil)))
      (pss_one (ps_set (i := 3) sc_Net_sums_at.nd rfl (.inl rfl) (pe_callTy call_tuple_of (by rfl) mtuple (by decide +kernel) (pa_cons (pe_lc (own := [("one", 6)]) (g := gName 6) (tt := tYes) rfl sc_Net_sums_at.nd (pi_tup (pv 5)) (blkOk_by (N := ["self", "spot", "found", "ahead", "layer", "sums", "one"]) (sc := defScope s_Net_sums_at) (by decide +kernel)) (fun _ _ _ _ _ => (pg_name (i := 6) sc_Net_sums_at.nd rfl (.inl rfl))) (fun _ _ _ _ _ => pts_nil) (fun _ _ _ _ _ => cl GC hr1 (pa_cons (pv 6) pa_nil))) pa_nil)))))))
      (pss_one (ps_ret (pv 2))))))), ?_⟩
    have n3 := ok.n3
    have hlen := Paired.length pl
    have hl4 := ok.l4
    refine ⟨_, rfl, _, rfl, p, CN, dx, _, _, rfl, hp, N.tN, N.nI, rfl, y, _, _, rfl, hy.rw (by omega), fun H1 e1 => ⟨_, rfl, ?_⟩⟩
    rw [rwB_rep]
    refine iteF ?_
    refine ⟨(by show 0 ≤ sizeLine; decide), fun F hF => ?_⟩
    have hF0 : H F = none := Option.eq_none_iff_forall_ne_some.mpr fun o ho => by
      rw [e1 _ _ ho] at hF
      cases hF
    have e2 : Ex H (upd H1 F (.lst [])) := e1.trans (Ex.new hF)
    have k2 : upd H1 F (.lst []) F = some (.lst []) := upd_same
    generalize upd H1 F (.lst []) = H2 at e2 k2 ⊢
    refine ⟨_, rfl, _, rfl, p, CN, dx, _, _, rfl, e2 _ _ hp, N.tN, N.nL, rfl, t, rfl, ⟨_, ex_t e2 qt⟩, ?_⟩
    refine for_tup (K := K) (a := t) (xs := ps) (fun i σ H' => ∃ (v3 : V) (o4 o5 o6 : Option V) (xs : List V) (A : List Rat) (dn : List (List Rat)), σ = [some (.ref p), some y, some (.ref F), some v3, o4, o5, o6] ∧ Ex H H' ∧ H' F = some (.lst xs) ∧ Paired (RowV K H') xs dn ∧ RowV K H' v3 A ∧ Mid ls L W D i dn A) ⟨y, none, none, none, [], L, [], rfl, e2, k2, .nil, hy.ex e2, mid0 ok sL⟩ (fun i σ H' _ ⟨_, _, _, _, _, _, _, _, e, _⟩ => ex_t e qt) ?_ ?_
    · rintro i x σ H' hx ⟨v3, o4, o5, o6, xs, A, dn, rfl, e3, hF3, pr, hA, md⟩
      obtain ⟨l, hl1, lv0⟩ := pget pl hx
      have lv := lv0.ex e3
      have hi := (List.getElem?_eq_some_iff.mp hx).1
      obtain ⟨a, C, nv, rfl, hc, ⟨dy, la⟩, nn⟩ := lv
      have la' : LayerAt C H' a nv := ⟨dy, la⟩
      have nS : List.lookup ("sums" : Str) [(("_nodes" : Str), nv)] = none := no_m (by decide +kernel)
      obtain ⟨k, md2, l4⟩ := mid_step ok ft md hl1
      have hdn := md.len
      have hxl := Paired.length pr
      refine ⟨fun σ2 H4 => ∃ v, σ2 = [some (.ref p), some y, some (.ref F), some v3, some (.ref a), some v, o6] ∧ Ex H' H4 ∧ RowV K H4 v (l.map fun z => tells z A), ?_, ?_⟩
      · rcases hc with rfl | rfl
        · exact Or.inl ⟨_, rfl, a, dy, _, rfl, la, nS, _, rfl, a, nv, v3, l, A, _, _, _, rfl, la', nn, hA, k, fun v H4 e4 hv => ⟨v, rfl, e4, hv⟩⟩
        · exact Or.inr ⟨_, rfl, a, dy, _, rfl, la, nS, _, rfl, a, nv, v3, l, A, _, _, _, rfl, la', nn, hA, k, fun v H4 e4 hv => ⟨v, rfl, e4, hv⟩⟩
      rintro σ2 H4 ⟨v, rfl, e4, hv⟩
      have hF4 := e4 _ _ hF3
      refine ⟨_, rfl, .inl ⟨rfl, _, sq_of hF4⟩, _, rfl, F, xs, v, rfl, rfl, hF4, sz_lt (by omega), ?_⟩
      have e5 : Ex H (upd H4 F (.lst (xs ++ [v]))) := Ex.mut (e3.trans e4) hF0
      have kF : upd H4 F (.lst (xs ++ [v])) F = some (.lst (xs ++ [v])) := upd_same
      have pr5 : Paired (RowV K (upd H4 F (.lst (xs ++ [v])))) (xs ++ [v]) (dn ++ [l.map fun z => tells z A]) := Paired.snoc (pmono (fun _ _ q => RowV.mut hF4 (RowV.ex e4 q)) pr) (RowV.mut hF4 hv)
      have hv5 := RowV.mut (o := .lst (xs ++ [v])) hF4 hv
      generalize upd H4 F (.lst (xs ++ [v])) = H5 at e5 kF pr5 hv5 ⊢
      obtain ⟨tv, us, rfl, qv, lv5⟩ := hv5
      have hul := Paired.length lv5
      rw [List.length_map] at hul
      refine ⟨_, rfl, tv, rfl, ⟨_, qv⟩, fun G hG => ?_⟩
      refine lc_tup (K := K) (a := tv) (xs := us) (Bld (FrV K) H5 G ((l.map fun z => tells z A).map cutQ)) (bld0 hG) (fun j H' _ b => ex_t b.1 qv) ?_ ?_
      · rintro j x H6 hx6 b
        obtain ⟨r, hr6, fr⟩ := pget lv5 hx6
        refine ⟨rfl, ?_⟩
        refine ⟨_, rfl, x, r, rfl, fr.ex b.1, fun w hw => bld_step stF hG b (Ex.refl _) ?_ ?_ hw⟩
        · rw [List.getElem?_map, hr6]
          rfl
        · have := (List.getElem?_eq_some_iff.mp hx6).1
          omega
      · intro H6 b
        obtain ⟨e6, ws, hws, pz⟩ := bld_end (by simp; omega) b
        refine ⟨G, ws, rfl, .inl ⟨sq_of hws, fun l' hl' => ?_⟩⟩
        have e7 := e6.trans (Ex.new (o := .tup ws) hl')
        exact ⟨_, _, _, _, _, _, _, rfl, e5.trans e7, e7 _ _ kF, pmono (fun _ _ => RowV.ex e7) pr5, bld_row (n := 0) hws pz hl', md2⟩
    · rintro σ H' ⟨v3, o4, o5, o6, xs, A, dn, rfl, e3, hF3, pr, hA, md⟩
      refine ⟨_, rfl, q F xs H' hF0 e3 hF3 ?_⟩
      rw [hlen] at md
      rw [← mid_end md]
      exact pr
theorem ok_Net_outs_at {CN CL CC : Addr} (D : Md K CN "outs_at" "Net.outs_at" s_Net_outs_at ["self", "spot"]) (N : NDefs P w K mg base CN CL CC) (GS : MOk P w K mg base 7 CN "sums_at" ["self", "spot"] (spSumsAt K CN CL CC)) : MOk P w K mg base 8 CN "outs_at" ["self", "spot"] (spOutsAt K CN CL CC) := by
  obtain ⟨fTL, dTL, mTL, FTL, bTL⟩ := N.toldL.ex
  obtain ⟨fTC, dTC, mTC, FTC, bTC⟩ := N.toldC.ex
  obtain ⟨fSL, dSL, mSL, FSL, bSL⟩ := N.sumsL.ex
  obtain ⟨fSC, dSC, mSC, FSC, bSC⟩ := N.sumsC.ex
  refine D.ok fun f fd F => F.ok sc_Net_outs_at (fun vs H Q E h => ?_) (fun cdv A outer s H vs Q E hr h => ?_)
  · obtain ⟨p, y, ls, L, W, D, rfl, _⟩ := h
    rfl
  · obtain ⟨p, y, ls, L, W, D, rfl, hN, hy, ok, sL, ft, q⟩ := h
    obtain ⟨fSA, dSA, mSA, FSA, bSA⟩ := GS.ex
    refine ⟨_, pss_one (ps_ret (pe_ix ix_list (pe_meth (pv 0) N.tN mSA FSA hr bSA .nil pass0 (pa_cons (pv 1) pa_nil)) (pe_un un_neg pe_int) (fun _ _ => rfl))), ?_⟩
    have l1 := ok.l1
    have ho : (rowsAt ls L)[ls.length - 1]? = some ((rowsAt ls L)[ls.length - 1]'(by rw [rowsAt_length]; omega)) := List.getElem?_eq_getElem _
    generalize (rowsAt ls L)[ls.length - 1]'(by rw [rowsAt_length]; omega) = o at ho
    have hN0 := hN
    obtain ⟨dx, t, ps, hp, qt, pl⟩ := hN
    have nS : List.lookup ("sums_at" : Str) [(("_ins" : Str), V.int (L.length : Int)), (("_layers" : Str), V.ref t)] = none := no_n (by decide +kernel) (by decide +kernel)
    refine ⟨_, rfl, p, dx, _, rfl, hp, nS, _, rfl, p, y, ls, L, W, D, rfl, hN0, hy, ok, sL, ft, fun F rs H' hF e hrs pr => ?_⟩
    obtain ⟨v, hv, hrow⟩ := pget' pr ho
    have hrl := Paired.length pr
    rw [rowsAt_length] at hrl
    rw [← hrl] at hv
    exact ⟨1, rfl, F, rs, _, v, rfl, rfl, sq_of hrs, at_last hv, q v o H' e ho hrow⟩
theorem ok_Net_pattern_at {CN CL CC : Addr} (D : Md K CN "pattern_at" "Net.pattern_at" s_Net_pattern_at ["self", "spot"]) (N : NDefs P w K mg base CN CL CC) (GS : MOk P w K mg base 7 CN "sums_at" ["self", "spot"] (spSumsAt K CN CL CC)) : MOk P w K mg base 8 CN "pattern_at" ["self", "spot"] (spPatAt K CN CL CC) := by
  obtain ⟨fTL, dTL, mTL, FTL, bTL⟩ := N.toldL.ex
  obtain ⟨fTC, dTC, mTC, FTC, bTC⟩ := N.toldC.ex
  obtain ⟨fSL, dSL, mSL, FSL, bSL⟩ := N.sumsL.ex
  obtain ⟨fSC, dSC, mSC, FSC, bSC⟩ := N.sumsC.ex
  refine D.ok fun f fd F => F.ok sc_Net_pattern_at (fun vs H Q E h => ?_) (fun cdv A outer s H vs Q E hr h => ?_)
  · obtain ⟨p, y, ls, L, W, D, rfl, _⟩ := h
    rfl
  · obtain ⟨p, y, ls, L, W, D, rfl, hN, hy, ok, sL, ft, q⟩ := h
    obtain ⟨fSA, dSA, mSA, FSA, bSA⟩ := GS.ex
    refine ⟨_, (pss_cons (ps_set (i := 2) sc_Net_pattern_at.nd rfl (.inl rfl) pe_int)
      (pss_cons (ps_set (i := 3) sc_Net_pattern_at.nd rfl (.inl rfl) pe_int)
      (pss_cons (ps_for PassesOwn.never rfl (pi_list (pe_slice sl_listE (pe_meth (pv 0) N.tN mSA FSA hr bSA .nil pass0 (pa_cons (pv 1) pa_nil)) po_none (po_some (pe_un un_neg pe_int)))) (pg_name (i := 4) sc_Net_pattern_at.nd rfl (.inl rfl)) (pss_one (ps_for PassesOwn.never rfl (pi_tup (pv 4)) (pg_name (i := 5) sc_Net_pattern_at.nd rfl (.inl rfl)) (pss_cons (ps_if (pt_cmpR op_gt (pe_ix ix_tup (pv 5) pe_int (fun _ _ => rfl)) pe_int (nomark _)) (pss_one (ps_set (i := 2) sc_Net_pattern_at.nd rfl (.inl rfl) (pe_op op_add (pv 2) (pv 3)))) pss_nil)
      (pss_one (ps_set (i := 3) sc_Net_pattern_at.nd rfl (.inl rfl) (pe_op op_mul pe_int (pv 3))))))))
      (pss_one (ps_ret (pv 2)))))), ?_⟩
    have l1 := ok.l1
    have hN0 := hN
    obtain ⟨dx, t, ps, hp, qt, pl⟩ := hN
    have nS : List.lookup ("sums_at" : Str) [(("_ins" : Str), V.int (L.length : Int)), (("_layers" : Str), V.ref t)] = none := no_n (by decide +kernel) (by decide +kernel)
    refine ⟨_, rfl, p, dx, _, rfl, hp, nS, _, rfl, p, y, ls, L, W, D, rfl, hN0, hy, ok, sL, ft, fun F rs H1 hF e1 hrs pr => ?_⟩
    have hrl := Paired.length pr
    rw [rowsAt_length] at hrl
    have hne : rs ≠ [] := fun z => by
      rw [z] at hrl
      simp at hrl
      omega
    refine ⟨_, rfl, _, rfl, F, rs, rfl, sq_of hrs, fun pS H2 hS eS kS => ?_⟩
    rw [cut_init hne] at kS
    have pin : Paired (RowV K H2) rs.dropLast (rowsAt ls L).dropLast := pmono (fun _ _ => RowV.ex eS) (pair_init pr)
    refine ⟨pS, rfl, ⟨_, sq_of kS⟩, for_list (K := K) (a := pS) (xs := rs.dropLast) (fun i σ H' => ∃ o4 o5, σ = [some (.ref p), some y, some (.int (pfold ((rowsAt ls L).dropLast.take i)).1), some (.int (pfold ((rowsAt ls L).dropLast.take i)).2), o4, o5] ∧ H' = H2) ⟨none, none, rfl, rfl⟩ (fun i σ H' _ ⟨_, _, _, e⟩ => by subst e; exact sq_of kS) ?_ ?_⟩
    · rintro i v σ H' hi ⟨o4, o5, rfl, rfl⟩
      obtain ⟨r, hr1, rv⟩ := pget pin hi
      obtain ⟨t2, xs, rfl, qt2, pl2⟩ := rv
      refine ⟨_, rfl, t2, rfl, ⟨_, qt2⟩, for_tup (K := K) (a := t2) (xs := xs) (fun j σ H'' => ∃ o5, σ = [some (.ref p), some y, some (.int ((r.take j).foldl pstep (pfold ((rowsAt ls L).dropLast.take i))).1), some (.int ((r.take j).foldl pstep (pfold ((rowsAt ls L).dropLast.take i))).2), some (.ref t2), o5] ∧ H'' = H') ⟨_, rfl, rfl⟩ (fun j σ H'' _ ⟨_, _, e⟩ => by subst e; exact qt2) ?_ ?_⟩
      · rintro j x σ H'' hj ⟨o5, rfl, rfl⟩
        obtain ⟨u, hu, fx⟩ := pget pl2 hj
        obtain ⟨tx, rfl, qx⟩ := fx
        rw [fold_take hu]
        generalize (r.take j).foldl pstep (pfold ((rowsAt ls L).dropLast.take i)) = st
        refine ⟨_, rfl, _, _, _, _, rfl, rfl, qx, at0, _, _, rfl, rfl, _, rfl, ite2 (fun hd => ?_) (fun hd => ?_)⟩
        · refine ⟨_, rfl, _, rfl, _, _, rfl, rfl, _, rfl, _, _, rfl, rfl, .inl ⟨by decide, by decide⟩, some (.ref tx), ?_, rfl⟩
          have e : pstep st u = (st.1 + st.2, 2 * st.2) := by
            unfold pstep
            rw [if_pos (of_decide_eq_true hd)]
          rw [e]
          rfl
        · refine ⟨_, rfl, _, _, rfl, rfl, .inl ⟨by decide, by decide⟩, some (.ref tx), ?_, rfl⟩
          have e : pstep st u = (st.1, 2 * st.2) := by
            unfold pstep
            rw [if_neg (fun z => hd (decide_eq_true z))]
          rw [e]
          rfl
      · rintro σ H'' ⟨o5, rfl, rfl⟩
        refine ⟨some (.ref t2), o5, ?_, rfl⟩
        rw [pfold_take hr1, Paired.length pl2, List.take_length]
    · rintro σ H' ⟨o4, o5, rfl, rfl⟩
      refine ⟨_, rfl, ?_⟩
      have hz := q H' (e1.trans eS)
      unfold patR at hz
      have hl : rs.dropLast.length = (rowsAt ls L).dropLast.length := Paired.length pin
      rw [hl, List.take_length]
      exact hz
end

end K12
end
section
set_option maxRecDepth 100000
set_option maxHeartbeats 400000
namespace K12
open PySem Evl Nc PyProof.Rows
open L2 hiding spCell
section
variable {P : Program} {w : World} {K : PySem.W.Frag} {mg : Str → Option Value} {base : Heap}
theorem fn_netinit {CN CL CC fI f : Addr} {fd fdI : FuncData} (F : Fun K "__init__" "Net.__init__" s_Net___init__ f fd) (N : NDefs P w K mg base CN CL CC) (ML : Mk K CL fI) (MC : Mk K CC fI) (FL : FnOk P w K mg base CX0 1 fI fdI ["self", "nodes"] (spInitL K CL)) (FC : FnOk P w K mg base CX0 1 fI fdI ["self", "nodes"] (spInitL K CC))
    (bL : Binds K fdI ["self", "nodes"] []) (mgL : mg "Layer" = some (.ref CL)) (mgC : mg "CutLayer" = some (.ref CC)) (GAI : Ok P w K mg base 2 "_are_ins" ["thing"] spAreIns) (GAL : Ok P w K mg base 5 "_are_layers" ["thing", "ins"] (spAreLays K)) (mtuple : mg "tuple" = none) : FnOk P w K mg base CX0 6 f fd ["self", "ins", "layers"] (spInitN K CN CL CC) := by
  have bC := bL
  refine F.ok sc_Net___init__ (fun vs H Q E h => ?_) (fun cdv A outer s H vs Q E hr h => ?_)
  · obtain ⟨p, dx, x, n, ls, W, rfl, _⟩ := h
    rfl
  · obtain ⟨p, dx, x, n, ls, W, rfl, hp, hx, ok, q⟩ := h
    have hr2 : Room (1 + 1) _ := hr.mono (by decide)
    have hr2' : Room 2 _ := hr.mono (by decide)
    refine ⟨_, (pss_cons (ps_if (pt_not (pt_val (cl GAI hr2' (pa_cons (pv 1) pa_nil)))) (pss_one ps_never) pss_nil)
      (pss_cons (ps_if (pt_not (pt_val (cl GAL hr (pa_cons (pv 2) (pa_cons (pv 1) pa_nil))))) (pss_one ps_never) pss_nil)
      (pss_cons (ps_fld (pv 0) (pv 1) rfl)
      (pss_one (ps_fld (pv 0) (pe_callTy call_tuple_of (by rfl) mtuple (by decide +kernel) (pa_cons (pe_op op_catE (pe_lc (own := [("nodes", 3)]) (g := gName 3) (tt := tYes) rfl sc_Net___init__.nd (pi_list (pe_slice sl_listE (pv 2) po_none (po_some (pe_un un_neg pe_int)))) (blkOk_by (N := ["self", "ins", "layers", "nodes"]) (sc := defScope s_Net___init__) (by decide +kernel)) (fun _ _ _ _ _ => (pg_name (i := 3) sc_Net___init__.nd rfl (.inl rfl))) (fun _ _ _ _ _ => pts_nil) (fun _ _ _ _ _ => pe_make MC FC hr2 (by rfl) mgC bC .nil pass0 (pa_cons (pv 3) pa_nil))) (pe_lst (pa_cons (pe_make ML FL hr2 (by rfl) mgL bL .nil pass0 (pa_cons (pe_ix ix_list (pv 2) (pe_un un_neg pe_int) (fun _ _ => rfl)) pa_nil)) pa_nil))) pa_nil)) rfl))))), ?_⟩
    refine ⟨_, rfl, n, rfl, ok.n1, ok.n3, _, rfl, iteF ?_⟩
    refine ⟨_, rfl, _, rfl, x, n, ls, W, rfl, hx, ok, fun H1 e1 => ⟨_, rfl, iteF ?_⟩⟩
    have hp1 := e1 _ _ hp
    refine ⟨_, rfl, _, rfl, p, CN, dx, [], rfl, hp1, N.tN, N.nI, (by show 0 < 1000; decide), ?_⟩
    have c2 : Ch p H (upd H1 p (.ins CN dx (putF ("_ins" : Str) (.int (n : Int)) []))) := (Ch.ex e1).trans Ch.put
    have k2 : upd H1 p (.ins CN dx (putF ("_ins" : Str) (.int (n : Int)) [])) p = some (.ins CN dx [(("_ins" : Str), .int (n : Int))]) := upd_same
    have x2 := hx.ch hp c2
    generalize upd H1 p (.ins CN dx (putF ("_ins" : Str) (.int (n : Int)) [])) = H2 at c2 k2 x2 ⊢
    obtain ⟨D0, ys, rfl, qD, pl⟩ := x2
    have hly := Paired.length pl
    have l1 := ok.l1
    have l4 := ok.l4
    have hne : ys ≠ [] := fun z => by
      rw [z] at hly
      simp at hly
      omega
    have hgl : ls[ls.length - 1]? = some (ls[ls.length - 1]'(by omega)) := List.getElem?_eq_getElem _
    generalize ls[ls.length - 1]'(by omega) = lastL at hgl
    obtain ⟨vL, hvL, lyL⟩ := pget' pl hgl
    rw [← hly] at hvL
    have pin := pair_init pl
    -- the cut ones
    refine ⟨_, rfl, _, rfl, _, rfl, D0, ys, rfl, qD, fun pS H3 hS eS kS => ?_⟩
    rw [cut_init hne] at kS
    refine ⟨pS, rfl, ⟨_, sq_of kS⟩, fun G hG => ?_⟩
    have pin3 : Paired (LyV K H3) ys.dropLast ls.dropLast := pmono (fun _ _ => LyV.ex eS) pin
    refine lc_list (K := K) (a := pS) (xs := ys.dropLast) (Bld (LayV K CL CC) H3 G ls.dropLast) (bld0 hG) (fun i H' _ b => ex_l b.1 (sq_of kS)) ?_ ?_
    · rintro i v H' hi b
      obtain ⟨l, hl, lv0⟩ := pget pin3 hi
      obtain ⟨a, xs, rfl, qa, pz⟩ := lv0.ex b.1
      have hlt := (List.getElem?_eq_some_iff.mp hi).1
      rw [List.length_dropLast] at hlt
      refine ⟨rfl, ?_⟩
      refine ⟨_, rfl, fun p2 dx2 np2 nd2 ne2 => ?_⟩
      have eC : Ex H' (upd (upd H' dx2 (.own p2)) p2 (.ins CC dx2 [])) := fun b o hb => by
        rw [upd_ne (ne_of_none hb np2), upd_ne (ne_of_none hb nd2)]
        exact hb
      have kC : upd (upd H' dx2 (.own p2)) p2 (.ins CC dx2 []) p2 = some (.ins CC dx2 []) := upd_same
      generalize upd (upd H' dx2 (.own p2)) p2 (.ins CC dx2 []) = HC at eC kC ⊢
      refine ⟨p2, dx2, a, xs, l, rfl, kC, .inl (ex_l eC qa), pmono (fun _ _ => SumV.ex eC) pz, fun HD v2 kpD lD nD => ⟨rfl, ?_⟩⟩
      have eD : Ex H' HD := fun b o hb => kpD b o (ne_of_none hb np2) (eC b o hb)
      exact bld_step stL hG b eD hl (by omega) ⟨p2, CC, v2, rfl, .inr rfl, lD, nD⟩
    intro H4 b4
    obtain ⟨e4, ws, hws, pw⟩ := bld_end (by rw [List.length_dropLast, List.length_dropLast]; omega) b4
    have E4 := eS.trans e4
    have hwl := Paired.length pw
    rw [List.length_dropLast] at hwl
    -- the last one
    obtain ⟨a, xs, rfl, qa, pz⟩ := lyL.ex E4
    refine ⟨_, rfl, 1, rfl, D0, ys, _, .ref a, rfl, rfl, ex_l E4 qD, at_last hvL, fun p2 dx2 np2 nd2 ne2 => ?_⟩
    have eC : Ex H4 (upd (upd H4 dx2 (.own p2)) p2 (.ins CL dx2 [])) := fun b o hb => by
      rw [upd_ne (ne_of_none hb np2), upd_ne (ne_of_none hb nd2)]
      exact hb
    have kC : upd (upd H4 dx2 (.own p2)) p2 (.ins CL dx2 []) p2 = some (.ins CL dx2 []) := upd_same
    generalize upd (upd H4 dx2 (.own p2)) p2 (.ins CL dx2 []) = HC at eC kC ⊢
    refine ⟨p2, dx2, a, xs, lastL, rfl, kC, .inl (ex_l eC qa), pmono (fun _ _ => SumV.ex eC) pz, fun H5 v2 kpD lD nD => ⟨rfl, ?_⟩⟩
    have e5 : Ex H4 H5 := fun b o hb => kpD b o (ne_of_none hb np2) (eC b o hb)
    refine ⟨(by show 1 ≤ sizeLine; decide), fun pl1 hpl1 => ?_⟩
    have e6 : Ex H5 (upd H5 pl1 (.lst [.ref p2])) := Ex.new hpl1
    have k6 : upd H5 pl1 (.lst [.ref p2]) pl1 = some (.lst [.ref p2]) := upd_same
    generalize upd H5 pl1 (.lst [.ref p2]) = H6 at e6 k6 ⊢
    have E6 := e5.trans e6
    refine ⟨G, pl1, ws, [.ref p2], rfl, rfl, E6 _ _ hws, k6, Nat.le_of_lt (sz_lt (by simp; omega)), fun p7 H7 hp7 e7 k7 => ?_⟩
    refine ⟨p7, _, rfl, .inl ⟨sq_of k7, fun p8 hp8 => ?_⟩⟩
    have e8 : Ex H7 (upd H7 p8 (.tup (ws ++ [.ref p2]))) := Ex.new hp8
    have k8 : upd H7 p8 (.tup (ws ++ [.ref p2])) p8 = some (.tup (ws ++ [.ref p2])) := upd_same
    generalize upd H7 p8 (.tup (ws ++ [.ref p2])) = H8 at e8 k8 ⊢
    have E8 : Ex H4 H8 := E6.trans (e7.trans e8)
    have E28 : Ex H2 H8 := E4.trans E8
    have kp := E28 _ _ k2
    have pAll : Paired (LayV K CL CC H8) (ws ++ [.ref p2]) ls := by
      have h1 : Paired (LayV K CL CC H8) ws ls.dropLast := pmono (fun _ _ => LayV.ex E8) pw
      have h2 : LayV K CL CC H8 (.ref p2) lastL := LayV.ex (e6.trans (e7.trans e8)) ⟨p2, CL, v2, rfl, .inl rfl, lD, nD⟩
      have h3 := pair_app h1 (.cons h2 .nil)
      rwa [init_last hgl] at h3
    refine ⟨_, rfl, p, CN, dx, _, rfl, kp, N.tN, N.nL, (by show 1 < 1000; decide), ?_⟩
    have kF : upd H8 p (.ins CN dx [(("_ins" : Str), .int (n : Int)), (("_layers" : Str), .ref p8)]) p = some (.ins CN dx [(("_ins" : Str), .int (n : Int)), (("_layers" : Str), .ref p8)]) := upd_same
    have cF : Ch p H8 (upd H8 p (.ins CN dx [(("_ins" : Str), .int (n : Int)), (("_layers" : Str), .ref p8)])) := Ch.put
    exact q _ ((c2.trans (Ch.ex E28)).trans cF) ⟨dx, p8, _, kF, sqt_ch kp cF (st_of k8), pmono (fun _ _ => LayV.ch kp cF) pAll⟩
end

end K12
end
section
set_option maxRecDepth 100000
set_option maxHeartbeats 400000
namespace K12
open PySem Evl Nc PyProof.Rows
open L2 hiding spCell
section
variable {P : Program} {w : World} {K : PySem.W.Frag} {mg : Str → Option Value} {base : Heap}
/-- two layers next to one another, in a list of layers -/
structure Two (ls : List (List Sum2)) (i : Nat) (l l2 : List Sum2) (W : Nat) : Prop where
  h1 : ls[i]? = some l
  h2 : ls[i + 1]? = some l2
  four : ls.length ≤ 4
  each : ∀ a ∈ ls, a.length ≤ 4
  same : ∀ y ∈ l2, y.1.length = l.length
  rows : ∀ y ∈ l, y.1.length ≤ 4
  num : Num 50 W ls
  w0 : 0 < W
  w1 : W < 2 ^ 200
def spScaled (K : PySem.W.Frag) : Sp := fun vs H Q _ => ∃ (x c : V) (i j W : Nat) (q : Rat) (ls : List (List Sum2)) (l l2 : List Sum2) (z : Sum2), vs = [x, .int (i : Int), .int (j : Int), c] ∧ LayI K H x ls ∧ FrV K H c q ∧ 0 < q.num ∧ Sz 3 3 q ∧ Sz 3 3 (binv q) ∧ Two ls i l l2 W ∧ l[j]? = some z ∧
  ∀ F H' ys, Ex H H' → LayP K H H' F ys ((ls.set i (l.set j (stimes q z))).set (i + 1) (l2.map (scZ j (binv q)))) → Q (.ref F) H'
def spExch (K : PySem.W.Frag) : Sp := fun vs H Q _ => ∃ (x : V) (i a b W : Nat) (ls : List (List Sum2)) (l l2 : List Sum2) (y z : Sum2), vs = [x, .int (i : Int), .int (a : Int), .int (b : Int)] ∧ LayI K H x ls ∧ Two ls i l l2 W ∧ l[a]? = some y ∧ l[b]? = some z ∧
  ∀ F H' ys, Ex H H' → LayP K H H' F ys ((ls.set i (swap l a b y z)).set (i + 1) (l2.map (exZ a b))) → Q (.ref F) H'
def spAhead (K : PySem.W.Frag) : Sp := fun vs H Q _ => ∃ (x : V) (i : Nat) (ls : List (List Sum2)), vs = [x, .int (i : Int)] ∧ LayI K H x ls ∧ i ≤ ls.length ∧ ls.length ≤ 100 ∧ ∀ H', Ex H H' → Q (.int ((((ls.take i).map List.length).sum : Nat) : Int)) H'
def spBits : Sp := fun vs H Q _ => ∃ (p : Int) (a b : Nat), vs = [.int p, .int (a : Int), .int (b : Int)] ∧ 0 ≤ p ∧ a ≤ 1000 ∧ b ≤ 1000 ∧ Q (.int (lawbits p a b)) H
theorem ok__law_scaled (D : Df K mg "_law_scaled" s__law_scaled ["_law_layers_here", "_law_layer", "_law_node_here", "_law_by"]) (GT : Ok P w K mg base 2 "_law_times" ["_law_one", "_law_other"] (spTimes K)) (mlist : mg "list" = none) (mtuple : mg "tuple" = none) : Ok P w K mg base 3 "_law_scaled" ["_law_layers_here", "_law_layer", "_law_node_here", "_law_by"] (spScaled K) := by
  refine D.ok fun f fd F => F.ok sc__law_scaled (fun vs H Q E h => ?_) (fun cdv A outer s H0 vs Q E hr h => ?_)
  · obtain ⟨x, c, i, j, W, q, ls, l, l2, z, rfl, _⟩ := h
    rfl
  · obtain ⟨x, c, i, j, W, qq, ls, l, l2, z, rfl, ⟨B, bs, rfl, qB, pB⟩, hc, qpos, szq, szd, tw, hz, q⟩ := h
    refine ⟨_, (pss_cons (ps_setLc (i := 4) (own := [("_law_nodes", 9)]) (g := gName 9) (tt := tYes) rfl sc__law_scaled.nd rfl rfl (sw_true rfl rfl rfl (by decide +kernel)) (pi_list (pv 0)) (blkOk_by (N := ["_law_layers_here", "_law_layer", "_law_node_here", "_law_by", "_law_found", "_law_row", "_law_number_here", "_law_back", "_law_some", "_law_nodes", "_law_one"]) (sc := defScope s__law_scaled) (by decide +kernel)) (fun _ _ _ _ _ => (pg_name (i := 9) sc__law_scaled.nd rfl (.inl rfl))) (fun _ _ _ _ _ => pts_nil) (fun _ _ _ _ _ => pe_callTy (T := "list") (call_lstK K) (by rfl) mlist (by decide +kernel) (pa_cons (pv 9) pa_nil)))
      (pss_cons (ps_asg (pe_ix ix_list (pe_ix ix_list (pv 4) (pv 1) (fun _ _ => rfl)) (pv 2) (fun _ _ => rfl)) (pg_tup rfl (pgs_cons (pg_name (i := 5) sc__law_scaled.nd rfl (.inl rfl)) (pgs_cons (pg_name (i := 6) sc__law_scaled.nd rfl (.inl rfl)) pgs_nil))))
      (pss_cons (ps_asg (pe_tup (pa_cons (pe_callTy call_tuple_of (by rfl) mtuple (by decide +kernel) (pa_cons (pe_lc (own := [("_law_one", 10)]) (g := gName 10) (tt := tYes) rfl sc__law_scaled.nd (pi_tup (pv 5)) (blkOk_by (N := ["_law_layers_here", "_law_layer", "_law_node_here", "_law_by", "_law_found", "_law_row", "_law_number_here", "_law_back", "_law_some", "_law_nodes", "_law_one"]) (sc := defScope s__law_scaled) (by decide +kernel)) (fun _ _ _ _ _ => (pg_name (i := 10) sc__law_scaled.nd rfl (.inl rfl))) (fun _ _ _ _ _ => pts_nil) (fun _ _ _ _ _ => cl GT hr (pa_cons (pv 3) (pa_cons (pv 10) pa_nil)))) pa_nil)) (pa_cons (cl GT hr (pa_cons (pv 3) (pa_cons (pv 6) pa_nil))) pa_nil))) (pg_sub (pe_ix ix_list (pv 4) (pv 1) (fun _ _ => rfl)) (pv 2) set_list))
      (pss_cons (ps_set (i := 7) sc__law_scaled.nd rfl (.inl rfl) (pe_tup (pa_cons (pe_ix ix_tup (pv 3) pe_int (fun _ _ => rfl)) (pa_cons (pe_ix ix_tup (pv 3) pe_int (fun _ _ => rfl)) pa_nil))))
      (pss_cons (ps_asg (pe_lst pa_nil) (pg_sub (pv 4) (pe_op op_add (pv 1) pe_int) set_list))
      (pss_cons (ps_for PassesOwn.never rfl (pi_list (pe_ix ix_list (pv 0) (pe_op op_add (pv 1) pe_int) (fun _ _ => rfl))) (pg_tup rfl (pgs_cons (pg_name (i := 8) sc__law_scaled.nd rfl (.inl rfl)) (pgs_cons (pg_name (i := 6) sc__law_scaled.nd rfl (.inl rfl)) pgs_nil))) (pss_one (ps_expr (pe_bm PySem.F.plainAttrs_list PySem.F.slot_list_append PySem.F.type_list_append mt_append (pe_ix ix_list (pv 4) (pe_op op_add (pv 1) pe_int) (fun _ _ => rfl)) (pa_cons (pe_tup (pa_cons (pe_op (op_catTE K) (pe_op (op_catTE K) (pe_slice (sl_tupE K) (pv 8) po_none (po_some (pv 2))) (pe_tup (pa_cons (cl GT hr (pa_cons (pv 7) (pa_cons (pe_ix ix_tup (pv 8) (pv 2) (fun _ _ => rfl)) pa_nil))) pa_nil))) (pe_slice (sl_tupE K) (pv 8) (po_some (pe_op op_add (pv 2) pe_int)) po_none)) (pa_cons (pv 6) pa_nil))) pa_nil)))))
      (pss_one (ps_ret (pv 4))))))))), ?_⟩
    have hl := tw.h1
    have hl2 := tw.h2
    have h4 := tw.four
    have hbl := Paired.length pB
    have hi2 := (List.getElem?_eq_some_iff.mp hl2).1
    have hj := (List.getElem?_eq_some_iff.mp hz).1
    have hll : l.length ≤ 4 := tw.each l (List.mem_of_getElem? hl)
    have hll2 : l2.length ≤ 4 := tw.each l2 (List.mem_of_getElem? hl2)
    have hz4 := tw.rows z (List.mem_of_getElem? hz)
    obtain ⟨nz1, nz2⟩ := tw.num l (List.mem_of_getElem? hl) z (List.mem_of_getElem? hz)
    have qc0 := hc
    obtain ⟨tc, rfl, qc⟩ := hc
    refine ⟨_, rfl, B, rfl, ⟨_, qB⟩, fun G hG => ?_⟩
    refine lc_list (K := K) (a := B) (xs := bs) (fun k H' => ∃ ys, Ex H0 H' ∧ LayP K H0 H' G ys (ls.take k)) ⟨[], Ex.new hG, LayP.nil hG⟩ (fun k H' _ ⟨_, e, _⟩ => ex_l e qB) ?_ ?_
    · rintro k v H' hk ⟨ys, e, L⟩
      obtain ⟨l0, hl0, lv⟩ := pget pB hk
      obtain ⟨b0, us, rfl, qb0, pu⟩ := lv.ex e
      have hk1 := (List.getElem?_eq_some_iff.mp hk).1
      refine ⟨rfl, ?_⟩
      refine ⟨_, rfl, b0, us, rfl, .inl qb0, fun c0 hc0 => ?_⟩
      have L2 := L.snoc e hc0 pu
      have hys := L.len
      rw [List.length_take] at hys
      refine ⟨ys, (Ex.new hc0) _ _ L.at_, sz_lt (by omega), ys ++ [.ref c0], Ex.mut (e.trans (Ex.new hc0)) L.new, ?_⟩
      rw [List.take_add_one, hl0]
      exact L2
    rintro H1 ⟨ys, e1, L1⟩
    rw [hbl, List.take_length] at L1
    have hys := L1.len
    have hv : ys[i]? = some (ys[i]'(by omega)) := List.getElem?_eq_getElem _
    generalize ys[i]'(by omega) = vi at hv
    obtain ⟨a, xs, rfl, na, nG, qa, pa⟩ := L1.each i vi l hv hl
    obtain ⟨vz, hvz, sz⟩ := pget' pa hz
    obtain ⟨t, ra, rb, rfl, qt, ⟨tr, xr, rfl, qr, pr⟩, fb⟩ := sz
    refine ⟨_, rfl, _, rfl, G, ys, _, _, rfl, rfl, sq_of L1.at_, atI_nat hv, _, rfl, a, xs, _, _, rfl, rfl, sq_of qa, atI_nat hvz, t, [.ref tr, rb], rfl, qt, rfl, .ref tr, [rb], rfl, rb, [], rfl, rfl, ?_⟩
    -- the node scaled
    have hxr := Paired.length pr
    refine ⟨_, rfl, tr, rfl, ⟨_, qr⟩, fun D hD => ?_⟩
    refine lc_tup (K := K) (a := tr) (xs := xr) (Bld (FrV K) H1 D (z.1.map fun x => qq * x)) (bld0 hD) (fun k H' _ b => ex_t b.1 qr) ?_ ?_
    · rintro k v H' hk b
      obtain ⟨r, hr0, fr⟩ := pget pr hk
      have szr := (nz1 r (List.mem_of_getElem? hr0)).sz tw.w0 tw.w1
      have hk1 := (List.getElem?_eq_some_iff.mp hk).1
      refine ⟨rfl, ?_⟩
      refine ⟨_, rfl, _, rfl, .ref tc, v, qq, r, 3, 3, 50, 200, rfl, qc0.ex (e1.trans b.1), fr.ex b.1, szq, szr, ⟨by decide, by decide, by decide, by decide, by decide, by decide⟩, fun v2 H4 e4 hv2 => ?_⟩
      refine bld_step stF hD b e4 ?_ (by omega) hv2
      rw [List.getElem?_map, hr0]
      rfl
    intro H2 b2
    obtain ⟨e2, ws, hws, pw⟩ := bld_end (by simp; omega) b2
    refine ⟨D, ws, rfl, .inl ⟨sq_of hws, fun lt hlt => ?_⟩⟩
    have e3 := e2.trans (Ex.new (o := .tup ws) hlt)
    have row3 := bld_row (n := 0) hws pw hlt
    generalize upd H2 lt (.tup ws) = H3 at e3 row3 ⊢
    refine ⟨_, rfl, _, rfl, .ref tc, rb, qq, z.2, 3, 3, 50, 200, rfl, qc0.ex (e1.trans e3), fb.ex e3, szq, nz2.sz tw.w0 tw.w1, ⟨by decide, by decide, by decide, by decide, by decide, by decide⟩, fun v2 H4 e4 hv2 => ⟨(by show 2 ≤ sizeLine; decide), fun p hp => ?_⟩⟩
    have e5 : Ex H4 (upd H4 p (.tup [.ref lt, v2])) := Ex.new hp
    have sum5 : SumV K (upd H4 p (.tup [.ref lt, v2])) (.ref p) (stimes qq z) := ⟨p, _, _, rfl, st_of upd_same, (row3.ex e4).ex e5, hv2.ex e5⟩
    generalize upd H4 p (.tup [.ref lt, v2]) = H5 at e5 sum5 ⊢
    have E15 := e3.trans (e4.trans e5)
    have L5 := L1.ex E15
    have qa5 := E15 _ _ qa
    have hxl := Paired.length pa
    refine ⟨_, rfl, _, rfl, G, ys, _, _, rfl, rfl, sq_of L5.at_, atI_nat hv, _, rfl, a, xs, _, j, rfl, rfl, qa5, ixN_at (by omega), ?_⟩
    have L6 := L5.inner (xs' := xs.set j (.ref p)) hv na nG qa5 (pair_set (j := j) (pmono (fun _ _ q => SumV.mut qa5 (SumV.ex E15 q)) pa) (SumV.mut qa5 sum5))
    have E06 : Ex H0 (upd H5 a (.lst (xs.set j (.ref p)))) := Ex.mut (e1.trans E15) na
    generalize upd H5 a (.lst (xs.set j (.ref p))) = H6 at L6 E06 ⊢
    -- the fraction the other way about
    obtain ⟨bn1, bn2, bn3⟩ := binv_num qpos
    have qc6 := ex_t E06 qc
    refine ⟨_, rfl, _, _, _, _, rfl, rfl, qc6, at1, _, rfl, _, _, _, _, rfl, rfl, qc6, at0, (by show 2 ≤ sizeLine; decide), fun pk hpk => ?_⟩
    have e7 : Ex H6 (upd H6 pk (.tup [.int (qq.den : Int), .int qq.num])) := Ex.new hpk
    have f7 : FrV K (upd H6 pk (.tup [.int (qq.den : Int), .int qq.num])) (.ref pk) (binv qq) := made bn1.symm bn2.symm
    generalize upd H6 pk (.tup [.int (qq.den : Int), .int qq.num]) = H7 at e7 f7 ⊢
    -- the next layer, new
    refine ⟨(by show 0 ≤ sizeLine; decide), fun b hb => ?_⟩
    have L7 := L6.ex e7
    have E07 := E06.trans e7
    have nb0 : H0 b = none := ex_none E07 hb
    have nob := L7.no hb
    have nbG : b ≠ G := fun z => by
      rw [z, L7.at_] at hb
      cases hb
    have e8 : Ex H7 (upd H7 b (.lst [])) := Ex.new hb
    have k8 : upd H7 b (.lst []) b = some (.lst []) := upd_same
    generalize upd H7 b (.lst []) = H8 at e8 k8 ⊢
    have L8 := L7.ex e8
    have eadd : (i : Int) + 1 = ((i + 1 : Nat) : Int) := by omega
    refine ⟨_, rfl, _, rfl, _, _, rfl, rfl, G, ys, _, i + 1, rfl, rfl, L8.at_, by rw [eadd]; exact ixN_at (by omega), ?_⟩
    have L9 := L8.outer (i := i + 1) (b := b) (xs := []) (l' := []) (by simp; omega) nb0 nbG k8 nob .nil
    have E09 : Ex H0 (upd H8 G (.lst (ys.set (i + 1) (.ref b)))) := Ex.mut (E07.trans e8) hG
    have f9 : FrV K (upd H8 G (.lst (ys.set (i + 1) (.ref b)))) (.ref pk) (binv qq) := FrV.mut L8.at_ (f7.ex e8)
    generalize hys2 : ys.set (i + 1) (.ref b) = ys2 at L9 E09 f9 ⊢
    generalize upd H8 G (.lst ys2) = H9 at L9 E09 f9 ⊢
    have hbi : ys2[i + 1]? = some (.ref b) := by
      rw [← hys2, List.getElem?_set_self (by omega)]
    obtain ⟨vb2, hvb2, lb2⟩ := pget' pB hl2
    obtain ⟨b2', us2, rfl, qb2, pb2⟩ := lb2
    have hat2 : atI bs ((i : Int) + 1) = some (.ref b2') := by
      rw [eadd]
      exact atI_nat hvb2
    refine ⟨_, rfl, _, rfl, _, _, rfl, rfl, B, bs, _, _, rfl, rfl, ex_l E09 qB, hat2, b2', rfl, ⟨_, ex_l E09 qb2⟩, for_list (K := K) (a := b2') (xs := us2) (fun k σ H' => ∃ o6 o8 : Option V, σ = [some (.ref B), some (.int (i : Int)), some (.int (j : Int)), some (.ref tc), some (.ref G), some (.ref tr), o6, some (.ref pk), o8, none, none] ∧ Ex H0 H' ∧ FrV K H' (.ref pk) (binv qq) ∧ LayP K H0 H' G ys2 ((ls.set i (l.set j (stimes qq z))).set (i + 1) ((l2.take k).map (scZ j (binv qq))))) ⟨_, _, rfl, E09, f9, L9⟩ (fun k σ H' _ ⟨_, _, _, e, _⟩ => ex_l e qb2) ?_ ?_⟩
    · rintro k v σ Ha hk ⟨o6, o8, rfl, ea, fa, La⟩
      obtain ⟨y, hy, fy⟩ := pget pb2 hk
      have hk1 := (List.getElem?_eq_some_iff.mp hy).1
      have hym := List.mem_of_getElem? hy
      have hyl := tw.same y hym
      obtain ⟨ny1, ny2⟩ := tw.num l2 (List.mem_of_getElem? hl2) y hym
      obtain ⟨ty, va, vb, rfl, qy, ⟨tw', xw, rfl, qw, pw'⟩, fbv⟩ := fy.ex ea
      have hxw := Paired.length pw'
      have hjy : j < y.1.length := by omega
      obtain ⟨vr, hvr, fr⟩ := pget' pw' (getD_some hjy)
      refine ⟨ty, [.ref tw', vb], rfl, qy, rfl, .ref tw', [vb], rfl, vb, [], rfl, rfl, ?_⟩
      have hbk : ((ls.set i (l.set j (stimes qq z))).set (i + 1) ((l2.take k).map (scZ j (binv qq))))[i + 1]? = some ((l2.take k).map (scZ j (binv qq))) := by
        rw [List.getElem?_set_self (by simp; omega)]
      have haty : atI ys2 ((i : Int) + 1) = some (.ref b) := by
        rw [eadd]
        exact atI_nat hbi
      obtain ⟨b', xb, eb, nb', nbG', qb, pb⟩ := La.each (i + 1) _ _ hbi hbk
      cases eb
      have hxb := Paired.length pb
      have hxb2 : xb.length ≤ 4 := by
        rw [hxb, List.length_map, List.length_take]
        omega
      refine ⟨_, rfl, _, rfl, _, _, rfl, rfl, G, ys2, _, _, rfl, rfl, sq_of La.at_, haty, .inl ⟨rfl, _, sq_of qb⟩, ?_⟩
      refine ⟨_, rfl, _, rfl, _, rfl, tw', xw, rfl, qw, fun p1 Hb eb q1 => ?_⟩
      rw [cut_to (by omega)] at q1
      refine ⟨_, rfl, _, rfl, _, rfl, tw', xw, _, _, rfl, rfl, ex_t eb qw, atI_nat hvr, .ref pk, vr, binv qq, y.1.getD j 0, 3, 3, 50, 200, rfl, fa.ex eb, fr.ex eb, szd, (getD_sv ny1 hjy).sz tw.w0 tw.w1, ⟨by decide, by decide, by decide, by decide, by decide, by decide⟩, fun v3 Hc ec hv3 => ⟨(by show 1 ≤ sizeLine; decide), fun p2 hp2 => ?_⟩⟩
      have ed : Ex Hc (upd Hc p2 (.tup [v3])) := Ex.new hp2
      have kd : upd Hc p2 (.tup [v3]) p2 = some (.tup [v3]) := upd_same
      generalize upd Hc p2 (.tup [v3]) = Hd at ed kd ⊢
      refine ⟨p1, p2, _, _, rfl, rfl, ex_t (ec.trans ed) q1, st_of kd, Nat.le_of_lt (sz_lt (by simp; omega)), fun p3 He ee q3 => ?_⟩
      have Eae := eb.trans (ec.trans (ed.trans ee))
      have ej : (j : Int) + 1 = ((j + 1 : Nat) : Int) := by omega
      refine ⟨_, rfl, _, rfl, _, _, rfl, rfl, _, rfl, tw', xw, rfl, ex_t Eae qw, fun p4 Hf ef q4 => ?_⟩
      rw [ej, cut_from (by omega)] at q4
      refine ⟨p3, p4, _, _, rfl, rfl, ex_t ef q3, q4, Nat.le_of_lt (sz_lt (by simp; omega)), fun p5 Hg eg q5 => ⟨_, rfl, (by show 2 ≤ sizeLine; decide), fun p6 hp6 => ?_⟩⟩
      have Eag := Eae.trans (ef.trans eg)
      have eh : Ex Hg (upd Hg p6 (.tup [.ref p5, vb])) := Ex.new hp6
      have kh : upd Hg p6 (.tup [.ref p5, vb]) p6 = some (.tup [.ref p5, vb]) := upd_same
      generalize upd Hg p6 (.tup [.ref p5, vb]) = Hh at eh kh ⊢
      have Eah := Eag.trans eh
      have sumh : SumV K Hh (.ref p6) (scZ j (binv qq) y) := by
        refine ⟨p6, _, _, rfl, st_of kh, ⟨p5, _, rfl, ex_t eh q5, ?_⟩, fbv.ex Eah⟩
        show FrL K Hh _ (y.1.set j (binv qq * y.1.getD j 0))
        rw [← put_set hjy]
        exact pair_app (pair_app (pair_take (FrL.ex Eah pw')) (.cons (hv3.ex (ed.trans (ee.trans (ef.trans (eg.trans eh))))) .nil)) (pair_drop (FrL.ex Eah pw'))
      have Lh := La.ex Eah
      have qbh := Eah _ _ qb
      refine ⟨b, xb, .ref p6, rfl, rfl, qbh, sz_lt (by omega), ?_⟩
      have pnew : Paired (SumV K (upd Hh b (.lst (xb ++ [.ref p6])))) (xb ++ [.ref p6]) ((l2.take k).map (scZ j (binv qq)) ++ [scZ j (binv qq) y]) := Paired.snoc (pmono (fun _ _ q => SumV.mut qbh (SumV.ex Eah q)) pb) (SumV.mut qbh sumh)
      have Li := Lh.inner (xs' := xb ++ [.ref p6]) hbi nb' nbG' qbh pnew
      rw [List.set_set] at Li
      refine ⟨_, _, rfl, Ex.mut (ea.trans Eah) nb', FrV.mut qbh (fa.ex Eah), ?_⟩
      rw [List.take_add_one, hy, List.map_append]
      exact Li
    · rintro σ Ha ⟨o6, o8, rfl, ea, fa, La⟩
      rw [Paired.length pb2, List.take_length] at La
      exact ⟨_, rfl, q G Ha ys2 ea La⟩
theorem ok__law_bits (D : Df K mg "_law_bits" s__law_bits ["_law_pattern", "_law_one", "_law_other"]) : Ok P w K mg base 1 "_law_bits" ["_law_pattern", "_law_one", "_law_other"] spBits := by
  refine D.ok fun f fd F => F.ok sc__law_bits (fun vs H Q E h => ?_) (fun cdv A outer s H vs Q E hr h => ?_)
  · obtain ⟨p, a, b, rfl, _⟩ := h
    rfl
  · obtain ⟨p, a, b, rfl, hp, ha, hb, q⟩ := h
    refine ⟨_, (pss_cons (ps_set (i := 3) sc__law_bits.nd rfl (.inl rfl) (pe_op op_and (pe_op op_shr (pv 0) (pv 1)) pe_int))
      (pss_cons (ps_set (i := 4) sc__law_bits.nd rfl (.inl rfl) (pe_op op_and (pe_op op_shr (pv 0) (pv 2)) pe_int))
      (pss_one (ps_ret (pe_op op_add (pe_op op_add (pv 0) (pe_op op_mul (pe_op op_sub (pv 4) (pv 3)) (pe_op op_shl pe_int (pv 1)))) (pe_op op_mul (pe_op op_sub (pv 3) (pv 4)) (pe_op op_shl pe_int (pv 2)))))))), ?_⟩
    have n1 : 0 ≤ p / 2 ^ ((a : Int)).toNat := Int.ediv_nonneg hp (Int.le_of_lt (Int.pow_pos (by decide)))
    have n2 : 0 ≤ p / 2 ^ ((b : Int)).toNat := Int.ediv_nonneg hp (Int.le_of_lt (Int.pow_pos (by decide)))
    refine ⟨_, rfl, _, rfl, _, _, rfl, rfl, by omega, _, _, rfl, rfl, ?_⟩
    refine ⟨_, rfl, _, rfl, _, _, rfl, rfl, by omega, _, _, rfl, rfl, ?_⟩
    have m1 := Int.emod_two_eq (p / 2 ^ ((a : Int)).toNat)
    have m2 := Int.emod_two_eq (p / 2 ^ ((b : Int)).toNat)
    have b1 := and1 n1
    have b2 := and1 n2
    refine ⟨_, rfl, _, rfl, _, rfl, _, _, rfl, rfl, _, rfl, _, _, rfl, rfl, ⟨by omega, by omega, by decide⟩, _, _, rfl, rfl, .inl ?_, _, _, rfl, rfl, _, rfl, _, rfl, _, _, rfl, rfl, _, rfl, _, _, rfl, rfl, ⟨by omega, by omega, by decide⟩, _, _, rfl, rfl, .inl ?_, _, _, rfl, rfl, ?_⟩
    · rw [b1, b2]
      omega
    · rw [b1, b2]
      omega
    · have e : lawbits p a b = p + (PySem.Builtin.bitAnd (p / 2 ^ ((b : Int)).toNat) 1 - PySem.Builtin.bitAnd (p / 2 ^ ((a : Int)).toNat) 1) * (1 * 2 ^ ((a : Int)).toNat) + (PySem.Builtin.bitAnd (p / 2 ^ ((a : Int)).toNat) 1 - PySem.Builtin.bitAnd (p / 2 ^ ((b : Int)).toNat) 1) * (1 * 2 ^ ((b : Int)).toNat) := by
        rw [b1, b2, Int.one_mul, Int.one_mul, Int.toNat_natCast, Int.toNat_natCast]
        rfl
      rw [e] at q
      exact q
def rLenK (K : PySem.W.Frag) : List V → Hp → VK → Prop := fun xs H Q => ∃ p ys, xs = [.ref p] ∧ (SqL K H p ys ∨ SqT K H p ys) ∧ Q (.int (ys.length : Int)) H
theorem call_lenK {X : Cx} (K : PySem.W.Frag) (h : X.K = K := by rfl) : CallR X (.builtin "len") (rLenK K) := by
  subst h
  exact call_len_seq
theorem ok__law_ahead (D : Df K mg "_law_ahead" s__law_ahead ["_law_layers_here", "_law_layer"]) (mlen : mg "len" = none) (msum : mg "sum" = none) : Ok P w K mg base 1 "_law_ahead" ["_law_layers_here", "_law_layer"] (spAhead K) := by
  refine D.ok fun f fd F => F.ok sc__law_ahead (fun vs H Q E h => ?_) (fun cdv A outer s H vs Q E hr h => ?_)
  · obtain ⟨x, i, ls, rfl, _⟩ := h
    rfl
  · obtain ⟨x, i, ls, rfl, ⟨B, bs, rfl, qB, pB⟩, hi, h100, q⟩ := h
    refine ⟨_, pss_one (ps_ret (pe_callB (cr_sum rfl) (by rfl) msum (by decide +kernel) (pa_cons (pe_lc (own := [("_law_nodes", 2)]) (g := gName 2) (tt := tYes) rfl sc__law_ahead.nd (pi_list (pe_slice sl_listE (pv 0) po_none (po_some (pv 1)))) (blkOk_by (N := ["_law_layers_here", "_law_layer", "_law_nodes"]) (sc := defScope s__law_ahead) (by decide +kernel)) (fun _ _ _ _ _ => (pg_name (i := 2) sc__law_ahead.nd rfl (.inl rfl))) (fun _ _ _ _ _ => pts_nil) (fun _ _ _ _ _ => pe_callB (call_lenK K) (by rfl) mlen PySem.boot_len (pa_cons (pv 2) pa_nil))) pa_nil))), ?_⟩
    have hbl := Paired.length pB
    refine ⟨_, rfl, _, rfl, _, rfl, B, bs, rfl, qB, fun pS H1 hS eS kS => ⟨pS, rfl, ⟨_, sq_of kS⟩, fun G hG => ?_⟩⟩
    rw [cut_to (by omega)] at kS
    have pB1 : Paired (LyV K H1) (bs.take i) (ls.take i) := pair_take (pmono (fun _ _ => LyV.ex eS) pB)
    refine lc_list (K := K) (a := pS) (xs := bs.take i) (fun k H' => Ex H1 H' ∧ H' G = some (.lst (((((ls.take i).map fun x => ((x.length : Nat) : Int))).take k).map V.int))) ⟨Ex.new hG, upd_same⟩ (fun k H' _ b => ex_l b.1 (sq_of kS)) ?_ ?_
    · rintro k v H' hk ⟨e1, k1⟩
      obtain ⟨l, hl, lv⟩ := pget pB1 hk
      obtain ⟨a, us, rfl, qa, pu⟩ := lv.ex e1
      have hk1 := (List.getElem?_eq_some_iff.mp hk).1
      rw [List.length_take] at hk1
      refine ⟨rfl, ?_⟩
      refine ⟨_, rfl, a, us, rfl, .inl qa, _, k1, sz_lt (by simp; omega), Ex.mut e1 hG, ?_⟩
      rw [List.take_add_one, List.getElem?_map, hl, List.map_append, Paired.length pu]
      exact upd_same
    · rintro H' ⟨e1, k1⟩
      refine ⟨G, ((ls.take i).map fun x => ((x.length : Nat) : Int)), rfl, sq_of ?_, ?_⟩
      · rw [k1, List.take_of_length_le (by simp; omega)]
      · rw [sum_cast]
        exact q H' (eS.trans e1)
end

end K12
end
section
set_option maxRecDepth 100000
set_option maxHeartbeats 400000
namespace K12
open PySem Evl Nc PyProof.Rows
open L2 hiding spCell
section
variable {P : Program} {w : World} {K : PySem.W.Frag} {mg : Str → Option Value} {base : Heap}
def scopeX : Scope := { kind := .function, names := [(".0", .local), ("_law_some", .cell), ("_law_by", .local), ("tuple", .globalImplicit), ("_law_order_here", .free)], isGenerator := false, isCoroutine := false }
def iListK (K : PySem.W.Frag) (te : TE) : TI := fun σ H R => te σ H fun v H1 => ∃ a, v = .ref a ∧ (∃ xs, SqL K H1 a xs) ∧ R (Itl K a) H1
theorem pi_listK {X : Cx} {tg e : Expr} {te : TE} (K : PySem.W.Frag) (he : PE X e te) (h : X.K = K := by rfl) : PI X tg e (iListK K te) := by
  subst h
  exact pi_list he
theorem ok__law_exchanged (D : Df K mg "_law_exchanged" s__law_exchanged ["_law_layers_here", "_law_layer", "_law_one", "_law_other"]) (GO : Ok P w K mg base 1 "_law_order" ["_law_many", "_law_one", "_law_other"] spOrder) (mlist : mg "list" = none) (mtuple : mg "tuple" = none) (mlen : mg "len" = none) : Ok P w K mg base 2 "_law_exchanged" ["_law_layers_here", "_law_layer", "_law_one", "_law_other"] (spExch K) := by
  refine D.ok fun f fd F => F.ok sc__law_exchanged (fun vs H Q E h => ?_) (fun cdv A outer s H0 vs Q E hr h => ?_)
  · obtain ⟨x, i, a, b, W, ls, l, l2, y, z, rfl, _⟩ := h
    rfl
  · obtain ⟨x, i, a, b, W, ls, l, l2, y, z, rfl, ⟨B, bs, rfl, qB, pB⟩, tw, hy, hz, q⟩ := h
    refine ⟨_, (pss_cons (ps_set (i := 4) sc__law_exchanged.nd rfl (.inr rfl) (cl GO hr (pa_cons (pe_callB call_len_seq (by rfl) mlen PySem.boot_len (pa_cons (pe_ix ix_list (pv 0) (pv 1) (fun _ _ => rfl)) pa_nil)) (pa_cons (pv 2) (pa_cons (pv 3) pa_nil)))))
      (pss_cons (ps_setLc (i := 5) (own := [("_law_nodes", 6)]) (g := gName 6) (tt := tYes) rfl sc__law_exchanged.nd rfl rfl (sw_true rfl rfl rfl (by decide +kernel)) (pi_list (pv 0)) (blkOk_by (N := ["_law_layers_here", "_law_layer", "_law_one", "_law_other", "_law_order_here", "_law_found", "_law_nodes", "_law_k", "_law_some", "_law_by"]) (sc := defScope s__law_exchanged) (by decide +kernel)) (fun _ _ _ _ _ => (pg_name (i := 6) sc__law_exchanged.nd rfl (.inl rfl))) (fun _ _ _ _ _ => pts_nil) (fun _ _ _ _ _ => pe_callTy (T := "list") (call_lstK K) (by rfl) mlist (by decide +kernel) (pa_cons (pv 6) pa_nil)))
      (pss_cons (ps_asg (pe_lc (own := [("_law_k", 7)]) (g := gName 7) (tt := tYes) rfl sc__law_exchanged.nd (pi_list (pv 4)) (blkOk_by (N := ["_law_layers_here", "_law_layer", "_law_one", "_law_other", "_law_order_here", "_law_found", "_law_nodes", "_law_k", "_law_some", "_law_by"]) (sc := defScope s__law_exchanged) (by decide +kernel)) (fun _ _ _ _ _ => (pg_name (i := 7) sc__law_exchanged.nd rfl (.inl rfl))) (fun _ _ _ _ _ => pts_nil) (fun _ _ _ _ _ => pe_ix (ix_lK K) (pe_ix (ix_lK K) (pv 0) (pv 1) (fun _ _ => rfl)) (pv 7) (fun _ _ => rfl))) (pg_sub (pv 5) (pv 1) set_list))
      (pss_cons (ps_asg (pe_lc (own := [("_law_some", 8), ("_law_by", 9)]) (g := gTup K 2 (gCons (gName 8) (gCons (gName 9) gNil))) (tt := tYes) rfl sc__law_exchanged.nd (pi_list (pe_ix ix_list (pv 0) (pe_op op_add (pv 1) pe_int) (fun _ _ => rfl))) (blkOk_by (N := ["_law_layers_here", "_law_layer", "_law_one", "_law_other", "_law_order_here", "_law_found", "_law_nodes", "_law_k", "_law_some", "_law_by"]) (sc := defScope s__law_exchanged) (by decide +kernel)) (fun _ _ _ _ _ => pg_tup rfl (pgs_cons (pg_name (i := 8) sc__law_exchanged.nd rfl (.inr rfl)) (pgs_cons (pg_name (i := 9) sc__law_exchanged.nd rfl (.inl rfl)) pgs_nil))) (fun _ _ _ _ _ => pts_nil) (fun _ _ _ _ _ => pe_tup (pa_cons (pe_callTy (T := "tuple") (call_tupK K) (by rfl) mtuple (by decide +kernel) (pa_cons (pe_lc (own := [("_law_k", 7)]) (g := gName 7) (tt := tYes) rfl sc__law_exchanged.nd (pi_listK K (pv 4)) (blkOk_by (N := ["_law_layers_here", "_law_layer", "_law_one", "_law_other", "_law_order_here", "_law_found", "_law_nodes", "_law_k", "_law_some", "_law_by"]) (sc := relS scopeX (defScope s__law_exchanged)) (by decide +kernel)) (fun _ _ _ _ _ => (pg_name (i := 7) sc__law_exchanged.nd rfl (.inl rfl))) (fun _ _ _ _ _ => pts_nil) (fun _ _ _ _ _ => pe_ix (ix_tK K) (pv 8) (pv 7) (fun _ _ => rfl))) pa_nil)) (pa_cons (pv 9) pa_nil)))) (pg_sub (pv 5) (pe_op op_add (pv 1) pe_int) set_list))
      (pss_one (ps_ret (pv 5))))))), ?_⟩
    have hl := tw.h1
    have hl2 := tw.h2
    have h4 := tw.four
    have hbl := Paired.length pB
    have hi2 := (List.getElem?_eq_some_iff.mp hl2).1
    have ha := (List.getElem?_eq_some_iff.mp hy).1
    have hb := (List.getElem?_eq_some_iff.mp hz).1
    have hll : l.length ≤ 4 := tw.each l (List.mem_of_getElem? hl)
    have hll2 : l2.length ≤ 4 := tw.each l2 (List.mem_of_getElem? hl2)
    obtain ⟨vb1, hvb1, lb1⟩ := pget' pB hl
    obtain ⟨b1, us1, rfl, qb1, pb1⟩ := lb1
    have hul := Paired.length pb1
    have eadd : (i : Int) + 1 = ((i + 1 : Nat) : Int) := by omega
    refine ⟨_, rfl, _, rfl, B, bs, _, _, rfl, rfl, qB, atI_nat hvb1, b1, _, rfl, .inl qb1, _, rfl, _, rfl, us1.length, a, b, rfl, by omega, by omega, by omega, fun O Hm em kO => ?_⟩
    have qBm := ex_l em qB
    have pBm : Paired (LyV K Hm) bs ls := pmono (fun _ _ => LyV.ex em) pB
    have qb1m := ex_l em qb1
    have pb1m : Paired (SumV K Hm) us1 l := pmono (fun _ _ => SumV.ex em) pb1
    rw [hul] at kO
    refine ⟨_, rfl, B, rfl, ⟨_, qBm⟩, fun G hG => ?_⟩
    refine lc_list (K := K) (a := B) (xs := bs) (fun k H' => ∃ ys, Ex Hm H' ∧ LayP K Hm H' G ys (ls.take k)) ⟨[], Ex.new hG, LayP.nil hG⟩ (fun k H' _ ⟨_, e, _⟩ => ex_l e qBm) ?_ ?_
    · rintro k v H' hk ⟨ys, e, L⟩
      obtain ⟨l0, hl0, lv⟩ := pget pBm hk
      obtain ⟨b0, us, rfl, qb0, pu⟩ := lv.ex e
      have hk1 := (List.getElem?_eq_some_iff.mp hk).1
      refine ⟨rfl, ?_⟩
      refine ⟨_, rfl, b0, us, rfl, .inl qb0, fun c0 hc0 => ?_⟩
      have L2 := L.snoc e hc0 pu
      have hys := L.len
      rw [List.length_take] at hys
      refine ⟨ys, (Ex.new hc0) _ _ L.at_, sz_lt (by omega), ys ++ [.ref c0], Ex.mut (e.trans (Ex.new hc0)) L.new, ?_⟩
      rw [List.take_add_one, hl0]
      exact L2
    rintro H1 ⟨ys, e1, L1⟩
    rw [hbl, List.take_length] at L1
    have hys := L1.len
    have kO1 := e1 _ _ kO
    have hOl : ((List.range l.length).map fun k => V.int ((if k = b then a else if k = a then b else k : Nat) : Int)).length = l.length := by simp
    have hO : ∀ (k : Nat) (v : V), ((List.range l.length).map fun k => V.int ((if k = b then a else if k = a then b else k : Nat) : Int))[k]? = some v → k < l.length ∧ v = .int ((if k = b then a else if k = a then b else k : Nat) : Int) := by
      intro k v hk
      have h1 := (List.getElem?_eq_some_iff.mp hk).1
      rw [hOl] at h1
      rw [List.getElem?_map, List.getElem?_range h1] at hk
      exact ⟨h1, (Option.some.inj hk).symm⟩
    generalize hord : ((List.range l.length).map fun k => V.int ((if k = b then a else if k = a then b else k : Nat) : Int)) = ord at kO kO1 hOl hO ⊢
    -- the layer itself
    refine ⟨_, rfl, O, rfl, ⟨_, sq_of kO1⟩, fun D hD => ?_⟩
    refine lc_list (K := K) (a := O) (xs := ord) (Bld (SumV K) H1 D (swap l a b y z)) (bld0 hD) (fun k H' _ bb => ex_l bb.1 (sq_of kO1)) ?_ ?_
    · rintro k v H' hk bb
      obtain ⟨hk1, rfl⟩ := hO k v hk
      have hsw := swap_ord hy hz hk1
      have hkl : (if k = b then a else if k = a then b else k) < l.length := by
        split
        · exact ha
        · split
          · exact hb
          · exact hk1
      generalize (if k = b then a else if k = a then b else k) = k2 at hsw hkl
      obtain ⟨v2, hv2, s2⟩ := pget' pb1m (List.getElem?_eq_getElem hkl)
      refine ⟨rfl, ?_⟩
      refine ⟨_, rfl, _, rfl, B, bs, _, _, rfl, rfl, ex_l (e1.trans bb.1) qBm, atI_nat hvb1, _, rfl, b1, us1, _, _, rfl, rfl, ex_l (e1.trans bb.1) qb1m, atI_nat hv2, ?_⟩
      exact bld_step stS hD bb (Ex.refl _) (by rw [hsw, List.getElem?_eq_getElem hkl]) (by omega) (s2.ex (e1.trans bb.1))
    intro H2 b2
    obtain ⟨e2, ws, hws, pw⟩ := bld_end (by rw [len_swap, hOl]) b2
    have L2 := L1.ex e2
    have nD : Hm D = none := ex_none e1 hD
    have nDG : D ≠ G := fun z => by
      rw [z, L1.at_] at hD
      cases hD
    refine ⟨_, rfl, _, rfl, G, ys, _, i, rfl, rfl, L2.at_, ixN_at (by omega), ?_⟩
    have L3 := L2.outer (i := i) (b := D) (by omega) nD nDG hws (L1.no hD) pw
    have E03 : Ex Hm (upd H2 G (.lst (ys.set i (.ref D)))) := Ex.mut (e1.trans e2) hG
    generalize hys2 : ys.set i (.ref D) = ys2 at L3 E03 ⊢
    generalize upd H2 G (.lst ys2) = H3 at L3 E03 ⊢
    have kO3 := E03 _ _ kO
    -- the next layer
    obtain ⟨vb2, hvb2, lb2⟩ := pget' pBm hl2
    obtain ⟨b2', us2, rfl, qb2, pb2⟩ := lb2
    have hat2 : atI bs ((i : Int) + 1) = some (.ref b2') := by
      rw [eadd]
      exact atI_nat hvb2
    refine ⟨_, rfl, _, rfl, _, _, rfl, rfl, B, bs, _, _, rfl, rfl, ex_l E03 qBm, hat2, b2', rfl, ⟨_, ex_l E03 qb2⟩, fun D3 hD3 => ?_⟩
    refine lc_list (K := K) (a := b2') (xs := us2) (Bld (SumV K) H3 D3 (l2.map (exZ a b))) (bld0 hD3) (fun k H' _ bb => ex_l (E03.trans bb.1) qb2) ?_ ?_
    · rintro k v H' hk bb
      obtain ⟨u, hu, fu⟩ := pget pb2 hk
      have hk1 := (List.getElem?_eq_some_iff.mp hu).1
      have hum := List.mem_of_getElem? hu
      have hulen := tw.same u hum
      obtain ⟨tu, va, vb, rfl, qu, ⟨tw', xw, rfl, qw, pw'⟩, fbv⟩ := fu.ex (E03.trans bb.1)
      have hxw := Paired.length pw'
      refine ⟨tu, [.ref tw', vb], rfl, qu, rfl, .ref tw', [vb], rfl, vb, [], rfl, rfl, rfl, ?_⟩
      have kO4 := bb.1 _ _ kO3
      refine ⟨_, rfl, O, rfl, ⟨_, sq_of kO4⟩, fun D4 hD4 => ?_⟩
      refine lc_list (K := K) (a := O) (xs := ord) (Bld (FrV K) H' D4 (swap u.1 a b (u.1.getD a 0) (u.1.getD b 0))) (bld0 hD4) (fun k H' _ b4 => ex_l b4.1 (sq_of kO4)) ?_ ?_
      · rintro k v H5 hk b4
        obtain ⟨hk1, rfl⟩ := hO k v hk
        have hsw := swap_ord (getD_some (l := u.1) (j := a) (by omega)) (getD_some (l := u.1) (j := b) (by omega)) (k := k) (by omega)
        have hkl : (if k = b then a else if k = a then b else k) < u.1.length := by
          rw [hulen]
          split
          · exact ha
          · split
            · exact hb
            · exact hk1
        generalize (if k = b then a else if k = a then b else k) = k2 at hsw hkl
        obtain ⟨v2, hv2, s2⟩ := pget' pw' (List.getElem?_eq_getElem hkl)
        refine ⟨rfl, ?_⟩
        refine ⟨_, rfl, _, rfl, tw', xw, _, _, rfl, rfl, ex_t b4.1 qw, atI_nat hv2, ?_⟩
        exact bld_step stF hD4 b4 (Ex.refl _) (by rw [hsw, List.getElem?_eq_getElem hkl]) (by omega) (s2.ex b4.1)
      intro H5 b5
      obtain ⟨e5, ws5, hws5, pw5⟩ := bld_end (by rw [len_swap, hOl, hulen]) b5
      refine ⟨D4, ws5, rfl, .inl ⟨sq_of hws5, fun lt hlt => ⟨_, rfl, (by show 2 ≤ sizeLine; decide), fun p hp => ?_⟩⟩⟩
      have e6 := e5.trans (Ex.new (o := .tup ws5) hlt)
      have row6 := bld_row (n := 0) hws5 pw5 hlt
      generalize upd H5 lt (.tup ws5) = H6 at e6 row6 hp ⊢
      have e7 : Ex H6 (upd H6 p (.tup [.ref lt, vb])) := Ex.new hp
      have sum7 : SumV K (upd H6 p (.tup [.ref lt, vb])) (.ref p) (exZ a b u) := ⟨p, _, _, rfl, st_of upd_same, row6.ex e7, fbv.ex (e6.trans e7)⟩
      refine bld_step stS hD3 bb (e6.trans e7) ?_ (by omega) sum7
      rw [List.getElem?_map, hu]
      rfl
    intro H4 b4
    obtain ⟨e4, ws4, hws4, pw4⟩ := bld_end (by rw [List.length_map]; exact Paired.length pb2) b4
    have L4 := L3.ex e4
    have nD3 : Hm D3 = none := ex_none E03 hD3
    have nD3G : D3 ≠ G := fun z => by
      rw [z, L3.at_] at hD3
      cases hD3
    have hy2l := L3.len
    simp at hy2l
    refine ⟨_, rfl, _, rfl, _, _, rfl, rfl, G, ys2, _, i + 1, rfl, rfl, L4.at_, by rw [eadd]; exact ixN_at (by omega), ?_⟩
    have L5 := L4.outer (i := i + 1) (b := D3) (by simp; omega) nD3 nD3G hws4 (L3.no hD3) pw4
    have E05 : Ex Hm (upd H4 G (.lst (ys2.set (i + 1) (.ref D3)))) := Ex.mut (E03.trans e4) hG
    refine ⟨_, rfl, q G _ (ys2.set (i + 1) (.ref D3)) (em.trans E05) ?_⟩
    exact ⟨ex_none em L5.new, L5.at_, L5.len, fun k v l h1 h2 => by
      obtain ⟨a, xs, e, n, r⟩ := L5.each k v l h1 h2
      exact ⟨a, xs, e, ex_none em n, r⟩, L5.inj⟩
end

end K12
end
section
set_option maxRecDepth 100000
set_option maxHeartbeats 400000
namespace K12
open PySem Evl Nc PyProof.Rows
open L2 hiding spCell
section
variable {P : Program} {w : World} {K : PySem.W.Frag} {mg : Str → Option Value} {base : Heap}
theorem last_le : ∀ {n : Nat} {ls : List (List Sum2)}, Over n ls → ls ≠ [] → lastN n ls ≤ 4
  | n, [a], o, _ => o.2.1.2
  | n, a :: b :: ls, o, _ => last_le (n := a.length) (ls := b :: ls) o.2.2 (by simp)
def spStep (K : PySem.W.Frag) (CN CL CC : Addr) : Sp := fun vs H Q _ => ∃ (s p B S : Addr) (n t : Nat) (ls : List (List Sum2)) (ss : List V) (Ls : List (List Rat)), vs = [.ref s, .ref p, .int (n : Int), .ref B, .ref S] ∧ Stm s H ∧ NetV K CN CL CC H p n ls ∧ LayS K s H B ls ∧ NumB t ls ∧ t ≤ 3 ∧ Over n ls ∧ 1 ≤ n ∧ n ≤ 3 ∧ 2 ≤ ls.length ∧ ls.length ≤ 4 ∧ S ≠ s ∧ H S = some (.lst ss) ∧ Paired (RowV K H) ss Ls ∧ (∀ L ∈ Ls, L.length = n ∧ SvL 100 6 L) ∧
  ∀ T p' B' ls' H', Dk s H H' → Stm s H' → SqT K H' T [.ref p', .ref B'] → NetV K CN CL CC H' p' n ls' → LayS K s H' B' ls' → NumB (t + 1) ls' → Over n ls' → ls'.length = ls.length → Q (.ref T) H'
theorem ok__law_step (D : Df K mg "_law_step" s__law_step ["_law_stream_here", "_law_net", "_law_ins", "_law_layers_here", "_law_spots"]) {CN CL CC fN : Addr} {fdN : FuncData} (N : NDefs P w K mg base CN CL CC) (MN : Mk K CN fN) (FN : FnOk P w K mg base CX0 6 fN fdN ["self", "ins", "layers"] (spInitN K CN CL CC)) (bN : Binds K fdN ["self", "ins", "layers"] []) (mgN : mg "Net" = some (.ref CN))
    (GA : MOk P w K mg base 8 CN "outs_at" ["self", "spot"] (spOutsAt K CN CL CC)) (GU : MOk P w K mg base 7 CN "sums_at" ["self", "spot"] (spSumsAt K CN CL CC)) (GQ : MOk P w K mg base 8 CN "pattern_at" ["self", "spot"] (spPatAt K CN CL CC)) (GK : Ok P w K mg base 1 "_law_take" ["_law_stream_here", "_law_many"] spTake3) (GP : Ok P w K mg base 1 "_law_part" ["_law_top", "_law_bottom"] (spPart K)) (GT : Ok P w K mg base 2 "_law_times" ["_law_one", "_law_other"] (spTimes K))
    (GH : Ok P w K mg base 1 "_law_ahead" ["_law_layers_here", "_law_layer"] (spAhead K)) (GB : Ok P w K mg base 1 "_law_bits" ["_law_pattern", "_law_one", "_law_other"] spBits) (GS : Ok P w K mg base 3 "_law_scaled" ["_law_layers_here", "_law_layer", "_law_node_here", "_law_by"] (spScaled K)) (GX : Ok P w K mg base 2 "_law_exchanged" ["_law_layers_here", "_law_layer", "_law_one", "_law_other"] (spExch K)) (mlen : mg "len" = none) : Ok P w K mg base 9 "_law_step" ["_law_stream_here", "_law_net", "_law_ins", "_law_layers_here", "_law_spots"] (spStep K CN CL CC) := by
  refine D.ok fun f fd F => F.ok sc__law_step (fun vs H Q E h => ?_) (fun cdv A outer s H vs Q E hr h => ?_)
  · obtain ⟨s, p, B, S, n, t, ls, ss, Ls, rfl, _⟩ := h
    rfl
  · obtain ⟨s, p, B, S, n, t, ls, ss, Ls, rfl, hS, hN, hB, nb, ht, ov, n1, n3, l2, l4, hSs, hss, pss, hLs, q⟩ := h
    obtain ⟨fOA, dOA, mOA, FOA, bOA⟩ := GA.ex
    obtain ⟨fSA, dSA, mSA, FSA, bSA⟩ := GU.ex
    obtain ⟨fPA, dPA, mPA, FPA, bPA⟩ := GQ.ex
    have hr1 : Room 1 _ := hr.mono (by decide)
    have hr2 : Room 2 _ := hr.mono (by decide)
    have hr3 : Room 3 _ := hr.mono (by decide)
    have hr7 : Room (6 + 1) _ := hr.mono (by decide)
    refine ⟨_, (pss_cons (ps_set (i := 5) sc__law_step.nd rfl (.inl rfl) (cl GK hr1 (pa_cons (pv 0) (pa_cons (pe_op op_sub (pe_callB call_len_seq (by rfl) mlen PySem.boot_len (pa_cons (pv 3) pa_nil)) pe_int) pa_nil))))
      (pss_cons (ps_set (i := 6) sc__law_step.nd rfl (.inl rfl) (cl GK hr1 (pa_cons (pv 0) (pa_cons (pe_callB call_len_seq (by rfl) mlen PySem.boot_len (pa_cons (pe_ix ix_list (pv 3) (pv 5) (fun _ _ => rfl)) pa_nil)) pa_nil))))
      (pss_cons (ps_set (i := 7) sc__law_step.nd rfl (.inl rfl) (cl GK hr1 (pa_cons (pv 0) (pa_cons (pe_callB call_len_seq (by rfl) mlen PySem.boot_len (pa_cons (pe_ix ix_list (pv 3) (pv 5) (fun _ _ => rfl)) pa_nil)) pa_nil))))
      (pss_cons (ps_set (i := 8) sc__law_step.nd rfl (.inl rfl) (cl GH hr1 (pa_cons (pv 3) (pa_cons (pv 5) pa_nil))))
      (pss_cons (ps_set (i := 9) sc__law_step.nd rfl (.inl rfl) (cl GP hr1 (pa_cons (pe_op op_add pe_int (cl GK hr1 (pa_cons (pv 0) (pa_cons pe_int pa_nil)))) (pa_cons (pe_op op_add pe_int (cl GK hr1 (pa_cons (pv 0) (pa_cons pe_int pa_nil)))) pa_nil))))
      (pss_cons (ps_set (i := 10) sc__law_step.nd rfl (.inl rfl) (pe_cmpR op_eq (cl GK hr1 (pa_cons (pv 0) (pa_cons pe_int pa_nil))) pe_int (nomark _)))
      (pss_cut (ps_if (pt_val (pv 10)) (pss_cons (ps_set (i := 11) sc__law_step.nd rfl (.inl rfl) (cl GS hr3 (pa_cons (pv 3) (pa_cons (pv 5) (pa_cons (pv 6) (pa_cons (pv 9) pa_nil))))))
      (pss_one (ps_set (i := 7) sc__law_step.nd rfl (.inl rfl) (pv 6)))) (pss_one (ps_set (i := 11) sc__law_step.nd rfl (.inl rfl) (cl GX hr2 (pa_cons (pv 3) (pa_cons (pv 5) (pa_cons (pv 6) (pa_cons (pv 7) pa_nil))))))))
      (pss_cons (ps_set (i := 12) sc__law_step.nd rfl (.inl rfl) (pe_make MN FN hr7 (by rfl) mgN bN .nil pass0 (pa_cons (pv 2) (pa_cons (pv 11) pa_nil))))
      (pss_cons (ps_for PassesOwn.never rfl (pi_list (pv 4)) (pg_name (i := 13) sc__law_step.nd rfl (.inl rfl)) (pss_cons (ps_set (i := 14) sc__law_step.nd rfl (.inl rfl) (cl GB hr1 (pa_cons (pe_meth (pv 1) N.tN mPA FPA hr bPA .nil pass0 (pa_cons (pv 13) pa_nil)) (pa_cons (pe_op op_add (pv 8) (pv 6)) (pa_cons (pe_op op_add (pv 8) (pv 7)) pa_nil)))))
      (pss_cons (ps_if (PW.pt (pw_or (pt_cmpR (op_neD hr.units) (pe_meth (pv 12) N.tN mOA FOA hr bOA .nil pass0 (pa_cons (pv 13) pa_nil)) (pe_meth (pv 1) N.tN mOA FOA hr bOA .nil pass0 (pa_cons (pv 13) pa_nil)) (nomark _)) (pw_or1 (pt_cmpR op_ne (pe_meth (pv 12) N.tN mPA FPA hr bPA .nil pass0 (pa_cons (pv 13) pa_nil)) (pv 14) (nomark _))))) (pss_one (ps_ret pe_non)) pss_nil)
      (pss_cons (ps_set (i := 15) sc__law_step.nd rfl (.inl rfl) (pe_ix ix_tup (pe_ix ix_list (pe_meth (pv 1) N.tN mSA FSA hr7 bSA .nil pass0 (pa_cons (pv 13) pa_nil)) (pv 5) (fun _ _ => rfl)) (pv 6) (fun _ _ => rfl)))
      (pss_cons (ps_set (i := 16) sc__law_step.nd rfl (.inl rfl) (pe_ix ix_list (pe_meth (pv 12) N.tN mSA FSA hr7 bSA .nil pass0 (pa_cons (pv 13) pa_nil)) (pv 5) (fun _ _ => rfl)))
      (pss_one (ps_if (PW.pt (pw_or (PW.pt (pw_and (pt_val (pv 10)) (pw_and1 (pt_cmpR (op_neD hr.units) (pe_ix ix_tup (pv 16) (pv 6) (fun _ _ => rfl)) (cl GT hr2 (pa_cons (pv 9) (pa_cons (pv 15) pa_nil))) (nomark _))))) (pw_or1 (PW.pt (pw_and (pt_not (pt_val (pv 10))) (pw_and1 (pt_cmpR (op_neD hr.units) (pe_ix ix_tup (pv 16) (pv 7) (fun _ _ => rfl)) (pv 15) (nomark _)))))))) (pss_one (ps_ret pe_non)) pss_nil)))))))
      (pss_one (ps_ret (pe_tup (pa_cons (pv 12) (pa_cons (pv 11) pa_nil)))))))))))))), ?_⟩
    have each := over_len ov
    have ok := nb.ok (by omega) n1 n3 ov l2 l4
    obtain ⟨B', bs, eB, qB, pB⟩ := hB.i
    cases eB
    have hbl := Paired.length pB
    -- which layer
    refine ⟨_, rfl, _, rfl, B, _, rfl, .inl qB, _, _, rfl, rfl, s, _, rfl, hS, by omega, by omega, fun d1 H1 a0 a1 r1 t1 => ?_⟩
    obtain ⟨i, rfl⟩ : ∃ i : Nat, d1 = (i : Int) := ⟨d1.toNat, by omega⟩
    have hi2 : i + 1 < ls.length := by omega
    have hl : ls[i]? = some (ls[i]'(by omega)) := List.getElem?_eq_getElem _
    have hl2 : ls[i + 1]? = some (ls[i + 1]'(by omega)) := List.getElem?_eq_getElem _
    generalize ls[i]'(by omega) = l at hl
    generalize ls[i + 1]'(by omega) = lb at hl2
    have hB1 := hB.dk hS.lst r1
    obtain ⟨B', bs1, eB, qB1, pB1⟩ := hB1.i
    cases eB
    obtain ⟨vb1, hvb1, lv1⟩ := pget' pB1 hl
    obtain ⟨b1, us1, rfl, qb1, pu1⟩ := lv1
    have hul1 := Paired.length pu1
    have hl4' := each l (List.mem_of_getElem? hl)
    have over := over_two ov hl hl2
    have over1 : 1 ≤ l.length := by
      have o := over_append.mp (by rw [← (set2 l lb hl hl2).1]; exact ov)
      exact o.2.2.1.1
    refine ⟨_, rfl, _, rfl, _, rfl, B, bs1, _, _, rfl, rfl, qB1, atI_nat hvb1, b1, _, rfl, .inl qb1, s, _, rfl, t1, by omega, by omega, fun d2 H2 b0 b1' r2 t2 => ?_⟩
    obtain ⟨a, rfl⟩ : ∃ a : Nat, d2 = (a : Int) := ⟨d2.toNat, by omega⟩
    have hB2 := hB1.dk r1.st r2
    obtain ⟨B', bs2, eB, qB2, pB2⟩ := hB2.i
    cases eB
    obtain ⟨vb2, hvb2, lv2⟩ := pget' pB2 hl
    obtain ⟨b2, us2, rfl, qb2, pu2⟩ := lv2
    have hul2 := Paired.length pu2
    refine ⟨_, rfl, _, rfl, _, rfl, B, bs2, _, _, rfl, rfl, qB2, atI_nat hvb2, b2, _, rfl, .inl qb2, s, _, rfl, t2, by omega, by omega, fun d3 H3 c0 c1 r3 t3 => ?_⟩
    obtain ⟨b, rfl⟩ : ∃ b : Nat, d3 = (b : Int) := ⟨d3.toNat, by omega⟩
    have hB3 := hB2.dk r2.st r3
    refine ⟨_, rfl, _, rfl, .ref B, i, ls, rfl, hB3.i, by omega, by omega, fun H4 e4 => ?_⟩
    have t4 := t3.ex e4
    have hsum : ((ls.take i).map List.length).sum ≤ 16 := by
      have h1 := sum_len_le (l := ls.take i) fun x hx => each x (List.mem_of_mem_take hx)
      have h2 : (ls.take i).length ≤ 4 := by
        rw [List.length_take]
        omega
      omega
    generalize hh : ((ls.take i).map List.length).sum = h at hsum
    -- by what
    refine ⟨_, rfl, s, _, rfl, t4, by decide, by decide, fun d5 H5 x0 x1 r5 t5 => ⟨_, _, rfl, rfl, _, rfl, s, _, rfl, t5, by decide, by decide, fun d6 H6 y0 y1 r6 t6 => ⟨_, _, rfl, rfl, ?_⟩⟩⟩
    obtain ⟨d, rfl⟩ : ∃ d : Nat, d5 = (d : Int) := ⟨d5.toNat, by omega⟩
    obtain ⟨e, rfl⟩ : ∃ e : Nat, d6 = (e : Int) := ⟨d6.toNat, by omega⟩
    refine ⟨_, _, 4, rfl, by omega, by omega, by decide, by decide, fun vq H7 e7 hq => ?_⟩
    have byk := by_ok (d := d) (e := e) (by omega) (by omega)
    generalize Rat.divInt (1 + (d : Int)) (1 + (e : Int)) = qq at hq byk
    have t7 := t6.ex e7
    refine ⟨_, rfl, s, _, rfl, t7, by decide, by decide, fun d8 H8 z0 z1 r8 t8 => ⟨rfl, ?_⟩⟩
    generalize decide (V.int d8 = V.int 0) = sc
    have R38 : Dk s H3 H8 := (((Dk.ex r3.st e4).trans r5).trans r6).then e7 |>.trans r8
    have R08 : Dk s H H8 := ((r1.trans r2).trans r3).trans R38
    have hB8 := hB3.dk r3.st R38
    have hN8 := hN.dk hS.lst R08
    have hss8 := R08.keep S _ hSs hss
    have pss8 : Paired (RowV K H8) ss Ls := pmono (fun _ _ q => RowV.dk hS.lst R08 q) pss
    have hq8 := hq.dk t7.lst r8
    have tw : Two ls i l lb (W60 t) := ⟨hl, hl2, l4, each, over, fun y hy => by
      have o := over_append.mp (by rw [← (set2 l lb hl hl2).1]; exact ov)
      have h1 := o.2.1 y hy
      rw [h1]
      have h2 : lastN n (ls.take i) ≤ 4 := by
        rcases i with _ | i
        · show n ≤ 4
          omega
        · have hlen : (ls.take (i + 1)).length = i + 1 := by
            rw [List.length_take]
            omega
          have : ls.take (i + 1) ≠ [] := fun z => by
            rw [z] at hlen
            simp at hlen
          exact last_le o.1 this
      exact h2, fun a ha z hz => ⟨fun r hr => ((nb a ha z hz).1 r hr).mono (by omega) (Nat.dvd_refl _), (nb a ha z hz).2.mono (by omega) (Nat.dvd_refl _)⟩, W60_pos t, Nat.lt_trans (W60_lt (by omega)) (by decide)⟩
    have hya : l[a]? = some (l[a]'(by omega)) := List.getElem?_eq_getElem _
    have hyb : l[b]? = some (l[b]'(by omega)) := List.getElem?_eq_getElem _
    generalize l[a]'(by omega) = ya at hya
    generalize l[b]'(by omega) = yb at hyb
    have mya := List.mem_of_getElem? hya
    have myb := List.mem_of_getElem? hyb
    have hlen2 : ∀ y ∈ lb, a < y.1.length ∧ b < y.1.length := fun y hy => by
      rw [over y hy]
      omega
    refine ⟨fun σ H' => ∃ (F : Addr) (ys : List V) (b2 : Nat) (g : Rat → Rat) (ls' : List (List Sum2)), σ = [some (.ref s), some (.ref p), some (.int (n : Int)), some (.ref B), some (.ref S), some (.int (i : Int)), some (.int (a : Int)), some (.int (b2 : Int)), some (.int (h : Int)), some vq, some (.bl sc), some (.ref F), none, none, none, none, none] ∧ Ex H8 H' ∧ LayP K H8 H' F ys ls' ∧ Sw n ls ls' i a b2 h g ∧ NumB (t + 1) ls' ∧ Over n ls' ∧ b2 ≤ 16 ∧ (sc = true → b2 = a ∧ g = (qq * ·)) ∧ (sc = false → g = id), ?_, ?_⟩
    · refine ⟨_, rfl, sc, rfl, ifB (fun hsc => ?_) (fun hsc => ?_)⟩
      · refine ⟨_, rfl, _, rfl, _, rfl, _, rfl, .ref B, vq, i, a, W60 t, qq, ls, l, lb, ya, rfl, hB8.i, hq8, byk.pos, byk.sz, byk.szi, tw, hya, fun F H9 ys e9 L9 => ⟨_, rfl, ?_⟩⟩
        refine ⟨F, ys, a, (qq * ·), _, rfl, e9, L9, ?_, numB_scaled nb hl hl2 hya (fun y hy => (hlen2 y hy).1) byk.sv byk.svi, ?_, by omega, fun _ => ⟨rfl, rfl⟩, fun z => by rw [hsc] at z; cases z⟩
        · rw [← hh]
          exact sw_scaled ov hl hl2 hya byk.pos (binv_num byk.pos).2.2
        · refine over_set2 ov hl hl2 (by simp) (by simp) (fun z hz => ?_) (fun z hz => ?_)
          · rcases List.mem_or_eq_of_mem_set hz with hz | rfl
            · exact ⟨z, hz, rfl⟩
            · exact ⟨ya, mya, len_stimes _ _⟩
          · obtain ⟨y, hy, rfl⟩ := List.mem_map.mp hz
            exact ⟨y, hy, by simp [scZ]⟩
      · refine ⟨_, rfl, _, rfl, _, rfl, _, rfl, .ref B, i, a, b, W60 t, ls, l, lb, ya, yb, rfl, hB8.i, tw, hya, hyb, fun F H9 ys e9 L9 => ?_⟩
        refine ⟨F, ys, b, id, _, rfl, e9, L9, ?_, numB_swap nb hl hl2 hya hyb hlen2, ?_, by omega, fun z => (by rw [hsc] at z; cases z), fun _ => rfl⟩
        · rw [← hh]
          exact sw_swap ov hl hl2 hya hyb
        · refine over_set2 ov hl hl2 len_swap (by simp) (fun z hz => ?_) (fun z hz => ?_)
          · unfold swap at hz
            rcases List.mem_or_eq_of_mem_set hz with hz | rfl
            · rcases List.mem_or_eq_of_mem_set hz with hz | rfl
              · exact ⟨z, hz, rfl⟩
              · exact ⟨_, myb, rfl⟩
            · exact ⟨_, mya, rfl⟩
          · obtain ⟨y, hy, rfl⟩ := List.mem_map.mp hz
            exact ⟨y, hy, by simp [exZ, len_swap]⟩
    rintro σ H9 ⟨F, ys, b2, g, ls', rfl, e9, L9, sw, nb', ov', hb16, hg1, hg2⟩
    have ll' : ls'.length = ls.length := sw.len
    have ok' := nb'.ok (by omega) n1 n3 ov' (by omega) (by omega)
    have lay9 := L9.toS t8.lst
    -- the net
    refine ⟨_, rfl, _, rfl, fun x dx np nd ne => ?_⟩
    have eX : Ex H9 (upd (upd H9 dx (.own x)) x (.ins CN dx [])) := fun b o hb => by
      rw [upd_ne (ne_of_none hb np), upd_ne (ne_of_none hb nd)]
      exact hb
    have kX : upd (upd H9 dx (.own x)) x (.ins CN dx []) x = some (.ins CN dx []) := upd_same
    generalize upd (upd H9 dx (.own x)) x (.ins CN dx []) = HX at eX kX ⊢
    refine ⟨x, dx, .ref F, n, ls', W60 (t + 1), rfl, kX, lay9.i.ex eX, ok', fun HA kp hN2 => ⟨rfl, ?_⟩⟩
    have eA : Ex H9 HA := fun b o hb => kp b o (ne_of_none hb np) (eX b o hb)
    have E8A := e9.trans eA
    have hNA := hN8.ex E8A
    obtain ⟨dx1, tt1, ps1, hp1, qt1, pps1⟩ := id hNA
    obtain ⟨dx2, tt2, ps2, hp2, qt2, pps2⟩ := id hN2
    have no : ∀ (m : Str) (tt : Addr), (¬ m = "_ins") → (¬ m = "_layers") → List.lookup m [(("_ins" : Str), V.int (n : Int)), (("_layers" : Str), V.ref tt)] = none := fun m tt h1 h2 => no_n h1 h2
    have nOA := fun tt => no "outs_at" tt (by decide +kernel) (by decide +kernel)
    have nSA := fun tt => no "sums_at" tt (by decide +kernel) (by decide +kernel)
    have nPA := fun tt => no "pattern_at" tt (by decide +kernel) (by decide +kernel)
    have hssA := E8A _ _ hss8
    have f1 := fits60 (t := t) (by omega)
    have f2 := fits60 (t := t + 1) (by omega)
    refine ⟨_, rfl, S, rfl, ⟨_, sq_of hssA⟩, for_list (K := K) (a := S) (xs := ss) (fun k σ H' => ∃ o13 o14 o15 o16 : Option V, σ = [some (.ref s), some (.ref p), some (.int (n : Int)), some (.ref B), some (.ref S), some (.int (i : Int)), some (.int (a : Int)), some (.int (b2 : Int)), some (.int (h : Int)), some vq, some (.bl sc), some (.ref F), some (.ref x), o13, o14, o15, o16] ∧ Ex HA H') ⟨none, none, none, none, rfl, Ex.refl _⟩ (fun k σ H' _ ⟨_, _, _, _, _, e⟩ => sq_of (e _ _ hssA)) ?_ ?_⟩
    · rintro k y σ HB hk ⟨o13, o14, o15, o16, rfl, eB⟩
      obtain ⟨L, hL, ry⟩ := pget pss8 hk
      obtain ⟨hn, sL⟩ := hLs L (List.mem_of_getElem? hL)
      have ryB := ry.ex (E8A.trans eB)
      have hN1 : ∀ {H'}, Ex HA H' → NetV K CN CL CC H' p L.length ls := fun e => by
        rw [hn]
        exact hNA.ex e
      have hN2' : ∀ {H'}, Ex HA H' → NetV K CN CL CC H' x L.length ls' := fun e => by
        rw [hn]
        exact hN2.ex e
      have okL : NetOk L.length ls (W60 t) := by
        rw [hn]
        exact ok
      have okL' : NetOk L.length ls' (W60 (t + 1)) := by
        rw [hn]
        exact ok'
      obtain ⟨r, r', xa, hr0, hr0', hxa, hxb⟩ := sw.row L hn
      have hlast := sw.last L hn
      have hpat := sw.pat L hn
      have hpos : 0 ≤ patR (rowsAt ls L) := by
        rw [patR_val]
        exact pval_nn _
      refine ⟨_, rfl, p, dx1, _, rfl, eB _ _ hp1, nPA _, _, rfl, p, y, ls, L, _, 6, rfl, hN1 eB, ryB, okL, sL, f1, fun HC eC => ?_⟩
      refine ⟨_, rfl, _, rfl, _, _, rfl, rfl, _, rfl, _, rfl, _, _, rfl, rfl, patR (rowsAt ls L), h + a, h + b2, rfl, hpos, by omega, by omega, ?_⟩
      have EC := eB.trans eC
      refine ⟨_, rfl, x, dx2, _, rfl, EC _ _ hp2, nOA _, _, rfl, x, y, ls', L, _, 6, rfl, hN2' EC, ryB.ex eC, okL', sL, f2, fun vo o HD eD ho hvo => ?_⟩
      have ED := EC.trans eD
      refine ⟨_, rfl, p, dx1, _, rfl, ED _ _ hp1, nOA _, _, rfl, p, y, ls, L, _, 6, rfl, hN1 ED, ryB.ex (eC.trans eD), okL, sL, f1, fun vo2 o2 HE eE ho2 hvo2 => ?_⟩
      have eo : o2 = o := by
        rw [hlast, ho2] at ho
        exact Option.some.inj ho
      subst eo
      refine ⟨_, _, (hvo.ex eE).dp, hvo2.dp, shaped_row _, shaped_row _, _, rfl, ?_⟩
      rw [eqv_row]
      refine iteF ?_
      have EE := ED.trans eE
      refine ⟨_, rfl, x, dx2, _, rfl, EE _ _ hp2, nPA _, _, rfl, x, y, ls', L, _, 6, rfl, hN2' EE, ryB.ex (eC.trans (eD.trans eE)), okL', sL, f2, fun HF eF => ⟨_, rfl, rfl, _, rfl, ?_⟩⟩
      rw [hpat]
      refine iteNS rfl ?_
      have EF := EE.trans eF
      have ryF := ryB.ex (eC.trans (eD.trans (eE.trans eF)))
      refine ⟨_, rfl, p, dx1, _, rfl, EF _ _ hp1, nSA _, _, rfl, p, y, ls, L, _, 6, rfl, hN1 EF, ryF, okL, sL, f1, fun G1 rs1 HG hG1 eG hrs1 pr1 => ?_⟩
      obtain ⟨vr1, hvr1, row1⟩ := pget' pr1 hr0
      obtain ⟨tr1, xs1, rfl, qr1, px1⟩ := row1
      obtain ⟨vx1, hvx1, fx1⟩ := pget' px1 hxa
      refine ⟨_, rfl, G1, rs1, _, _, rfl, rfl, sq_of hrs1, atI_nat hvr1, _, rfl, tr1, xs1, _, _, rfl, rfl, qr1, atI_nat hvx1, ?_⟩
      have EG := EF.trans eG
      refine ⟨_, rfl, x, dx2, _, rfl, EG _ _ hp2, nSA _, _, rfl, x, y, ls', L, _, 6, rfl, hN2' EG, ryF.ex eG, okL', sL, f2, fun G2 rs2 HH hG2 eH hrs2 pr2 => ?_⟩
      obtain ⟨vr2, hvr2, row2⟩ := pget' pr2 hr0'
      obtain ⟨tr2, xs2, rfl, qr2, px2⟩ := row2
      obtain ⟨vx2, hvx2, fx2⟩ := pget' px2 hxb
      refine ⟨_, rfl, G2, rs2, _, _, rfl, rfl, sq_of hrs2, atI_nat hvr2, ?_⟩
      have EH := EG.trans eH
      refine ⟨_, rfl, sc, rfl, ifB (fun hsc => ?_) (fun hsc => ?_)⟩
      · obtain ⟨rfl, rfl⟩ := hg1 hsc
        have szx := rows_sz okL rfl f1 sL hr0 hxa
        refine ⟨_, rfl, _, rfl, tr2, xs2, _, _, rfl, rfl, qr2, atI_nat hvx2, _, rfl, _, rfl, vq, vx1, qq, xa, 3, 3, 600000, 1200, rfl, hq8.ex (E8A.trans EH), fx1.ex eH, byk.sz, szx, ⟨by decide, by decide, by decide, by decide, by decide, by decide⟩, fun v5 HI eI hv5 => ?_⟩
        refine ⟨_, _, (fx2.ex eI).dp, hv5.dp, shaped_fd _, shaped_fd _, _, rfl, ?_⟩
        rw [eqv_fd]
        refine iteF ⟨_, rfl, sc, rfl, ?_⟩
        rw [hsc]
        refine iteF (iteF ?_)
        exact ⟨_, _, _, _, rfl, EH.trans eI⟩
      · have hgi := hg2 hsc
        subst hgi
        refine ⟨_, rfl, sc, rfl, ?_⟩
        rw [hsc]
        refine iteT ⟨_, rfl, _, rfl, tr2, xs2, _, _, rfl, rfl, qr2, atI_nat hvx2, _, rfl, _, _, fx2.dp, (fx1.ex eH).dp, shaped_fd _, shaped_fd _, _, rfl, ?_⟩
        have efd : PyData.eqv (Nc.fd (id xa)) (Nc.fd xa) = true := eqv_fd xa
        rw [efd]
        refine iteF ?_
        exact ⟨_, _, _, _, rfl, EH⟩
    · rintro σ HB ⟨o13, o14, o15, o16, rfl, eB⟩
      refine ⟨_, rfl, _, rfl, (by show 2 ≤ sizeLine; decide), fun T hT => ?_⟩
      have eC : Ex HB (upd HB T (.tup [.ref x, .ref F])) := Ex.new hT
      have E := E8A.trans (eB.trans eC)
      exact q T x F ls' _ (R08.then E) (t8.ex E) (st_of upd_same) (hN2.ex (eB.trans eC)) (lay9.ex (eA.trans (eB.trans eC))) nb' ov' ll'
end

end K12
end
section
set_option maxRecDepth 100000
set_option maxHeartbeats 400000
namespace K12
open PySem Evl Nc PyProof.Rows
open L2 hiding spCell
section
variable {P : Program} {w : World} {K : PySem.W.Frag} {mg : Str → Option Value} {base : Heap}
structure LD (P : Program) (w : World) (K : PySem.W.Frag) (mg : Str → Option Value) (base : Heap) (CN CL CC : Addr) : Prop where
  cell : Ok P w K mg base 1 "_law_cell" ["_law_script", "_law_k"] (Nc.spCell K)
  stream : Ok P w K mg base 1 "_law_stream" ["_law_cell_here"] spStream3
  take : Ok P w K mg base 1 "_law_take" ["_law_stream_here", "_law_many"] spTake3
  lays : Ok P w K mg base 4 "_law_layers" ["_law_stream_here", "_law_ins"] (spLaysS K)
  spot : Ok P w K mg base 3 "_law_spot" ["_law_stream_here", "_law_many"] (spSpotS K)
theorem fn_law {CN CL CC fN f : Addr} {fd fdN : FuncData} (F : Fun K "law" "law" s_law f fd) (N : NDefs P w K mg base CN CL CC) (G : LD P w K mg base CN CL CC) (MN : Mk K CN fN) (FN : FnOk P w K mg base CX0 6 fN fdN ["self", "ins", "layers"] (spInitN K CN CL CC)) (bN : Binds K fdN ["self", "ins", "layers"] []) (mgN : mg "Net" = some (.ref CN))
    (GO : Ok P w K mg base 9 "_law_step" ["_law_stream_here", "_law_net", "_law_ins", "_law_layers_here", "_law_spots"] (spStep K CN CL CC)) (mrange : mg "range" = none) (mmax : mg "max" = none) (mmin : mg "min" = none) (mlen : mg "len" = none) : FnOk P w K mg base CX0 10 f fd ["_law_script"] (spLaw K) := by
  refine F.ok sc_law (fun vs H Q E h => ?_) (fun cdv A outer s0 H vs Q E hr h => ?_)
  · obtain ⟨a, ns, rfl, _⟩ := h
    rfl
  · obtain ⟨a, ns, rfl, hS, hn, q⟩ := h
    have hr1 : Room 1 _ := hr.mono (by decide)
    have hr3 : Room 3 _ := hr.mono (by decide)
    have hr4 : Room 4 _ := hr.mono (by decide)
    have hr7 : Room (6 + 1) _ := hr.mono (by decide)
    refine ⟨_, (pss_cons (ps_for PassesOwn.never rfl (pi_range1 (by rfl) mrange (pa_cons (pe_callB (call_max2 rfl) (by rfl) mmax (by decide +kernel) (pa_cons pe_int (pa_cons (pe_callB (call_min2 rfl) (by rfl) mmin (by decide +kernel) (pa_cons pe_int (pa_cons (pe_callB call_len_seq (by rfl) mlen PySem.boot_len (pa_cons (pv 0) pa_nil)) pa_nil))) pa_nil))) pa_nil)) (pg_name (i := 1) sc_law.nd rfl (.inl rfl)) (pss_cons (ps_set (i := 2) sc_law.nd rfl (.inr rfl) (cl G.stream hr1 (pa_cons (cl G.cell hr1 (pa_cons (pv 0) (pa_cons (pv 1) pa_nil))) pa_nil)))
      (pss_cut (ps_set (i := 3) sc_law.nd rfl (.inr rfl) (pe_op op_add pe_int (cl G.take hr1 (pa_cons (pv 2) (pa_cons pe_int pa_nil)))))
      (pss_cons (ps_set (i := 4) sc_law.nd rfl (.inl rfl) (cl G.lays hr4 (pa_cons (pv 2) (pa_cons (pv 3) pa_nil))))
      (pss_cons (ps_set (i := 5) sc_law.nd rfl (.inl rfl) (pe_make MN FN hr7 (by rfl) mgN bN .nil pass0 (pa_cons (pv 3) (pa_cons (pv 4) pa_nil))))
      (pss_cons (ps_setLc (i := 6) (own := [("_law_j", 9)]) (g := gName 9) (tt := tYes) rfl sc_law.nd rfl rfl (sw_true rfl rfl rfl (by decide +kernel)) (pi_range1 (by rfl) mrange (pa_cons pe_int pa_nil)) (blkOk_by (N := ["_law_script", "_law_k", "_law_stream_here", "_law_ins", "_law_layers_here", "_law_net", "_law_spots", "_law_turn", "_law_told", "_law_j"]) (sc := defScope s_law) (by decide +kernel)) (fun _ _ _ _ _ => (pg_name (i := 9) sc_law.nd rfl (.inl rfl))) (fun _ _ _ _ _ => pts_nil) (fun _ _ _ _ _ => cl G.spot hr3 (pa_cons (pv 2) (pa_cons (pv 3) pa_nil))))
      (pss_one (ps_for PassesOwn.never rfl (pi_range1 (by rfl) mrange (pa_cons (pe_op op_add pe_int (cl G.take hr1 (pa_cons (pv 2) (pa_cons pe_int pa_nil)))) pa_nil)) (pg_name (i := 7) sc_law.nd rfl (.inl rfl)) (pss_cons (ps_set (i := 8) sc_law.nd rfl (.inl rfl) (cl GO hr (pa_cons (pv 2) (pa_cons (pv 5) (pa_cons (pv 3) (pa_cons (pv 4) (pa_cons (pv 6) pa_nil)))))))
      (pss_cons (ps_if (pt_cmpR op_isN (pv 8) pe_non (nomark _)) (pss_one (ps_ret pe_bl)) pss_nil)
      (pss_one (ps_asg (pv 8) (pg_tup rfl (pgs_cons (pg_name (i := 5) sc_law.nd rfl (.inl rfl)) (pgs_cons (pg_name (i := 4) sc_law.nd rfl (.inl rfl)) pgs_nil)))))))))))))))
      (pss_one (ps_ret pe_bl))), ?_⟩
    refine ⟨_, rfl, a, _, rfl, .inl hS, _, _, rfl, _, _, rfl, ?_⟩
    rw [List.length_map]
    generalize hm : (if (if ((ns.length : Nat) : Int) < 5 then ((ns.length : Nat) : Int) else 5) > 1 then (if ((ns.length : Nat) : Int) < 5 then ((ns.length : Nat) : Int) else 5) else 1) = m
    have hm1 : 1 ≤ m ∧ m ≤ 5 := by
      rw [← hm]
      split <;> split <;> omega
    refine ⟨m, rfl, by omega, by omega, for_range (lo := 0) (n := m.toNat) (fun i σ H' => ∃ o1 o2 o3 o4 o5 o6 o7 o8 o9, σ = [some (.ref a), o1, o2, o3, o4, o5, o6, o7, o8, o9] ∧ Ex H H') ⟨none, none, none, none, none, none, none, none, none, rfl, Ex.refl H⟩ ?_ ?_⟩
    · rintro i σ H1 hi ⟨o1, o2, o3, o4, o5, o6, o7, o8, o9, rfl, e1⟩
      rw [show (0 : Int) + (i : Int) = (i : Int) by omega]
      refine ⟨_, rfl, _, rfl, a, ns, i, rfl, ex_l e1 hS, by omega, fun c => ⟨c, rfl, fun s hs H2 e2 t2 => ?_⟩⟩
      -- how many ins
      refine ⟨fun σ H3 => ∃ n : Nat, σ = [some (.ref a), some (.int (i : Int)), some (.ref s), some (.int (n : Int)), o4, o5, o6, o7, o8, o9] ∧ 1 ≤ n ∧ n ≤ 3 ∧ Dk s H2 H3 ∧ Stm s H3, ?_, ?_⟩
      · refine ⟨_, rfl, s, _, rfl, t2, by decide, by decide, fun d H3 a0 a1 r3 t3 => ⟨_, _, rfl, rfl, (1 + d).toNat, ?_, by omega, by omega, r3, t3⟩⟩
        have e : (((1 + d).toNat : Nat) : Int) = 1 + d := by omega
        rw [e]
        rfl
      rintro σ H3 ⟨n, rfl, n1, n3, r3, t3⟩
      refine ⟨_, rfl, _, rfl, s, n, rfl, t3, n1, n3, fun B ls H4 hB r4 t4 lay ov ll2 ll4 nm => ?_⟩
      have R4 := r3.trans r4
      have nb : NumB 0 ls := fun l hl z hz => ⟨fun r hr => ((nm l hl z hz).1 r hr).mono (by decide) (by decide), (nm l hl z hz).2.mono (by decide) (by decide)⟩
      have ok := nb.ok (by decide) n1 n3 ov ll2 ll4
      -- the net
      refine ⟨_, rfl, _, rfl, fun x dx np nd ne => ?_⟩
      have eX : Ex H4 (upd (upd H4 dx (.own x)) x (.ins CN dx [])) := fun b o hb => by
        rw [upd_ne (ne_of_none hb np), upd_ne (ne_of_none hb nd)]
        exact hb
      have kX : upd (upd H4 dx (.own x)) x (.ins CN dx []) x = some (.ins CN dx []) := upd_same
      generalize upd (upd H4 dx (.own x)) x (.ins CN dx []) = HX at eX kX ⊢
      refine ⟨x, dx, .ref B, n, ls, _, rfl, kX, lay.i.ex eX, ok, fun H5 kp hN => ⟨rfl, ?_⟩⟩
      have e5 : Ex H4 H5 := fun b o hb => kp b o (ne_of_none hb np) (eX b o hb)
      have R5 := R4.then e5
      have t5 := t4.ex e5
      -- the spots
      refine ⟨5, rfl, by decide, by decide, fun D hD => ?_⟩
      have hsD := R5.st.ne hD
      refine lc_range (lo := 0) (n := (5 : Int).toNat) (fun j H' => ∃ (Ls : List (List Rat)) (xs : List V), H' D = some (.lst xs) ∧ Paired (RowV K H') xs Ls ∧ Ls.length = j ∧ (∀ L ∈ Ls, L.length = n ∧ SvL 3 6 L) ∧ Dk s H5 H' ∧ Stm s H')
        ⟨[], [], upd_same, .nil, rfl, (fun _ z => by cases z), Dk.new R5.st hD, t5.mut hsD⟩ ?_ ?_
      · rintro j H7 hj ⟨Ls, xs, hx, pr, hl, hz, r7, t7⟩
        have hj2 : j < 5 := hj
        refine ⟨rfl, ?_⟩
        refine ⟨_, rfl, _, rfl, s, n, rfl, t7, by omega, fun v L H8 r8 t8 hv hL sL => ?_⟩
        have x8 := r8.keep D _ (Ne.symm hsD) hx
        have hxl := Paired.length pr
        refine ⟨xs, x8, sz_lt (by omega), Ls ++ [L], xs ++ [v], upd_same, ?_, by simp [hl], ?_, (r7.trans r8).mut hD hsD, t8.mut hsD⟩
        · exact Paired.snoc (pmono (fun _ _ q => RowV.mut x8 (RowV.dk r7.st r8 q)) pr) (RowV.mut x8 hv)
        · intro b hb
          rcases List.mem_append.mp hb with hb | hb
          · exact hz b hb
          · rw [List.mem_singleton.mp hb]
            exact ⟨hL, sL⟩
      rintro H7 ⟨Ls, ss, hss, pss, hLl, hLs, r7, t7⟩
      have R7 := R5.trans r7
      have hN7 := hN.dk R5.st r7
      have lay7 := (lay.ex e5).dk R5.st r7
      have hLs' : ∀ L ∈ Ls, L.length = n ∧ SvL 100 6 L := fun L h => ⟨(hLs L h).1, (hLs L h).2.mono (by decide) (Nat.dvd_refl 6)⟩
      -- the steps
      refine ⟨_, rfl, s, _, rfl, t7, by decide, by decide, fun d H8 d0 d1 r8 t8 => ⟨_, _, rfl, rfl, ?_⟩⟩
      have R8 := R7.trans r8
      refine ⟨1 + d, rfl, by omega, by omega, for_range (lo := 0) (n := (1 + d).toNat) (fun j σ H' => ∃ (o7 o8 : Option V) (p B' : Addr) (ls' : List (List Sum2)), σ = [some (.ref a), some (.int (i : Int)), some (.ref s), some (.int (n : Int)), some (.ref B'), some (.ref p), some (.ref D), o7, o8, o9] ∧ Dk s H8 H' ∧ Stm s H' ∧ NetV K CN CL CC H' p n ls' ∧ LayS K s H' B' ls' ∧ NumB j ls' ∧ Over n ls' ∧ ls'.length = ls.length)
        ⟨_, _, x, B, ls, rfl, Dk.refl R8.st, t8, hN7.dk R7.st r8, lay7.dk R7.st r8, nb, ov, rfl⟩ ?_ ?_⟩
      · rintro j σ H9 hj ⟨p7, p8, p, B', ls', rfl, r9, t9, hN9, lay9, nb9, ov9, hl9⟩
        have hj4 : j ≤ 3 := by omega
        have hss9 := r9.keep D _ (Ne.symm hsD) (r8.keep D _ (Ne.symm hsD) hss)
        have pss9 : Paired (RowV K H9) ss Ls := pmono (fun _ _ q => RowV.dk R8.st r9 (RowV.dk R7.st r8 q)) pss
        refine ⟨_, rfl, _, rfl, _, rfl, _, rfl, _, rfl, s, p, B', D, n, j, ls', ss, Ls, rfl, t9, hN9, lay9, nb9, hj4, ov9, n1, n3, by omega, by omega, Ne.symm hsD, hss9, pss9, hLs', fun T p' B2 ls2 HA rA tA qT hNA layA nbA ovA hlA => ?_⟩
        refine ⟨_, rfl, rfl, _, rfl, iteF ?_⟩
        refine ⟨_, rfl, T, [.ref p', .ref B2], rfl, qT, rfl, .ref p', [.ref B2], rfl, .ref B2, [], rfl, rfl, ?_⟩
        exact ⟨_, _, p', B2, ls2, rfl, r9.trans rA, tA, hNA, layA, nbA, ovA, by omega⟩
      · rintro σ H9 ⟨p7, p8, p, B', ls', rfl, r9, t9, hN9, lay9, nb9, ov9, hl9⟩
        refine ⟨_, _, _, _, _, _, _, _, _, rfl, fun b o hb => ?_⟩
        have hb1 := e1 b o hb
        have hbs := ne_of_none hb1 hs
        exact (R8.trans r9).keep b o hbs (e2 _ _ hb1)
    · rintro σ H' ⟨o1, o2, o3, o4, o5, o6, o7, o8, o9, rfl, e1⟩
      exact q H'
end

end K12
end
set_option maxRecDepth 100000
set_option maxHeartbeats 400000
namespace K12
open PySem Evl Nc PyProof.Rows
open L2 hiding spCell
/-! ### what the top has written; the law's own head -/
theorem all_mk {l : PySem.W.OpenLaw} {w : World} {K : PySem.W.Frag} {h : Heap} {mg : Str → Option Value} {fa : Addr} (X : K.In h) (G : h.Ns mainGlobals mg) (hfa : mg "law" = some (.ref fa))
    {od0 an0 : Option Addr} {sl0 : Array (Option Value)} {oc0 kV0 dc0 pm0 cd0 ct0 : Value} {f0 : Addr}
    {od1 an1 : Option Addr} {sl1 : Array (Option Value)} {oc1 kV1 dc1 pm1 cd1 ct1 : Value} {f1 : Addr}
    {od2 an2 : Option Addr} {sl2 : Array (Option Value)} {oc2 kV2 dc2 pm2 cd2 ct2 : Value} {f2 : Addr}
    {od3 an3 : Option Addr} {sl3 : Array (Option Value)} {oc3 kV3 dc3 pm3 cd3 ct3 : Value} {f3 : Addr}
    {od4 an4 : Option Addr} {sl4 : Array (Option Value)} {oc4 kV4 dc4 pm4 cd4 ct4 : Value} {f4 : Addr}
    {od5 an5 : Option Addr} {sl5 : Array (Option Value)} {oc5 kV5 dc5 pm5 cd5 ct5 : Value} {f5 : Addr}
    {od6 an6 : Option Addr} {sl6 : Array (Option Value)} {oc6 kV6 dc6 pm6 cd6 ct6 : Value} {f6 : Addr}
    {od7 an7 : Option Addr} {sl7 : Array (Option Value)} {oc7 kV7 dc7 pm7 cd7 ct7 : Value} {f7 : Addr}
    {od8 an8 : Option Addr} {sl8 : Array (Option Value)} {oc8 kV8 dc8 pm8 cd8 ct8 : Value} {f8 : Addr}
    {od9 an9 : Option Addr} {sl9 : Array (Option Value)} {oc9 kV9 dc9 pm9 cd9 ct9 : Value} {f9 : Addr}
    {od10 an10 : Option Addr} {sl10 : Array (Option Value)} {oc10 kV10 dc10 pm10 cd10 ct10 : Value} {f10 : Addr}
    {od11 an11 : Option Addr} {sl11 : Array (Option Value)} {oc11 kV11 dc11 pm11 cd11 ct11 : Value} {f11 : Addr}
    {od12 an12 : Option Addr} {sl12 : Array (Option Value)} {oc12 kV12 dc12 pm12 cd12 ct12 : Value} {f12 : Addr}
    {od13 an13 : Option Addr} {sl13 : Array (Option Value)} {oc13 kV13 dc13 pm13 cd13 ct13 : Value} {f13 : Addr}
    {od14 an14 : Option Addr} {sl14 : Array (Option Value)} {oc14 kV14 dc14 pm14 cd14 ct14 : Value} {f14 : Addr}
    {od15 an15 : Option Addr} {sl15 : Array (Option Value)} {oc15 kV15 dc15 pm15 cd15 ct15 : Value} {f15 : Addr}
    {od16 an16 : Option Addr} {sl16 : Array (Option Value)} {oc16 kV16 dc16 pm16 cd16 ct16 : Value} {f16 : Addr}
    {od17 an17 : Option Addr} {sl17 : Array (Option Value)} {oc17 kV17 dc17 pm17 cd17 ct17 : Value} {f17 : Addr}
    {od18 an18 : Option Addr} {sl18 : Array (Option Value)} {oc18 kV18 dc18 pm18 cd18 ct18 : Value} {f18 : Addr}
    {od19 an19 : Option Addr} {sl19 : Array (Option Value)} {oc19 kV19 dc19 pm19 cd19 ct19 : Value} {f19 : Addr}
    {od20 an20 : Option Addr} {sl20 : Array (Option Value)} {oc20 kV20 dc20 pm20 cd20 ct20 : Value} {f20 : Addr}
    {od21 an21 : Option Addr} {sl21 : Array (Option Value)} {oc21 kV21 dc21 pm21 cd21 ct21 : Value} {f21 : Addr}
    {od22 an22 : Option Addr} {sl22 : Array (Option Value)} {oc22 kV22 dc22 pm22 cd22 ct22 : Value} {f22 : Addr}
    {od23 an23 : Option Addr} {sl23 : Array (Option Value)} {oc23 kV23 dc23 pm23 cd23 ct23 : Value} {f23 : Addr}
    {od24 an24 : Option Addr} {sl24 : Array (Option Value)} {oc24 kV24 dc24 pm24 cd24 ct24 : Value} {f24 : Addr}
    {od25 an25 : Option Addr} {sl25 : Array (Option Value)} {oc25 kV25 dc25 pm25 cd25 ct25 : Value} {f25 : Addr}
    {od26 an26 : Option Addr} {sl26 : Array (Option Value)} {oc26 kV26 dc26 pm26 cd26 ct26 : Value} {f26 : Addr}
    {od27 an27 : Option Addr} {sl27 : Array (Option Value)} {oc27 kV27 dc27 pm27 cd27 ct27 : Value} {f27 : Addr}
    {od28 an28 : Option Addr} {sl28 : Array (Option Value)} {oc28 kV28 dc28 pm28 cd28 ct28 : Value} {f28 : Addr}
    {aCNOUGHT : Addr} {dCNOUGHT : Option Addr} {nCNOUGHT : Nat} {slCNOUGHT : Array (Option Value)} {t1NOUGHT t2NOUGHT : Tok}
    {CL : Addr}
    {fI : Addr}
    {CC : Addr}
    {CN : Addr}
    {fNI : Addr}
    {od_I an_I : Option Addr} {sl_I : Array (Option Value)} {oc_I kV_I dc_I pm_I cd_I ct_I : Value}
    {od_NI an_NI : Option Addr} {sl_NI : Array (Option Value)} {oc_NI kV_NI dc_NI pm_NI cd_NI ct_NI : Value}
    {od_Ltold an_Ltold : Option Addr} {sl_Ltold : Array (Option Value)} {oc_Ltold kV_Ltold dc_Ltold pm_Ltold cd_Ltold ct_Ltold : Value} {fLtold : Addr}
    {od_Lsums an_Lsums : Option Addr} {sl_Lsums : Array (Option Value)} {oc_Lsums kV_Lsums dc_Lsums pm_Lsums cd_Lsums ct_Lsums : Value} {fLsums : Addr}
    {od_Ctold an_Ctold : Option Addr} {sl_Ctold : Array (Option Value)} {oc_Ctold kV_Ctold dc_Ctold pm_Ctold cd_Ctold ct_Ctold : Value} {fCtold : Addr}
    {od_Csums an_Csums : Option Addr} {sl_Csums : Array (Option Value)} {oc_Csums kV_Csums dc_Csums pm_Csums cd_Csums ct_Csums : Value} {fCsums : Addr}
    {od_Nouts_at an_Nouts_at : Option Addr} {sl_Nouts_at : Array (Option Value)} {oc_Nouts_at kV_Nouts_at dc_Nouts_at pm_Nouts_at cd_Nouts_at ct_Nouts_at : Value} {fNouts_at : Addr}
    {od_Nsums_at an_Nsums_at : Option Addr} {sl_Nsums_at : Array (Option Value)} {oc_Nsums_at kV_Nsums_at dc_Nsums_at pm_Nsums_at cd_Nsums_at ct_Nsums_at : Value} {fNsums_at : Addr}
    {od_Npattern_at an_Npattern_at : Option Addr} {sl_Npattern_at : Array (Option Value)} {oc_Npattern_at kV_Npattern_at dc_Npattern_at pm_Npattern_at cd_Npattern_at ct_Npattern_at : Value} {fNpattern_at : Addr}
    {t_MI : Tok}
    {t_ML : Tok}
    {t_MN : Tok}
    (a0 : PySem.W.nsIn K mainGlobals "is_whole" = some (some (.ref f0)))
    (l0 : K.lookup f0 = some ⟨oc0, od0, .func (PySem.W.fnOf "is_whole" "is_whole" (defArgs s_is_whole) (defBody s_is_whole) (defScope s_is_whole) .none kV0 dc0 pm0 an0 cd0 ct0), sl0⟩)
    (c0 : PySem.W.codeIn K cd0 "is_whole" = true)
    (k0 : PySem.W.keepIn K (.ref f0) = true)
    (a1 : PySem.W.nsIn K mainGlobals "is_fraction" = some (some (.ref f1)))
    (l1 : K.lookup f1 = some ⟨oc1, od1, .func (PySem.W.fnOf "is_fraction" "is_fraction" (defArgs s_is_fraction) (defBody s_is_fraction) (defScope s_is_fraction) .none kV1 dc1 pm1 an1 cd1 ct1), sl1⟩)
    (c1 : PySem.W.codeIn K cd1 "is_fraction" = true)
    (k1 : PySem.W.keepIn K (.ref f1) = true)
    (a2 : PySem.W.nsIn K mainGlobals "is_row" = some (some (.ref f2)))
    (l2 : K.lookup f2 = some ⟨oc2, od2, .func (PySem.W.fnOf "is_row" "is_row" (defArgs s_is_row) (defBody s_is_row) (defScope s_is_row) .none kV2 dc2 pm2 an2 cd2 ct2), sl2⟩)
    (c2 : PySem.W.codeIn K cd2 "is_row" = true)
    (k2 : PySem.W.keepIn K (.ref f2) = true)
    (a3 : PySem.W.nsIn K mainGlobals "fraction_of" = some (some (.ref f3)))
    (l3 : K.lookup f3 = some ⟨oc3, od3, .func (PySem.W.fnOf "fraction_of" "fraction_of" (defArgs s_fraction_of) (defBody s_fraction_of) (defScope s_fraction_of) .none kV3 dc3 pm3 an3 cd3 ct3), sl3⟩)
    (c3 : PySem.W.codeIn K cd3 "fraction_of" = true)
    (k3 : PySem.W.keepIn K (.ref f3) = true)
    (a4 : PySem.W.nsIn K mainGlobals "plus" = some (some (.ref f4)))
    (l4 : K.lookup f4 = some ⟨oc4, od4, .func (PySem.W.fnOf "plus" "plus" (defArgs s_plus) (defBody s_plus) (defScope s_plus) .none kV4 dc4 pm4 an4 cd4 ct4), sl4⟩)
    (c4 : PySem.W.codeIn K cd4 "plus" = true)
    (k4 : PySem.W.keepIn K (.ref f4) = true)
    (a5 : PySem.W.nsIn K mainGlobals "times" = some (some (.ref f5)))
    (l5 : K.lookup f5 = some ⟨oc5, od5, .func (PySem.W.fnOf "times" "times" (defArgs s_times) (defBody s_times) (defScope s_times) .none kV5 dc5 pm5 an5 cd5 ct5), sl5⟩)
    (c5 : PySem.W.codeIn K cd5 "times" = true)
    (k5 : PySem.W.keepIn K (.ref f5) = true)
    (a6 : PySem.W.nsIn K mainGlobals "cut_at_nought" = some (some (.ref f6)))
    (l6 : K.lookup f6 = some ⟨oc6, od6, .func (PySem.W.fnOf "cut_at_nought" "cut_at_nought" (defArgs s_cut_at_nought) (defBody s_cut_at_nought) (defScope s_cut_at_nought) .none kV6 dc6 pm6 an6 cd6 ct6), sl6⟩)
    (c6 : PySem.W.codeIn K cd6 "cut_at_nought" = true)
    (k6 : PySem.W.keepIn K (.ref f6) = true)
    (a7 : PySem.W.nsIn K mainGlobals "weigh" = some (some (.ref f7)))
    (l7 : K.lookup f7 = some ⟨oc7, od7, .func (PySem.W.fnOf "weigh" "weigh" (defArgs s_weigh) (defBody s_weigh) (defScope s_weigh) .none kV7 dc7 pm7 an7 cd7 ct7), sl7⟩)
    (c7 : PySem.W.codeIn K cd7 "weigh" = true)
    (k7 : PySem.W.keepIn K (.ref f7) = true)
    (a8 : PySem.W.nsIn K mainGlobals "is_sum" = some (some (.ref f8)))
    (l8 : K.lookup f8 = some ⟨oc8, od8, .func (PySem.W.fnOf "is_sum" "is_sum" (defArgs s_is_sum) (defBody s_is_sum) (defScope s_is_sum) .none kV8 dc8 pm8 an8 cd8 ct8), sl8⟩)
    (c8 : PySem.W.codeIn K cd8 "is_sum" = true)
    (k8 : PySem.W.keepIn K (.ref f8) = true)
    (a9 : PySem.W.nsIn K mainGlobals "sum_at" = some (some (.ref f9)))
    (l9 : K.lookup f9 = some ⟨oc9, od9, .func (PySem.W.fnOf "sum_at" "sum_at" (defArgs s_sum_at) (defBody s_sum_at) (defScope s_sum_at) .none kV9 dc9 pm9 an9 cd9 ct9), sl9⟩)
    (c9 : PySem.W.codeIn K cd9 "sum_at" = true)
    (k9 : PySem.W.keepIn K (.ref f9) = true)
    (a10 : PySem.W.nsIn K mainGlobals "_reckoned" = some (some (.ref f10)))
    (l10 : K.lookup f10 = some ⟨oc10, od10, .func (PySem.W.fnOf "_reckoned" "_reckoned" (defArgs s__reckoned) (defBody s__reckoned) (defScope s__reckoned) .none kV10 dc10 pm10 an10 cd10 ct10), sl10⟩)
    (c10 : PySem.W.codeIn K cd10 "_reckoned" = true)
    (k10 : PySem.W.keepIn K (.ref f10) = true)
    (a11 : PySem.W.nsIn K mainGlobals "_are_ins" = some (some (.ref f11)))
    (l11 : K.lookup f11 = some ⟨oc11, od11, .func (PySem.W.fnOf "_are_ins" "_are_ins" (defArgs s__are_ins) (defBody s__are_ins) (defScope s__are_ins) .none kV11 dc11 pm11 an11 cd11 ct11), sl11⟩)
    (c11 : PySem.W.codeIn K cd11 "_are_ins" = true)
    (k11 : PySem.W.keepIn K (.ref f11) = true)
    (a12 : PySem.W.nsIn K mainGlobals "_are_layers" = some (some (.ref f12)))
    (l12 : K.lookup f12 = some ⟨oc12, od12, .func (PySem.W.fnOf "_are_layers" "_are_layers" (defArgs s__are_layers) (defBody s__are_layers) (defScope s__are_layers) .none kV12 dc12 pm12 an12 cd12 ct12), sl12⟩)
    (c12 : PySem.W.codeIn K cd12 "_are_layers" = true)
    (k12 : PySem.W.keepIn K (.ref f12) = true)
    (a13 : PySem.W.nsIn K mainGlobals "_law_cell" = some (some (.ref f13)))
    (l13 : K.lookup f13 = some ⟨oc13, od13, .func (PySem.W.fnOf "_law_cell" "_law_cell" (defArgs s__law_cell) (defBody s__law_cell) (defScope s__law_cell) .none kV13 dc13 pm13 an13 cd13 ct13), sl13⟩)
    (c13 : PySem.W.codeIn K cd13 "_law_cell" = true)
    (k13 : PySem.W.keepIn K (.ref f13) = true)
    (a14 : PySem.W.nsIn K mainGlobals "_law_stream" = some (some (.ref f14)))
    (l14 : K.lookup f14 = some ⟨oc14, od14, .func (PySem.W.fnOf "_law_stream" "_law_stream" (defArgs s__law_stream) (defBody s__law_stream) (defScope s__law_stream) .none kV14 dc14 pm14 an14 cd14 ct14), sl14⟩)
    (c14 : PySem.W.codeIn K cd14 "_law_stream" = true)
    (k14 : PySem.W.keepIn K (.ref f14) = true)
    (a15 : PySem.W.nsIn K mainGlobals "_law_take" = some (some (.ref f15)))
    (l15 : K.lookup f15 = some ⟨oc15, od15, .func (PySem.W.fnOf "_law_take" "_law_take" (defArgs s__law_take) (defBody s__law_take) (defScope s__law_take) .none kV15 dc15 pm15 an15 cd15 ct15), sl15⟩)
    (c15 : PySem.W.codeIn K cd15 "_law_take" = true)
    (k15 : PySem.W.keepIn K (.ref f15) = true)
    (a16 : PySem.W.nsIn K mainGlobals "_law_part" = some (some (.ref f16)))
    (l16 : K.lookup f16 = some ⟨oc16, od16, .func (PySem.W.fnOf "_law_part" "_law_part" (defArgs s__law_part) (defBody s__law_part) (defScope s__law_part) .none kV16 dc16 pm16 an16 cd16 ct16), sl16⟩)
    (c16 : PySem.W.codeIn K cd16 "_law_part" = true)
    (k16 : PySem.W.keepIn K (.ref f16) = true)
    (a17 : PySem.W.nsIn K mainGlobals "_law_times" = some (some (.ref f17)))
    (l17 : K.lookup f17 = some ⟨oc17, od17, .func (PySem.W.fnOf "_law_times" "_law_times" (defArgs s__law_times) (defBody s__law_times) (defScope s__law_times) .none kV17 dc17 pm17 an17 cd17 ct17), sl17⟩)
    (c17 : PySem.W.codeIn K cd17 "_law_times" = true)
    (k17 : PySem.W.keepIn K (.ref f17) = true)
    (a18 : PySem.W.nsIn K mainGlobals "_law_number" = some (some (.ref f18)))
    (l18 : K.lookup f18 = some ⟨oc18, od18, .func (PySem.W.fnOf "_law_number" "_law_number" (defArgs s__law_number) (defBody s__law_number) (defScope s__law_number) .none kV18 dc18 pm18 an18 cd18 ct18), sl18⟩)
    (c18 : PySem.W.codeIn K cd18 "_law_number" = true)
    (k18 : PySem.W.keepIn K (.ref f18) = true)
    (a19 : PySem.W.nsIn K mainGlobals "_law_node" = some (some (.ref f19)))
    (l19 : K.lookup f19 = some ⟨oc19, od19, .func (PySem.W.fnOf "_law_node" "_law_node" (defArgs s__law_node) (defBody s__law_node) (defScope s__law_node) .none kV19 dc19 pm19 an19 cd19 ct19), sl19⟩)
    (c19 : PySem.W.codeIn K cd19 "_law_node" = true)
    (k19 : PySem.W.keepIn K (.ref f19) = true)
    (a20 : PySem.W.nsIn K mainGlobals "_law_layers" = some (some (.ref f20)))
    (l20 : K.lookup f20 = some ⟨oc20, od20, .func (PySem.W.fnOf "_law_layers" "_law_layers" (defArgs s__law_layers) (defBody s__law_layers) (defScope s__law_layers) .none kV20 dc20 pm20 an20 cd20 ct20), sl20⟩)
    (c20 : PySem.W.codeIn K cd20 "_law_layers" = true)
    (k20 : PySem.W.keepIn K (.ref f20) = true)
    (a21 : PySem.W.nsIn K mainGlobals "_law_spot" = some (some (.ref f21)))
    (l21 : K.lookup f21 = some ⟨oc21, od21, .func (PySem.W.fnOf "_law_spot" "_law_spot" (defArgs s__law_spot) (defBody s__law_spot) (defScope s__law_spot) .none kV21 dc21 pm21 an21 cd21 ct21), sl21⟩)
    (c21 : PySem.W.codeIn K cd21 "_law_spot" = true)
    (k21 : PySem.W.keepIn K (.ref f21) = true)
    (a22 : PySem.W.nsIn K mainGlobals "_law_scaled" = some (some (.ref f22)))
    (l22 : K.lookup f22 = some ⟨oc22, od22, .func (PySem.W.fnOf "_law_scaled" "_law_scaled" (defArgs s__law_scaled) (defBody s__law_scaled) (defScope s__law_scaled) .none kV22 dc22 pm22 an22 cd22 ct22), sl22⟩)
    (c22 : PySem.W.codeIn K cd22 "_law_scaled" = true)
    (k22 : PySem.W.keepIn K (.ref f22) = true)
    (a23 : PySem.W.nsIn K mainGlobals "_law_order" = some (some (.ref f23)))
    (l23 : K.lookup f23 = some ⟨oc23, od23, .func (PySem.W.fnOf "_law_order" "_law_order" (defArgs s__law_order) (defBody s__law_order) (defScope s__law_order) .none kV23 dc23 pm23 an23 cd23 ct23), sl23⟩)
    (c23 : PySem.W.codeIn K cd23 "_law_order" = true)
    (k23 : PySem.W.keepIn K (.ref f23) = true)
    (a24 : PySem.W.nsIn K mainGlobals "_law_exchanged" = some (some (.ref f24)))
    (l24 : K.lookup f24 = some ⟨oc24, od24, .func (PySem.W.fnOf "_law_exchanged" "_law_exchanged" (defArgs s__law_exchanged) (defBody s__law_exchanged) (defScope s__law_exchanged) .none kV24 dc24 pm24 an24 cd24 ct24), sl24⟩)
    (c24 : PySem.W.codeIn K cd24 "_law_exchanged" = true)
    (k24 : PySem.W.keepIn K (.ref f24) = true)
    (a25 : PySem.W.nsIn K mainGlobals "_law_ahead" = some (some (.ref f25)))
    (l25 : K.lookup f25 = some ⟨oc25, od25, .func (PySem.W.fnOf "_law_ahead" "_law_ahead" (defArgs s__law_ahead) (defBody s__law_ahead) (defScope s__law_ahead) .none kV25 dc25 pm25 an25 cd25 ct25), sl25⟩)
    (c25 : PySem.W.codeIn K cd25 "_law_ahead" = true)
    (k25 : PySem.W.keepIn K (.ref f25) = true)
    (a26 : PySem.W.nsIn K mainGlobals "_law_bits" = some (some (.ref f26)))
    (l26 : K.lookup f26 = some ⟨oc26, od26, .func (PySem.W.fnOf "_law_bits" "_law_bits" (defArgs s__law_bits) (defBody s__law_bits) (defScope s__law_bits) .none kV26 dc26 pm26 an26 cd26 ct26), sl26⟩)
    (c26 : PySem.W.codeIn K cd26 "_law_bits" = true)
    (k26 : PySem.W.keepIn K (.ref f26) = true)
    (a27 : PySem.W.nsIn K mainGlobals "_law_step" = some (some (.ref f27)))
    (l27 : K.lookup f27 = some ⟨oc27, od27, .func (PySem.W.fnOf "_law_step" "_law_step" (defArgs s__law_step) (defBody s__law_step) (defScope s__law_step) .none kV27 dc27 pm27 an27 cd27 ct27), sl27⟩)
    (c27 : PySem.W.codeIn K cd27 "_law_step" = true)
    (k27 : PySem.W.keepIn K (.ref f27) = true)
    (a28 : PySem.W.nsIn K mainGlobals "law" = some (some (.ref f28)))
    (l28 : K.lookup f28 = some ⟨oc28, od28, .func (PySem.W.fnOf "law" "law" (defArgs s_law) (defBody s_law) (defScope s_law) .none kV28 dc28 pm28 an28 cd28 ct28), sl28⟩)
    (c28 : PySem.W.codeIn K cd28 "law" = true)
    (k28 : PySem.W.keepIn K (.ref f28) = true)
    (z_len : PySem.W.nsIn K mainGlobals "len" = some none)
    (z_range : PySem.W.nsIn K mainGlobals "range" = some none)
    (z_zip : PySem.W.nsIn K mainGlobals "zip" = some none)
    (z_tuple : PySem.W.nsIn K mainGlobals "tuple" = some none)
    (z_int : PySem.W.nsIn K mainGlobals "int" = some none)
    (z_abs : PySem.W.nsIn K mainGlobals "abs" = some none)
    (z_isinstance : PySem.W.nsIn K mainGlobals "isinstance" = some none)
    (z_bool : PySem.W.nsIn K mainGlobals "bool" = some none)
    (z_list : PySem.W.nsIn K mainGlobals "list" = some none)
    (z_max : PySem.W.nsIn K mainGlobals "max" = some none)
    (z_min : PySem.W.nsIn K mainGlobals "min" = some none)
    (z_all : PySem.W.nsIn K mainGlobals "all" = some none)
    (z_sum : PySem.W.nsIn K mainGlobals "sum" = some none)
    (zgcd : PySem.W.nsIn K mainGlobals "gcd" = some (some (.builtin "math.gcd")))
    (nNOUGHT : PySem.W.nsIn K mainGlobals "NOUGHT" = some (some (.ref aCNOUGHT)))
    (vNOUGHT : K.lookup aCNOUGHT = some ⟨.type "tuple", dCNOUGHT, .seq #[.int 0 t1NOUGHT, .int 1 t2NOUGHT] nCNOUGHT, slCNOUGHT⟩)
    (aCL : PySem.W.nsIn K mainGlobals "Layer" = some (some (.ref CL)))
    (pgCL : PySem.W.plainGet K CL Str.empty = true)
    (hdCL : PySem.W.hasDictIn K CL = true)
    (poCL : PySem.W.plainOver K CL = true)
    (saCL : PySem.W.findIn K (.ref CL) "__setattr__" = some (some (.builtin "object.__setattr__")))
    (mkCL : PySem.W.makesIn K CL = true)
    (kcCL : PySem.W.keepIn K (.ref CL) = true)
    (naCL : PySem.W.findIn K (.ref CL) "_nodes" = some none)
    (iiCL : PySem.W.findIn K (.ref CL) "__init__" = some (some (.ref fI)))
    (aCC : PySem.W.nsIn K mainGlobals "CutLayer" = some (some (.ref CC)))
    (pgCC : PySem.W.plainGet K CC Str.empty = true)
    (hdCC : PySem.W.hasDictIn K CC = true)
    (poCC : PySem.W.plainOver K CC = true)
    (saCC : PySem.W.findIn K (.ref CC) "__setattr__" = some (some (.builtin "object.__setattr__")))
    (mkCC : PySem.W.makesIn K CC = true)
    (kcCC : PySem.W.keepIn K (.ref CC) = true)
    (naCC : PySem.W.findIn K (.ref CC) "_nodes" = some none)
    (iiCC : PySem.W.findIn K (.ref CC) "__init__" = some (some (.ref fI)))
    (aCN : PySem.W.nsIn K mainGlobals "Net" = some (some (.ref CN)))
    (pgCN : PySem.W.plainGet K CN Str.empty = true)
    (hdCN : PySem.W.hasDictIn K CN = true)
    (poCN : PySem.W.plainOver K CN = true)
    (saCN : PySem.W.findIn K (.ref CN) "__setattr__" = some (some (.builtin "object.__setattr__")))
    (mkCN : PySem.W.makesIn K CN = true)
    (kcCN : PySem.W.keepIn K (.ref CN) = true)
    (niCN : PySem.W.findIn K (.ref CN) "_ins" = some none)
    (nlCN : PySem.W.findIn K (.ref CN) "_layers" = some none)
    (iiCN : PySem.W.findIn K (.ref CN) "__init__" = some (some (.ref fNI)))
    (haCN : PySem.W.findIn K (.ref CN) "__class__" = some (some (.builtin "object.__class__")))
    (hmCN : PySem.W.mroIn K CN (.type "object") = some true)
    (meCN : PySem.W.kitOne K (.ref CN) (.ref CN) = some true)
    (hnO : PySem.W.specialIn K (.builtin "object.__class__") "__get__" = some (some (.builtin "getset_descriptor.__get__")))
    (htO : PySem.W.takesIn K (.builtin "object.__class__") = some true)
    (qI : PySem.W.isFn K (.ref fI) = true)
    (lI : K.lookup fI = some ⟨oc_I, od_I, .func (PySem.W.fnOf "__init__" "Layer.__init__" (defArgs s_Layer___init__) (defBody s_Layer___init__) (defScope s_Layer___init__) .none kV_I dc_I pm_I an_I cd_I ct_I), sl_I⟩)
    (cI : PySem.W.codeIn K cd_I "Layer.__init__" = true)
    (kI : PySem.W.keepIn K (.ref fI) = true)
    (qNI : PySem.W.isFn K (.ref fNI) = true)
    (lNI : K.lookup fNI = some ⟨oc_NI, od_NI, .func (PySem.W.fnOf "__init__" "Net.__init__" (defArgs s_Net___init__) (defBody s_Net___init__) (defScope s_Net___init__) .none kV_NI dc_NI pm_NI an_NI cd_NI ct_NI), sl_NI⟩)
    (cNI : PySem.W.codeIn K cd_NI "Net.__init__" = true)
    (kNI : PySem.W.keepIn K (.ref fNI) = true)
    (wLtold : PySem.W.findIn K (.ref CL) "told" = some (some (.ref fLtold)))
    (qLtold : PySem.W.isFn K (.ref fLtold) = true)
    (lLtold : K.lookup fLtold = some ⟨oc_Ltold, od_Ltold, .func (PySem.W.fnOf "told" "Layer.told" (defArgs s_Layer_told) (defBody s_Layer_told) (defScope s_Layer_told) .none kV_Ltold dc_Ltold pm_Ltold an_Ltold cd_Ltold ct_Ltold), sl_Ltold⟩)
    (cLtold : PySem.W.codeIn K cd_Ltold "Layer.told" = true)
    (kLtold : PySem.W.keepIn K (.ref fLtold) = true)
    (wLsums : PySem.W.findIn K (.ref CL) "sums" = some (some (.ref fLsums)))
    (qLsums : PySem.W.isFn K (.ref fLsums) = true)
    (lLsums : K.lookup fLsums = some ⟨oc_Lsums, od_Lsums, .func (PySem.W.fnOf "sums" "Layer.sums" (defArgs s_Layer_sums) (defBody s_Layer_sums) (defScope s_Layer_sums) .none kV_Lsums dc_Lsums pm_Lsums an_Lsums cd_Lsums ct_Lsums), sl_Lsums⟩)
    (cLsums : PySem.W.codeIn K cd_Lsums "Layer.sums" = true)
    (kLsums : PySem.W.keepIn K (.ref fLsums) = true)
    (wCtold : PySem.W.findIn K (.ref CC) "told" = some (some (.ref fCtold)))
    (qCtold : PySem.W.isFn K (.ref fCtold) = true)
    (lCtold : K.lookup fCtold = some ⟨oc_Ctold, od_Ctold, .func (PySem.W.fnOf "told" "CutLayer.told" (defArgs s_CutLayer_told) (defBody s_CutLayer_told) (defScope s_CutLayer_told) .none kV_Ctold dc_Ctold pm_Ctold an_Ctold cd_Ctold ct_Ctold), sl_Ctold⟩)
    (cCtold : PySem.W.codeIn K cd_Ctold "CutLayer.told" = true)
    (kCtold : PySem.W.keepIn K (.ref fCtold) = true)
    (wCsums : PySem.W.findIn K (.ref CC) "sums" = some (some (.ref fCsums)))
    (qCsums : PySem.W.isFn K (.ref fCsums) = true)
    (lCsums : K.lookup fCsums = some ⟨oc_Csums, od_Csums, .func (PySem.W.fnOf "sums" "CutLayer.sums" (defArgs s_CutLayer_sums) (defBody s_CutLayer_sums) (defScope s_CutLayer_sums) .none kV_Csums dc_Csums pm_Csums an_Csums cd_Csums ct_Csums), sl_Csums⟩)
    (cCsums : PySem.W.codeIn K cd_Csums "CutLayer.sums" = true)
    (kCsums : PySem.W.keepIn K (.ref fCsums) = true)
    (wNouts_at : PySem.W.findIn K (.ref CN) "outs_at" = some (some (.ref fNouts_at)))
    (qNouts_at : PySem.W.isFn K (.ref fNouts_at) = true)
    (lNouts_at : K.lookup fNouts_at = some ⟨oc_Nouts_at, od_Nouts_at, .func (PySem.W.fnOf "outs_at" "Net.outs_at" (defArgs s_Net_outs_at) (defBody s_Net_outs_at) (defScope s_Net_outs_at) .none kV_Nouts_at dc_Nouts_at pm_Nouts_at an_Nouts_at cd_Nouts_at ct_Nouts_at), sl_Nouts_at⟩)
    (cNouts_at : PySem.W.codeIn K cd_Nouts_at "Net.outs_at" = true)
    (kNouts_at : PySem.W.keepIn K (.ref fNouts_at) = true)
    (wNsums_at : PySem.W.findIn K (.ref CN) "sums_at" = some (some (.ref fNsums_at)))
    (qNsums_at : PySem.W.isFn K (.ref fNsums_at) = true)
    (lNsums_at : K.lookup fNsums_at = some ⟨oc_Nsums_at, od_Nsums_at, .func (PySem.W.fnOf "sums_at" "Net.sums_at" (defArgs s_Net_sums_at) (defBody s_Net_sums_at) (defScope s_Net_sums_at) .none kV_Nsums_at dc_Nsums_at pm_Nsums_at an_Nsums_at cd_Nsums_at ct_Nsums_at), sl_Nsums_at⟩)
    (cNsums_at : PySem.W.codeIn K cd_Nsums_at "Net.sums_at" = true)
    (kNsums_at : PySem.W.keepIn K (.ref fNsums_at) = true)
    (wNpattern_at : PySem.W.findIn K (.ref CN) "pattern_at" = some (some (.ref fNpattern_at)))
    (qNpattern_at : PySem.W.isFn K (.ref fNpattern_at) = true)
    (lNpattern_at : K.lookup fNpattern_at = some ⟨oc_Npattern_at, od_Npattern_at, .func (PySem.W.fnOf "pattern_at" "Net.pattern_at" (defArgs s_Net_pattern_at) (defBody s_Net_pattern_at) (defScope s_Net_pattern_at) .none kV_Npattern_at dc_Npattern_at pm_Npattern_at an_Npattern_at cd_Npattern_at ct_Npattern_at), sl_Npattern_at⟩)
    (cNpattern_at : PySem.W.codeIn K cd_Npattern_at "Net.pattern_at" = true)
    (kNpattern_at : PySem.W.keepIn K (.ref fNpattern_at) = true)
    (iMI : PySem.W.nsIn K mainGlobals "MOST_INS" = some (some (.int 3 t_MI)))
    (iML : PySem.W.nsIn K mainGlobals "MOST_LAYERS" = some (some (.int 4 t_ML)))
    (iMN : PySem.W.nsIn K mainGlobals "MOST_NODES" = some (some (.int 4 t_MN)))
    : ∃ fd : FuncData, (∀ (s : Shared) (v : Value), BindsTo s fd ⟨[v], []⟩ [("_law_script", v)]) ∧ ∀ base : Heap, K.In base → base.Ns mainGlobals mg → FnOk l.prog w K mg base CX0 10 fa fd ["_law_script"] (spLaw K) := by
  have e := hfa.symm.trans (PySem.W.mg_of X G a28)
  cases e
  have D_is_whole : Df K mg "is_whole" s_is_whole ["thing"] := Df.of X G a0 l0 c0 k0 fun _ _ _ _ _ _ us hl => match us, hl with | [_], _ => rfl
  have D_is_fraction : Df K mg "is_fraction" s_is_fraction ["thing"] := Df.of X G a1 l1 c1 k1 fun _ _ _ _ _ _ us hl => match us, hl with | [_], _ => rfl
  have D_is_row : Df K mg "is_row" s_is_row ["thing", "many"] := Df.of X G a2 l2 c2 k2 fun _ _ _ _ _ _ us hl => match us, hl with | [_, _], _ => rfl
  have D_fraction_of : Df K mg "fraction_of" s_fraction_of ["top", "bottom"] := Df.of X G a3 l3 c3 k3 fun _ _ _ _ _ _ us hl => match us, hl with | [_, _], _ => rfl
  have D_plus : Df K mg "plus" s_plus ["one", "other"] := Df.of X G a4 l4 c4 k4 fun _ _ _ _ _ _ us hl => match us, hl with | [_, _], _ => rfl
  have D_times : Df K mg "times" s_times ["one", "other"] := Df.of X G a5 l5 c5 k5 fun _ _ _ _ _ _ us hl => match us, hl with | [_, _], _ => rfl
  have D_cut_at_nought : Df K mg "cut_at_nought" s_cut_at_nought ["one"] := Df.of X G a6 l6 c6 k6 fun _ _ _ _ _ _ us hl => match us, hl with | [_], _ => rfl
  have D_weigh : Df K mg "weigh" s_weigh ["row", "other"] := Df.of X G a7 l7 c7 k7 fun _ _ _ _ _ _ us hl => match us, hl with | [_, _], _ => rfl
  have D_is_sum : Df K mg "is_sum" s_is_sum ["thing", "many"] := Df.of X G a8 l8 c8 k8 fun _ _ _ _ _ _ us hl => match us, hl with | [_, _], _ => rfl
  have D_sum_at : Df K mg "sum_at" s_sum_at ["one", "row"] := Df.of X G a9 l9 c9 k9 fun _ _ _ _ _ _ us hl => match us, hl with | [_, _], _ => rfl
  have D__reckoned : Df K mg "_reckoned" s__reckoned ["nodes", "ahead"] := Df.of X G a10 l10 c10 k10 fun _ _ _ _ _ _ us hl => match us, hl with | [_, _], _ => rfl
  have D__are_ins : Df K mg "_are_ins" s__are_ins ["thing"] := Df.of X G a11 l11 c11 k11 fun _ _ _ _ _ _ us hl => match us, hl with | [_], _ => rfl
  have D__are_layers : Df K mg "_are_layers" s__are_layers ["thing", "ins"] := Df.of X G a12 l12 c12 k12 fun _ _ _ _ _ _ us hl => match us, hl with | [_, _], _ => rfl
  have D__law_cell : Df K mg "_law_cell" s__law_cell ["_law_script", "_law_k"] := Df.of X G a13 l13 c13 k13 fun _ _ _ _ _ _ us hl => match us, hl with | [_, _], _ => rfl
  have D__law_stream : Df K mg "_law_stream" s__law_stream ["_law_cell_here"] := Df.of X G a14 l14 c14 k14 fun _ _ _ _ _ _ us hl => match us, hl with | [_], _ => rfl
  have D__law_take : Df K mg "_law_take" s__law_take ["_law_stream_here", "_law_many"] := Df.of X G a15 l15 c15 k15 fun _ _ _ _ _ _ us hl => match us, hl with | [_, _], _ => rfl
  have D__law_part : Df K mg "_law_part" s__law_part ["_law_top", "_law_bottom"] := Df.of X G a16 l16 c16 k16 fun _ _ _ _ _ _ us hl => match us, hl with | [_, _], _ => rfl
  have D__law_times : Df K mg "_law_times" s__law_times ["_law_one", "_law_other"] := Df.of X G a17 l17 c17 k17 fun _ _ _ _ _ _ us hl => match us, hl with | [_, _], _ => rfl
  have D__law_number : Df K mg "_law_number" s__law_number ["_law_stream_here"] := Df.of X G a18 l18 c18 k18 fun _ _ _ _ _ _ us hl => match us, hl with | [_], _ => rfl
  have D__law_node : Df K mg "_law_node" s__law_node ["_law_stream_here", "_law_many"] := Df.of X G a19 l19 c19 k19 fun _ _ _ _ _ _ us hl => match us, hl with | [_, _], _ => rfl
  have D__law_layers : Df K mg "_law_layers" s__law_layers ["_law_stream_here", "_law_ins"] := Df.of X G a20 l20 c20 k20 fun _ _ _ _ _ _ us hl => match us, hl with | [_, _], _ => rfl
  have D__law_spot : Df K mg "_law_spot" s__law_spot ["_law_stream_here", "_law_many"] := Df.of X G a21 l21 c21 k21 fun _ _ _ _ _ _ us hl => match us, hl with | [_, _], _ => rfl
  have D__law_scaled : Df K mg "_law_scaled" s__law_scaled ["_law_layers_here", "_law_layer", "_law_node_here", "_law_by"] := Df.of X G a22 l22 c22 k22 fun _ _ _ _ _ _ us hl => match us, hl with | [_, _, _, _], _ => rfl
  have D__law_order : Df K mg "_law_order" s__law_order ["_law_many", "_law_one", "_law_other"] := Df.of X G a23 l23 c23 k23 fun _ _ _ _ _ _ us hl => match us, hl with | [_, _, _], _ => rfl
  have D__law_exchanged : Df K mg "_law_exchanged" s__law_exchanged ["_law_layers_here", "_law_layer", "_law_one", "_law_other"] := Df.of X G a24 l24 c24 k24 fun _ _ _ _ _ _ us hl => match us, hl with | [_, _, _, _], _ => rfl
  have D__law_ahead : Df K mg "_law_ahead" s__law_ahead ["_law_layers_here", "_law_layer"] := Df.of X G a25 l25 c25 k25 fun _ _ _ _ _ _ us hl => match us, hl with | [_, _], _ => rfl
  have D__law_bits : Df K mg "_law_bits" s__law_bits ["_law_pattern", "_law_one", "_law_other"] := Df.of X G a26 l26 c26 k26 fun _ _ _ _ _ _ us hl => match us, hl with | [_, _, _], _ => rfl
  have D__law_step : Df K mg "_law_step" s__law_step ["_law_stream_here", "_law_net", "_law_ins", "_law_layers_here", "_law_spots"] := Df.of X G a27 l27 c27 k27 fun _ _ _ _ _ _ us hl => match us, hl with | [_, _, _, _, _], _ => rfl
  have mlen := PySem.W.mg_none_of X G z_len
  have mrange := PySem.W.mg_none_of X G z_range
  have mzip := PySem.W.mg_none_of X G z_zip
  have mtuple := PySem.W.mg_none_of X G z_tuple
  have mint := PySem.W.mg_none_of X G z_int
  have mabs := PySem.W.mg_none_of X G z_abs
  have misinstance := PySem.W.mg_none_of X G z_isinstance
  have mbool := PySem.W.mg_none_of X G z_bool
  have mlist := PySem.W.mg_none_of X G z_list
  have mmax := PySem.W.mg_none_of X G z_max
  have mmin := PySem.W.mg_none_of X G z_min
  have mall := PySem.W.mg_none_of X G z_all
  have msum := PySem.W.mg_none_of X G z_sum
  have mgcd := PySem.W.mg_of X G zgcd
  have C_NOUGHT : Cst K mg "NOUGHT" 0 := ⟨aCNOUGHT, PySem.W.mg_of X G nNOUGHT, fun H => ⟨aCNOUGHT, rfl, .inr ⟨_, _, _, vNOUGHT, rfl, rfl, (by show 2 ≤ sizeLine; decide), .cons ⟨_, rfl⟩ (.cons ⟨_, rfl⟩ .nil)⟩⟩⟩
  have FI := fun_mk (st := s_Layer___init__) lI cI kI
  have bI := FI.binds (ps := ["self", "nodes"]) fun _ _ _ _ _ _ us hl => match us, hl with | [_, _], _ => rfl
  have FNI := fun_mk (st := s_Net___init__) lNI cNI kNI
  have bNI := FNI.binds (ps := ["self", "ins", "layers"]) fun _ _ _ _ _ _ us hl => match us, hl with | [_, _, _], _ => rfl
  have FLtold := fun_mk (st := s_Layer_told) lLtold cLtold kLtold
  have bLtold := FLtold.binds (ps := ["self"]) fun _ _ _ _ _ _ us hl => match us, hl with | [_], _ => rfl
  have MLtold : Md K CL "told" "Layer.told" s_Layer_told ["self"] := ⟨_, _, ⟨wLtold, qLtold, kLtold⟩, FLtold, bLtold⟩
  have FLsums := fun_mk (st := s_Layer_sums) lLsums cLsums kLsums
  have bLsums := FLsums.binds (ps := ["self", "ahead"]) fun _ _ _ _ _ _ us hl => match us, hl with | [_, _], _ => rfl
  have MLsums : Md K CL "sums" "Layer.sums" s_Layer_sums ["self", "ahead"] := ⟨_, _, ⟨wLsums, qLsums, kLsums⟩, FLsums, bLsums⟩
  have FCtold := fun_mk (st := s_CutLayer_told) lCtold cCtold kCtold
  have bCtold := FCtold.binds (ps := ["self"]) fun _ _ _ _ _ _ us hl => match us, hl with | [_], _ => rfl
  have MCtold : Md K CC "told" "CutLayer.told" s_CutLayer_told ["self"] := ⟨_, _, ⟨wCtold, qCtold, kCtold⟩, FCtold, bCtold⟩
  have FCsums := fun_mk (st := s_CutLayer_sums) lCsums cCsums kCsums
  have bCsums := FCsums.binds (ps := ["self", "ahead"]) fun _ _ _ _ _ _ us hl => match us, hl with | [_, _], _ => rfl
  have MCsums : Md K CC "sums" "CutLayer.sums" s_CutLayer_sums ["self", "ahead"] := ⟨_, _, ⟨wCsums, qCsums, kCsums⟩, FCsums, bCsums⟩
  have FNouts_at := fun_mk (st := s_Net_outs_at) lNouts_at cNouts_at kNouts_at
  have bNouts_at := FNouts_at.binds (ps := ["self", "spot"]) fun _ _ _ _ _ _ us hl => match us, hl with | [_, _], _ => rfl
  have MNouts_at : Md K CN "outs_at" "Net.outs_at" s_Net_outs_at ["self", "spot"] := ⟨_, _, ⟨wNouts_at, qNouts_at, kNouts_at⟩, FNouts_at, bNouts_at⟩
  have FNsums_at := fun_mk (st := s_Net_sums_at) lNsums_at cNsums_at kNsums_at
  have bNsums_at := FNsums_at.binds (ps := ["self", "spot"]) fun _ _ _ _ _ _ us hl => match us, hl with | [_, _], _ => rfl
  have MNsums_at : Md K CN "sums_at" "Net.sums_at" s_Net_sums_at ["self", "spot"] := ⟨_, _, ⟨wNsums_at, qNsums_at, kNsums_at⟩, FNsums_at, bNsums_at⟩
  have FNpattern_at := fun_mk (st := s_Net_pattern_at) lNpattern_at cNpattern_at kNpattern_at
  have bNpattern_at := FNpattern_at.binds (ps := ["self", "spot"]) fun _ _ _ _ _ _ us hl => match us, hl with | [_, _], _ => rfl
  have MNpattern_at : Md K CN "pattern_at" "Net.pattern_at" s_Net_pattern_at ["self", "spot"] := ⟨_, _, ⟨wNpattern_at, qNpattern_at, kNpattern_at⟩, FNpattern_at, bNpattern_at⟩
  have TCL : Cls K CL := ⟨pgCL, hdCL, poCL, saCL⟩
  have gCL := PySem.W.mg_of X G aCL
  have TCC : Cls K CC := ⟨pgCC, hdCC, poCC, saCC⟩
  have gCC := PySem.W.mg_of X G aCC
  have TCN : Cls K CN := ⟨pgCN, hdCN, poCN, saCN⟩
  have gCN := PySem.W.mg_of X G aCN
  have ICN : C8.InsC K CN := ⟨TCN, haCN, hnO, htO, hmCN, meCN⟩
  have mMI := PySem.W.mg_of X G iMI
  have mML := PySem.W.mg_of X G iML
  have mMN := PySem.W.mg_of X G iMN
  have F_law := fun_mk (st := s_law) l28 c28 k28
  refine ⟨PySem.W.fnOf "law" "law" (defArgs s_law) (defBody s_law) (defScope s_law) .none kV28 dc28 pm28 an28 cd28 ct28, fun s v => .of_eq rfl, fun base _ _ => ?_⟩
  have g1 := ok_fraction_of (P := l.prog) (w := w) (base := base) D_fraction_of mgcd
  have g2 := ok_plus D_plus g1
  have g3 := ok_times D_times g1
  have g4 := ok_weigh D_weigh C_NOUGHT mzip g2 g3
  have g5 := ok_sum_at D_sum_at g2 g4
  have g6 := ok_cut_at_nought (P := l.prog) (w := w) (base := base) D_cut_at_nought C_NOUGHT
  have g7 := ok__reckoned D__reckoned g5 mtuple
  have w1 := ok_is_whole (P := l.prog) (w := w) (base := base) D_is_whole misinstance mint mbool
  have w2 := ok_is_fraction D_is_fraction w1 misinstance mtuple mlen mgcd
  have w3 := ok_is_row D_is_row w2 misinstance mtuple mlen mall
  have w4 := ok_is_sum D_is_sum w3 w2 misinstance mtuple mlen
  have w5 := ok__are_ins D__are_ins w1 mMI
  have w6 := ok__are_layers D__are_layers w4 mML mMN misinstance mtuple mlist mlen mall
  have NN : NDefs l.prog w K mg base CN CL CC := ⟨TCN, niCN, nlCN, TCL, TCC, ok_Layer_told MLtold TCL naCL, ok_CutLayer_told MCtold TCC naCC, ok_Layer_sums MLsums TCL naCL g7, ok_CutLayer_sums MCsums TCC naCC g7⟩
  have KN : Mk K CN fNI := ⟨mkCN, iiCN, qNI, kcCN⟩
  have FN := fn_netinit FNI NN ⟨mkCL, iiCL, qI, kcCL⟩ ⟨mkCC, iiCC, qI, kcCC⟩ (fn_init FI TCL naCL mtuple) (fn_init FI TCC naCC mtuple) bI gCL gCC w5 w6 mtuple
  have t2 := ok_Net_sums_at MNsums_at NN w3 g6 mtuple
  have t3 := ok_Net_outs_at MNouts_at NN t2
  have h1 := ok__law_cell (P := l.prog) (w := w) (base := base) D__law_cell mlen
  have h2 := ok__law_stream (P := l.prog) (w := w) (base := base) D__law_stream mint
  have h3 := ok__law_take (P := l.prog) (w := w) (base := base) D__law_take
  have h4 := ok__law_part (P := l.prog) (w := w) (base := base) D__law_part mabs
  have h6 := ok__law_times D__law_times h4
  have i1 := ok__law_number D__law_number h3 h4
  have i2 := ok__law_node D__law_node i1 mtuple mrange
  have i4 := ok__law_layers D__law_layers h3 i2 mrange
  have i5 := ok__law_spot D__law_spot i1 mtuple mrange
  have t4 := ok_Net_pattern_at MNpattern_at NN t2
  have j1 := ok__law_order (P := l.prog) (w := w) (base := base) D__law_order mlist mrange
  have j2 := ok__law_scaled D__law_scaled h6 mlist mtuple
  have j3 := ok__law_exchanged D__law_exchanged j1 mlist mtuple mlen
  have j4 := ok__law_ahead (P := l.prog) (w := w) (base := base) D__law_ahead mlen msum
  have j5 := ok__law_bits (P := l.prog) (w := w) (base := base) D__law_bits
  have j6 := ok__law_step D__law_step NN KN FN bNI gCN t3 t2 t4 h3 h4 h6 j4 j5 j2 j3 mlen
  exact fn_law F_law NN ⟨h1, h2, h3, i4, i5⟩ KN FN bNI gCN j6 mrange mmax mmin mlen
end K12
open PySem PySem.W PyProof.Rows
set_option maxRecDepth 100000 in
set_option maxHeartbeats 0 in
theorem PySem.Challenge.cw_noughtcut_k12_whole_nodes_scaled_and_exc_holds : PySem.Challenge.rw_noughtcut_k12_whole_nodes_scaled_and_exc.Holds := by
  w_on; o_law; k_head; (case hw => w_witness2)
  k_fill
  refine L2.walk_of (l := PySem.Challenge.rw_noughtcut_k12_whole_nodes_scaled_and_exc) (n := 63) (k := 10) (x := "_law_script") (CX := fun _ => L2.CX0) (sp := fun w => Nc.spLaw _) rfl (by decide) rfl ⟨rfl, by decide, by decide⟩ (fun w h Y => PySem.W.kIn_of Y) ?F (fun _ _ a ns hl _ hS => ⟨a, ns, rfl, hS, hl, fun _ => rfl⟩) (fun _ _ _ _ _ h => h)
  case F =>
    intro w mg fa h KX G hmg
    refine' K12.all_mk KX G hmg ?a0 ?l0 ?c0 ?k0 ?a1 ?l1 ?c1 ?k1 ?a2 ?l2 ?c2 ?k2 ?a3 ?l3 ?c3 ?k3 ?a4 ?l4 ?c4 ?k4 ?a5 ?l5 ?c5 ?k5 ?a6 ?l6 ?c6 ?k6 ?a7 ?l7 ?c7 ?k7 ?a8 ?l8 ?c8 ?k8 ?a9 ?l9 ?c9 ?k9 ?a10 ?l10 ?c10 ?k10 ?a11 ?l11 ?c11 ?k11 ?a12 ?l12 ?c12 ?k12 ?a13 ?l13 ?c13 ?k13 ?a14 ?l14 ?c14 ?k14 ?a15 ?l15 ?c15 ?k15 ?a16 ?l16 ?c16 ?k16 ?a17 ?l17 ?c17 ?k17 ?a18 ?l18 ?c18 ?k18 ?a19 ?l19 ?c19 ?k19 ?a20 ?l20 ?c20 ?k20 ?a21 ?l21 ?c21 ?k21 ?a22 ?l22 ?c22 ?k22 ?a23 ?l23 ?c23 ?k23 ?a24 ?l24 ?c24 ?k24 ?a25 ?l25 ?c25 ?k25 ?a26 ?l26 ?c26 ?k26 ?a27 ?l27 ?c27 ?k27 ?a28 ?l28 ?c28 ?k28 ?z_len ?z_range ?z_zip ?z_tuple ?z_int ?z_abs ?z_isinstance ?z_bool ?z_list ?z_max ?z_min ?z_all ?z_sum ?zgcd ?nNOUGHT ?vNOUGHT ?aCL ?pgCL ?hdCL ?poCL ?saCL ?mkCL ?kcCL ?naCL ?iiCL ?aCC ?pgCC ?hdCC ?poCC ?saCC ?mkCC ?kcCC ?naCC ?iiCC ?aCN ?pgCN ?hdCN ?poCN ?saCN ?mkCN ?kcCN ?niCN ?nlCN ?iiCN ?haCN ?hmCN ?meCN ?hnO ?htO ?qI ?lI ?cI ?kI ?qNI ?lNI ?cNI ?kNI ?wLtold ?qLtold ?lLtold ?cLtold ?kLtold ?wLsums ?qLsums ?lLsums ?cLsums ?kLsums ?wCtold ?qCtold ?lCtold ?cCtold ?kCtold ?wCsums ?qCsums ?lCsums ?cCsums ?kCsums ?wNouts_at ?qNouts_at ?lNouts_at ?cNouts_at ?kNouts_at ?wNsums_at ?qNsums_at ?lNsums_at ?cNsums_at ?kNsums_at ?wNpattern_at ?qNpattern_at ?lNpattern_at ?cNpattern_at ?kNpattern_at ?iMI ?iML ?iMN
    (case a0 => k_is)
    (case l0 => k_is)
    (case c0 => k_is)
    (case k0 => k_is)
    (case a1 => k_is)
    (case l1 => k_is)
    (case c1 => k_is)
    (case k1 => k_is)
    (case a2 => k_is)
    (case l2 => k_is)
    (case c2 => k_is)
    (case k2 => k_is)
    (case a3 => k_is)
    (case l3 => k_is)
    (case c3 => k_is)
    (case k3 => k_is)
    (case a4 => k_is)
    (case l4 => k_is)
    (case c4 => k_is)
    (case k4 => k_is)
    (case a5 => k_is)
    (case l5 => k_is)
    (case c5 => k_is)
    (case k5 => k_is)
    (case a6 => k_is)
    (case l6 => k_is)
    (case c6 => k_is)
    (case k6 => k_is)
    (case a7 => k_is)
    (case l7 => k_is)
    (case c7 => k_is)
    (case k7 => k_is)
    (case a8 => k_is)
    (case l8 => k_is)
    (case c8 => k_is)
    (case k8 => k_is)
    (case a9 => k_is)
    (case l9 => k_is)
    (case c9 => k_is)
    (case k9 => k_is)
    (case a10 => k_is)
    (case l10 => k_is)
    (case c10 => k_is)
    (case k10 => k_is)
    (case a11 => k_is)
    (case l11 => k_is)
    (case c11 => k_is)
    (case k11 => k_is)
    (case a12 => k_is)
    (case l12 => k_is)
    (case c12 => k_is)
    (case k12 => k_is)
    (case a13 => k_is)
    (case l13 => k_is)
    (case c13 => k_is)
    (case k13 => k_is)
    (case a14 => k_is)
    (case l14 => k_is)
    (case c14 => k_is)
    (case k14 => k_is)
    (case a15 => k_is)
    (case l15 => k_is)
    (case c15 => k_is)
    (case k15 => k_is)
    (case a16 => k_is)
    (case l16 => k_is)
    (case c16 => k_is)
    (case k16 => k_is)
    (case a17 => k_is)
    (case l17 => k_is)
    (case c17 => k_is)
    (case k17 => k_is)
    (case a18 => k_is)
    (case l18 => k_is)
    (case c18 => k_is)
    (case k18 => k_is)
    (case a19 => k_is)
    (case l19 => k_is)
    (case c19 => k_is)
    (case k19 => k_is)
    (case a20 => k_is)
    (case l20 => k_is)
    (case c20 => k_is)
    (case k20 => k_is)
    (case a21 => k_is)
    (case l21 => k_is)
    (case c21 => k_is)
    (case k21 => k_is)
    (case a22 => k_is)
    (case l22 => k_is)
    (case c22 => k_is)
    (case k22 => k_is)
    (case a23 => k_is)
    (case l23 => k_is)
    (case c23 => k_is)
    (case k23 => k_is)
    (case a24 => k_is)
    (case l24 => k_is)
    (case c24 => k_is)
    (case k24 => k_is)
    (case a25 => k_is)
    (case l25 => k_is)
    (case c25 => k_is)
    (case k25 => k_is)
    (case a26 => k_is)
    (case l26 => k_is)
    (case c26 => k_is)
    (case k26 => k_is)
    (case a27 => k_is)
    (case l27 => k_is)
    (case c27 => k_is)
    (case k27 => k_is)
    (case a28 => k_is)
    (case l28 => k_is)
    (case c28 => k_is)
    (case k28 => k_is)
    (case z_len => k_is)
    (case z_range => k_is)
    (case z_zip => k_is)
    (case z_tuple => k_is)
    (case z_int => k_is)
    (case z_abs => k_is)
    (case z_isinstance => k_is)
    (case z_bool => k_is)
    (case z_list => k_is)
    (case z_max => k_is)
    (case z_min => k_is)
    (case z_all => k_is)
    (case z_sum => k_is)
    (case zgcd => k_is)
    (case nNOUGHT => k_is)
    (case vNOUGHT => k_is)
    (case aCL => k_is)
    (case pgCL => k_is)
    (case hdCL => k_is)
    (case poCL => k_is)
    (case saCL => k_is)
    (case mkCL => k_is)
    (case kcCL => k_is)
    (case naCL => k_is)
    (case iiCL => k_is)
    (case aCC => k_is)
    (case pgCC => k_is)
    (case hdCC => k_is)
    (case poCC => k_is)
    (case saCC => k_is)
    (case mkCC => k_is)
    (case kcCC => k_is)
    (case naCC => k_is)
    (case iiCC => k_is)
    (case aCN => k_is)
    (case pgCN => k_is)
    (case hdCN => k_is)
    (case poCN => k_is)
    (case saCN => k_is)
    (case mkCN => k_is)
    (case kcCN => k_is)
    (case niCN => k_is)
    (case nlCN => k_is)
    (case iiCN => k_is)
    (case haCN => k_is)
    (case hmCN => k_is)
    (case meCN => first | k_is | rfl | (with_unfolding_all rfl))
    (case hnO => k_is)
    (case htO => k_is)
    (case qI => k_is)
    (case lI => k_is)
    (case cI => k_is)
    (case kI => k_is)
    (case qNI => k_is)
    (case lNI => k_is)
    (case cNI => k_is)
    (case kNI => k_is)
    (case wLtold => k_is)
    (case qLtold => k_is)
    (case lLtold => k_is)
    (case cLtold => k_is)
    (case kLtold => k_is)
    (case wLsums => k_is)
    (case qLsums => k_is)
    (case lLsums => k_is)
    (case cLsums => k_is)
    (case kLsums => k_is)
    (case wCtold => k_is)
    (case qCtold => k_is)
    (case lCtold => k_is)
    (case cCtold => k_is)
    (case kCtold => k_is)
    (case wCsums => k_is)
    (case qCsums => k_is)
    (case lCsums => k_is)
    (case cCsums => k_is)
    (case kCsums => k_is)
    (case wNouts_at => k_is)
    (case qNouts_at => k_is)
    (case lNouts_at => k_is)
    (case cNouts_at => k_is)
    (case kNouts_at => k_is)
    (case wNsums_at => k_is)
    (case qNsums_at => k_is)
    (case lNsums_at => k_is)
    (case cNsums_at => k_is)
    (case kNsums_at => k_is)
    (case wNpattern_at => k_is)
    (case qNpattern_at => k_is)
    (case lNpattern_at => k_is)
    (case cNpattern_at => k_is)
    (case kNpattern_at => k_is)
    (case iMI => k_is)
    (case iML => k_is)
    (case iMN => k_is)
