/-
  Plain facts: sums of the first numbers of a row, also of a row that is turned. No Go here.
-/
import Derived.Test.YtfeifccfkcdohaaPlain01
namespace Door
/-- the sum of the first k values of f -/
def sumTo (f : Nat → Int) : Nat → Int
  | 0 => 0
  | k + 1 => sumTo f k + f k
/-- at most the greatest number -/
def cap (x : Int) : Int := if x ≤ top then x else top
theorem sumTo_nonneg {f : Nat → Int} {k : Nat} (h : ∀ i, i < k → 0 ≤ f i) : 0 ≤ sumTo f k := by
  induction k with
  | zero => simp [sumTo]
  | succ k ih =>
    have h1 := ih (fun i hi => h i (by omega))
    have h2 := h k (by omega)
    simp only [sumTo]; omega
theorem sumTo_congr {f g : Nat → Int} {k : Nat} (h : ∀ i, i < k → f i = g i) : sumTo f k = sumTo g k := by
  induction k with
  | zero => rfl
  | succ k ih => simp only [sumTo]; rw [ih (fun i hi => h i (by omega)), h k (by omega)]
theorem sumTo_add (f : Nat → Int) (j k : Nat) : sumTo f (j + k) = sumTo f j + sumTo (fun i => f (j + i)) k := by
  induction k with
  | zero => simp [sumTo]
  | succ k ih => rw [← Nat.add_assoc]; simp only [sumTo]; rw [ih]; omega
/-- a row that is turned has the same sum -/
theorem sumTo_turned (f : Nat → Int) (n r : Nat) (hn : 0 < n) : sumTo (fun i => f ((i + r) % n)) n = sumTo f n := by
  have hr : r % n < n := Nat.mod_lt _ hn
  have e0 : sumTo (fun i => f ((i + r) % n)) n = sumTo (fun i => f ((i + r % n) % n)) n := by
    refine sumTo_congr fun i _ => ?_
    simp [Nat.add_mod]
  rw [e0]
  generalize r % n = q at *
  have e1 : n = (n - q) + q := by omega
  have e2 : sumTo (fun i => f ((i + q) % n)) n = sumTo (fun i => f ((i + q) % n)) (n - q) + sumTo (fun i => f (((n - q) + i + q) % n)) q := by
    have := sumTo_add (fun i => f ((i + q) % n)) (n - q) q
    rw [← e1] at this
    exact this
  have e3 : sumTo f n = sumTo f q + sumTo (fun i => f (q + i)) (n - q) := by
    have := sumTo_add f q (n - q)
    rw [show q + (n - q) = n by omega] at this
    exact this
  rw [e2, e3]
  have e4 : sumTo (fun i => f ((i + q) % n)) (n - q) = sumTo (fun i => f (q + i)) (n - q) := by
    refine sumTo_congr fun i hi => ?_
    show f ((i + q) % n) = f (q + i)
    rw [Nat.mod_eq_of_lt (by omega), Nat.add_comm]
  have e5 : sumTo (fun i => f (((n - q) + i + q) % n)) q = sumTo f q := by
    refine sumTo_congr fun i hi => ?_
    show f (((n - q) + i + q) % n) = f i
    rw [show (n - q) + i + q = n + i by omega, Nat.add_mod_left, Nat.mod_eq_of_lt (by omega)]
  rw [e4, e5]; omega
theorem cap_U {x : Int} (h : 0 ≤ x) : U (cap x) := by unfold cap U; split <;> (unfold top at *; omega)
theorem sat_cap {x a : Int} (ha : U a) : sat (cap x) a = cap (x + a) := by
  unfold U at ha; unfold sat cap
  by_cases h1 : x ≤ top
  · rw [if_pos h1]
  · rw [if_neg h1, if_neg (show ¬ x + a ≤ top by omega)]
    split <;> omega
theorem cap_sat {x a : Int} (ha : U a) : sat a (cap x) = cap (x + a) := by rw [sat_comm, sat_cap ha]
theorem cap0 : cap 0 = 0 := by unfold cap top; simp
end Door
