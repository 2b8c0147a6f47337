/-
  Plain facts about sums that end at the greatest number. No Go here.
-/
namespace Door
/-- the greatest number -/
def top : Int := 18446744073709551615
/-- a sum, or the greatest number -/
def sat (a b : Int) : Int := if a + b ≤ top then a + b else top
/-- fits 64 bits -/
def U (a : Int) : Prop := 0 ≤ a ∧ a ≤ top
theorem top_eq : top = 18446744073709551615 := rfl
theorem sat_lt {a b : Int} (h : a + b ≤ top) : sat a b = a + b := if_pos h
theorem sat_ge {a b : Int} (h : top < a + b) : sat a b = top := if_neg (by omega)
theorem sat_U {a b : Int} (ha : U a) (hb : U b) : U (sat a b) := by
  unfold U at *; unfold sat; split <;> (unfold top at *; omega)
theorem sat_comm (a b : Int) : sat a b = sat b a := by unfold sat; rw [Int.add_comm]
theorem sat_assoc {a b c : Int} (ha : U a) (hb : U b) (hc : U c) : sat (sat a b) c = sat a (sat b c) := by
  unfold U at *; unfold sat; repeat' split
  all_goals (unfold top at *; omega)
theorem le_sat {a b : Int} (ha : U a) (hb : U b) : a ≤ sat a b := by
  unfold U at *; unfold sat; split <;> omega
theorem le_sat' {a b : Int} (ha : U a) (hb : U b) : b ≤ sat a b := by
  rw [sat_comm]; exact le_sat hb ha
theorem sat_top {a : Int} (ha : U a) : sat a top = top := by
  unfold U at *; unfold sat; split <;> omega
theorem top_sat {a : Int} (ha : U a) : sat top a = top := by rw [sat_comm]; exact sat_top ha
theorem U0 : U 0 := by unfold U top; omega
theorem U1 : U 1 := by unfold U top; omega
theorem Utop : U top := by unfold U top; omega
end Door
