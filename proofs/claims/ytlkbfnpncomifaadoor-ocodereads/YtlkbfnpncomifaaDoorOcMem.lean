/-
  The script that was read, boxed (layer 12's statements).
-/
import Derived.Test.YtlkbfnpncomifaaDoorOcAwk
import Derived.Test.YtlkbfnpncomifaaDoorOcChk
namespace Go.Proofs.YtlkbfnpncomifaaDoor
open Go.RowKit Go.Lib
namespace Opx
open Go.Law
/-- a script in a block g: as the reader answers it -/
structure Scr (w : World) (g : Nat) (b : List Int) (C : Option Addr) (cC : Nat) (ls : List Cl) (Kp : Option Addr) (cK : Nat) : Prop where
  box : Is w g 31 #[.int .i64 (1 + at_ b 0 % 8), .int .i64 (1 + at_ b 1 % 8), .int .i64 (1 + at_ b 2 % 16), .int .i64 (1 + at_ b 3 % 8), .int .i64 (at_ b 4 % 5), .int .u64 (at_ b 5), .int .u64 (longI (at_ b 6)), .slice C ls.length cC, .slice Kp (picks b).length cK]
  cls : Cls w C ls
  pks : Lain 34 w Kp (flatPk (picks b))
theorem Scr.below {w w' : World} {g : Nat} {b : List Int} {C : Option Addr} {cC : Nat} {ls : List Cl} {Kp : Option Addr} {cK : Nat} (h : Scr w g b C cC ls Kp cK) (hb : Below w.heap.size w w') : Scr w' g b C cC ls Kp cK :=
  ⟨h.box.below hb h.box.lt, h.cls.keeps (Keeps.of_below hb) (Keeps.of_below hb) (Keeps.of_below hb), h.pks.now hb⟩
def lns (ls : List Cl) : List Ln := ls.map fun r => (r.1, r.2.2.length, r.2.1)
theorem lns_sl (ls : List Cl) : (lns ls).map sl = ls.map cellC := by unfold lns; rw [List.map_map]; rfl
theorem lns_len (ls : List Cl) : (lns ls).length = ls.length := by simp [lns]
def cfB (b : List Int) : Cf := ⟨1 + at_ b 0 % 8, 1 + at_ b 1 % 8, 1 + at_ b 2 % 16, 1 + at_ b 3 % 8, at_ b 4 % 5, at_ b 5, longI (at_ b 6)⟩
theorem check_zero {b : List Int} (hb : Bytes b) {ls : List Cl} (hp : plainC ls = clients b) : checkI (cfB b) (lns ls) (picks b).length = 0 := by
  have h1 := plainC_len hp
  have h2 := clN_le hb
  have h3 := (picks_le b).2
  unfold checkI
  rw [if_neg, if_neg]
  · rw [lns_len]
    rintro (h | h | h)
    · omega
    · omega
    · rw [List.any_eq_true] at h
      obtain ⟨x, hx, hm⟩ := h
      obtain ⟨r, hr, rfl⟩ := List.mem_map.1 hx
      obtain ⟨i, hi⟩ := plainC_each hp r hr
      have h5 := ops_le hb i
      rw [← hi, List.length_map] at h5
      have h6 : 40 < r.2.2.length := by simpa [many] using hm
      omega
  · rintro (h | h)
    · have g0 := hb.at 0
      have g1 := hb.at 1
      have g2 := hb.at 2
      have g3 := hb.at 3
      have g4 := hb.at 4
      have : (cfB b).right = true := by
        show ((decide (1 ≤ 1 + at_ b 0 % 8) && decide (1 + at_ b 0 % 8 ≤ 8)) && ((decide (1 ≤ 1 + at_ b 1 % 8) && decide (1 + at_ b 1 % 8 ≤ 8)) && ((decide (1 ≤ 1 + at_ b 2 % 16) && decide (1 + at_ b 2 % 16 ≤ 16)) && ((decide (1 ≤ 1 + at_ b 3 % 8) && decide (1 + at_ b 3 % 8 ≤ 8)) && (decide (0 ≤ at_ b 4 % 5) && decide (at_ b 4 % 5 ≤ 4)))))) = true
        simp only [Bool.and_eq_true, decide_eq_true_eq]
        omega
      rw [this] at h
      cases h
    · rw [lns_len] at h; omega
theorem lns_le {b : List Int} (hb : Bytes b) {ls : List Cl} (hp : plainC ls = clients b) : ∀ u ∈ lns ls, u.2.1 ≤ maxLen := by
  intro u hu
  obtain ⟨r, hr, rfl⟩ := List.mem_map.1 hu
  obtain ⟨i, hi⟩ := plainC_each hp r hr
  have h5 := ops_le hb i
  rw [← hi, List.length_map] at h5
  show r.2.2.length ≤ maxLen
  unfold maxLen
  omega
theorem tab_pos {w : World} (h : Tabs w) : 0 < w.heap.size := block_lt_of_cell (h.names 0 _ rfl)
end Opx
end Go.Proofs.YtlkbfnpncomifaaDoor
