/-
  What the reference's (layer 8) Presence and become come to.
-/
import Derived.Test.YtjjemdmbhgmiiaaBook11
namespace Go.Law
section
variable {κ ν : Type} (lt : κ → κ → Prop) [DecidableRel lt]
/-- a key put into a list whose keys are all smaller, and then one more behind it -/
theorem putK_end (ht : Tri lt) {k : κ} {v : ν} : ∀ {xs : List (κ × ν)}, (∀ p ∈ xs, lt p.1 k) → putK lt k v xs = xs ++ [(k, v)]
  | [], _ => rfl
  | p :: r, h => by
    have hp := h p (by simp)
    rw [putK, if_neg (ht.asym hp), if_pos hp, putK_end ht fun q hq => h q (by simp [hq])]
    rfl
/-- one more, with a greater key, behind a list -/
theorem putK_snoc {k : κ} {v : ν} {q : κ × ν} (hq : lt k q.1) : ∀ {xs : List (κ × ν)}, (∃ p ∈ xs, ¬ lt p.1 k) → putK lt k v (xs ++ [q]) = putK lt k v xs ++ [q]
  | [], h => by obtain ⟨p, hp, _⟩ := h; cases hp
  | p :: r, h => by
    rw [List.cons_append, putK, putK]
    split
    · rfl
    · rename_i h1
      split
      · rename_i h2
        have hr : ∃ p ∈ r, ¬ lt p.1 k := by
          obtain ⟨p', hp', hn⟩ := h
          rcases List.mem_cons.1 hp' with e | hp'
          · subst e; exact absurd h2 hn
          · exact ⟨p', hp', hn⟩
        rw [putK_snoc hq hr]
        rfl
      · rfl
end
end Go.Law
namespace Go.Proofs.Ytjjemdmbhgmiiaa
open Go.RowKit
namespace Bk
open Go.Law Go.Proofs.Ytjjemdmbhgmiiaa.OmapB Door

@[go_sem] theorem run_fieldU1 (a b c d e : Value) (w : World) : Sem.run Try.prog (Instr.field 55 (.agg #[a, b, c, d, e]) 1) w = .ok b w := by kernel_rfl

set_option maxRecDepth 100000 in
set_option maxHeartbeats 4000000 in
theorem refPresence (u : ByteArray) (now : Int) {s0 s1 s2 : Int} {w : World} {A : Option Addr} {c : Nat} {b : List (ByteArray × En)} (hp : presS now (sesK u b) = (s0, s1, s2)) (h : UsersAt w A b) (hR : Rises lt b) (hl : (sesK u b).length ≤ 900) (hn : b.length ≤ 900) :
    Calls Try.prog 22 #[.slice A b.length c, .string u, .int .u64 now] w fun e w' => e = .returned (.agg #[.int .i64 s0, .int .i64 s1, .int .i64 s2]) ∧ Below w.heap.size w w' := by
  obtain ⟨t0, t1, t2, ht⟩ : ∃ t0 t1 t2, toldK u b = (t0, t1, t2) := ⟨_, _, _, rfl⟩
  have H := Lib.hid h
  have HR := Lib.hid hR
  have HT := Lib.hid ht
  have HP := Lib.hid hp
  have HB := Lib.hid (Below.refl w.heap.size w)
  clear h hR ht hp
  generalize hss : sesK u b = ss at *
  have HSS := Lib.hid hss
  clear hss
  go_enter Try.func22, Try.ntmps22
  go_wp2_with fail
  have bx := ((Below.refl w.heap.size w).alloc (Nat.le_refl _) (.cells #[.int .i64 0, .int .i64 0, .int .i64 0] 53))
  have HI1 := Lib.hid (Is.new w 53 #[.int .i64 0, .int .i64 0, .int .i64 0] rfl)
  replace HB := Lib.hid (HB.out.trans (bx.mono HB.out.size))
  replace H := Lib.hid (H.out.now bx)
  generalize (w.alloc (.cells #[.int .i64 0, .int .i64 0, .int .i64 0] 53)) = w0 at *
  clear bx
  refine (refFind u HSS.out HT.out H.out HR.out hn).mono ?_
  rintro e w1 ⟨A1, c1, rfl, sq, b1⟩
  have HS := Lib.hid sq
  replace HI1 := Lib.hid (HI1.out.below b1 HI1.out.lt)
  replace HB := Lib.hid (HB.out.trans (b1.mono HB.out.size))
  clear b1 sq H
  go_wp2_with fail
  refine (refOfP HP.out HS.out.seq hl).mono ?_
  rintro e w3 ⟨rfl, b1⟩
  replace HI1 := Lib.hid (HI1.out.below b1 HI1.out.lt)
  replace HB := Lib.hid (HB.out.trans (b1.mono HB.out.size))
  have l1 := HI1.out.lt
  have f0 := HI1.out.frozen 0
  have f1 := HI1.out.frozen 1
  have f2 := HI1.out.frozen 2
  have m0 := HI1.out.cell' (i := 0) rfl
  have m1 := HI1.out.cell' (i := 1) rfl
  have m2 := HI1.out.cell' (i := 2) rfl
  have HI3 := Lib.hid (((HI1.out.set 0 (.int .i64 s0) rfl).set 1 (.int .i64 s1) rfl).set 2 (.int .i64 s2) rfl)
  have HB3 := Lib.hid (((HB.out.setCell (p := ⟨w.heap.size, 0, none⟩) (Nat.le_refl _) (.int .i64 s0)).setCell (p := ⟨w.heap.size, 1, none⟩) (Nat.le_refl _) (.int .i64 s1)).setCell (p := ⟨w.heap.size, 2, none⟩) (Nat.le_refl _) (.int .i64 s2))
  clear b1 HS
  go_wp2_with fail
  generalize ((w3.setCell ⟨w.heap.size, 0, none⟩ (.int .i64 s0)).setCell ⟨w.heap.size, 1, none⟩ (.int .i64 s1)).setCell ⟨w.heap.size, 2, none⟩ (.int .i64 s2) = w4 at *
  have n0 := HI3.out.cell' (i := 0) rfl
  have n1 := HI3.out.cell' (i := 1) rfl
  have n2 := HI3.out.cell' (i := 2) rfl
  exact bodyPost_ret (v := .agg #[.int .i64 s0, .int .i64 s1, .int .i64 s2]) (by simp [results, Try.results22, go_sem, n0, n1, n2]) rfl ⟨rfl, HB3.out⟩

end Bk
end Go.Proofs.Ytjjemdmbhgmiiaa
