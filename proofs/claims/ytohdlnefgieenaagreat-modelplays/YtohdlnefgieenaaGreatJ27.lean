/-
  What the reference's Same of layer 6 comes to at any two lists; the reference's (layer 8) Find, Presence.
-/
import Derived.Test.YtohdlnefgieenaaGreatJ26
import Derived.Test.YtohdlnefgieenaaGreatJ12
namespace Go.Proofs.YtohdlnefgieenaaGreat
open Go.RowKit
namespace Bk
open Go.Law Go.Proofs.YtohdlnefgieenaaGreat.OmapB Door

theorem UsersAt.keeps {w w' : World} {A : Option Addr} {b : List (ByteArray × En)} (h : UsersAt w A b) (h1 : Keeps 107 w w') (h2 : Keeps 138 w w') : UsersAt w' A b := by
  obtain ⟨xs, a1, a2, a3⟩ := h
  exact ⟨xs, a1.keeps h1, fun q hq => (a2 q hq).keeps h2, a3⟩
theorem UsersAt.now {w w' : World} {A : Option Addr} {b : List (ByteArray × En)} (h : UsersAt w A b) (hb : Below w.heap.size w w') : UsersAt w' A b := h.keeps (Keeps.of_below hb) (Keeps.of_below hb)

set_option maxRecDepth 100000 in
set_option maxHeartbeats 4000000 in
theorem refFind (u : ByteArray) {w : World} {A : Option Addr} {c : Nat} {b : List (ByteArray × En)} {ss : List Sn} {t0 t1 t2 : Int} (hss : sesK u b = ss) (ht : toldK u b = (t0, t1, t2)) (h : UsersAt w A b) (hR : Rises lt b) (hl : b.length ≤ 900) :
    Calls Tryz.prog 62 #[.slice A b.length c, .string u] w fun e w' => ∃ A' c', e = .returned (.agg #[.string u, .slice A' ss.length c', .int .i64 t0, .int .i64 t1, .int .i64 t2]) ∧ Lain 138 w' A' (flatS ss) ∧ Below w.heap.size w w' := by
  obtain ⟨xs, h1, h2, h3⟩ := h
  have hxl : b.length = xs.length := by rw [← h3, mapV_length]
  have HX := Lib.hid h1
  have HIN := Lib.hid h2
  have HRX : Hid (Rises lt xs) := (mapV_rises lt (f := EnV.en)).1 (by rw [h3]; exact hR)
  have HGS : Hid (((getK u xs).getD EnV.zero).ss = ss) := by show _ = _; rw [get_ses, h3, hss]
  have HGT : Hid (((getK u xs).getD EnV.zero).told = (t0, t1, t2)) := by show _ = _; rw [get_told, h3, ht]
  have HB := Lib.hid (Below.refl w.heap.size w)
  rw [hxl] at hl ⊢
  clear h1 h2 h3 hss ht hR hxl
  go_enter Tryz.func62, Tryz.ntmps62
  go_wp2_with fail
  have hin0 : Hid (∀ q ∈ xs, q.2.In 138 (w.alloc (.cells #[.string ⟨#[]⟩, .slice none 0 0, .int .i64 0, .int .i64 0, .int .i64 0] 107))) := fun q hq => (HIN.out q hq).keeps (Keeps.alloc _)
  have bx := ((Below.refl w.heap.size w).alloc (Nat.le_refl _) (.cells #[.string ⟨#[]⟩, .slice none 0 0, .int .i64 0, .int .i64 0, .int .i64 0] 107))
  have HI0 := Lib.hid (Is.new w 107 #[.string ⟨#[]⟩, .slice none 0 0, .int .i64 0, .int .i64 0, .int .i64 0] rfl)
  replace HB := Lib.hid (HB.out.trans (bx.mono HB.out.size))
  replace HX := Lib.hid (HX.out.now bx)
  generalize (w.alloc (.cells #[.string ⟨#[]⟩, .slice none 0 0, .int .i64 0, .int .i64 0, .int .i64 0] 107)) = w0 at *
  clear bx
  have m0 : w0.cell? ⟨w.heap.size, 0, none⟩ = some (.string ⟨#[]⟩) := HI0.out.cell' rfl
  have m1 : w0.cell? ⟨w.heap.size, 1, none⟩ = some (.slice none 0 0) := HI0.out.cell' rfl
  have m2 : w0.cell? ⟨w.heap.size, 2, none⟩ = some (.int .i64 0) := HI0.out.cell' rfl
  have m3 : w0.cell? ⟨w.heap.size, 3, none⟩ = some (.int .i64 0) := HI0.out.cell' rfl
  have m4 : w0.cell? ⟨w.heap.size, 4, none⟩ = some (.int .i64 0) := HI0.out.cell' rfl
  have f0 := HI0.out.frozen 0
  have f1 := HI0.out.frozen 1
  have f2 := HI0.out.frozen 2
  have f3 := HI0.out.frozen 3
  have f4 := HI0.out.frozen 4
  have l0 := HI0.out.lt
  go_loop [5] (fun iv => ∃ j : Nat, j ≤ xs.length ∧ iv = .int .i64 j ∧ ∀ (i : Nat) (hi : i < xs.length), i < j → xs[i].1 ≠ u) (fun iv => xs.length - (intOf iv).toNat)
  case atStart => exact ⟨0, Nat.zero_le _, rfl, fun i _ h => by omega⟩
  case round =>
    obtain ⟨j, hj, rfl, hno⟩ := hrel
    have HNO := Lib.hid hno
    clear hno
    by_cases hlt : j < xs.length
    · obtain ⟨b', off, rfl, _, lb, q0, q1, q2, q3, q4⟩ := HX.out.seq.us hlt
      by_cases he : xs[j].1 = u
      · have hg : getK u xs = some xs[j].2 := getK_of lt tri HRX.out (by rw [← he]; exact List.getElem_mem hlt)
        have hgs := HGS.out
        have hgt := HGT.out
        rw [hg] at hgs hgt
        simp only [Option.getD_some] at hgs hgt
        have hin := hin0.out _ (List.getElem_mem hlt)
        rw [he] at q0
        generalize xs[j].2 = v at *
        obtain ⟨vA, vn, vc, vs, vp, vl, vss⟩ := v
        simp only [EnV.told, Prod.mk.injEq] at hgs hgt q1 q2 q3 q4
        obtain ⟨rfl, rfl, rfl⟩ := hgt
        subst hgs
        have hvn : vn = vss.length := hin.1
        subst hvn
        have HL0 : Hid (Lain 138 w0 vA (flatS vss)) := hin.2
        have HIZ := Lib.hid (((((HI0.out.set 0 (.string u) rfl).set 1 (.slice vA vss.length vc) rfl).set 2 (.int .i64 vs) rfl).set 3 (.int .i64 vp) rfl).set 4 (.int .i64 vl) rfl)
        have HLZ : Hid (Lain 138 (((((w0.setCell ⟨w.heap.size, 0, none⟩ (.string u)).setCell ⟨w.heap.size, 1, none⟩ (.slice vA vss.length vc)).setCell ⟨w.heap.size, 2, none⟩ (.int .i64 vs)).setCell ⟨w.heap.size, 3, none⟩ (.int .i64 vp)).setCell ⟨w.heap.size, 4, none⟩ (.int .i64 vl)) vA (flatS vss)) :=
          HL0.out.keeps (((((Keeps.store (i := 0) HI0.out (by decide) _).trans (Keeps.store (i := 1) (HI0.out.set 0 _ rfl) (by decide) _)).trans (Keeps.store (i := 2) ((HI0.out.set 0 _ rfl).set 1 _ rfl) (by decide) _)).trans (Keeps.store (i := 3) (((HI0.out.set 0 _ rfl).set 1 _ rfl).set 2 _ rfl) (by decide) _)).trans (Keeps.store (i := 4) ((((HI0.out.set 0 _ rfl).set 1 _ rfl).set 2 _ rfl).set 3 _ rfl) (by decide) _))
        have HBZ := Lib.hid (((((HB.out.setCell (p := ⟨w.heap.size, 0, none⟩) (Nat.le_refl _) (.string u)).setCell (p := ⟨w.heap.size, 1, none⟩) (Nat.le_refl _) (.slice vA vss.length vc)).setCell (p := ⟨w.heap.size, 2, none⟩) (Nat.le_refl _) (.int .i64 vs)).setCell (p := ⟨w.heap.size, 3, none⟩) (Nat.le_refl _) (.int .i64 vp)).setCell (p := ⟨w.heap.size, 4, none⟩) (Nat.le_refl _) (.int .i64 vl))
        clear hin hg he
        go_wp2_with fail
        generalize ((((w0.setCell ⟨w.heap.size, 0, none⟩ (.string u)).setCell ⟨w.heap.size, 1, none⟩ (.slice vA vss.length vc)).setCell ⟨w.heap.size, 2, none⟩ (.int .i64 vs)).setCell ⟨w.heap.size, 3, none⟩ (.int .i64 vp)).setCell ⟨w.heap.size, 4, none⟩ (.int .i64 vl) = wz at *
        have k0 := HIZ.out.cell' (i := 0) rfl
        have k1 := HIZ.out.cell' (i := 1) rfl
        have k2 := HIZ.out.cell' (i := 2) rfl
        have k3 := HIZ.out.cell' (i := 3) rfl
        have k4 := HIZ.out.cell' (i := 4) rfl
        exact bodyPost_ret (v := .agg #[.string u, .slice vA vss.length vc, .int .i64 vs, .int .i64 vp, .int .i64 vl]) (by simp [results, Tryz.results62, go_sem, k0, k1, k2, k3, k4]) rfl ⟨vA, ⟨vc, rfl⟩, HLZ.out, HBZ.out⟩
      · have d1 : (xs[j].1.toList == u.toList) = false := by simpa using fun e => he (OmapB.ext e)
        have HHE : Hid (∀ (i : Nat) (hi : i < xs.length), i = j → xs[i].1 ≠ u) := fun i hi e => by subst e; exact he
        clear he q1 q2 q3 q4
        generalize xs[j].1 = nm at *
        go_wp2_with fail
        go_round
        case rel =>
          refine ⟨j + 1, by omega, by go_num, fun i hi hl => ?_⟩
          by_cases hlm : i < j
          · exact HNO.out i hi hlm
          · exact HHE.out i hi (by omega)
        case measure => simp [intOf]; omega
    · have hg : getK u xs = none := getK_none fun p hp => by
        obtain ⟨i, hi, rfl⟩ := List.getElem_of_mem hp
        exact HNO.out i hi (by omega)
      have hgs := HGS.out
      have hgt := HGT.out
      rw [hg] at hgs hgt
      simp only [Option.getD_none, EnV.told, Prod.mk.injEq] at hgs hgt
      obtain ⟨rfl, rfl, rfl⟩ := hgt
      subst hgs
      clear hg
      have HIZ := Lib.hid (((((HI0.out.set 0 (.string u) rfl).set 1 (.slice none 0 0) rfl).set 2 (.int .i64 0) rfl).set 3 (.int .i64 0) rfl).set 4 (.int .i64 0) rfl)
      have HBZ := Lib.hid (((((HB.out.setCell (p := ⟨w.heap.size, 0, none⟩) (Nat.le_refl _) (.string u)).setCell (p := ⟨w.heap.size, 1, none⟩) (Nat.le_refl _) (.slice none 0 0)).setCell (p := ⟨w.heap.size, 2, none⟩) (Nat.le_refl _) (.int .i64 0)).setCell (p := ⟨w.heap.size, 3, none⟩) (Nat.le_refl _) (.int .i64 0)).setCell (p := ⟨w.heap.size, 4, none⟩) (Nat.le_refl _) (.int .i64 0))
      go_wp2_with fail
      generalize ((((w0.setCell ⟨w.heap.size, 0, none⟩ (.string u)).setCell ⟨w.heap.size, 1, none⟩ (.slice none 0 0)).setCell ⟨w.heap.size, 2, none⟩ (.int .i64 0)).setCell ⟨w.heap.size, 3, none⟩ (.int .i64 0)).setCell ⟨w.heap.size, 4, none⟩ (.int .i64 0) = wz at *
      have k0 := HIZ.out.cell' (i := 0) rfl
      have k1 := HIZ.out.cell' (i := 1) rfl
      have k2 := HIZ.out.cell' (i := 2) rfl
      have k3 := HIZ.out.cell' (i := 3) rfl
      have k4 := HIZ.out.cell' (i := 4) rfl
      exact bodyPost_ret (v := .agg #[.string u, .slice none 0 0, .int .i64 0, .int .i64 0, .int .i64 0]) (by simp [results, Tryz.results62, go_sem, k0, k1, k2, k3, k4]) rfl ⟨none, ⟨0, rfl⟩, Lain.nil, HBZ.out⟩

theorem refOfP {now : Int} {zs : List Sn} {s0 s1 s2 : Int} (hp : presS now zs = (s0, s1, s2)) {A : Option Addr} {c : Nat} {w : World} (hs : Seq w 0 w.heap.size A (flatS zs)) (hl : zs.length ≤ 900) :
    Calls Tryz.prog 70 #[.slice A zs.length c, .int .u64 now] w fun e w' => e = .returned (.agg #[.int .i64 s0, .int .i64 s1, .int .i64 s2]) ∧ Below w.heap.size w w' := by
  refine (Aggr.refOf now zs A c w hs hl).mono fun e w' ⟨h1, h2⟩ => ⟨?_, h2⟩
  rw [h1]
  unfold presS at hp
  injection hp with f0 f1
  injection f1 with f1 f2
  rw [Aggr.PV, f0, f1, f2]
end Bk
end Go.Proofs.YtohdlnefgieenaaGreat
/-
  What the reference's (layer 8) Presence and become come to.
-/
namespace Go.Law
section
variable {κ ν : Type} (lt : κ → κ → Prop) [DecidableRel lt]
/-- a key put into a list whose keys are all smaller, and then one more behind it -/
theorem putK_end (ht : Tri lt) {k : κ} {v : ν} : ∀ {xs : List (κ × ν)}, (∀ p ∈ xs, lt p.1 k) → putK lt k v xs = xs ++ [(k, v)]
  | [], _ => rfl
  | p :: r, h => by
    have hp := h p (by simp)
    rw [putK, if_neg (ht.asym hp), if_pos hp, putK_end ht fun q hq => h q (by simp [hq])]
    rfl
/-- one more, with a greater key, behind a list -/
theorem putK_snoc {k : κ} {v : ν} {q : κ × ν} (hq : lt k q.1) : ∀ {xs : List (κ × ν)}, (∃ p ∈ xs, ¬ lt p.1 k) → putK lt k v (xs ++ [q]) = putK lt k v xs ++ [q]
  | [], h => by obtain ⟨p, hp, _⟩ := h; cases hp
  | p :: r, h => by
    rw [List.cons_append, putK, putK]
    split
    · rfl
    · rename_i h1
      split
      · rename_i h2
        have hr : ∃ p ∈ r, ¬ lt p.1 k := by
          obtain ⟨p', hp', hn⟩ := h
          rcases List.mem_cons.1 hp' with e | hp'
          · subst e; exact absurd h2 hn
          · exact ⟨p', hp', hn⟩
        rw [putK_snoc hq hr]
        rfl
      · rfl
end
end Go.Law
namespace Go.Proofs.YtohdlnefgieenaaGreat
open Go.RowKit
namespace Bk
open Go.Law Go.Proofs.YtohdlnefgieenaaGreat.OmapB Door

@[go_sem] theorem run_fieldU1 (a b c d e : Value) (w : World) : Sem.run Tryz.prog (Instr.field 107 (.agg #[a, b, c, d, e]) 1) w = .ok b w := by kernel_rfl

set_option maxRecDepth 100000 in
set_option maxHeartbeats 4000000 in
theorem refPresence (u : ByteArray) (now : Int) {s0 s1 s2 : Int} {w : World} {A : Option Addr} {c : Nat} {b : List (ByteArray × En)} (hp : presS now (sesK u b) = (s0, s1, s2)) (h : UsersAt w A b) (hR : Rises lt b) (hl : (sesK u b).length ≤ 900) (hn : b.length ≤ 900) :
    Calls Tryz.prog 43 #[.slice A b.length c, .string u, .int .u64 now] w fun e w' => e = .returned (.agg #[.int .i64 s0, .int .i64 s1, .int .i64 s2]) ∧ Below w.heap.size w w' := by
  obtain ⟨t0, t1, t2, ht⟩ : ∃ t0 t1 t2, toldK u b = (t0, t1, t2) := ⟨_, _, _, rfl⟩
  have H := Lib.hid h
  have HR := Lib.hid hR
  have HT := Lib.hid ht
  have HP := Lib.hid hp
  have HB := Lib.hid (Below.refl w.heap.size w)
  clear h hR ht hp
  generalize hss : sesK u b = ss at *
  have HSS := Lib.hid hss
  clear hss
  go_enter Tryz.func43, Tryz.ntmps43
  go_wp2_with fail
  have bx := ((Below.refl w.heap.size w).alloc (Nat.le_refl _) (.cells #[.int .i64 0, .int .i64 0, .int .i64 0] 57))
  have HI1 := Lib.hid (Is.new w 57 #[.int .i64 0, .int .i64 0, .int .i64 0] rfl)
  replace HB := Lib.hid (HB.out.trans (bx.mono HB.out.size))
  replace H := Lib.hid (H.out.now bx)
  generalize (w.alloc (.cells #[.int .i64 0, .int .i64 0, .int .i64 0] 57)) = w0 at *
  clear bx
  refine (refFind u HSS.out HT.out H.out HR.out hn).mono ?_
  rintro e w1 ⟨A1, c1, rfl, sq, b1⟩
  have HS := Lib.hid sq
  replace HI1 := Lib.hid (HI1.out.below b1 HI1.out.lt)
  replace HB := Lib.hid (HB.out.trans (b1.mono HB.out.size))
  clear b1 sq H
  go_wp2_with fail
  refine (refOfP HP.out HS.out.seq hl).mono ?_
  rintro e w3 ⟨rfl, b1⟩
  replace HI1 := Lib.hid (HI1.out.below b1 HI1.out.lt)
  replace HB := Lib.hid (HB.out.trans (b1.mono HB.out.size))
  have l1 := HI1.out.lt
  have f0 := HI1.out.frozen 0
  have f1 := HI1.out.frozen 1
  have f2 := HI1.out.frozen 2
  have m0 := HI1.out.cell' (i := 0) rfl
  have m1 := HI1.out.cell' (i := 1) rfl
  have m2 := HI1.out.cell' (i := 2) rfl
  have HI3 := Lib.hid (((HI1.out.set 0 (.int .i64 s0) rfl).set 1 (.int .i64 s1) rfl).set 2 (.int .i64 s2) rfl)
  have HB3 := Lib.hid (((HB.out.setCell (p := ⟨w.heap.size, 0, none⟩) (Nat.le_refl _) (.int .i64 s0)).setCell (p := ⟨w.heap.size, 1, none⟩) (Nat.le_refl _) (.int .i64 s1)).setCell (p := ⟨w.heap.size, 2, none⟩) (Nat.le_refl _) (.int .i64 s2))
  clear b1 HS
  go_wp2_with fail
  generalize ((w3.setCell ⟨w.heap.size, 0, none⟩ (.int .i64 s0)).setCell ⟨w.heap.size, 1, none⟩ (.int .i64 s1)).setCell ⟨w.heap.size, 2, none⟩ (.int .i64 s2) = w4 at *
  have n0 := HI3.out.cell' (i := 0) rfl
  have n1 := HI3.out.cell' (i := 1) rfl
  have n2 := HI3.out.cell' (i := 2) rfl
  exact bodyPost_ret (v := .agg #[.int .i64 s0, .int .i64 s1, .int .i64 s2]) (by simp [results, Tryz.results43, go_sem, n0, n1, n2]) rfl ⟨rfl, HB3.out⟩

end Bk
end Go.Proofs.YtohdlnefgieenaaGreat
/-
  What the reference's (layer 8) become comes to.
-/
namespace Go.Law
section
variable {κ ν : Type} (lt : κ → κ → Prop) [DecidableRel lt] [DecidableEq κ]
/-- is there one that is not smaller? -/
def anyGe (u : κ) (l : List (κ × ν)) : Bool := l.any fun q => decide (¬ lt q.1 u)
/-- on the way through the users: what there is so far -/
def half (e : Bool) (u : κ) (v : ν) (l : List (κ × ν)) : List (κ × ν) := if e then outK u l else if anyGe lt u l then putK lt u v l else l
variable {lt}
omit [DecidableEq κ] in
theorem anyGe_app {u : κ} {l : List (κ × ν)} {q : κ × ν} : anyGe lt u (l ++ [q]) = (anyGe lt u l || decide (¬ lt q.1 u)) := by unfold anyGe; rw [List.any_append]; simp
omit [DecidableEq κ] in
theorem anyGe_false {u : κ} {l : List (κ × ν)} (h : anyGe lt u l = false) : ∀ p ∈ l, lt p.1 u := fun p hp => by
  unfold anyGe at h
  rw [List.any_eq_false] at h
  simpa using h p hp
omit [DecidableEq κ] in
theorem anyGe_true {u : κ} {l : List (κ × ν)} (h : anyGe lt u l = true) : ∃ p ∈ l, ¬ lt p.1 u := by
  unfold anyGe at h
  rw [List.any_eq_true] at h
  obtain ⟨p, hp, h⟩ := h
  exact ⟨p, hp, by simpa using h⟩
theorem half_nil (e : Bool) (u : κ) (v : ν) : half lt e u v [] = [] := by cases e <;> rfl
theorem half_false (u : κ) (v : ν) (l : List (κ × ν)) : half lt false u v l = if anyGe lt u l then putK lt u v l else l := by unfold half; simp
/-- put already: the rest goes behind -/
theorem half_done (ht : Tri lt) {e : Bool} {u : κ} {v : ν} {l : List (κ × ν)} {q : κ × ν} (hr : Rises lt (l ++ [q])) (hp : (e || anyGe lt u l) = true) : half lt e u v (l ++ [q]) = half lt e u v l ++ (if q.1 = u then [] else [q]) ∧ (e || anyGe lt u (l ++ [q])) = true := by
  cases e
  · simp only [Bool.false_or] at hp
    obtain ⟨p, hp1, hp2⟩ := anyGe_true hp
    have h1 : lt p.1 q.1 := (List.pairwise_append.1 hr).2.2 p hp1 q (by simp)
    have h2 : lt u q.1 := by
      rcases ht.tri p.1 u with h | h | h
      · exact absurd h hp2
      · rw [← h]; exact h1
      · exact ht.tr h h1
    have h3 : anyGe lt u (l ++ [q]) = true := by rw [anyGe_app, hp]; rfl
    refine ⟨?_, by simpa using h3⟩
    rw [half_false, half_false, if_pos h3, if_pos hp, if_neg (ht.ne h2).symm]
    exact putK_left lt h2 l
  · refine ⟨?_, by simp⟩
    unfold half
    rw [if_pos rfl, if_pos rfl, outK_app]
    congr 1
    unfold outK
    by_cases h : q.1 = u <;> simp [h]
theorem half_small {u : κ} {v : ν} {l : List (κ × ν)} {q : κ × ν} (hp : (false || anyGe lt u l) = false) (hq : lt q.1 u) : half lt false u v (l ++ [q]) = half lt false u v l ++ [q] ∧ (false || anyGe lt u (l ++ [q])) = false := by
  simp only [Bool.false_or] at hp
  have h3 : anyGe lt u (l ++ [q]) = false := by rw [anyGe_app, hp]; simpa using hq
  refine ⟨?_, by simpa using h3⟩
  rw [half_false, half_false, if_neg (by simp [h3]), if_neg (by simp [hp])]
theorem half_here (ht : Tri lt) {u : κ} {v : ν} {l : List (κ × ν)} {q : κ × ν} (hr : Rises lt (l ++ [q])) (hp : (false || anyGe lt u l) = false) (hq : q.1 = u) : half lt false u v (l ++ [q]) = half lt false u v l ++ [(u, v)] ∧ (false || anyGe lt u (l ++ [q])) = true := by
  simp only [Bool.false_or] at hp
  obtain ⟨a, b⟩ := q
  simp only at hq
  subst hq
  have h3 : anyGe lt a (l ++ [(a, b)]) = true := by rw [anyGe_app]; simp [ht.irr]
  refine ⟨?_, by simpa using h3⟩
  rw [half_false, half_false, if_pos h3, if_neg (by simp [hp])]
  exact putK_same lt ht l hr
theorem half_past (ht : Tri lt) {u : κ} {v : ν} {l : List (κ × ν)} {q : κ × ν} (hp : (false || anyGe lt u l) = false) (hq : lt u q.1) : half lt false u v (l ++ [q]) = half lt false u v l ++ [(u, v)] ++ [q] ∧ (false || anyGe lt u (l ++ [q])) = true := by
  simp only [Bool.false_or] at hp
  have h3 : anyGe lt u (l ++ [q]) = true := by rw [anyGe_app]; simp [ht.asym hq]
  refine ⟨?_, by simpa using h3⟩
  rw [half_false, half_false, if_pos h3, if_neg (by simp [hp]), putK_left lt (a := q.1) (b := q.2) hq l, putK_end lt ht (anyGe_false hp)]
theorem half_all (e : Bool) (u : κ) (v : ν) (l : List (κ × ν)) (hp : (e || anyGe lt u l) = true) : half lt e u v l = if e = true then outK u l else putK lt u v l := by
  unfold half
  cases e
  · simp only [Bool.false_or] at hp
    simp [hp]
  · simp
theorem half_rest (ht : Tri lt) (e : Bool) (u : κ) (v : ν) (l : List (κ × ν)) (hp : (e || anyGe lt u l) = false) : half lt e u v l ++ [(u, v)] = if e = true then outK u l else putK lt u v l := by
  cases e
  · simp only [Bool.false_or] at hp
    unfold half
    simp only [hp, Bool.false_eq_true, if_false]
    exact (putK_end lt ht (anyGe_false hp)).symm
  · simp at hp
theorem half_length (e : Bool) (u : κ) (v : ν) (l : List (κ × ν)) : (half lt e u v l).length ≤ l.length + 1 := by
  unfold half
  split
  · have := outK_length u l; omega
  · split
    · exact (putK_length lt u v l).1
    · omega
theorem half_mem {e : Bool} {u : κ} {v : ν} {l : List (κ × ν)} {q : κ × ν} (h : q ∈ half lt e u v l) : q = (u, v) ∨ q ∈ l := by
  unfold half at h
  split at h
  · exact .inr (List.mem_filter.1 h).1
  · split at h
    · exact putK_mem lt h
    · exact .inr h
end
end Go.Law
namespace Go.Proofs.YtohdlnefgieenaaGreat
open Go.RowKit
namespace Bk
open Go.Law Go.Proofs.YtohdlnefgieenaaGreat.OmapB Door

theorem become_half {u : ByteArray} {ss : List Sn} {now : Int} {b : List (ByteArray × En)} {xs : List (ByteArray × EnV)} {v : EnV} {e : Bool} (he : decide (ss = []) = e) (hv : v.en = (ss, presS now ss)) (h : mapV EnV.en xs = b) : mapV EnV.en (if e = true then outK u xs else putK lt u v xs) = become lt u ss now b := by
  unfold become
  subst he
  by_cases hs : ss = []
  · simp only [hs, decide_true, if_true]
    rw [mapV_out, h]
  · simp only [hs, decide_false, if_false, Bool.false_eq_true]
    rw [mapV_put, h, hv]

set_option maxRecDepth 100000 in
set_option maxHeartbeats 4000000 in
theorem refBecome (u : ByteArray) (ss : List Sn) (now : Int) {w : World} {A B : Option Addr} {c d : Nat} {b : List (ByteArray × En)} (h : UsersAt w A b) (hR : Rises lt b) (hs : Lain 138 w B (flatS ss)) (hl : ss.length ≤ 900) (hn : b.length ≤ 900) :
    Calls Tryz.prog 58 #[.slice A b.length c, .string u, .slice B ss.length d, .int .u64 now] w fun e w' => ∃ A1 c1 A2 c2, e = .returned (.tuple #[.slice A1 (become lt u ss now b).length c1, .slice A2 (tells u ss now b).length c2]) ∧ UsersAt w' A1 (become lt u ss now b) ∧ Lain 131 w' A2 (flatC (tells u ss now b)) ∧ Below w.heap.size w w' := by
  obtain ⟨t0, t1, t2, ht⟩ : ∃ t0 t1 t2, toldK u b = (t0, t1, t2) := ⟨_, _, _, rfl⟩
  obtain ⟨s0, s1, s2, hp⟩ : ∃ s0 s1 s2, presS now ss = (s0, s1, s2) := ⟨_, _, _, rfl⟩
  have hT : tells u ss now b = if (s0, s1, s2) = (t0, t1, t2) then [] else [(u, (t0, t1, t2), (s0, s1, s2))] := by unfold tells; rw [ht, hp]
  have H := Lib.hid h
  have HR := Lib.hid hR
  have HS := Lib.hid hs
  have HT := Lib.hid ht
  have HP := Lib.hid hp
  have HTE := Lib.hid hT
  have HB := Lib.hid (Below.refl w.heap.size w)
  clear h hR hs ht hp hT
  go_enter Tryz.func58, Tryz.ntmps58
  go_wp2_with fail
  refine (refFind u rfl HT.out H.out HR.out hn).mono ?_
  rintro e w1 ⟨A1, c1, rfl, _, b1⟩
  replace HB := Lib.hid (HB.out.trans (b1.mono HB.out.size))
  replace H := Lib.hid (H.out.now b1)
  replace HS := Lib.hid (HS.out.now b1)
  clear b1
  go_wp2_with fail
  have HI1 := Lib.hid (Is.new w1 107 #[.string u, .slice A1 (sesK u b).length c1, .int .i64 t0, .int .i64 t1, .int .i64 t2] rfl)
  have bx := (Below.refl w1.heap.size w1).alloc (Nat.le_refl _) (.cells #[.string u, .slice A1 (sesK u b).length c1, .int .i64 t0, .int .i64 t1, .int .i64 t2] 107)
  replace HB := Lib.hid (HB.out.trans (bx.mono HB.out.size))
  replace H := Lib.hid (H.out.now bx)
  replace HS := Lib.hid (HS.out.now bx)
  generalize w1.alloc (.cells #[.string u, .slice A1 (sesK u b).length c1, .int .i64 t0, .int .i64 t1, .int .i64 t2] 107) = w2 at *
  clear bx
  refine (refOfP HP.out HS.out.seq hl).mono ?_
  rintro e w3 ⟨rfl, b1⟩
  replace HB := Lib.hid (HB.out.trans (b1.mono HB.out.size))
  replace H := Lib.hid (H.out.now b1)
  replace HS := Lib.hid (HS.out.now b1)
  replace HI1 := Lib.hid (HI1.out.below b1 HI1.out.lt)
  clear b1
  obtain ⟨e, he⟩ : ∃ e, decide (ss = []) = e := ⟨_, rfl⟩
  have d0 : ((ss.length : Int) == 0) = e := by
    rw [← he]
    cases ss with
    | nil => rfl
    | cons a r => simp; omega
  have HEE_ := Lib.hid he
  have HEE := Lib.hid he
  clear he
  obtain ⟨xs, hx, hin, hxb⟩ := H.out
  have hxl : b.length = xs.length := by rw [← hxb, mapV_length]
  have HX := Lib.hid hx
  have HIN := Lib.hid hin
  have HXB := Lib.hid hxb
  have HRX : Hid (Rises lt xs) := (mapV_rises lt (f := EnV.en)).1 (by rw [hxb]; exact HR.out)
  have hx9 : xs.length ≤ 900 := by omega
  rw [hxl]
  clear hx hin hxb hxl H
  have HV : Hid ((EnV.mk B ss.length d s0 s1 s2 ss).en = (ss, presS now ss)) := by show _ = _; rw [HP.out]; rfl
  have HVI : Hid ((EnV.mk B ss.length d s0 s1 s2 ss).In 138 w3) := ⟨rfl, HS.out⟩
  have HEV : Hid (∃ ev : EnV, ev = EnV.mk B ss.length d s0 s1 s2 ss) := ⟨_, rfl⟩
  obtain ⟨ev, hev⟩ := HEV.out
  rw [← hev] at HV HVI
  have HCU : Hid (cellsU (u, ev) = [.string u, .slice B ss.length d, .int .i64 s0, .int .i64 s1, .int .i64 s2]) := by rw [hev]; rfl
  clear hev HEV
  go_wp2_with fail
  have bx := (Below.refl w3.heap.size w3).alloc (Nat.le_refl _) (.cells #[.int .i64 s0, .int .i64 s1, .int .i64 s2] 57)
  have HI2 := Lib.hid (Is.new w3 57 #[.int .i64 s0, .int .i64 s1, .int .i64 s2] rfl)
  have hw31 : w1.heap.size < w3.heap.size := HI1.out.lt
  replace HI1 := Lib.hid (HI1.out.below bx HI1.out.lt)
  replace HB := Lib.hid (HB.out.trans (bx.mono HB.out.size))
  replace HX := Lib.hid (HX.out.now bx)
  replace HIN : Hid (∀ q ∈ xs, q.2.In 138 (w3.alloc (.cells #[.int .i64 s0, .int .i64 s1, .int .i64 s2] 57))) := fun q hq => (HIN.out q hq).keeps (Keeps.of_below bx)
  replace HVI := Lib.hid (HVI.out.keeps (Keeps.of_below bx))
  clear bx HS HR HEE_
  generalize w3.alloc (.cells #[.int .i64 s0, .int .i64 s1, .int .i64 s2] 57) = w4 at *
  obtain ⟨i0, hE⟩ := elemU
  have HE := Lib.hid hE
  clear hE
  have sB := HB.out.size
  go_loopw [12, 13, 14] (fun ov pv iv wr => ∃ (j : Nat) (pb : Bool), j ≤ xs.length ∧ iv = .int .i64 j ∧ pv = .bool pb ∧ (e || anyGe lt u (xs.take j)) = pb ∧ wr.ownsRow w4.heap.size 107 5 ov (half lt e u ev (xs.take j)).length (flatU (half lt e u ev (xs.take j))) ∧ Below w4.heap.size w4 wr) (fun _ _ iv _ => xs.length - (intOf iv).toNat)
  case atStart => exact ⟨0, e, Nat.zero_le _, rfl, rfl, by simp [anyGe], by rw [List.take_zero, half_nil]; exact World.ownsRow_nil _ _ _ _, Below.refl _ _⟩
  case round =>
    obtain ⟨j, pb, hj, rfl, rfl, hpb, ho, hb⟩ := hrel
    obtain ⟨A4, c4, rfl, _⟩ := own_shape ho
    have HPB := Lib.hid hpb
    have HO := Lib.hid ho
    have HBW := Lib.hid hb
    have hfl : (half lt e u ev (xs.take j)).length ≤ 902 := by have := half_length (lt := lt) e u ev (xs.take j); simp at this; omega
    have sz := hb.size
    have HJ2 := Lib.hid (HI2.out.below hb HI2.out.lt)
    have p0 := HJ2.out.cell' (i := 0) rfl
    have p1 := HJ2.out.cell' (i := 1) rfl
    have p2 := HJ2.out.cell' (i := 2) rfl
    have lp := HJ2.out.lt
    clear hpb ho hb
    by_cases hlt : j < xs.length
    · have HTK := Lib.hid (List.take_succ_eq_append_getElem hlt)
      have HRT : Hid (Rises lt (xs.take j ++ [xs[j]])) := by rw [← HTK.out]; exact List.Pairwise.sublist (List.take_sublist _ _) HRX.out
      obtain ⟨gb, off, rfl, _, lb, y0, y1, y2, y3, y4⟩ := HX.out.seq.us hlt
      have lr : gb < wr.heap.size := by omega
      generalize xs[j] = q at *
      obtain ⟨nm, vA, vn, vc, vs, vp, vl, vss⟩ := q
      simp only at y0 y1 y2 y3 y4
      have q0 := (HBW.out.cell (p := ⟨gb, off + j * 5, none⟩) lb).trans y0
      have q1 := (HBW.out.cell (p := ⟨gb, off + j * 5 + 1, none⟩) lb).trans y1
      have q2 := (HBW.out.cell (p := ⟨gb, off + j * 5 + 2, none⟩) lb).trans y2
      have q3 := (HBW.out.cell (p := ⟨gb, off + j * 5 + 3, none⟩) lb).trans y3
      have q4 := (HBW.out.cell (p := ⟨gb, off + j * 5 + 4, none⟩) lb).trans y4
      have HCQ : Hid (cellsU (nm, (⟨vA, vn, vc, vs, vp, vl, vss⟩ : EnV)) = [.string nm, .slice vA vn vc, .int .i64 vs, .int .i64 vp, .int .i64 vl]) := rfl
      generalize hvq : (⟨vA, vn, vc, vs, vp, vl, vss⟩ : EnV) = vq at *
      clear hvq
      cases pb with
      | true =>
        have HFA : Hid (half lt e u ev (xs.take j ++ [(nm, vq)]) = half lt e u ev (xs.take j) ++ (if nm = u then [] else [(nm, vq)]) ∧ (e || anyGe lt u (xs.take j ++ [(nm, vq)])) = true) := half_done tri HRT.out HPB.out
        by_cases he : nm = u
        · rw [if_pos he] at HFA
          subst he
          have d1 : (nm.toList == nm.toList) = true := by simp
          generalize half lt e nm ev (xs.take j) = hf at *
          go_wp2_with fail
          go_roundw
          case rel =>
            refine ⟨j + 1, true, by omega, by go_num, rfl, by rw [HTK.out]; exact (HFA.out).2, ?_, HBW.out⟩
            rw [HTK.out, (HFA.out).1]
            simpa [flatU_app, flatU] using HO.out
          case measure => simp [intOf]; omega
        · rw [if_neg he] at HFA
          have d1 : (nm.toList == u.toList) = false := by simpa using fun e => he (OmapB.ext e)
          clear he
          generalize half lt e u ev (xs.take j) = hf at *
          have bx7 := (Below.refl wr.heap.size wr).alloc (Nat.le_refl _) (.cells #[.string nm, .slice vA vn vc, .int .i64 vs, .int .i64 vp, .int .i64 vl] 107)
          have HQ7 : Hid (Lain 107 (wr.alloc (.cells #[.string nm, .slice vA vn vc, .int .i64 vs, .int .i64 vp, .int .i64 vl] 107)) (some ⟨wr.heap.size, 0, none⟩) (cellsU (nm, vq))) := Lain.is (Is.new wr 107 #[.string nm, .slice vA vn vc, .int .i64 vs, .int .i64 vp, .int .i64 vl] rfl) HCQ.out.symm
          have HO7 := Lib.hid (own_below HO.out bx7)
          have HB7 := Lib.hid (HBW.out.trans (bx7.mono HBW.out.size))
          clear bx7
          go_wp2_with (at_builtin; refine Law.wpList_append_seq _ w4.heap.size 84 rfl _ _ rfl HE.out _ _ _ rfl HO7.out 0 _ (some ⟨wr.heap.size, 0, none⟩) 1 1 (cellsU (nm, vq)) rfl (by rw [HCQ.out]; rfl) HQ7.out.seq (cellsU_one _) (by unfold maxLen; omega) (by omega) (by simp only [World.size_alloc]; omega) ?_; intro v8 w7 hown hgrow; obtain ⟨A8, c8, rfl, _⟩ := own_shape hown; have HO8 := Lib.hid hown; have HB8 := Lib.hid (HB7.out.grown hgrow (by simp only [World.size_alloc]; omega) (fun g hg => (HO7.out.lt g hg).1)); clear hown hgrow)
          go_roundw
          case rel =>
            refine ⟨j + 1, true, by omega, by go_num, rfl, by rw [HTK.out]; exact (HFA.out).2, ?_, HB8.out⟩
            rw [HTK.out, (HFA.out).1]
            simpa [flatU_app, flatU] using HO8.out
          case measure => simp [intOf]; omega
      | false =>
        obtain ⟨he, _⟩ := Bool.or_eq_false_iff.1 HPB.out
        subst he
        rcases cmp nm u with ⟨hq, d1, d2⟩ | ⟨hq, d1⟩ | ⟨hq, d1, d2, d3⟩
        · have d3 : (nm.toList == u.toList) = false := by simpa using fun e => tri.ne hq (OmapB.ext e)
          have HFA := Lib.hid (half_small (v := ev) (q := (nm, vq)) HPB.out hq)
          clear hq
          generalize half lt false u ev (xs.take j) = hf at *
          have bx7 := (Below.refl wr.heap.size wr).alloc (Nat.le_refl _) (.cells #[.string nm, .slice vA vn vc, .int .i64 vs, .int .i64 vp, .int .i64 vl] 107)
          have HQ7 : Hid (Lain 107 (wr.alloc (.cells #[.string nm, .slice vA vn vc, .int .i64 vs, .int .i64 vp, .int .i64 vl] 107)) (some ⟨wr.heap.size, 0, none⟩) (cellsU (nm, vq))) := Lain.is (Is.new wr 107 #[.string nm, .slice vA vn vc, .int .i64 vs, .int .i64 vp, .int .i64 vl] rfl) HCQ.out.symm
          have HO7 := Lib.hid (own_below HO.out bx7)
          have HB7 := Lib.hid (HBW.out.trans (bx7.mono HBW.out.size))
          clear bx7
          go_wp2_with (at_builtin; refine Law.wpList_append_seq _ w4.heap.size 84 rfl _ _ rfl HE.out _ _ _ rfl HO7.out 0 _ (some ⟨wr.heap.size, 0, none⟩) 1 1 (cellsU (nm, vq)) rfl (by rw [HCQ.out]; rfl) HQ7.out.seq (cellsU_one _) (by unfold maxLen; omega) (by omega) (by simp only [World.size_alloc]; omega) ?_; intro v8 w7 hown hgrow; obtain ⟨A8, c8, rfl, _⟩ := own_shape hown; have HO8 := Lib.hid hown; have HB8 := Lib.hid (HB7.out.grown hgrow (by simp only [World.size_alloc]; omega) (fun g hg => (HO7.out.lt g hg).1)); clear hown hgrow)
          go_roundw
          case rel =>
            refine ⟨j + 1, false, by omega, by go_num, rfl, by rw [HTK.out]; exact (HFA.out).2, ?_, HB8.out⟩
            rw [HTK.out, (HFA.out).1]
            simpa [flatU_app, flatU] using HO8.out
          case measure => simp [intOf]; omega
        · subst hq
          have HFA := Lib.hid (half_here tri (v := ev) HRT.out HPB.out rfl)
          have d3 : (nm.toList == nm.toList) = true := by simp
          generalize half lt false nm ev (xs.take j) = hf at *
          have bx7 := (Below.refl wr.heap.size wr).alloc (Nat.le_refl _) (.cells #[.string nm, .slice B ss.length d, .int .i64 s0, .int .i64 s1, .int .i64 s2] 107)
          have HQ7 : Hid (Lain 107 (wr.alloc (.cells #[.string nm, .slice B ss.length d, .int .i64 s0, .int .i64 s1, .int .i64 s2] 107)) (some ⟨wr.heap.size, 0, none⟩) (cellsU (nm, ev))) := Lain.is (Is.new wr 107 #[.string nm, .slice B ss.length d, .int .i64 s0, .int .i64 s1, .int .i64 s2] rfl) HCU.out.symm
          have HO7 := Lib.hid (own_below HO.out bx7)
          have HB7 := Lib.hid (HBW.out.trans (bx7.mono HBW.out.size))
          clear bx7
          go_wp2_with (at_builtin; refine Law.wpList_append_seq _ w4.heap.size 84 rfl _ _ rfl HE.out _ _ _ rfl HO7.out 0 _ (some ⟨wr.heap.size, 0, none⟩) 1 1 (cellsU (nm, ev)) rfl (by rw [HCU.out]; rfl) HQ7.out.seq (cellsU_one _) (by unfold maxLen; omega) (by omega) (by simp only [World.size_alloc]; omega) ?_; intro v8 w7 hown hgrow; obtain ⟨A8, c8, rfl, _⟩ := own_shape hown; have HO8 := Lib.hid hown; have HB8 := Lib.hid (HB7.out.grown hgrow (by simp only [World.size_alloc]; omega) (fun g hg => (HO7.out.lt g hg).1)); clear hown hgrow; have r0 := (HB8.out.cell (p := ⟨gb, off + j * 5, none⟩) lb).trans y0; have lr8 := Nat.lt_of_lt_of_le lb HB8.out.size)
          go_roundw
          case rel =>
            refine ⟨j + 1, true, by omega, by go_num, rfl, by rw [HTK.out]; exact (HFA.out).2, ?_, HB8.out⟩
            rw [HTK.out, (HFA.out).1]
            simpa [flatU_app, flatU] using HO8.out
          case measure => simp [intOf]; omega
        · have HFA := Lib.hid (half_past tri (v := ev) (q := (nm, vq)) HPB.out hq)
          clear hq
          generalize half lt false u ev (xs.take j) = hf at *
          have bx7 := (Below.refl wr.heap.size wr).alloc (Nat.le_refl _) (.cells #[.string u, .slice B ss.length d, .int .i64 s0, .int .i64 s1, .int .i64 s2] 107)
          have HQ7 : Hid (Lain 107 (wr.alloc (.cells #[.string u, .slice B ss.length d, .int .i64 s0, .int .i64 s1, .int .i64 s2] 107)) (some ⟨wr.heap.size, 0, none⟩) (cellsU (u, ev))) := Lain.is (Is.new wr 107 #[.string u, .slice B ss.length d, .int .i64 s0, .int .i64 s1, .int .i64 s2] rfl) HCU.out.symm
          have HO7 := Lib.hid (own_below HO.out bx7)
          have HB7 := Lib.hid (HBW.out.trans (bx7.mono HBW.out.size))
          clear bx7
          go_wp2_with (first | (at_builtin; refine Law.wpList_append_seq _ w4.heap.size 84 rfl _ _ rfl HE.out _ _ _ rfl HO7.out 0 _ (some ⟨wr.heap.size, 0, none⟩) 1 1 (cellsU (u, ev)) rfl (by rw [HCU.out]; rfl) HQ7.out.seq (cellsU_one _) (by unfold maxLen; omega) (by omega) (by simp only [World.size_alloc]; omega) ?_; intro v8 w7 hown hgrow; obtain ⟨A8, c8, rfl, _⟩ := own_shape hown; have HO8 := Lib.hid hown; have HB8 := Lib.hid (HB7.out.grown hgrow (by simp only [World.size_alloc]; omega) (fun g hg => (HO7.out.lt g hg).1)); clear hown hgrow; have r0 := (HB8.out.cell (p := ⟨gb, off + j * 5, none⟩) lb).trans y0; have r1 := (HB8.out.cell (p := ⟨gb, off + j * 5 + 1, none⟩) lb).trans y1; have r2 := (HB8.out.cell (p := ⟨gb, off + j * 5 + 2, none⟩) lb).trans y2; have r3 := (HB8.out.cell (p := ⟨gb, off + j * 5 + 3, none⟩) lb).trans y3; have r4 := (HB8.out.cell (p := ⟨gb, off + j * 5 + 4, none⟩) lb).trans y4; have lr8 := Nat.lt_of_lt_of_le lb HB8.out.size; have sz8 := HB8.out.size; have bx9 := (Below.refl w7.heap.size w7).alloc (Nat.le_refl _) (.cells #[.string nm, .slice vA vn vc, .int .i64 vs, .int .i64 vp, .int .i64 vl] 107); have HQ9 : Hid (Lain 107 (w7.alloc (.cells #[.string nm, .slice vA vn vc, .int .i64 vs, .int .i64 vp, .int .i64 vl] 107)) (some ⟨w7.heap.size, 0, none⟩) (cellsU (nm, vq))) := Lain.is (Is.new w7 107 #[.string nm, .slice vA vn vc, .int .i64 vs, .int .i64 vp, .int .i64 vl] rfl) HCQ.out.symm; have HO9 := Lib.hid (own_below HO8.out bx9); have HB9 := Lib.hid (HB8.out.trans (bx9.mono HB8.out.size)); clear bx9) | (at_builtin; refine Law.wpList_append_seq _ w4.heap.size 84 rfl _ _ rfl HE.out _ _ _ rfl HO9.out 0 _ (some ⟨w7.heap.size, 0, none⟩) 1 1 (cellsU (nm, vq)) rfl (by rw [HCQ.out]; rfl) HQ9.out.seq (cellsU_one _) (by unfold maxLen; omega) (by omega) (by simp only [World.size_alloc]; omega) ?_; intro v10 w9 hown hgrow; obtain ⟨A10, c10, rfl, _⟩ := own_shape hown; have HO10 := Lib.hid hown; have HB10 := Lib.hid (HB9.out.grown hgrow (by simp only [World.size_alloc]; omega) (fun g hg => (HO9.out.lt g hg).1)); clear hown hgrow))
          go_roundw
          case rel =>
            refine ⟨j + 1, true, by omega, by go_num, rfl, by rw [HTK.out]; exact (HFA.out).2, ?_, HB10.out⟩
            rw [HTK.out, (HFA.out).1]
            simpa [flatU_app, flatU] using HO10.out
          case measure => simp [intOf]; omega
    · have e1 : xs.take j = xs := List.take_of_length_le (by omega)
      rw [e1] at HPB HO hfl ⊢
      clear e1
      have HJ1 := Lib.hid (HI1.out.below HBW.out HI1.out.lt)
      have k2 := HJ1.out.cell' (i := 2) rfl
      have k3 := HJ1.out.cell' (i := 3) rfl
      have k4 := HJ1.out.cell' (i := 4) rfl
      have lk := HJ1.out.lt
      have HBE : Hid (become lt u ss now b = mapV EnV.en (if e = true then outK u xs else putK lt u ev xs)) := (become_half HEE.out HV.out HXB.out).symm
      have HMEM : Hid (∀ q ∈ (if e = true then outK u xs else putK lt u ev xs), q.2.In 138 w4) := fun q hq => by
        split at hq
        · exact HIN.out q (List.mem_filter.1 hq).1
        · rcases putK_mem lt hq with rfl | hq
          · exact HVI.out
          · exact HIN.out q hq
      cases pb with
      | true =>
        have HFL : Hid (half lt e u ev xs = if e = true then outK u xs else putK lt u ev xs) := half_all e u ev xs HPB.out
        rw [← HFL.out] at HBE HMEM
        clear HFL
        generalize half lt e u ev xs = hf at *
        by_cases q0 : s0 = t0
        · by_cases q1 : s1 = t1
          · by_cases q2 : s2 = t2
            · have e1 : (s0 == t0) = true := by simpa using q0
              have e2 : (s1 == t1) = true := by simpa using q1
              have e3 : (s2 == t2) = true := by simpa using q2
              have HTL : Hid (tells u ss now b = []) := by show _ = _; rw [HTE.out, if_pos (by rw [q0, q1, q2])]
              clear q0 q1 q2
              go_wp2_with fail
              have HOZ := HO
              have HBZ := HBW
              refine bodyPost_ret (v := .tuple #[.slice A4 hf.length c4, .slice none 0 0]) (by simp [results, Tryz.results58, go_sem]) rfl ?_
              rw [HTL.out, HBE.out, mapV_length]
              refine ⟨A4, c4, none, 0, rfl, ⟨_, ?_, fun q hq => (HMEM.out q hq).keeps (Keeps.of_below HBZ.out), rfl⟩, Lain.nil, HB.out.trans (HBZ.out.mono HB.out.size)⟩
              exact Lain.own (by simpa [flatU_app, flatU] using HOZ.out)
            · have e1 : (s0 == t0) = true := by simpa using q0
              have e2 : (s1 == t1) = true := by simpa using q1
              have e3 : (s2 == t2) = false := by simpa using q2
              have HTL : Hid (tells u ss now b = [(u, (t0, t1, t2), (s0, s1, s2))]) := by show _ = _; rw [HTE.out, if_neg (by intro h; injection h with h0 h; injection h with h1 h2; exact q2 h2)]
              clear q0 q1 q2
              go_wp2_with fail
              refine wp_region_held_drew (S := fun w' => w'.cell? ⟨w1.heap.size, 2, none⟩ = some (.int .i64 t0) ∧ w'.cell? ⟨w1.heap.size, 3, none⟩ = some (.int .i64 t1) ∧ w'.cell? ⟨w1.heap.size, 4, none⟩ = some (.int .i64 t2) ∧ w'.cell? ⟨w3.heap.size, 0, none⟩ = some (.int .i64 s0) ∧ w'.cell? ⟨w3.heap.size, 1, none⟩ = some (.int .i64 s1) ∧ w'.cell? ⟨w3.heap.size, 2, none⟩ = some (.int .i64 s2)) (by kernel_rfl) ⟨k2, k3, k4, p0, p1, p2⟩ (fun hS0 => ?_)
              refine wpAnyH_take (i := 0) (oi := { dst := some 75, op := .move (.tmp 12), type := _, pos := _, after := _, guard := _ }) (v := .slice A4 hf.length c4) rfl (by kernel_rfl) (by kernel_rfl) (by kernel_rfl) (fun _ _ _ h => h) (Or.inl ⟨by rfl, ?_⟩) hS0 ?_
              · intro w' hSw
                go_simp
              try simp only [Act.put, List.setIfInBounds_toArray, List.set_cons_zero, List.set_cons_succ]
              refine wpAnyH_take (i := 1) (oi := { dst := some 76, op := .move (.tmp 1), type := _, pos := _, after := _, guard := _ }) (v := .string u) rfl (by kernel_rfl) (by kernel_rfl) (by kernel_rfl) (fun _ _ _ h => h) (Or.inl ⟨by rfl, ?_⟩) hS0 ?_
              · intro w' hSw
                go_simp
              try simp only [Act.put, List.setIfInBounds_toArray, List.set_cons_zero, List.set_cons_succ]
              refine wpAnyH_take (i := 2) (oi := { dst := some 77, op := .fieldAddr 107 (.tmp 10) 2, type := _, pos := _, after := _, guard := _ }) (v := .pointer (some ⟨w1.heap.size, 2, none⟩)) rfl (by kernel_rfl) (by kernel_rfl) (by kernel_rfl) (fun _ _ _ h => h) (Or.inl ⟨by rfl, ?_⟩) hS0 ?_
              · intro w' hSw
                go_simp
              try simp only [Act.put, List.setIfInBounds_toArray, List.set_cons_zero, List.set_cons_succ]
              refine wpAnyH_take (i := 3) (oi := { dst := some 78, op := .load 57 (.tmp 77), type := _, pos := _, after := _, guard := _ }) (v := .agg #[.int .i64 t0, .int .i64 t1, .int .i64 t2]) rfl (by kernel_rfl) (by kernel_rfl) (by kernel_rfl) (fun _ _ _ h => h) (Or.inl ⟨by rfl, ?_⟩) hS0 ?_
              · intro w' hSw
                go_simp
              try simp only [Act.put, List.setIfInBounds_toArray, List.set_cons_zero, List.set_cons_succ]
              refine wpAnyH_take (i := 4) (oi := { dst := some 79, op := .load 57 (.tmp 11), type := _, pos := _, after := _, guard := _ }) (v := .agg #[.int .i64 s0, .int .i64 s1, .int .i64 s2]) rfl (by kernel_rfl) (by kernel_rfl) (by kernel_rfl) (fun _ _ _ h => h) (Or.inl ⟨by rfl, ?_⟩) hS0 ?_
              · intro w' hSw
                go_simp
              try simp only [Act.put, List.setIfInBounds_toArray, List.set_cons_zero, List.set_cons_succ]
              refine wpAnyH_take (i := 5) (oi := { dst := some 80, op := .build 131 #[(0, .tmp 76), (1, .tmp 78), (2, .tmp 79)], type := _, pos := _, after := _, guard := _ }) (v := .agg #[.string u, .int .i64 t0, .int .i64 t1, .int .i64 t2, .int .i64 s0, .int .i64 s1, .int .i64 s2]) rfl (by kernel_rfl) (by kernel_rfl) (by kernel_rfl) (fun _ _ _ h => h) (Or.inl ⟨by rfl, ?_⟩) hS0 ?_
              · intro w' hSw
                go_simp
              try simp only [Act.put, List.setIfInBounds_toArray, List.set_cons_zero, List.set_cons_succ]
              refine wpAnyH_take (i := 7) (oi := { dst := some 8, op := .assign (.tmp 75), type := _, pos := _, after := _, guard := _ }) (v := .slice A4 hf.length c4) rfl (by kernel_rfl) (by kernel_rfl) (by kernel_rfl) (fun _ _ _ h => h) (Or.inl ⟨by rfl, ?_⟩) hS0 ?_
              · intro w' hSw
                go_simp
              try simp only [Act.put, List.setIfInBounds_toArray, List.set_cons_zero, List.set_cons_succ]
              have bz0 := (Below.refl wr.drew.heap.size wr.drew).alloc (Nat.le_refl _) (.cells #[.string u, .int .i64 t0, .int .i64 t1, .int .i64 t2, .int .i64 s0, .int .i64 s1, .int .i64 s2] 131)
              have bz : Below wr.heap.size wr (wr.alloc (.cells #[.string u, .int .i64 t0, .int .i64 t1, .int .i64 t2, .int .i64 s0, .int .i64 s1, .int .i64 s2] 131)).drew := Below.trans ((Below.refl wr.heap.size wr).alloc (Nat.le_refl _) (.cells #[.string u, .int .i64 t0, .int .i64 t1, .int .i64 t2, .int .i64 s0, .int .i64 s1, .int .i64 s2] 131)) ((Kept.drew (wr.alloc (.cells #[.string u, .int .i64 t0, .int .i64 t1, .int .i64 t2, .int .i64 s0, .int .i64 s1, .int .i64 s2] 131))).mono (by simp))
              have HIC : Hid (Is (wr.alloc (.cells #[.string u, .int .i64 t0, .int .i64 t1, .int .i64 t2, .int .i64 s0, .int .i64 s1, .int .i64 s2] 131)).drew wr.heap.size 131 #[.string u, .int .i64 t0, .int .i64 t1, .int .i64 t2, .int .i64 s0, .int .i64 s1, .int .i64 s2]) := (Is.new wr 131 #[.string u, .int .i64 t0, .int .i64 t1, .int .i64 t2, .int .i64 s0, .int .i64 s1, .int .i64 s2] rfl).drewN 1
              have HOZ := Lib.hid (own_below HO.out bz)
              have HBZ := Lib.hid (HBW.out.trans (bz.mono HBW.out.size))
              refine wpAnyH_ready (rs := [6]) (by kernel_rfl) (by simp) ?_
              refine AllReadyH.cons (o := { dst := some 81, op := .buildSlice 85 1 #[(0, .tmp 80)], type := _, pos := _, after := _, guard := _ }) rfl (fun K hK => ?_) AllReadyH.nil
              go_simp
              refine hK.out _ _ (by obtain ⟨y1, y2, y3, y4, y5, y6⟩ := hS0; exact ⟨(bz0.cell (p := ⟨w1.heap.size, 2, none⟩) lk).trans y1, (bz0.cell (p := ⟨w1.heap.size, 3, none⟩) lk).trans y2, (bz0.cell (p := ⟨w1.heap.size, 4, none⟩) lk).trans y3, (bz0.cell (p := ⟨w3.heap.size, 0, none⟩) lp).trans y4, (bz0.cell (p := ⟨w3.heap.size, 1, none⟩) lp).trans y5, (bz0.cell (p := ⟨w3.heap.size, 2, none⟩) lp).trans y6⟩) (fun hS1 => ?_)
              clear hK K
              try simp only [Act.put, List.setIfInBounds_toArray, List.set_cons_zero, List.set_cons_succ]
              refine wpAnyH_take (i := 8) (oi := { dst := some 9, op := .assign (.tmp 81), type := _, pos := _, after := _, guard := _ }) (v := .slice (some ⟨wr.drew.heap.size, 0, none⟩) 1 1) rfl (by kernel_rfl) (by kernel_rfl) (by kernel_rfl) (fun _ _ _ h => h) (Or.inl ⟨by rfl, ?_⟩) hS1 ?_
              · intro w' hSw
                go_simp
              try simp only [Act.put, List.setIfInBounds_toArray, List.set_cons_zero, List.set_cons_succ]
              refine wpAnyH_done (by kernel_rfl) ?_ _
              clear bz bz0 hS0 hS1
              generalize (wr.alloc (.cells #[.string u, .int .i64 t0, .int .i64 t1, .int .i64 t2, .int .i64 s0, .int .i64 s1, .int .i64 s2] 131)).drew = wz at *
              go_wp2_with fail
              refine bodyPost_ret (v := .tuple #[.slice A4 hf.length c4, .slice (some ⟨wr.drew.heap.size, 0, none⟩) 1 1]) (by simp [results, Tryz.results58, go_sem]) rfl ?_
              rw [HTL.out, HBE.out, mapV_length]
              refine ⟨A4, c4, _, _, rfl, ⟨_, ?_, fun q hq => (HMEM.out q hq).keeps (Keeps.of_below HBZ.out), rfl⟩, Lain.is HIC.out rfl, HB.out.trans (HBZ.out.mono HB.out.size)⟩
              exact Lain.own (by simpa [flatU_app, flatU] using HOZ.out)
          · have e1 : (s0 == t0) = true := by simpa using q0
            have e2 : (s1 == t1) = false := by simpa using q1
            have HTL : Hid (tells u ss now b = [(u, (t0, t1, t2), (s0, s1, s2))]) := by show _ = _; rw [HTE.out, if_neg (by intro h; injection h with h0 h; injection h with h1 h2; exact q1 h1)]
            clear q0 q1
            go_wp2_with fail
            refine wp_region_held_drew (S := fun w' => w'.cell? ⟨w1.heap.size, 2, none⟩ = some (.int .i64 t0) ∧ w'.cell? ⟨w1.heap.size, 3, none⟩ = some (.int .i64 t1) ∧ w'.cell? ⟨w1.heap.size, 4, none⟩ = some (.int .i64 t2) ∧ w'.cell? ⟨w3.heap.size, 0, none⟩ = some (.int .i64 s0) ∧ w'.cell? ⟨w3.heap.size, 1, none⟩ = some (.int .i64 s1) ∧ w'.cell? ⟨w3.heap.size, 2, none⟩ = some (.int .i64 s2)) (by kernel_rfl) ⟨k2, k3, k4, p0, p1, p2⟩ (fun hS0 => ?_)
            refine wpAnyH_take (i := 0) (oi := { dst := some 75, op := .move (.tmp 12), type := _, pos := _, after := _, guard := _ }) (v := .slice A4 hf.length c4) rfl (by kernel_rfl) (by kernel_rfl) (by kernel_rfl) (fun _ _ _ h => h) (Or.inl ⟨by rfl, ?_⟩) hS0 ?_
            · intro w' hSw
              go_simp
            try simp only [Act.put, List.setIfInBounds_toArray, List.set_cons_zero, List.set_cons_succ]
            refine wpAnyH_take (i := 1) (oi := { dst := some 76, op := .move (.tmp 1), type := _, pos := _, after := _, guard := _ }) (v := .string u) rfl (by kernel_rfl) (by kernel_rfl) (by kernel_rfl) (fun _ _ _ h => h) (Or.inl ⟨by rfl, ?_⟩) hS0 ?_
            · intro w' hSw
              go_simp
            try simp only [Act.put, List.setIfInBounds_toArray, List.set_cons_zero, List.set_cons_succ]
            refine wpAnyH_take (i := 2) (oi := { dst := some 77, op := .fieldAddr 107 (.tmp 10) 2, type := _, pos := _, after := _, guard := _ }) (v := .pointer (some ⟨w1.heap.size, 2, none⟩)) rfl (by kernel_rfl) (by kernel_rfl) (by kernel_rfl) (fun _ _ _ h => h) (Or.inl ⟨by rfl, ?_⟩) hS0 ?_
            · intro w' hSw
              go_simp
            try simp only [Act.put, List.setIfInBounds_toArray, List.set_cons_zero, List.set_cons_succ]
            refine wpAnyH_take (i := 3) (oi := { dst := some 78, op := .load 57 (.tmp 77), type := _, pos := _, after := _, guard := _ }) (v := .agg #[.int .i64 t0, .int .i64 t1, .int .i64 t2]) rfl (by kernel_rfl) (by kernel_rfl) (by kernel_rfl) (fun _ _ _ h => h) (Or.inl ⟨by rfl, ?_⟩) hS0 ?_
            · intro w' hSw
              go_simp
            try simp only [Act.put, List.setIfInBounds_toArray, List.set_cons_zero, List.set_cons_succ]
            refine wpAnyH_take (i := 4) (oi := { dst := some 79, op := .load 57 (.tmp 11), type := _, pos := _, after := _, guard := _ }) (v := .agg #[.int .i64 s0, .int .i64 s1, .int .i64 s2]) rfl (by kernel_rfl) (by kernel_rfl) (by kernel_rfl) (fun _ _ _ h => h) (Or.inl ⟨by rfl, ?_⟩) hS0 ?_
            · intro w' hSw
              go_simp
            try simp only [Act.put, List.setIfInBounds_toArray, List.set_cons_zero, List.set_cons_succ]
            refine wpAnyH_take (i := 5) (oi := { dst := some 80, op := .build 131 #[(0, .tmp 76), (1, .tmp 78), (2, .tmp 79)], type := _, pos := _, after := _, guard := _ }) (v := .agg #[.string u, .int .i64 t0, .int .i64 t1, .int .i64 t2, .int .i64 s0, .int .i64 s1, .int .i64 s2]) rfl (by kernel_rfl) (by kernel_rfl) (by kernel_rfl) (fun _ _ _ h => h) (Or.inl ⟨by rfl, ?_⟩) hS0 ?_
            · intro w' hSw
              go_simp
            try simp only [Act.put, List.setIfInBounds_toArray, List.set_cons_zero, List.set_cons_succ]
            refine wpAnyH_take (i := 7) (oi := { dst := some 8, op := .assign (.tmp 75), type := _, pos := _, after := _, guard := _ }) (v := .slice A4 hf.length c4) rfl (by kernel_rfl) (by kernel_rfl) (by kernel_rfl) (fun _ _ _ h => h) (Or.inl ⟨by rfl, ?_⟩) hS0 ?_
            · intro w' hSw
              go_simp
            try simp only [Act.put, List.setIfInBounds_toArray, List.set_cons_zero, List.set_cons_succ]
            have bz0 := (Below.refl wr.drew.heap.size wr.drew).alloc (Nat.le_refl _) (.cells #[.string u, .int .i64 t0, .int .i64 t1, .int .i64 t2, .int .i64 s0, .int .i64 s1, .int .i64 s2] 131)
            have bz : Below wr.heap.size wr (wr.alloc (.cells #[.string u, .int .i64 t0, .int .i64 t1, .int .i64 t2, .int .i64 s0, .int .i64 s1, .int .i64 s2] 131)).drew := Below.trans ((Below.refl wr.heap.size wr).alloc (Nat.le_refl _) (.cells #[.string u, .int .i64 t0, .int .i64 t1, .int .i64 t2, .int .i64 s0, .int .i64 s1, .int .i64 s2] 131)) ((Kept.drew (wr.alloc (.cells #[.string u, .int .i64 t0, .int .i64 t1, .int .i64 t2, .int .i64 s0, .int .i64 s1, .int .i64 s2] 131))).mono (by simp))
            have HIC : Hid (Is (wr.alloc (.cells #[.string u, .int .i64 t0, .int .i64 t1, .int .i64 t2, .int .i64 s0, .int .i64 s1, .int .i64 s2] 131)).drew wr.heap.size 131 #[.string u, .int .i64 t0, .int .i64 t1, .int .i64 t2, .int .i64 s0, .int .i64 s1, .int .i64 s2]) := (Is.new wr 131 #[.string u, .int .i64 t0, .int .i64 t1, .int .i64 t2, .int .i64 s0, .int .i64 s1, .int .i64 s2] rfl).drewN 1
            have HOZ := Lib.hid (own_below HO.out bz)
            have HBZ := Lib.hid (HBW.out.trans (bz.mono HBW.out.size))
            refine wpAnyH_ready (rs := [6]) (by kernel_rfl) (by simp) ?_
            refine AllReadyH.cons (o := { dst := some 81, op := .buildSlice 85 1 #[(0, .tmp 80)], type := _, pos := _, after := _, guard := _ }) rfl (fun K hK => ?_) AllReadyH.nil
            go_simp
            refine hK.out _ _ (by obtain ⟨y1, y2, y3, y4, y5, y6⟩ := hS0; exact ⟨(bz0.cell (p := ⟨w1.heap.size, 2, none⟩) lk).trans y1, (bz0.cell (p := ⟨w1.heap.size, 3, none⟩) lk).trans y2, (bz0.cell (p := ⟨w1.heap.size, 4, none⟩) lk).trans y3, (bz0.cell (p := ⟨w3.heap.size, 0, none⟩) lp).trans y4, (bz0.cell (p := ⟨w3.heap.size, 1, none⟩) lp).trans y5, (bz0.cell (p := ⟨w3.heap.size, 2, none⟩) lp).trans y6⟩) (fun hS1 => ?_)
            clear hK K
            try simp only [Act.put, List.setIfInBounds_toArray, List.set_cons_zero, List.set_cons_succ]
            refine wpAnyH_take (i := 8) (oi := { dst := some 9, op := .assign (.tmp 81), type := _, pos := _, after := _, guard := _ }) (v := .slice (some ⟨wr.drew.heap.size, 0, none⟩) 1 1) rfl (by kernel_rfl) (by kernel_rfl) (by kernel_rfl) (fun _ _ _ h => h) (Or.inl ⟨by rfl, ?_⟩) hS1 ?_
            · intro w' hSw
              go_simp
            try simp only [Act.put, List.setIfInBounds_toArray, List.set_cons_zero, List.set_cons_succ]
            refine wpAnyH_done (by kernel_rfl) ?_ _
            clear bz bz0 hS0 hS1
            generalize (wr.alloc (.cells #[.string u, .int .i64 t0, .int .i64 t1, .int .i64 t2, .int .i64 s0, .int .i64 s1, .int .i64 s2] 131)).drew = wz at *
            go_wp2_with fail
            refine bodyPost_ret (v := .tuple #[.slice A4 hf.length c4, .slice (some ⟨wr.drew.heap.size, 0, none⟩) 1 1]) (by simp [results, Tryz.results58, go_sem]) rfl ?_
            rw [HTL.out, HBE.out, mapV_length]
            refine ⟨A4, c4, _, _, rfl, ⟨_, ?_, fun q hq => (HMEM.out q hq).keeps (Keeps.of_below HBZ.out), rfl⟩, Lain.is HIC.out rfl, HB.out.trans (HBZ.out.mono HB.out.size)⟩
            exact Lain.own (by simpa [flatU_app, flatU] using HOZ.out)
        · have e1 : (s0 == t0) = false := by simpa using q0
          have HTL : Hid (tells u ss now b = [(u, (t0, t1, t2), (s0, s1, s2))]) := by show _ = _; rw [HTE.out, if_neg (by intro h; injection h with h0 h; injection h with h1 h2; exact q0 h0)]
          clear q0
          go_wp2_with fail
          refine wp_region_held_drew (S := fun w' => w'.cell? ⟨w1.heap.size, 2, none⟩ = some (.int .i64 t0) ∧ w'.cell? ⟨w1.heap.size, 3, none⟩ = some (.int .i64 t1) ∧ w'.cell? ⟨w1.heap.size, 4, none⟩ = some (.int .i64 t2) ∧ w'.cell? ⟨w3.heap.size, 0, none⟩ = some (.int .i64 s0) ∧ w'.cell? ⟨w3.heap.size, 1, none⟩ = some (.int .i64 s1) ∧ w'.cell? ⟨w3.heap.size, 2, none⟩ = some (.int .i64 s2)) (by kernel_rfl) ⟨k2, k3, k4, p0, p1, p2⟩ (fun hS0 => ?_)
          refine wpAnyH_take (i := 0) (oi := { dst := some 75, op := .move (.tmp 12), type := _, pos := _, after := _, guard := _ }) (v := .slice A4 hf.length c4) rfl (by kernel_rfl) (by kernel_rfl) (by kernel_rfl) (fun _ _ _ h => h) (Or.inl ⟨by rfl, ?_⟩) hS0 ?_
          · intro w' hSw
            go_simp
          try simp only [Act.put, List.setIfInBounds_toArray, List.set_cons_zero, List.set_cons_succ]
          refine wpAnyH_take (i := 1) (oi := { dst := some 76, op := .move (.tmp 1), type := _, pos := _, after := _, guard := _ }) (v := .string u) rfl (by kernel_rfl) (by kernel_rfl) (by kernel_rfl) (fun _ _ _ h => h) (Or.inl ⟨by rfl, ?_⟩) hS0 ?_
          · intro w' hSw
            go_simp
          try simp only [Act.put, List.setIfInBounds_toArray, List.set_cons_zero, List.set_cons_succ]
          refine wpAnyH_take (i := 2) (oi := { dst := some 77, op := .fieldAddr 107 (.tmp 10) 2, type := _, pos := _, after := _, guard := _ }) (v := .pointer (some ⟨w1.heap.size, 2, none⟩)) rfl (by kernel_rfl) (by kernel_rfl) (by kernel_rfl) (fun _ _ _ h => h) (Or.inl ⟨by rfl, ?_⟩) hS0 ?_
          · intro w' hSw
            go_simp
          try simp only [Act.put, List.setIfInBounds_toArray, List.set_cons_zero, List.set_cons_succ]
          refine wpAnyH_take (i := 3) (oi := { dst := some 78, op := .load 57 (.tmp 77), type := _, pos := _, after := _, guard := _ }) (v := .agg #[.int .i64 t0, .int .i64 t1, .int .i64 t2]) rfl (by kernel_rfl) (by kernel_rfl) (by kernel_rfl) (fun _ _ _ h => h) (Or.inl ⟨by rfl, ?_⟩) hS0 ?_
          · intro w' hSw
            go_simp
          try simp only [Act.put, List.setIfInBounds_toArray, List.set_cons_zero, List.set_cons_succ]
          refine wpAnyH_take (i := 4) (oi := { dst := some 79, op := .load 57 (.tmp 11), type := _, pos := _, after := _, guard := _ }) (v := .agg #[.int .i64 s0, .int .i64 s1, .int .i64 s2]) rfl (by kernel_rfl) (by kernel_rfl) (by kernel_rfl) (fun _ _ _ h => h) (Or.inl ⟨by rfl, ?_⟩) hS0 ?_
          · intro w' hSw
            go_simp
          try simp only [Act.put, List.setIfInBounds_toArray, List.set_cons_zero, List.set_cons_succ]
          refine wpAnyH_take (i := 5) (oi := { dst := some 80, op := .build 131 #[(0, .tmp 76), (1, .tmp 78), (2, .tmp 79)], type := _, pos := _, after := _, guard := _ }) (v := .agg #[.string u, .int .i64 t0, .int .i64 t1, .int .i64 t2, .int .i64 s0, .int .i64 s1, .int .i64 s2]) rfl (by kernel_rfl) (by kernel_rfl) (by kernel_rfl) (fun _ _ _ h => h) (Or.inl ⟨by rfl, ?_⟩) hS0 ?_
          · intro w' hSw
            go_simp
          try simp only [Act.put, List.setIfInBounds_toArray, List.set_cons_zero, List.set_cons_succ]
          refine wpAnyH_take (i := 7) (oi := { dst := some 8, op := .assign (.tmp 75), type := _, pos := _, after := _, guard := _ }) (v := .slice A4 hf.length c4) rfl (by kernel_rfl) (by kernel_rfl) (by kernel_rfl) (fun _ _ _ h => h) (Or.inl ⟨by rfl, ?_⟩) hS0 ?_
          · intro w' hSw
            go_simp
          try simp only [Act.put, List.setIfInBounds_toArray, List.set_cons_zero, List.set_cons_succ]
          have bz0 := (Below.refl wr.drew.heap.size wr.drew).alloc (Nat.le_refl _) (.cells #[.string u, .int .i64 t0, .int .i64 t1, .int .i64 t2, .int .i64 s0, .int .i64 s1, .int .i64 s2] 131)
          have bz : Below wr.heap.size wr (wr.alloc (.cells #[.string u, .int .i64 t0, .int .i64 t1, .int .i64 t2, .int .i64 s0, .int .i64 s1, .int .i64 s2] 131)).drew := Below.trans ((Below.refl wr.heap.size wr).alloc (Nat.le_refl _) (.cells #[.string u, .int .i64 t0, .int .i64 t1, .int .i64 t2, .int .i64 s0, .int .i64 s1, .int .i64 s2] 131)) ((Kept.drew (wr.alloc (.cells #[.string u, .int .i64 t0, .int .i64 t1, .int .i64 t2, .int .i64 s0, .int .i64 s1, .int .i64 s2] 131))).mono (by simp))
          have HIC : Hid (Is (wr.alloc (.cells #[.string u, .int .i64 t0, .int .i64 t1, .int .i64 t2, .int .i64 s0, .int .i64 s1, .int .i64 s2] 131)).drew wr.heap.size 131 #[.string u, .int .i64 t0, .int .i64 t1, .int .i64 t2, .int .i64 s0, .int .i64 s1, .int .i64 s2]) := (Is.new wr 131 #[.string u, .int .i64 t0, .int .i64 t1, .int .i64 t2, .int .i64 s0, .int .i64 s1, .int .i64 s2] rfl).drewN 1
          have HOZ := Lib.hid (own_below HO.out bz)
          have HBZ := Lib.hid (HBW.out.trans (bz.mono HBW.out.size))
          refine wpAnyH_ready (rs := [6]) (by kernel_rfl) (by simp) ?_
          refine AllReadyH.cons (o := { dst := some 81, op := .buildSlice 85 1 #[(0, .tmp 80)], type := _, pos := _, after := _, guard := _ }) rfl (fun K hK => ?_) AllReadyH.nil
          go_simp
          refine hK.out _ _ (by obtain ⟨y1, y2, y3, y4, y5, y6⟩ := hS0; exact ⟨(bz0.cell (p := ⟨w1.heap.size, 2, none⟩) lk).trans y1, (bz0.cell (p := ⟨w1.heap.size, 3, none⟩) lk).trans y2, (bz0.cell (p := ⟨w1.heap.size, 4, none⟩) lk).trans y3, (bz0.cell (p := ⟨w3.heap.size, 0, none⟩) lp).trans y4, (bz0.cell (p := ⟨w3.heap.size, 1, none⟩) lp).trans y5, (bz0.cell (p := ⟨w3.heap.size, 2, none⟩) lp).trans y6⟩) (fun hS1 => ?_)
          clear hK K
          try simp only [Act.put, List.setIfInBounds_toArray, List.set_cons_zero, List.set_cons_succ]
          refine wpAnyH_take (i := 8) (oi := { dst := some 9, op := .assign (.tmp 81), type := _, pos := _, after := _, guard := _ }) (v := .slice (some ⟨wr.drew.heap.size, 0, none⟩) 1 1) rfl (by kernel_rfl) (by kernel_rfl) (by kernel_rfl) (fun _ _ _ h => h) (Or.inl ⟨by rfl, ?_⟩) hS1 ?_
          · intro w' hSw
            go_simp
          try simp only [Act.put, List.setIfInBounds_toArray, List.set_cons_zero, List.set_cons_succ]
          refine wpAnyH_done (by kernel_rfl) ?_ _
          clear bz bz0 hS0 hS1
          generalize (wr.alloc (.cells #[.string u, .int .i64 t0, .int .i64 t1, .int .i64 t2, .int .i64 s0, .int .i64 s1, .int .i64 s2] 131)).drew = wz at *
          go_wp2_with fail
          refine bodyPost_ret (v := .tuple #[.slice A4 hf.length c4, .slice (some ⟨wr.drew.heap.size, 0, none⟩) 1 1]) (by simp [results, Tryz.results58, go_sem]) rfl ?_
          rw [HTL.out, HBE.out, mapV_length]
          refine ⟨A4, c4, _, _, rfl, ⟨_, ?_, fun q hq => (HMEM.out q hq).keeps (Keeps.of_below HBZ.out), rfl⟩, Lain.is HIC.out rfl, HB.out.trans (HBZ.out.mono HB.out.size)⟩
          exact Lain.own (by simpa [flatU_app, flatU] using HOZ.out)
      | false =>
        have HFL : Hid (half lt e u ev xs ++ [(u, ev)] = if e = true then outK u xs else putK lt u ev xs) := half_rest tri e u ev xs HPB.out
        rw [← HFL.out] at HBE HMEM
        clear HFL
        generalize half lt e u ev xs = hf at *
        have bx7 := (Below.refl wr.heap.size wr).alloc (Nat.le_refl _) (.cells #[.string u, .slice B ss.length d, .int .i64 s0, .int .i64 s1, .int .i64 s2] 107)
        have HQ7 : Hid (Lain 107 (wr.alloc (.cells #[.string u, .slice B ss.length d, .int .i64 s0, .int .i64 s1, .int .i64 s2] 107)) (some ⟨wr.heap.size, 0, none⟩) (cellsU (u, ev))) := Lain.is (Is.new wr 107 #[.string u, .slice B ss.length d, .int .i64 s0, .int .i64 s1, .int .i64 s2] rfl) HCU.out.symm
        have HO7 := Lib.hid (own_below HO.out bx7)
        have HB7 := Lib.hid (HBW.out.trans (bx7.mono HBW.out.size))
        have HJ1_7 := Lib.hid (HJ1.out.below bx7 HJ1.out.lt)
        have HJ2_7 := Lib.hid (HJ2.out.below bx7 HJ2.out.lt)
        clear bx7
        by_cases q0 : s0 = t0
        · by_cases q1 : s1 = t1
          · by_cases q2 : s2 = t2
            · have e1 : (s0 == t0) = true := by simpa using q0
              have e2 : (s1 == t1) = true := by simpa using q1
              have e3 : (s2 == t2) = true := by simpa using q2
              have HTL : Hid (tells u ss now b = []) := by show _ = _; rw [HTE.out, if_pos (by rw [q0, q1, q2])]
              clear q0 q1 q2
              go_wp2_with (at_builtin; refine Law.wpList_append_seq _ w4.heap.size 84 rfl _ _ rfl HE.out _ _ _ rfl HO7.out 0 _ (some ⟨wr.heap.size, 0, none⟩) 1 1 (cellsU (u, ev)) rfl (by rw [HCU.out]; rfl) HQ7.out.seq (cellsU_one _) (by unfold maxLen; omega) (by omega) (by simp only [World.size_alloc]; omega) ?_; intro v8 w7 hown hgrow; obtain ⟨A8, c8, rfl, _⟩ := own_shape hown; have HO8 := Lib.hid hown; have HB8 := Lib.hid (HB7.out.grown hgrow (by simp only [World.size_alloc]; omega) (fun g hg => (HO7.out.lt g hg).1)); clear hown hgrow; have J1 := HI1.out.below HB8.out HI1.out.lt; have J2 := HI2.out.below HB8.out HI2.out.lt; have k2 := J1.cell' (i := 2) rfl; have k3 := J1.cell' (i := 3) rfl; have k4 := J1.cell' (i := 4) rfl; have lk := J1.lt; have p0 := J2.cell' (i := 0) rfl; have p1 := J2.cell' (i := 1) rfl; have p2 := J2.cell' (i := 2) rfl; have lp := J2.lt; clear J1 J2)
              have HOZ := HO8
              have HBZ := HB8
              refine bodyPost_ret (v := .tuple #[.slice A8 (hf.length + 1) c8, .slice none 0 0]) (by simp [results, Tryz.results58, go_sem]) rfl ?_
              rw [HTL.out, HBE.out, mapV_length]
              refine ⟨A8, c8, none, 0, by rw [List.length_append]; rfl, ⟨_, ?_, fun q hq => (HMEM.out q hq).keeps (Keeps.of_below HBZ.out), rfl⟩, Lain.nil, HB.out.trans (HBZ.out.mono HB.out.size)⟩
              exact Lain.own (by simpa [flatU_app, flatU] using HOZ.out)
            · have e1 : (s0 == t0) = true := by simpa using q0
              have e2 : (s1 == t1) = true := by simpa using q1
              have e3 : (s2 == t2) = false := by simpa using q2
              have HTL : Hid (tells u ss now b = [(u, (t0, t1, t2), (s0, s1, s2))]) := by show _ = _; rw [HTE.out, if_neg (by intro h; injection h with h0 h; injection h with h1 h2; exact q2 h2)]
              clear q0 q1 q2
              go_wp2_with (at_builtin; refine Law.wpList_append_seq _ w4.heap.size 84 rfl _ _ rfl HE.out _ _ _ rfl HO7.out 0 _ (some ⟨wr.heap.size, 0, none⟩) 1 1 (cellsU (u, ev)) rfl (by rw [HCU.out]; rfl) HQ7.out.seq (cellsU_one _) (by unfold maxLen; omega) (by omega) (by simp only [World.size_alloc]; omega) ?_; intro v8 w7 hown hgrow; obtain ⟨A8, c8, rfl, _⟩ := own_shape hown; have HO8 := Lib.hid hown; have HB8 := Lib.hid (HB7.out.grown hgrow (by simp only [World.size_alloc]; omega) (fun g hg => (HO7.out.lt g hg).1)); clear hown hgrow; have J1 := HI1.out.below HB8.out HI1.out.lt; have J2 := HI2.out.below HB8.out HI2.out.lt; have k2 := J1.cell' (i := 2) rfl; have k3 := J1.cell' (i := 3) rfl; have k4 := J1.cell' (i := 4) rfl; have lk := J1.lt; have p0 := J2.cell' (i := 0) rfl; have p1 := J2.cell' (i := 1) rfl; have p2 := J2.cell' (i := 2) rfl; have lp := J2.lt; clear J1 J2)
              refine wp_region_held_drew (S := fun w' => w'.cell? ⟨w1.heap.size, 2, none⟩ = some (.int .i64 t0) ∧ w'.cell? ⟨w1.heap.size, 3, none⟩ = some (.int .i64 t1) ∧ w'.cell? ⟨w1.heap.size, 4, none⟩ = some (.int .i64 t2) ∧ w'.cell? ⟨w3.heap.size, 0, none⟩ = some (.int .i64 s0) ∧ w'.cell? ⟨w3.heap.size, 1, none⟩ = some (.int .i64 s1) ∧ w'.cell? ⟨w3.heap.size, 2, none⟩ = some (.int .i64 s2)) (by kernel_rfl) ⟨k2, k3, k4, p0, p1, p2⟩ (fun hS0 => ?_)
              refine wpAnyH_take (i := 0) (oi := { dst := some 75, op := .move (.tmp 12), type := _, pos := _, after := _, guard := _ }) (v := .slice A8 (hf.length + 1) c8) rfl (by kernel_rfl) (by kernel_rfl) (by kernel_rfl) (fun _ _ _ h => h) (Or.inl ⟨by rfl, ?_⟩) hS0 ?_
              · intro w' hSw
                go_simp
              try simp only [Act.put, List.setIfInBounds_toArray, List.set_cons_zero, List.set_cons_succ]
              refine wpAnyH_take (i := 1) (oi := { dst := some 76, op := .move (.tmp 1), type := _, pos := _, after := _, guard := _ }) (v := .string u) rfl (by kernel_rfl) (by kernel_rfl) (by kernel_rfl) (fun _ _ _ h => h) (Or.inl ⟨by rfl, ?_⟩) hS0 ?_
              · intro w' hSw
                go_simp
              try simp only [Act.put, List.setIfInBounds_toArray, List.set_cons_zero, List.set_cons_succ]
              refine wpAnyH_take (i := 2) (oi := { dst := some 77, op := .fieldAddr 107 (.tmp 10) 2, type := _, pos := _, after := _, guard := _ }) (v := .pointer (some ⟨w1.heap.size, 2, none⟩)) rfl (by kernel_rfl) (by kernel_rfl) (by kernel_rfl) (fun _ _ _ h => h) (Or.inl ⟨by rfl, ?_⟩) hS0 ?_
              · intro w' hSw
                go_simp
              try simp only [Act.put, List.setIfInBounds_toArray, List.set_cons_zero, List.set_cons_succ]
              refine wpAnyH_take (i := 3) (oi := { dst := some 78, op := .load 57 (.tmp 77), type := _, pos := _, after := _, guard := _ }) (v := .agg #[.int .i64 t0, .int .i64 t1, .int .i64 t2]) rfl (by kernel_rfl) (by kernel_rfl) (by kernel_rfl) (fun _ _ _ h => h) (Or.inl ⟨by rfl, ?_⟩) hS0 ?_
              · intro w' hSw
                go_simp
              try simp only [Act.put, List.setIfInBounds_toArray, List.set_cons_zero, List.set_cons_succ]
              refine wpAnyH_take (i := 4) (oi := { dst := some 79, op := .load 57 (.tmp 11), type := _, pos := _, after := _, guard := _ }) (v := .agg #[.int .i64 s0, .int .i64 s1, .int .i64 s2]) rfl (by kernel_rfl) (by kernel_rfl) (by kernel_rfl) (fun _ _ _ h => h) (Or.inl ⟨by rfl, ?_⟩) hS0 ?_
              · intro w' hSw
                go_simp
              try simp only [Act.put, List.setIfInBounds_toArray, List.set_cons_zero, List.set_cons_succ]
              refine wpAnyH_take (i := 5) (oi := { dst := some 80, op := .build 131 #[(0, .tmp 76), (1, .tmp 78), (2, .tmp 79)], type := _, pos := _, after := _, guard := _ }) (v := .agg #[.string u, .int .i64 t0, .int .i64 t1, .int .i64 t2, .int .i64 s0, .int .i64 s1, .int .i64 s2]) rfl (by kernel_rfl) (by kernel_rfl) (by kernel_rfl) (fun _ _ _ h => h) (Or.inl ⟨by rfl, ?_⟩) hS0 ?_
              · intro w' hSw
                go_simp
              try simp only [Act.put, List.setIfInBounds_toArray, List.set_cons_zero, List.set_cons_succ]
              refine wpAnyH_take (i := 7) (oi := { dst := some 8, op := .assign (.tmp 75), type := _, pos := _, after := _, guard := _ }) (v := .slice A8 (hf.length + 1) c8) rfl (by kernel_rfl) (by kernel_rfl) (by kernel_rfl) (fun _ _ _ h => h) (Or.inl ⟨by rfl, ?_⟩) hS0 ?_
              · intro w' hSw
                go_simp
              try simp only [Act.put, List.setIfInBounds_toArray, List.set_cons_zero, List.set_cons_succ]
              have bz0 := (Below.refl w7.drew.heap.size w7.drew).alloc (Nat.le_refl _) (.cells #[.string u, .int .i64 t0, .int .i64 t1, .int .i64 t2, .int .i64 s0, .int .i64 s1, .int .i64 s2] 131)
              have bz : Below w7.heap.size w7 (w7.alloc (.cells #[.string u, .int .i64 t0, .int .i64 t1, .int .i64 t2, .int .i64 s0, .int .i64 s1, .int .i64 s2] 131)).drew := Below.trans ((Below.refl w7.heap.size w7).alloc (Nat.le_refl _) (.cells #[.string u, .int .i64 t0, .int .i64 t1, .int .i64 t2, .int .i64 s0, .int .i64 s1, .int .i64 s2] 131)) ((Kept.drew (w7.alloc (.cells #[.string u, .int .i64 t0, .int .i64 t1, .int .i64 t2, .int .i64 s0, .int .i64 s1, .int .i64 s2] 131))).mono (by simp))
              have HIC : Hid (Is (w7.alloc (.cells #[.string u, .int .i64 t0, .int .i64 t1, .int .i64 t2, .int .i64 s0, .int .i64 s1, .int .i64 s2] 131)).drew w7.heap.size 131 #[.string u, .int .i64 t0, .int .i64 t1, .int .i64 t2, .int .i64 s0, .int .i64 s1, .int .i64 s2]) := (Is.new w7 131 #[.string u, .int .i64 t0, .int .i64 t1, .int .i64 t2, .int .i64 s0, .int .i64 s1, .int .i64 s2] rfl).drewN 1
              have HOZ := Lib.hid (own_below HO8.out bz)
              have HBZ := Lib.hid (HB8.out.trans (bz.mono HB8.out.size))
              refine wpAnyH_ready (rs := [6]) (by kernel_rfl) (by simp) ?_
              refine AllReadyH.cons (o := { dst := some 81, op := .buildSlice 85 1 #[(0, .tmp 80)], type := _, pos := _, after := _, guard := _ }) rfl (fun K hK => ?_) AllReadyH.nil
              go_simp
              refine hK.out _ _ (by obtain ⟨y1, y2, y3, y4, y5, y6⟩ := hS0; exact ⟨(bz0.cell (p := ⟨w1.heap.size, 2, none⟩) lk).trans y1, (bz0.cell (p := ⟨w1.heap.size, 3, none⟩) lk).trans y2, (bz0.cell (p := ⟨w1.heap.size, 4, none⟩) lk).trans y3, (bz0.cell (p := ⟨w3.heap.size, 0, none⟩) lp).trans y4, (bz0.cell (p := ⟨w3.heap.size, 1, none⟩) lp).trans y5, (bz0.cell (p := ⟨w3.heap.size, 2, none⟩) lp).trans y6⟩) (fun hS1 => ?_)
              clear hK K
              try simp only [Act.put, List.setIfInBounds_toArray, List.set_cons_zero, List.set_cons_succ]
              refine wpAnyH_take (i := 8) (oi := { dst := some 9, op := .assign (.tmp 81), type := _, pos := _, after := _, guard := _ }) (v := .slice (some ⟨w7.drew.heap.size, 0, none⟩) 1 1) rfl (by kernel_rfl) (by kernel_rfl) (by kernel_rfl) (fun _ _ _ h => h) (Or.inl ⟨by rfl, ?_⟩) hS1 ?_
              · intro w' hSw
                go_simp
              try simp only [Act.put, List.setIfInBounds_toArray, List.set_cons_zero, List.set_cons_succ]
              refine wpAnyH_done (by kernel_rfl) ?_ _
              clear bz bz0 hS0 hS1
              generalize (w7.alloc (.cells #[.string u, .int .i64 t0, .int .i64 t1, .int .i64 t2, .int .i64 s0, .int .i64 s1, .int .i64 s2] 131)).drew = wz at *
              go_wp2_with fail
              refine bodyPost_ret (v := .tuple #[.slice A8 (hf.length + 1) c8, .slice (some ⟨w7.drew.heap.size, 0, none⟩) 1 1]) (by simp [results, Tryz.results58, go_sem]) rfl ?_
              rw [HTL.out, HBE.out, mapV_length]
              refine ⟨A8, c8, _, _, by rw [List.length_append]; rfl, ⟨_, ?_, fun q hq => (HMEM.out q hq).keeps (Keeps.of_below HBZ.out), rfl⟩, Lain.is HIC.out rfl, HB.out.trans (HBZ.out.mono HB.out.size)⟩
              exact Lain.own (by simpa [flatU_app, flatU] using HOZ.out)
          · have e1 : (s0 == t0) = true := by simpa using q0
            have e2 : (s1 == t1) = false := by simpa using q1
            have HTL : Hid (tells u ss now b = [(u, (t0, t1, t2), (s0, s1, s2))]) := by show _ = _; rw [HTE.out, if_neg (by intro h; injection h with h0 h; injection h with h1 h2; exact q1 h1)]
            clear q0 q1
            go_wp2_with (at_builtin; refine Law.wpList_append_seq _ w4.heap.size 84 rfl _ _ rfl HE.out _ _ _ rfl HO7.out 0 _ (some ⟨wr.heap.size, 0, none⟩) 1 1 (cellsU (u, ev)) rfl (by rw [HCU.out]; rfl) HQ7.out.seq (cellsU_one _) (by unfold maxLen; omega) (by omega) (by simp only [World.size_alloc]; omega) ?_; intro v8 w7 hown hgrow; obtain ⟨A8, c8, rfl, _⟩ := own_shape hown; have HO8 := Lib.hid hown; have HB8 := Lib.hid (HB7.out.grown hgrow (by simp only [World.size_alloc]; omega) (fun g hg => (HO7.out.lt g hg).1)); clear hown hgrow; have J1 := HI1.out.below HB8.out HI1.out.lt; have J2 := HI2.out.below HB8.out HI2.out.lt; have k2 := J1.cell' (i := 2) rfl; have k3 := J1.cell' (i := 3) rfl; have k4 := J1.cell' (i := 4) rfl; have lk := J1.lt; have p0 := J2.cell' (i := 0) rfl; have p1 := J2.cell' (i := 1) rfl; have p2 := J2.cell' (i := 2) rfl; have lp := J2.lt; clear J1 J2)
            refine wp_region_held_drew (S := fun w' => w'.cell? ⟨w1.heap.size, 2, none⟩ = some (.int .i64 t0) ∧ w'.cell? ⟨w1.heap.size, 3, none⟩ = some (.int .i64 t1) ∧ w'.cell? ⟨w1.heap.size, 4, none⟩ = some (.int .i64 t2) ∧ w'.cell? ⟨w3.heap.size, 0, none⟩ = some (.int .i64 s0) ∧ w'.cell? ⟨w3.heap.size, 1, none⟩ = some (.int .i64 s1) ∧ w'.cell? ⟨w3.heap.size, 2, none⟩ = some (.int .i64 s2)) (by kernel_rfl) ⟨k2, k3, k4, p0, p1, p2⟩ (fun hS0 => ?_)
            refine wpAnyH_take (i := 0) (oi := { dst := some 75, op := .move (.tmp 12), type := _, pos := _, after := _, guard := _ }) (v := .slice A8 (hf.length + 1) c8) rfl (by kernel_rfl) (by kernel_rfl) (by kernel_rfl) (fun _ _ _ h => h) (Or.inl ⟨by rfl, ?_⟩) hS0 ?_
            · intro w' hSw
              go_simp
            try simp only [Act.put, List.setIfInBounds_toArray, List.set_cons_zero, List.set_cons_succ]
            refine wpAnyH_take (i := 1) (oi := { dst := some 76, op := .move (.tmp 1), type := _, pos := _, after := _, guard := _ }) (v := .string u) rfl (by kernel_rfl) (by kernel_rfl) (by kernel_rfl) (fun _ _ _ h => h) (Or.inl ⟨by rfl, ?_⟩) hS0 ?_
            · intro w' hSw
              go_simp
            try simp only [Act.put, List.setIfInBounds_toArray, List.set_cons_zero, List.set_cons_succ]
            refine wpAnyH_take (i := 2) (oi := { dst := some 77, op := .fieldAddr 107 (.tmp 10) 2, type := _, pos := _, after := _, guard := _ }) (v := .pointer (some ⟨w1.heap.size, 2, none⟩)) rfl (by kernel_rfl) (by kernel_rfl) (by kernel_rfl) (fun _ _ _ h => h) (Or.inl ⟨by rfl, ?_⟩) hS0 ?_
            · intro w' hSw
              go_simp
            try simp only [Act.put, List.setIfInBounds_toArray, List.set_cons_zero, List.set_cons_succ]
            refine wpAnyH_take (i := 3) (oi := { dst := some 78, op := .load 57 (.tmp 77), type := _, pos := _, after := _, guard := _ }) (v := .agg #[.int .i64 t0, .int .i64 t1, .int .i64 t2]) rfl (by kernel_rfl) (by kernel_rfl) (by kernel_rfl) (fun _ _ _ h => h) (Or.inl ⟨by rfl, ?_⟩) hS0 ?_
            · intro w' hSw
              go_simp
            try simp only [Act.put, List.setIfInBounds_toArray, List.set_cons_zero, List.set_cons_succ]
            refine wpAnyH_take (i := 4) (oi := { dst := some 79, op := .load 57 (.tmp 11), type := _, pos := _, after := _, guard := _ }) (v := .agg #[.int .i64 s0, .int .i64 s1, .int .i64 s2]) rfl (by kernel_rfl) (by kernel_rfl) (by kernel_rfl) (fun _ _ _ h => h) (Or.inl ⟨by rfl, ?_⟩) hS0 ?_
            · intro w' hSw
              go_simp
            try simp only [Act.put, List.setIfInBounds_toArray, List.set_cons_zero, List.set_cons_succ]
            refine wpAnyH_take (i := 5) (oi := { dst := some 80, op := .build 131 #[(0, .tmp 76), (1, .tmp 78), (2, .tmp 79)], type := _, pos := _, after := _, guard := _ }) (v := .agg #[.string u, .int .i64 t0, .int .i64 t1, .int .i64 t2, .int .i64 s0, .int .i64 s1, .int .i64 s2]) rfl (by kernel_rfl) (by kernel_rfl) (by kernel_rfl) (fun _ _ _ h => h) (Or.inl ⟨by rfl, ?_⟩) hS0 ?_
            · intro w' hSw
              go_simp
            try simp only [Act.put, List.setIfInBounds_toArray, List.set_cons_zero, List.set_cons_succ]
            refine wpAnyH_take (i := 7) (oi := { dst := some 8, op := .assign (.tmp 75), type := _, pos := _, after := _, guard := _ }) (v := .slice A8 (hf.length + 1) c8) rfl (by kernel_rfl) (by kernel_rfl) (by kernel_rfl) (fun _ _ _ h => h) (Or.inl ⟨by rfl, ?_⟩) hS0 ?_
            · intro w' hSw
              go_simp
            try simp only [Act.put, List.setIfInBounds_toArray, List.set_cons_zero, List.set_cons_succ]
            have bz0 := (Below.refl w7.drew.heap.size w7.drew).alloc (Nat.le_refl _) (.cells #[.string u, .int .i64 t0, .int .i64 t1, .int .i64 t2, .int .i64 s0, .int .i64 s1, .int .i64 s2] 131)
            have bz : Below w7.heap.size w7 (w7.alloc (.cells #[.string u, .int .i64 t0, .int .i64 t1, .int .i64 t2, .int .i64 s0, .int .i64 s1, .int .i64 s2] 131)).drew := Below.trans ((Below.refl w7.heap.size w7).alloc (Nat.le_refl _) (.cells #[.string u, .int .i64 t0, .int .i64 t1, .int .i64 t2, .int .i64 s0, .int .i64 s1, .int .i64 s2] 131)) ((Kept.drew (w7.alloc (.cells #[.string u, .int .i64 t0, .int .i64 t1, .int .i64 t2, .int .i64 s0, .int .i64 s1, .int .i64 s2] 131))).mono (by simp))
            have HIC : Hid (Is (w7.alloc (.cells #[.string u, .int .i64 t0, .int .i64 t1, .int .i64 t2, .int .i64 s0, .int .i64 s1, .int .i64 s2] 131)).drew w7.heap.size 131 #[.string u, .int .i64 t0, .int .i64 t1, .int .i64 t2, .int .i64 s0, .int .i64 s1, .int .i64 s2]) := (Is.new w7 131 #[.string u, .int .i64 t0, .int .i64 t1, .int .i64 t2, .int .i64 s0, .int .i64 s1, .int .i64 s2] rfl).drewN 1
            have HOZ := Lib.hid (own_below HO8.out bz)
            have HBZ := Lib.hid (HB8.out.trans (bz.mono HB8.out.size))
            refine wpAnyH_ready (rs := [6]) (by kernel_rfl) (by simp) ?_
            refine AllReadyH.cons (o := { dst := some 81, op := .buildSlice 85 1 #[(0, .tmp 80)], type := _, pos := _, after := _, guard := _ }) rfl (fun K hK => ?_) AllReadyH.nil
            go_simp
            refine hK.out _ _ (by obtain ⟨y1, y2, y3, y4, y5, y6⟩ := hS0; exact ⟨(bz0.cell (p := ⟨w1.heap.size, 2, none⟩) lk).trans y1, (bz0.cell (p := ⟨w1.heap.size, 3, none⟩) lk).trans y2, (bz0.cell (p := ⟨w1.heap.size, 4, none⟩) lk).trans y3, (bz0.cell (p := ⟨w3.heap.size, 0, none⟩) lp).trans y4, (bz0.cell (p := ⟨w3.heap.size, 1, none⟩) lp).trans y5, (bz0.cell (p := ⟨w3.heap.size, 2, none⟩) lp).trans y6⟩) (fun hS1 => ?_)
            clear hK K
            try simp only [Act.put, List.setIfInBounds_toArray, List.set_cons_zero, List.set_cons_succ]
            refine wpAnyH_take (i := 8) (oi := { dst := some 9, op := .assign (.tmp 81), type := _, pos := _, after := _, guard := _ }) (v := .slice (some ⟨w7.drew.heap.size, 0, none⟩) 1 1) rfl (by kernel_rfl) (by kernel_rfl) (by kernel_rfl) (fun _ _ _ h => h) (Or.inl ⟨by rfl, ?_⟩) hS1 ?_
            · intro w' hSw
              go_simp
            try simp only [Act.put, List.setIfInBounds_toArray, List.set_cons_zero, List.set_cons_succ]
            refine wpAnyH_done (by kernel_rfl) ?_ _
            clear bz bz0 hS0 hS1
            generalize (w7.alloc (.cells #[.string u, .int .i64 t0, .int .i64 t1, .int .i64 t2, .int .i64 s0, .int .i64 s1, .int .i64 s2] 131)).drew = wz at *
            go_wp2_with fail
            refine bodyPost_ret (v := .tuple #[.slice A8 (hf.length + 1) c8, .slice (some ⟨w7.drew.heap.size, 0, none⟩) 1 1]) (by simp [results, Tryz.results58, go_sem]) rfl ?_
            rw [HTL.out, HBE.out, mapV_length]
            refine ⟨A8, c8, _, _, by rw [List.length_append]; rfl, ⟨_, ?_, fun q hq => (HMEM.out q hq).keeps (Keeps.of_below HBZ.out), rfl⟩, Lain.is HIC.out rfl, HB.out.trans (HBZ.out.mono HB.out.size)⟩
            exact Lain.own (by simpa [flatU_app, flatU] using HOZ.out)
        · have e1 : (s0 == t0) = false := by simpa using q0
          have HTL : Hid (tells u ss now b = [(u, (t0, t1, t2), (s0, s1, s2))]) := by show _ = _; rw [HTE.out, if_neg (by intro h; injection h with h0 h; injection h with h1 h2; exact q0 h0)]
          clear q0
          go_wp2_with (at_builtin; refine Law.wpList_append_seq _ w4.heap.size 84 rfl _ _ rfl HE.out _ _ _ rfl HO7.out 0 _ (some ⟨wr.heap.size, 0, none⟩) 1 1 (cellsU (u, ev)) rfl (by rw [HCU.out]; rfl) HQ7.out.seq (cellsU_one _) (by unfold maxLen; omega) (by omega) (by simp only [World.size_alloc]; omega) ?_; intro v8 w7 hown hgrow; obtain ⟨A8, c8, rfl, _⟩ := own_shape hown; have HO8 := Lib.hid hown; have HB8 := Lib.hid (HB7.out.grown hgrow (by simp only [World.size_alloc]; omega) (fun g hg => (HO7.out.lt g hg).1)); clear hown hgrow; have J1 := HI1.out.below HB8.out HI1.out.lt; have J2 := HI2.out.below HB8.out HI2.out.lt; have k2 := J1.cell' (i := 2) rfl; have k3 := J1.cell' (i := 3) rfl; have k4 := J1.cell' (i := 4) rfl; have lk := J1.lt; have p0 := J2.cell' (i := 0) rfl; have p1 := J2.cell' (i := 1) rfl; have p2 := J2.cell' (i := 2) rfl; have lp := J2.lt; clear J1 J2)
          refine wp_region_held_drew (S := fun w' => w'.cell? ⟨w1.heap.size, 2, none⟩ = some (.int .i64 t0) ∧ w'.cell? ⟨w1.heap.size, 3, none⟩ = some (.int .i64 t1) ∧ w'.cell? ⟨w1.heap.size, 4, none⟩ = some (.int .i64 t2) ∧ w'.cell? ⟨w3.heap.size, 0, none⟩ = some (.int .i64 s0) ∧ w'.cell? ⟨w3.heap.size, 1, none⟩ = some (.int .i64 s1) ∧ w'.cell? ⟨w3.heap.size, 2, none⟩ = some (.int .i64 s2)) (by kernel_rfl) ⟨k2, k3, k4, p0, p1, p2⟩ (fun hS0 => ?_)
          refine wpAnyH_take (i := 0) (oi := { dst := some 75, op := .move (.tmp 12), type := _, pos := _, after := _, guard := _ }) (v := .slice A8 (hf.length + 1) c8) rfl (by kernel_rfl) (by kernel_rfl) (by kernel_rfl) (fun _ _ _ h => h) (Or.inl ⟨by rfl, ?_⟩) hS0 ?_
          · intro w' hSw
            go_simp
          try simp only [Act.put, List.setIfInBounds_toArray, List.set_cons_zero, List.set_cons_succ]
          refine wpAnyH_take (i := 1) (oi := { dst := some 76, op := .move (.tmp 1), type := _, pos := _, after := _, guard := _ }) (v := .string u) rfl (by kernel_rfl) (by kernel_rfl) (by kernel_rfl) (fun _ _ _ h => h) (Or.inl ⟨by rfl, ?_⟩) hS0 ?_
          · intro w' hSw
            go_simp
          try simp only [Act.put, List.setIfInBounds_toArray, List.set_cons_zero, List.set_cons_succ]
          refine wpAnyH_take (i := 2) (oi := { dst := some 77, op := .fieldAddr 107 (.tmp 10) 2, type := _, pos := _, after := _, guard := _ }) (v := .pointer (some ⟨w1.heap.size, 2, none⟩)) rfl (by kernel_rfl) (by kernel_rfl) (by kernel_rfl) (fun _ _ _ h => h) (Or.inl ⟨by rfl, ?_⟩) hS0 ?_
          · intro w' hSw
            go_simp
          try simp only [Act.put, List.setIfInBounds_toArray, List.set_cons_zero, List.set_cons_succ]
          refine wpAnyH_take (i := 3) (oi := { dst := some 78, op := .load 57 (.tmp 77), type := _, pos := _, after := _, guard := _ }) (v := .agg #[.int .i64 t0, .int .i64 t1, .int .i64 t2]) rfl (by kernel_rfl) (by kernel_rfl) (by kernel_rfl) (fun _ _ _ h => h) (Or.inl ⟨by rfl, ?_⟩) hS0 ?_
          · intro w' hSw
            go_simp
          try simp only [Act.put, List.setIfInBounds_toArray, List.set_cons_zero, List.set_cons_succ]
          refine wpAnyH_take (i := 4) (oi := { dst := some 79, op := .load 57 (.tmp 11), type := _, pos := _, after := _, guard := _ }) (v := .agg #[.int .i64 s0, .int .i64 s1, .int .i64 s2]) rfl (by kernel_rfl) (by kernel_rfl) (by kernel_rfl) (fun _ _ _ h => h) (Or.inl ⟨by rfl, ?_⟩) hS0 ?_
          · intro w' hSw
            go_simp
          try simp only [Act.put, List.setIfInBounds_toArray, List.set_cons_zero, List.set_cons_succ]
          refine wpAnyH_take (i := 5) (oi := { dst := some 80, op := .build 131 #[(0, .tmp 76), (1, .tmp 78), (2, .tmp 79)], type := _, pos := _, after := _, guard := _ }) (v := .agg #[.string u, .int .i64 t0, .int .i64 t1, .int .i64 t2, .int .i64 s0, .int .i64 s1, .int .i64 s2]) rfl (by kernel_rfl) (by kernel_rfl) (by kernel_rfl) (fun _ _ _ h => h) (Or.inl ⟨by rfl, ?_⟩) hS0 ?_
          · intro w' hSw
            go_simp
          try simp only [Act.put, List.setIfInBounds_toArray, List.set_cons_zero, List.set_cons_succ]
          refine wpAnyH_take (i := 7) (oi := { dst := some 8, op := .assign (.tmp 75), type := _, pos := _, after := _, guard := _ }) (v := .slice A8 (hf.length + 1) c8) rfl (by kernel_rfl) (by kernel_rfl) (by kernel_rfl) (fun _ _ _ h => h) (Or.inl ⟨by rfl, ?_⟩) hS0 ?_
          · intro w' hSw
            go_simp
          try simp only [Act.put, List.setIfInBounds_toArray, List.set_cons_zero, List.set_cons_succ]
          have bz0 := (Below.refl w7.drew.heap.size w7.drew).alloc (Nat.le_refl _) (.cells #[.string u, .int .i64 t0, .int .i64 t1, .int .i64 t2, .int .i64 s0, .int .i64 s1, .int .i64 s2] 131)
          have bz : Below w7.heap.size w7 (w7.alloc (.cells #[.string u, .int .i64 t0, .int .i64 t1, .int .i64 t2, .int .i64 s0, .int .i64 s1, .int .i64 s2] 131)).drew := Below.trans ((Below.refl w7.heap.size w7).alloc (Nat.le_refl _) (.cells #[.string u, .int .i64 t0, .int .i64 t1, .int .i64 t2, .int .i64 s0, .int .i64 s1, .int .i64 s2] 131)) ((Kept.drew (w7.alloc (.cells #[.string u, .int .i64 t0, .int .i64 t1, .int .i64 t2, .int .i64 s0, .int .i64 s1, .int .i64 s2] 131))).mono (by simp))
          have HIC : Hid (Is (w7.alloc (.cells #[.string u, .int .i64 t0, .int .i64 t1, .int .i64 t2, .int .i64 s0, .int .i64 s1, .int .i64 s2] 131)).drew w7.heap.size 131 #[.string u, .int .i64 t0, .int .i64 t1, .int .i64 t2, .int .i64 s0, .int .i64 s1, .int .i64 s2]) := (Is.new w7 131 #[.string u, .int .i64 t0, .int .i64 t1, .int .i64 t2, .int .i64 s0, .int .i64 s1, .int .i64 s2] rfl).drewN 1
          have HOZ := Lib.hid (own_below HO8.out bz)
          have HBZ := Lib.hid (HB8.out.trans (bz.mono HB8.out.size))
          refine wpAnyH_ready (rs := [6]) (by kernel_rfl) (by simp) ?_
          refine AllReadyH.cons (o := { dst := some 81, op := .buildSlice 85 1 #[(0, .tmp 80)], type := _, pos := _, after := _, guard := _ }) rfl (fun K hK => ?_) AllReadyH.nil
          go_simp
          refine hK.out _ _ (by obtain ⟨y1, y2, y3, y4, y5, y6⟩ := hS0; exact ⟨(bz0.cell (p := ⟨w1.heap.size, 2, none⟩) lk).trans y1, (bz0.cell (p := ⟨w1.heap.size, 3, none⟩) lk).trans y2, (bz0.cell (p := ⟨w1.heap.size, 4, none⟩) lk).trans y3, (bz0.cell (p := ⟨w3.heap.size, 0, none⟩) lp).trans y4, (bz0.cell (p := ⟨w3.heap.size, 1, none⟩) lp).trans y5, (bz0.cell (p := ⟨w3.heap.size, 2, none⟩) lp).trans y6⟩) (fun hS1 => ?_)
          clear hK K
          try simp only [Act.put, List.setIfInBounds_toArray, List.set_cons_zero, List.set_cons_succ]
          refine wpAnyH_take (i := 8) (oi := { dst := some 9, op := .assign (.tmp 81), type := _, pos := _, after := _, guard := _ }) (v := .slice (some ⟨w7.drew.heap.size, 0, none⟩) 1 1) rfl (by kernel_rfl) (by kernel_rfl) (by kernel_rfl) (fun _ _ _ h => h) (Or.inl ⟨by rfl, ?_⟩) hS1 ?_
          · intro w' hSw
            go_simp
          try simp only [Act.put, List.setIfInBounds_toArray, List.set_cons_zero, List.set_cons_succ]
          refine wpAnyH_done (by kernel_rfl) ?_ _
          clear bz bz0 hS0 hS1
          generalize (w7.alloc (.cells #[.string u, .int .i64 t0, .int .i64 t1, .int .i64 t2, .int .i64 s0, .int .i64 s1, .int .i64 s2] 131)).drew = wz at *
          go_wp2_with fail
          refine bodyPost_ret (v := .tuple #[.slice A8 (hf.length + 1) c8, .slice (some ⟨w7.drew.heap.size, 0, none⟩) 1 1]) (by simp [results, Tryz.results58, go_sem]) rfl ?_
          rw [HTL.out, HBE.out, mapV_length]
          refine ⟨A8, c8, _, _, by rw [List.length_append]; rfl, ⟨_, ?_, fun q hq => (HMEM.out q hq).keeps (Keeps.of_below HBZ.out), rfl⟩, Lain.is HIC.out rfl, HB.out.trans (HBZ.out.mono HB.out.size)⟩
          exact Lain.own (by simpa [flatU_app, flatU] using HOZ.out)
end Bk
end Go.Proofs.YtohdlnefgieenaaGreat
