/-
  What Same of layer 8 (book), and slices.Equal at sessions, come to.
-/
import Derived.Test.YtjjemdmbhgmiiaaBook06
import Derived.Test.YtjjemdmbhgmiiaaBook07
namespace Go.Law
section
variable {κ ν : Type} (lt : κ → κ → Prop) [DecidableEq κ]
omit [DecidableEq κ] in
/-- of rising lists one that lies in another one is a part of it -/
theorem rises_sub (ht : Tri lt) : ∀ {b a : List (κ × ν)}, Rises lt a → Rises lt b → (∀ p ∈ a, p ∈ b) → a.Sublist b
  | _, [], _, _, _ => List.nil_sublist _
  | [], p :: r, _, _, h => by cases h p (by simp)
  | q :: s, p :: r, ha, hb, h => by
    rcases List.mem_cons.1 (h p (by simp)) with e | hp
    · subst e
      refine (rises_sub ht ha.tail hb.tail fun x hx => ?_).cons_cons _
      rcases List.mem_cons.1 (h x (by simp [hx])) with e | h'
      · subst e; exact absurd (ha.head _ hx) (ht.irr _)
      · exact h'
    · refine (rises_sub ht ha hb.tail fun x hx => ?_).cons _
      rcases List.mem_cons.1 (h x hx) with e | h'
      · subst e
        rcases List.mem_cons.1 hx with e | hx
        · subst e; exact absurd (hb.head _ hp) (ht.irr _)
        · exact absurd (ht.tr (hb.head _ hp) (ha.head _ hx)) (ht.irr _)
      · exact h'
theorem rises_eq (ht : Tri lt) {a b : List (κ × ν)} (ha : Rises lt a) (hb : Rises lt b) (hl : a.length = b.length) (h : ∀ p ∈ a, getK p.1 b = some p.2) : a = b :=
  (rises_sub lt ht ha hb fun p hp => getK_mem (h p hp)).eq_of_length hl
end
end Go.Law
namespace Go.Proofs.Ytjjemdmbhgmiiaa
open Go.RowKit Go.Shelf
attribute [local go_sem] Oper.semAt_some
namespace Bk
open Go.Law Go.Proofs.Ytjjemdmbhgmiiaa.OmapB Door

set_option maxRecDepth 100000 in
set_option maxHeartbeats 4000000 in
theorem equal (zs us : List Sn) (A B : Option Addr) (c d : Nat) (w : World) (hs : Seq w 0 w.heap.size A (flatS zs)) (ht : Seq w 0 w.heap.size B (flatS us)) (hl : zs.length ≤ 1000) (hm : us.length ≤ 1000) (r : Bool) (hr : decide (zs = us) = r) :
    Calls Try.prog 40 #[.slice A zs.length c, .slice B us.length d] w fun e w' => e = .returned (.bool r) ∧ Below w.heap.size w w' := by
  have HS := Lib.hid hs
  have HT := Lib.hid ht
  have HR := Lib.hid hr
  clear hs ht hr
  by_cases hlen : zs.length = us.length
  · have d0 : ((zs.length : Int) != (us.length : Int)) = false := by simp; omega
    go_enter Try.func40, Try.ntmps40
    go_wp2_with fail
    go_loopw [13] (fun i wr => ∃ j : Nat, j ≤ zs.length ∧ i = .int .i64 j ∧ zs.take j = us.take j ∧ Drawn w wr) (fun i _ => zs.length - (intOf i).toNat)
    case atStart => exact ⟨0, Nat.zero_le _, rfl, by simp, Drawn.refl _⟩
    case round =>
      obtain ⟨j, hj, rfl, hta, hD⟩ := hrel
      have HD := Lib.hid hD
      have HTA := Lib.hid hta
      clear hta
      by_cases hlt : j < zs.length
      · have hlu : j < us.length := by omega
        obtain ⟨b, off, rfl, _, hb, q0, q1, q2, q3⟩ := (hD.seq HS.out).ses hlt
        obtain ⟨b', off', rfl, _, hb', p0, p1, p2, p3⟩ := (hD.seq HT.out).ses hlu
        have HTZ := Lib.hid (List.take_succ_eq_append_getElem hlt)
        have HTU := Lib.hid (List.take_succ_eq_append_getElem hlu)
        have HNE : Hid (zs[j] ≠ us[j] → r = false) := fun hne => by
          rw [← HR.out]
          simp only [decide_eq_false_iff_not]
          intro e
          subst e
          exact hne rfl
        clear hD
        generalize zs[j] = q at *
        generalize us[j] = p at *
        obtain ⟨x0, x1, x2, x3⟩ := q
        obtain ⟨y0, y1, y2, y3⟩ := p
        simp only at q0 q1 q2 q3 p0 p1 p2 p3
        by_cases h0 : x0 = y0
        · by_cases h1 : x1 = y1
          · by_cases h2 : x2 = y2
            · by_cases h3 : x3 = y3
              · have e0 : (x0 == y0) = true := by simpa using h0
                have e1 : (x1 == y1) = true := by simpa using h1
                have e2 : (x2 == y2) = true := by simpa using h2
                have e3 : (x3 == y3) = true := by simpa using h3
                have HEQ : Hid (zs.take (j + 1) = us.take (j + 1)) := by show _ = _; rw [HTZ.out, HTU.out, HTA.out, h0, h1, h2, h3]
                clear h0 h1 h2 h3
                go_wp2_with fail
                go_quiet (fail)
                go_wp2_with fail
                go_roundw
                case rel => exact ⟨j + 1, by omega, by go_num, HEQ.out, HD.out.drewN _⟩
                case measure => simp [intOf]; omega
              · have e0 : (x0 == y0) = true := by simpa using h0
                have e1 : (x1 == y1) = true := by simpa using h1
                have e2 : (x2 == y2) = true := by simpa using h2
                have e3 : (x3 == y3) = false := by simpa using h3
                have HF := Lib.hid (HNE.out (by intro e; simp only [Prod.mk.injEq] at e; exact h3 e.2.2.2))
                clear h0 h1 h2 h3
                go_wp2_with fail
                go_quiet (fail)
                go_wp2_with fail
                go_ret
                exact ⟨by rw [HF.out]; rfl, below_drewN (HD.out.below (Below.refl _ _)) _⟩
            · have e0 : (x0 == y0) = true := by simpa using h0
              have e1 : (x1 == y1) = true := by simpa using h1
              have e2 : (x2 == y2) = false := by simpa using h2
              have HF := Lib.hid (HNE.out (by intro e; simp only [Prod.mk.injEq] at e; exact h2 e.2.2.1))
              clear h0 h1 h2
              go_wp2_with fail
              go_quiet (fail)
              go_wp2_with fail
              go_ret
              exact ⟨by rw [HF.out]; rfl, below_drewN (HD.out.below (Below.refl _ _)) _⟩
          · have e0 : (x0 == y0) = true := by simpa using h0
            have e1 : (x1 == y1) = false := by simpa using h1
            have HF := Lib.hid (HNE.out (by intro e; simp only [Prod.mk.injEq] at e; exact h1 e.2.1))
            clear h0 h1
            go_wp2_with fail
            go_quiet (fail)
            go_wp2_with fail
            go_ret
            exact ⟨by rw [HF.out]; rfl, below_drewN (HD.out.below (Below.refl _ _)) _⟩
        · have e0 : (x0 == y0) = false := by simpa using h0
          have HF := Lib.hid (HNE.out (by intro e; simp only [Prod.mk.injEq] at e; exact h0 e.1))
          clear h0
          go_wp2_with fail
          go_quiet (fail)
          go_wp2_with fail
          go_ret
          exact ⟨by rw [HF.out]; rfl, below_drewN (HD.out.below (Below.refl _ _)) _⟩
      · have HT2 : Hid (r = true) := by
          show _ = _
          rw [← HR.out]
          have h1 := HTA.out
          rw [List.take_of_length_le (by omega), List.take_of_length_le (by omega)] at h1
          simpa using h1
        clear hD
        go_wp2_with fail
        go_ret
        exact ⟨by rw [HT2.out]; rfl, HD.out.below (Below.refl _ _)⟩
  · have d0 : ((zs.length : Int) != (us.length : Int)) = true := by simp; omega
    have d1 : ((zs.length : Int) == (us.length : Int)) = false := by simp; omega
    have HF : Hid (r = false) := by show _ = _; rw [← HR.out]; simp; intro e; exact hlen (by rw [e])
    go_enter Try.func40, Try.ntmps40
    go_wp2_with fail
    go_ret
    exact ⟨by rw [HF.out]; rfl, Below.refl _ _⟩
end Bk
end Go.Proofs.Ytjjemdmbhgmiiaa
