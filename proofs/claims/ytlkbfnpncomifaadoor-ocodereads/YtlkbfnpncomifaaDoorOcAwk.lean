/-
  The example (layer 12's statements).
-/
import Derived.Test.YtlkbfnpncomifaaDoorOc04
import Derived.Test.YtlkbfnpncomifaaDoorNums
import Derived.RegionTactic
import Derived.Deep.DeepCutAuto
import Derived.ChangeAlike
namespace Go.Proofs.YtlkbfnpncomifaaDoor
open Go.RowKit Go.Lib Go.ChangeShapes Go.WideShapes Go.ChangeAt
attribute [local go_sem] Oper.semAt_some
namespace Opx
open Go.Law
theorem Cls.at {w : World} {C : Option Addr} {ls : List Cl} (h : Cls w C ls) {i : Nat} (hi : i < ls.length) : ∃ b off, C = some ⟨b, off, none⟩ ∧ b < w.heap.size ∧ w.cell? ⟨b, off + i, none⟩ = some (.slice ls[i].1 ls[i].2.2.length ls[i].2.1) := by
  obtain ⟨b, off, e, _, hb, hc⟩ := h.row.seq.at (i := i) (by simpa using hi)
  rw [List.getElem_map] at hc
  exact ⟨b, off, e, hb, hc⟩
set_option maxRecDepth 100000 in
set_option maxHeartbeats 4000000 in
theorem awake (w : World) (hT : Tabs w) (h0 : 0 < w.heap.size) : Calls Tryd.prog 9 #[] w fun e w' => e = .returned (.bool true) ∧ Below w.heap.size w w' := by
  have HR := Lib.hid (read (A := none) (c := 0) (b := []) (w := w) (fun _ h => by cases h) Seq.nil (Nat.zero_le _) (Nat.le_refl _) hT h0)
  have HT := Lib.hid hT
  clear hT
  go_enter Tryd.func9, Tryd.ntmps9
  go_wp2_with fail
  refine HR.out.mono ?_
  rintro e w2 ⟨C, cC, ls, Kp, cK, rfl, hpl, hcl, hk, hcC, hb⟩
  have hl0 : ls.length = (clients []).length := by rw [← hpl]; simp [plainC]
  have hll : ls.length = 1 := hl0.trans rfl
  obtain ⟨⟨A1, c1, q1⟩, rfl⟩ : ∃ r, ls = [r] := List.length_eq_one_iff.1 hll
  have hq1 : q1 = [] := by
    have h : [q1.map plain] = [[]] := hpl
    simpa using h
  subst hq1
  have hpk : (picks []).length = 0 := rfl
  rw [hpk]
  obtain ⟨k, off, rfl, hkl, c0⟩ := hcl.at (i := 0) (by simp)
  have c0' : w2.cell? ⟨k, off, none⟩ = some (.slice A1 0 c1) := c0
  have HT2 := Lib.hid (HT.out.below hb)
  have HB := Lib.hid hb
  clear c0 hk hcl hpl hb hpk hll hl0
  have d0 : ((1 + at_ [] 0 % 8 : Int) == 1) = true := by decide
  have hu : userB 3 = ⟨#[117, 51]⟩ := rfl
  go_wp2_with fail
  refine (user0 3 (by decide) _ (HT2.out.below ((Below.refl _ w2).alloc (Nat.le_refl _) _))).mono ?_
  rintro e w4 ⟨rfl, rfl⟩
  rw [hu]
  go_wp2_with fail
  go_ret
  exact ⟨rfl, HB.out.trans ((Below.refl w.heap.size w2).alloc HB.out.size _)⟩
/-- what is to be known of the script that bytes tell -/
theorem opsPos_ge (b : List Int) (i : Nat) : ∀ k, i ≤ opsPos b i k
  | 0 => Nat.le_refl _
  | k + 1 => Nat.le_trans (opsPos_ge b i k) (Nat.le_add_right _ _)
theorem clPos_ge (b : List Int) : ∀ k, 8 ≤ clPos b k
  | 0 => Nat.le_refl _
  | k + 1 => by
    have h1 := clPos_ge b k
    have h2 := opsPos_ge b (clPos b k + 1) (manyAt b (clPos b k))
    show 8 ≤ opsPos b (clPos b k + 1) (manyAt b (clPos b k))
    omega
theorem picks_len (b : List Int) : (picks b).length = pkN b (clEnd b) := pkTo_len _ _ _
theorem picks_le (b : List Int) : 2 * (picks b).length ≤ b.length ∧ (picks b).length ≤ 20000 := by
  have h := clPos_ge b (clN b)
  rw [picks_len]
  unfold pkN clEnd
  omega
theorem plainC_len {ls : List Cl} {b : List Int} (h : plainC ls = clients b) : ls.length = clN b := by
  have h1 := congrArg List.length h
  unfold plainC clients at h1
  rw [clTo_len, List.length_map] at h1
  exact h1
theorem ops_le {b : List Int} (hb : Bytes b) (i : Nat) : (opsAt b i).length ≤ 40 := by
  unfold opsAt; rw [opsTo_len]; exact manyAt_le hb i
theorem op_us {b : List Int} (hb : Bytes b) (i : Nat) : (Law.opAt b i).us.length ≤ 9 := by
  have h := hb.at (i + 2)
  unfold Law.opAt
  split
  · exact Nat.zero_le _
  · split
    · exact Nat.zero_le _
    · split
      · exact Nat.zero_le _
      · split
        · show (usersAt _ _ _).length ≤ 9
          rw [usersAt_len]; omega
        · exact Nat.zero_le _
theorem ops_us {b : List Int} (hb : Bytes b) (i : Nat) : ∀ q ∈ opsAt b i, q.us.length ≤ 9 := by
  intro q hq
  obtain ⟨k, _, rfl⟩ := List.mem_map.1 hq
  exact op_us hb _
theorem plainC_each {ls : List Cl} {b : List Int} (h : plainC ls = clients b) : ∀ r ∈ ls, ∃ i, r.2.2.map plain = opsAt b i := by
  intro r hr
  have h1 : r.2.2.map plain ∈ clients b := by rw [← h]; exact List.mem_map.2 ⟨r, hr, rfl⟩
  obtain ⟨k, _, hk⟩ := List.mem_map.1 h1
  exact ⟨_, hk.symm⟩
theorem pick_cases (b : List Int) {p : Pk} (hp : p ∈ picks b) : (∃ a, (0 ≤ a ∧ a ≤ 7) ∧ p = (0, a, 0)) ∨ p = (1, 0, 0) ∨ ∃ l, p = (2, 0, l) := by
  obtain ⟨k, _, rfl⟩ := List.mem_map.1 hp
  unfold pickP
  split
  · exact .inl ⟨_, by omega, rfl⟩
  · split
    · exact .inr (.inl rfl)
    · exact .inr (.inr ⟨_, rfl⟩)
theorem Lain.pk {w : World} {A : Option Addr} {ps : List Pk} {i : Nat} (h : Lain 34 w A (flatPk ps)) (hi : i < ps.length) : ∃ b off, A = some ⟨b, off, none⟩ ∧ b < w.heap.size ∧ w.cell? ⟨b, off + i * 3, none⟩ = some (.int .i64 ps[i].1) ∧ w.cell? ⟨b, off + i * 3 + 1, none⟩ = some (.int .i64 ps[i].2.1) ∧ w.cell? ⟨b, off + i * 3 + 2, none⟩ = some (.int .u64 ps[i].2.2) := by
  obtain ⟨b, off, hA, _, h2, hc⟩ := Seq.row (cells := cellsPk) (fun _ => rfl) (by decide : 0 < 3) h.seq hi
  exact ⟨b, off, hA, h2, by simpa using hc 0 _ rfl, hc 1 _ rfl, hc 2 _ rfl⟩
theorem open_bytes {H : Type} {enc : TypeId × Value → H} {W : World} {base b0 : Nat} {sp : Nat → Bool} {hd : Bool} {v : Value} {d : DataW H} {p : List MemPlace}
    (hv : Value.okWide Tryd.prog W .any b0 22 v) (h : DataW.Trod enc Tryd.prog W base sp hd 22 v d p) : ∃ (A : Option Addr) (c : Nat) (zs : List Int), v = .slice A zs.length c ∧ Seq W 0 W.heap.size A (zs.map (.int .u8)) ∧ zs.length ≤ maxLen ∧ zs.length ≤ c ∧ Bytes zs := by
  obtain ⟨A, c, zs, h1, h2, h3, h4, h5⟩ := open_nums Tryd.underlying22 Tryd.underlying5 (by kernel_rfl) hv h
  exact ⟨A, c, zs, h1, h2, h3, h4, fun x hx => by have := h5 x hx; simpa [Lit.wf, IntKind.min, IntKind.max, IntKind.signed, IntKind.bits] using this⟩
end Opx
end Go.Proofs.YtlkbfnpncomifaaDoor
