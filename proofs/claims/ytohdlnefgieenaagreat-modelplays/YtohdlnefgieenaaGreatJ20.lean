/-
  What the table's (layer 10) write comes to.
-/
import Derived.Test.YtohdlnefgieenaaGreatJ19
import Derived.Test.YtohdlnefgieenaaGreatJ16
import Derived.Lib.QuietBelow
namespace Go.Proofs.YtohdlnefgieenaaGreat
open Go.RowKit Go.Shelf
attribute [local go_sem] Oper.semAt_some
namespace Mod
open Go.Law Feed Bk
/-- behind a call that answers an error number -/
def Did (w : World) (base : Nat) (S : Nat → Prop) (m : Nat) (a' : Mo) (er : Int) (e : Ending) (w' : World) : Prop := e = .returned (.int .i64 er) ∧ ∃ S', Tab w' base S' m a' ∧ Gone w S w' S'
section
variable {w w' : World} {base m t c b : Nat} {S S' : Nat → Prop} {arr : Array Value} {p : Nat → Option Addr} {g : Nat → Nat} {Sk : Nat → Nat → Prop} {a : Mo}
set_option maxRecDepth 100000 in
set_option maxHeartbeats 2000000 in
theorem write (h : Tab w base S m a) (ho : a.Ok b) (hb : b ≤ 380) (hbw : base ≤ w.heap.size) (q : OpV) (hu : q.user.size ≤ maxLen) (ht : Door.U q.ttl) (hq : ∃ A n c, q.users = .slice A n c) :
    Calls Tryz.prog 46 #[.pointer (some ⟨m, 0, none⟩), q.val] w (Did w base S m (a.write q).1 (a.write q).2) := by
  obtain ⟨kind, user, id, st, pr, ttl, us⟩ := q
  obtain ⟨Au, nu, cu, rfl⟩ := hq
  simp only at hu ht
  obtain ⟨a', ha'⟩ : ∃ a', (a.write ⟨kind, user, id, st, pr, ttl, .slice Au nu cu⟩).1 = a' := ⟨_, rfl⟩
  obtain ⟨er, her⟩ : ∃ er, (a.write ⟨kind, user, id, st, pr, ttl, .slice Au nu cu⟩).2 = er := ⟨_, rfl⟩
  rw [ha', her]
  have HA := Lib.hid ha'
  have HR := Lib.hid her
  clear ha' her
  obtain ⟨t, c, arr, p, g, Sk, h⟩ := h
  have hn1 := ho.n1
  have hn8 := ho.n8
  have HO := Lib.hid ho
  obtain ⟨k, hk⟩ : ∃ k, str user a.n = k := ⟨_, rfl⟩
  have hlt : k < a.n := hk ▸ str_lt user hn1
  have HK := Lib.hid hk
  have bx := (Below.refl w.heap.size w).alloc (Nat.le_refl _) (.cells #[.int .i64 kind, .string user, .int .i64 id, .int .i64 st, .int .i64 pr, .int .u64 ttl, .slice Au nu cu] 37)
  have HIX := Lib.hid (Is.new w 37 #[.int .i64 kind, .string user, .int .i64 id, .int .i64 st, .int .i64 pr, .int .u64 ttl, .slice Au nu cu] rfl)
  have H := Lib.hid (h.below bx)
  have HG : Hid (Gone w S _ S) := Gone.of_below bx
  have hbw1 : base ≤ (w.alloc (.cells #[.int .i64 kind, .string user, .int .i64 id, .int .i64 st, .int .i64 pr, .int .u64 ttl, .slice Au nu cu] 37)).heap.size := by simp; omega
  have NX : Hid (¬ S w.heap.size) := fun hx => by have := (h.ok _ hx).2; omega
  clear h ho hk bx
  go_enter Tryz.func46, Tryz.ntmps46
  go_wp2_with fail
  generalize w.alloc (.cells #[.int .i64 kind, .string user, .int .i64 id, .int .i64 st, .int .i64 pr, .int .u64 ttl, .slice Au nu cu] 37) = w1 at *
  generalize w.heap.size = bxn at *
  refine (take_ H.out HO.out.seq).mono ?_
  rintro e w2 ⟨rfl, hT, hG⟩
  have HT := Lib.hid hT
  have HG2 := Lib.hid (HG.out.trans hG)
  have HI2 := Lib.hid (hG.is HIX.out NX.out)
  have hbw2 : base ≤ w2.heap.size := Nat.le_trans hbw1 hG.touch.size
  have d4 : w2.cell? ⟨m, 4, none⟩ = some (.bool a.closed) := hT.box.cell' rfl
  have l2 := hT.box.lt
  clear hT hG H HG HIX
  obtain ⟨cl, hcl⟩ : ∃ cl, a.closed = cl := ⟨_, rfl⟩
  rw [hcl] at d4
  cases cl with
  | true =>
    have HE : Hid (a.write ⟨kind, user, id, st, pr, ttl, .slice Au nu cu⟩ = (a.take, 5)) := by show _ = _; unfold Mo.write; rw [if_pos hcl]
    obtain rfl : a.take = a' := by rw [← HA.out, HE.out]
    obtain rfl : (5 : Int) = er := by rw [← HR.out, HE.out]
    go_wp2_with fail
    go_ret
    exact ⟨rfl, S, ⟨_, _, _, _, _, _, HT.out⟩, HG2.out⟩
  | false =>
    have HE : Hid (a.write ⟨kind, user, id, st, pr, ttl, .slice Au nu cu⟩ = (a.take.become k (wrB ⟨kind, user, id, st, pr, ttl, .slice Au nu cu⟩ a.now a.most (a.bk k)) (wrC ⟨kind, user, id, st, pr, ttl, .slice Au nu cu⟩ a.now a.most (a.bk k)) (Door.sat a.seq 1), wrE ⟨kind, user, id, st, pr, ttl, .slice Au nu cu⟩ a.now a.most (a.bk k))) := by show _ = _; unfold Mo.write; rw [if_neg (by rw [hcl]; decide), show str _ _ = k from HK.out]
    rw [HE.out] at HA HR
    have x1 : w2.cell? ⟨bxn, 1, none⟩ = some (.string user) := HI2.out.cell' rfl
    have lx := HI2.out.lt
    go_wp2_with fail
    refine (of_ HT.out user hu hn1 hn8 HK.out).mono ?_
    rintro e w3 ⟨rfl, b3⟩
    have HT3 := Lib.hid (HT.out.below b3)
    have HG3 := Lib.hid (HG2.out.trans (Gone.of_below b3))
    have HI3 := Lib.hid (HI2.out.below b3 HI2.out.lt)
    have hbw3 : base ≤ w3.heap.size := Nat.le_trans hbw2 b3.size
    clear b3 HT HG2 HI2 d4 l2 x1 lx
    have lt3 := HT3.out.row.lt
    have lm3 := HT3.out.box.lt
    have lb3 := HI3.out.lt
    have HKS : Hid (∀ w', Below w3.heap.size w3 w' → (w'.cell? ⟨t, k * 2, none⟩ = some (.pointer (p k)) ∧ w'.cell? ⟨bxn, 0, none⟩ = some (.int .i64 kind) ∧ w'.cell? ⟨bxn, 1, none⟩ = some (.string user) ∧ w'.cell? ⟨bxn, 2, none⟩ = some (.int .i64 id) ∧ w'.cell? ⟨bxn, 3, none⟩ = some (.int .i64 st) ∧ w'.cell? ⟨bxn, 4, none⟩ = some (.int .i64 pr) ∧ w'.cell? ⟨bxn, 5, none⟩ = some (.int .u64 ttl) ∧ w'.cell? ⟨bxn, 6, none⟩ = some (.slice Au nu cu) ∧ w'.cell? ⟨m, 2, none⟩ = some (.int .u64 a.now) ∧ w'.cell? ⟨m, 0, none⟩ = some (.int .i64 a.most) ∧ t < w'.heap.size ∧ bxn < w'.heap.size ∧ m < w'.heap.size)) := fun w' K =>
      ⟨(K.cell (p := ⟨t, k * 2, none⟩) lt3).trans ((HT3.out.row.cell _).trans (HT3.out.bkc k hlt)), (K.cell (p := ⟨bxn, 0, none⟩) lb3).trans (HI3.out.cell' rfl), (K.cell (p := ⟨bxn, 1, none⟩) lb3).trans (HI3.out.cell' rfl), (K.cell (p := ⟨bxn, 2, none⟩) lb3).trans (HI3.out.cell' rfl), (K.cell (p := ⟨bxn, 3, none⟩) lb3).trans (HI3.out.cell' rfl), (K.cell (p := ⟨bxn, 4, none⟩) lb3).trans (HI3.out.cell' rfl), (K.cell (p := ⟨bxn, 5, none⟩) lb3).trans (HI3.out.cell' rfl), (K.cell (p := ⟨bxn, 6, none⟩) lb3).trans (HI3.out.cell' rfl), (K.cell (p := ⟨m, 2, none⟩) lm3).trans (HT3.out.box.cell' rfl), (K.cell (p := ⟨m, 0, none⟩) lm3).trans (HT3.out.box.cell' rfl), Nat.lt_of_lt_of_le lt3 K.size, Nat.lt_of_lt_of_le lb3 K.size, Nat.lt_of_lt_of_le lm3 K.size⟩
    have HWR : Hid (∀ W, Below w3.heap.size w3 W → Calls Tryz.prog 73 #[.agg #[.pointer (p k)], .agg #[.int .i64 kind, .string user, .int .i64 id, .int .i64 st, .int .i64 pr, .int .u64 ttl, .slice Au nu cu], .int .u64 a.now, .int .i64 a.most] W (Wrote W (wrB ⟨kind, user, id, st, pr, ttl, .slice Au nu cu⟩ a.now a.most (a.bk k)) (wrC ⟨kind, user, id, st, pr, ttl, .slice Au nu cu⟩ a.now a.most (a.bk k)) (wrE ⟨kind, user, id, st, pr, ttl, .slice Au nu cu⟩ a.now a.most (a.bk k)))) :=
      fun W K => Bk.write ⟨kind, user, id, st, pr, ttl, .slice Au nu cu⟩ a.now a.most HO.out.now ht ((HT3.out.book k hlt).now K) (HO.out.fit k hlt).book (by have := (HO.out.fit k hlt).of user; simp only; omega) (by have := (HO.out.fit k hlt).len; omega)
    have hcl2 : (wrC ⟨kind, user, id, st, pr, ttl, .slice Au nu cu⟩ a.now a.most (a.bk k)).length ≤ 1 := tells_le _ _ _ _
    clear HE
    generalize wrB ⟨kind, user, id, st, pr, ttl, .slice Au nu cu⟩ a.now a.most (a.bk k) = nb at *
    generalize wrC ⟨kind, user, id, st, pr, ttl, .slice Au nu cu⟩ a.now a.most (a.bk k) = nc at *
    generalize wrE ⟨kind, user, id, st, pr, ttl, .slice Au nu cu⟩ a.now a.most (a.bk k) = ne at *
    go_upto_region 5 with (fail)
    go_cut [7, 8, 9] (fun v7 v8 v9 wx => ∃ (gn : Nat) (p5 A5 : Option Addr) (c5 : Nat), v7 = .pointer (some ⟨gn, 0, none⟩) ∧ v8 = .slice A5 nc.length c5 ∧ v9 = .int .i64 ne ∧ w3.heap.size ≤ gn ∧ Is wx gn 72 #[.pointer p5] ∧ Booked wx p5 nb ∧ Lain 185 wx A5 (flatC nc) ∧ Below w3.heap.size w3 wx)
    case first =>
      refine wp_region_held_drew (S := fun w' => w'.cell? ⟨t, k * 2, none⟩ = some (.pointer (p k)) ∧ w'.cell? ⟨bxn, 0, none⟩ = some (.int .i64 kind) ∧ w'.cell? ⟨bxn, 1, none⟩ = some (.string user) ∧ w'.cell? ⟨bxn, 2, none⟩ = some (.int .i64 id) ∧ w'.cell? ⟨bxn, 3, none⟩ = some (.int .i64 st) ∧ w'.cell? ⟨bxn, 4, none⟩ = some (.int .i64 pr) ∧ w'.cell? ⟨bxn, 5, none⟩ = some (.int .u64 ttl) ∧ w'.cell? ⟨bxn, 6, none⟩ = some (.slice Au nu cu) ∧ w'.cell? ⟨m, 2, none⟩ = some (.int .u64 a.now) ∧ w'.cell? ⟨m, 0, none⟩ = some (.int .i64 a.most) ∧ t < w'.heap.size ∧ bxn < w'.heap.size ∧ m < w'.heap.size) (by kernel_rfl) (HKS.out _ (Law.below_drewN (Below.refl _ w3) 1)) (fun hS0 => ?_)
      refine wpAnyH_take (i := 0) (oi := { dst := some 22, op := .move (.tmp 6), type := _, pos := _, after := _, guard := _ }) (v := .pointer (some ⟨t, k * 2, none⟩)) rfl (by kernel_rfl) (by kernel_rfl) (by kernel_rfl) (fun _ _ _ h => h) (Or.inl ⟨by rfl, ?_⟩) hS0 ?_
      · intro w' hSw
        go_simp
      try simp only [Act.put, List.setIfInBounds_toArray, List.set_cons_zero, List.set_cons_succ]
      refine wpAnyH_take (i := 1) (oi := { dst := some 23, op := .nilCheck (.tmp 22), type := _, pos := _, after := _, guard := _ }) (v := .pointer (some ⟨t, k * 2, none⟩)) rfl (by kernel_rfl) (by kernel_rfl) (by kernel_rfl) (fun _ _ _ h => h) (Or.inl ⟨by rfl, ?_⟩) hS0 ?_
      · intro w' hSw
        go_simp
      try simp only [Act.put, List.setIfInBounds_toArray, List.set_cons_zero, List.set_cons_succ]
      refine wpAnyH_take (i := 2) (oi := { dst := some 24, op := .fieldAddr 74 (.tmp 23) 0, type := _, pos := _, after := _, guard := _ }) (v := .pointer (some ⟨t, k * 2, none⟩)) rfl (by kernel_rfl) (by kernel_rfl) (by kernel_rfl) (fun _ _ _ h => h) (Or.inl ⟨by rfl, ?_⟩) hS0 ?_
      · intro w' hSw
        go_simp
      try simp only [Act.put, List.setIfInBounds_toArray, List.set_cons_zero, List.set_cons_succ]
      refine wpAnyH_take (i := 3) (oi := { dst := some 25, op := .load 72 (.tmp 24), type := _, pos := _, after := _, guard := _ }) (v := .agg #[.pointer (p k)]) rfl (by kernel_rfl) (by kernel_rfl) (by kernel_rfl) (fun _ _ _ h => h) (Or.inl ⟨by rfl, ?_⟩) hS0 ?_
      · intro w' hSw
        obtain ⟨s0, s1, s2, s3, s4, s5, s6, s7, s8, s9, s10, s11, s12⟩ := hSw
        go_simp
      try simp only [Act.put, List.setIfInBounds_toArray, List.set_cons_zero, List.set_cons_succ]
      refine wpAnyH_take (i := 4) (oi := { dst := some 26, op := .load 37 (.tmp 3), type := _, pos := _, after := _, guard := _ }) (v := .agg #[.int .i64 kind, .string user, .int .i64 id, .int .i64 st, .int .i64 pr, .int .u64 ttl, .slice Au nu cu]) rfl (by kernel_rfl) (by kernel_rfl) (by kernel_rfl) (fun _ _ _ h => h) (Or.inl ⟨by rfl, ?_⟩) hS0 ?_
      · intro w' hSw
        obtain ⟨s0, s1, s2, s3, s4, s5, s6, s7, s8, s9, s10, s11, s12⟩ := hSw
        go_simp
      try simp only [Act.put, List.setIfInBounds_toArray, List.set_cons_zero, List.set_cons_succ]
      refine wpAnyH_take (i := 5) (oi := { dst := some 27, op := .move (.tmp 0), type := _, pos := _, after := _, guard := _ }) (v := .pointer (some ⟨m, 0, none⟩)) rfl (by kernel_rfl) (by kernel_rfl) (by kernel_rfl) (fun _ _ _ h => h) (Or.inl ⟨by rfl, ?_⟩) hS0 ?_
      · intro w' hSw
        go_simp
      try simp only [Act.put, List.setIfInBounds_toArray, List.set_cons_zero, List.set_cons_succ]
      refine wpAnyH_take (i := 6) (oi := { dst := some 28, op := .nilCheck (.tmp 27), type := _, pos := _, after := _, guard := _ }) (v := .pointer (some ⟨m, 0, none⟩)) rfl (by kernel_rfl) (by kernel_rfl) (by kernel_rfl) (fun _ _ _ h => h) (Or.inl ⟨by rfl, ?_⟩) hS0 ?_
      · intro w' hSw
        go_simp
      try simp only [Act.put, List.setIfInBounds_toArray, List.set_cons_zero, List.set_cons_succ]
      refine wpAnyH_take (i := 7) (oi := { dst := some 29, op := .fieldAddr 67 (.tmp 28) 2, type := _, pos := _, after := _, guard := _ }) (v := .pointer (some ⟨m, 2, none⟩)) rfl (by kernel_rfl) (by kernel_rfl) (by kernel_rfl) (fun _ _ _ h => h) (Or.inl ⟨by rfl, ?_⟩) hS0 ?_
      · intro w' hSw
        go_simp
      try simp only [Act.put, List.setIfInBounds_toArray, List.set_cons_zero, List.set_cons_succ]
      refine wpAnyH_take (i := 8) (oi := { dst := some 30, op := .fieldAddr 50 (.tmp 29) 0, type := _, pos := _, after := _, guard := _ }) (v := .pointer (some ⟨m, 2, none⟩)) rfl (by kernel_rfl) (by kernel_rfl) (by kernel_rfl) (fun _ _ _ h => h) (Or.inl ⟨by rfl, ?_⟩) hS0 ?_
      · intro w' hSw
        go_simp
      try simp only [Act.put, List.setIfInBounds_toArray, List.set_cons_zero, List.set_cons_succ]
      refine wpAnyH_take (i := 9) (oi := { dst := some 31, op := .load 22 (.tmp 30), type := _, pos := _, after := _, guard := _ }) (v := .int .u64 a.now) rfl (by kernel_rfl) (by kernel_rfl) (by kernel_rfl) (fun _ _ _ h => h) (Or.inl ⟨by rfl, ?_⟩) hS0 ?_
      · intro w' hSw
        obtain ⟨s0, s1, s2, s3, s4, s5, s6, s7, s8, s9, s10, s11, s12⟩ := hSw
        go_simp
      try simp only [Act.put, List.setIfInBounds_toArray, List.set_cons_zero, List.set_cons_succ]
      refine wpAnyH_take (i := 10) (oi := { dst := some 32, op := .move (.tmp 0), type := _, pos := _, after := _, guard := _ }) (v := .pointer (some ⟨m, 0, none⟩)) rfl (by kernel_rfl) (by kernel_rfl) (by kernel_rfl) (fun _ _ _ h => h) (Or.inl ⟨by rfl, ?_⟩) hS0 ?_
      · intro w' hSw
        go_simp
      try simp only [Act.put, List.setIfInBounds_toArray, List.set_cons_zero, List.set_cons_succ]
      refine wpAnyH_take (i := 11) (oi := { dst := some 33, op := .nilCheck (.tmp 32), type := _, pos := _, after := _, guard := _ }) (v := .pointer (some ⟨m, 0, none⟩)) rfl (by kernel_rfl) (by kernel_rfl) (by kernel_rfl) (fun _ _ _ h => h) (Or.inl ⟨by rfl, ?_⟩) hS0 ?_
      · intro w' hSw
        go_simp
      try simp only [Act.put, List.setIfInBounds_toArray, List.set_cons_zero, List.set_cons_succ]
      refine wpAnyH_take (i := 12) (oi := { dst := some 34, op := .fieldAddr 67 (.tmp 33) 0, type := _, pos := _, after := _, guard := _ }) (v := .pointer (some ⟨m, 0, none⟩)) rfl (by kernel_rfl) (by kernel_rfl) (by kernel_rfl) (fun _ _ _ h => h) (Or.inl ⟨by rfl, ?_⟩) hS0 ?_
      · intro w' hSw
        go_simp
      try simp only [Act.put, List.setIfInBounds_toArray, List.set_cons_zero, List.set_cons_succ]
      refine wpAnyH_take (i := 13) (oi := { dst := some 35, op := .load 3 (.tmp 34), type := _, pos := _, after := _, guard := _ }) (v := .int .i64 a.most) rfl (by kernel_rfl) (by kernel_rfl) (by kernel_rfl) (fun _ _ _ h => h) (Or.inl ⟨by rfl, ?_⟩) hS0 ?_
      · intro w' hSw
        obtain ⟨s0, s1, s2, s3, s4, s5, s6, s7, s8, s9, s10, s11, s12⟩ := hSw
        go_simp
      try simp only [Act.put, List.setIfInBounds_toArray, List.set_cons_zero, List.set_cons_succ]
      refine wpAnyH_ready (rs := [14, 19]) (by kernel_rfl) (by simp) ?_
      refine AllReadyH.cons (o := { dst := some 36, op := .call { callee := .value (.func 73), args := #[.tmp 25, .tmp 26, .tmp 31, .tmp 35], argTypes := #[72, 37, 22, 3] }, type := _, pos := _, after := _, guard := _ }) rfl (fun K hK => ?_) ?_
      · go_simp
        refine Calls.mono (HWR.out _ (Law.below_drewN (Below.refl _ w3) 1)) ?_
        rintro e w5 ⟨p5, A5, c5, rfl, k5, q5, b1⟩
        have b2 : Below w3.heap.size w3 w5 := Below.trans (Law.below_drewN (Below.refl _ w3) 1) (Below.mono b1 (Nat.le_refl _))
        go_wp2_with fail
        refine hK.out _ _ (HKS.out _ b2) (fun hS1 => ?_)
        clear hK K
        try simp only [Act.put, List.setIfInBounds_toArray, List.set_cons_zero, List.set_cons_succ]
        refine wpAnyH_take (i := 15) (oi := { dst := some 21, op := .move (.tmp 36), type := _, pos := _, after := _, guard := _ }) (v := .tuple #[.agg #[.pointer p5], .slice A5 nc.length c5, .int .i64 ne]) rfl (by kernel_rfl) (by kernel_rfl) (by kernel_rfl) (fun _ _ _ h => h) (Or.inl ⟨by rfl, ?_⟩) hS1 ?_
        · intro w' hSw
          go_simp
        try simp only [Act.put, List.setIfInBounds_toArray, List.set_cons_zero, List.set_cons_succ]
        refine wpAnyH_take (i := 16) (oi := { dst := some 37, op := .extract (.tmp 21) 0, type := _, pos := _, after := _, guard := _ }) (v := .agg #[.pointer p5]) rfl (by kernel_rfl) (by kernel_rfl) (by kernel_rfl) (fun _ _ _ h => h) (Or.inl ⟨by rfl, ?_⟩) hS1 ?_
        · intro w' hSw
          go_simp
        try simp only [Act.put, List.setIfInBounds_toArray, List.set_cons_zero, List.set_cons_succ]
        refine wpAnyH_take (i := 17) (oi := { dst := some 38, op := .extract (.tmp 21) 1, type := _, pos := _, after := _, guard := _ }) (v := .slice A5 nc.length c5) rfl (by kernel_rfl) (by kernel_rfl) (by kernel_rfl) (fun _ _ _ h => h) (Or.inl ⟨by rfl, ?_⟩) hS1 ?_
        · intro w' hSw
          go_simp
        try simp only [Act.put, List.setIfInBounds_toArray, List.set_cons_zero, List.set_cons_succ]
        refine wpAnyH_take (i := 18) (oi := { dst := some 39, op := .extract (.tmp 21) 2, type := _, pos := _, after := _, guard := _ }) (v := .int .i64 ne) rfl (by kernel_rfl) (by kernel_rfl) (by kernel_rfl) (fun _ _ _ h => h) (Or.inl ⟨by rfl, ?_⟩) hS1 ?_
        · intro w' hSw
          go_simp
        try simp only [Act.put, List.setIfInBounds_toArray, List.set_cons_zero, List.set_cons_succ]
        refine wpAnyH_ready (rs := [19]) (by kernel_rfl) (by simp) ?_
        refine AllReadyH.cons (o := { dst := some 7, op := .alloc 72, type := _, pos := _, after := _, guard := _ }) rfl (fun K hK => ?_) AllReadyH.nil
        go_simp
        have ba := (Below.refl w5.heap.size w5).alloc (Nat.le_refl _) (.cells #[.pointer none] 72)
        have HBn := Lib.hid (b2.trans (ba.mono b2.size))
        have HIn := Lib.hid (Is.new w5 72 #[.pointer none] rfl)
        have HKn := Lib.hid (k5.now ba)
        have HQn := Lib.hid (q5.now ba)
        have nf : w3.heap.size ≤ w5.heap.size := b2.size
        refine hK.out _ _ (HKS.out _ HBn.out) (fun hS2 => ?_)
        clear hK K
        try simp only [Act.put, List.setIfInBounds_toArray, List.set_cons_zero, List.set_cons_succ]
        generalize w5.alloc (.cells #[.pointer none] 72) = w6 at *
        have c80 : w6.cell? ⟨w5.heap.size, 0, none⟩ = some (.pointer none) := HIn.out.cell' rfl
        have f80 := HIn.out.frozen 0
        have l80 := HIn.out.lt
        have HIz := Lib.hid (HIn.out.set 0 (.pointer p5) rfl)
        have HKz := Lib.hid (HKn.out.store (i := 0) HIn.out (by decide) (by decide) (.pointer p5))
        have HQz := Lib.hid (HQn.out.keeps (Keeps.store (i := 0) HIn.out (by decide) (.pointer p5)))
        have HBz := Lib.hid (HBn.out.setCell (p := ⟨w5.heap.size, 0, none⟩) nf (.pointer p5))
        refine wpAnyH_ready (rs := [20]) (by kernel_rfl) (by simp) ?_
        refine AllReadyH.cons (o := { dst := none, op := .store 72 (.tmp 7) (.tmp 37), type := _, pos := _, after := _, guard := _ }) rfl (fun K hK => ?_) AllReadyH.nil
        go_simp
        refine hK.out _ _ (HKS.out _ HBz.out) (fun hS9 => ?_)
        clear hK K
        try simp only [Act.put, List.setIfInBounds_toArray, List.set_cons_zero, List.set_cons_succ]
        refine wpAnyH_take (i := 21) (oi := { dst := some 8, op := .assign (.tmp 38), type := _, pos := _, after := _, guard := _ }) (v := .slice A5 nc.length c5) rfl (by kernel_rfl) (by kernel_rfl) (by kernel_rfl) (fun _ _ _ h => h) (Or.inl ⟨by rfl, ?_⟩) hS9 ?_
        · intro w' hSw
          go_simp
        try simp only [Act.put, List.setIfInBounds_toArray, List.set_cons_zero, List.set_cons_succ]
        refine wpAnyH_take (i := 22) (oi := { dst := some 9, op := .assign (.tmp 39), type := _, pos := _, after := _, guard := _ }) (v := .int .i64 ne) rfl (by kernel_rfl) (by kernel_rfl) (by kernel_rfl) (fun _ _ _ h => h) (Or.inl ⟨by rfl, ?_⟩) hS9 ?_
        · intro w' hSw
          go_simp
        try simp only [Act.put, List.setIfInBounds_toArray, List.set_cons_zero, List.set_cons_succ]
        refine wpAnyH_done (by kernel_rfl) ?_ _
        go_wp2_with fail
        go_meet
        exact ⟨w5.heap.size, p5, A5, c5, rfl, rfl, rfl, nf, HIz.out, HKz.out, HQz.out, HBz.out⟩
      · refine AllReadyH.cons (o := { dst := some 7, op := .alloc 72, type := _, pos := _, after := _, guard := _ }) rfl (fun K hK => ?_) AllReadyH.nil
        go_simp
        have ba : Below w3.heap.size w3 (w3.alloc (.cells #[.pointer none] 72)).drew := Law.below_drewN ((Below.refl w3.heap.size w3).alloc (Nat.le_refl _) (.cells #[.pointer none] 72)) 1
        have HI4 : Hid (Is (w3.alloc (.cells #[.pointer none] 72)).drew w3.heap.size 72 #[.pointer none]) := (Is.new w3 72 #[.pointer none] rfl).drewN 1
        refine hK.out _ _ (HKS.out _ ba) (fun hS2 => ?_)
        clear hK K
        try simp only [Act.put, List.setIfInBounds_toArray, List.set_cons_zero, List.set_cons_succ]
        generalize (w3.alloc (.cells #[.pointer none] 72)).drew = w4 at *
        refine wpAnyH_ready (rs := [14]) (by kernel_rfl) (by simp) ?_
        refine AllReadyH.cons (o := { dst := some 36, op := .call { callee := .value (.func 73), args := #[.tmp 25, .tmp 26, .tmp 31, .tmp 35], argTypes := #[72, 37, 22, 3] }, type := _, pos := _, after := _, guard := _ }) rfl (fun K hK => ?_) AllReadyH.nil
        go_simp
        refine Calls.mono (HWR.out _ ba) ?_
        rintro e w5 ⟨p5, A5, c5, rfl, k5, q5, b1⟩
        have HBn := Lib.hid (ba.trans (Below.mono b1 ba.size))
        have HIn := Lib.hid (HI4.out.below b1 HI4.out.lt)
        have HKn := Lib.hid k5
        have HQn := Lib.hid q5
        have nf : w3.heap.size ≤ w3.heap.size := Nat.le_refl _
        go_wp2_with fail
        refine hK.out _ _ (HKS.out _ HBn.out) (fun hS1 => ?_)
        clear hK K
        try simp only [Act.put, List.setIfInBounds_toArray, List.set_cons_zero, List.set_cons_succ]
        refine wpAnyH_take (i := 15) (oi := { dst := some 21, op := .move (.tmp 36), type := _, pos := _, after := _, guard := _ }) (v := .tuple #[.agg #[.pointer p5], .slice A5 nc.length c5, .int .i64 ne]) rfl (by kernel_rfl) (by kernel_rfl) (by kernel_rfl) (fun _ _ _ h => h) (Or.inl ⟨by rfl, ?_⟩) hS1 ?_
        · intro w' hSw
          go_simp
        try simp only [Act.put, List.setIfInBounds_toArray, List.set_cons_zero, List.set_cons_succ]
        refine wpAnyH_take (i := 16) (oi := { dst := some 37, op := .extract (.tmp 21) 0, type := _, pos := _, after := _, guard := _ }) (v := .agg #[.pointer p5]) rfl (by kernel_rfl) (by kernel_rfl) (by kernel_rfl) (fun _ _ _ h => h) (Or.inl ⟨by rfl, ?_⟩) hS1 ?_
        · intro w' hSw
          go_simp
        try simp only [Act.put, List.setIfInBounds_toArray, List.set_cons_zero, List.set_cons_succ]
        refine wpAnyH_take (i := 17) (oi := { dst := some 38, op := .extract (.tmp 21) 1, type := _, pos := _, after := _, guard := _ }) (v := .slice A5 nc.length c5) rfl (by kernel_rfl) (by kernel_rfl) (by kernel_rfl) (fun _ _ _ h => h) (Or.inl ⟨by rfl, ?_⟩) hS1 ?_
        · intro w' hSw
          go_simp
        try simp only [Act.put, List.setIfInBounds_toArray, List.set_cons_zero, List.set_cons_succ]
        refine wpAnyH_take (i := 18) (oi := { dst := some 39, op := .extract (.tmp 21) 2, type := _, pos := _, after := _, guard := _ }) (v := .int .i64 ne) rfl (by kernel_rfl) (by kernel_rfl) (by kernel_rfl) (fun _ _ _ h => h) (Or.inl ⟨by rfl, ?_⟩) hS1 ?_
        · intro w' hSw
          go_simp
        try simp only [Act.put, List.setIfInBounds_toArray, List.set_cons_zero, List.set_cons_succ]
        have c80 : w5.cell? ⟨w3.heap.size, 0, none⟩ = some (.pointer none) := HIn.out.cell' rfl
        have f80 := HIn.out.frozen 0
        have l80 := HIn.out.lt
        have HIz := Lib.hid (HIn.out.set 0 (.pointer p5) rfl)
        have HKz := Lib.hid (HKn.out.store (i := 0) HIn.out (by decide) (by decide) (.pointer p5))
        have HQz := Lib.hid (HQn.out.keeps (Keeps.store (i := 0) HIn.out (by decide) (.pointer p5)))
        have HBz := Lib.hid (HBn.out.setCell (p := ⟨w3.heap.size, 0, none⟩) nf (.pointer p5))
        refine wpAnyH_ready (rs := [20]) (by kernel_rfl) (by simp) ?_
        refine AllReadyH.cons (o := { dst := none, op := .store 72 (.tmp 7) (.tmp 37), type := _, pos := _, after := _, guard := _ }) rfl (fun K hK => ?_) AllReadyH.nil
        go_simp
        refine hK.out _ _ (HKS.out _ HBz.out) (fun hS9 => ?_)
        clear hK K
        try simp only [Act.put, List.setIfInBounds_toArray, List.set_cons_zero, List.set_cons_succ]
        refine wpAnyH_take (i := 21) (oi := { dst := some 8, op := .assign (.tmp 38), type := _, pos := _, after := _, guard := _ }) (v := .slice A5 nc.length c5) rfl (by kernel_rfl) (by kernel_rfl) (by kernel_rfl) (fun _ _ _ h => h) (Or.inl ⟨by rfl, ?_⟩) hS9 ?_
        · intro w' hSw
          go_simp
        try simp only [Act.put, List.setIfInBounds_toArray, List.set_cons_zero, List.set_cons_succ]
        refine wpAnyH_take (i := 22) (oi := { dst := some 9, op := .assign (.tmp 39), type := _, pos := _, after := _, guard := _ }) (v := .int .i64 ne) rfl (by kernel_rfl) (by kernel_rfl) (by kernel_rfl) (fun _ _ _ h => h) (Or.inl ⟨by rfl, ?_⟩) hS9 ?_
        · intro w' hSw
          go_simp
        try simp only [Act.put, List.setIfInBounds_toArray, List.set_cons_zero, List.set_cons_succ]
        refine wpAnyH_done (by kernel_rfl) ?_ _
        go_wp2_with fail
        go_meet
        exact ⟨w3.heap.size, p5, A5, c5, rfl, rfl, rfl, nf, HIz.out, HKz.out, HQz.out, HBz.out⟩
    case rest =>
      obtain ⟨gn, p5, A5, c5, rfl, rfl, rfl, hgn, hI, hK, hQ, hB⟩ := hcut
      have bd := Below.refl wc.heap.size wc
      have HT4 : Hid (TabV wc base S m t c arr p g Sk { a with seq := Door.sat a.seq 1 }) := (HT3.out.below hB).below bd
      have HG4 : Hid (Gone w S wc S) := HG3.out.trans ((Gone.of_below hB).trans (Gone.of_below bd))
      have HK4 : Hid (Booked wc p5 nb) := hK.now bd
      have HQ4 : Hid (Lain 185 wc A5 (flatC nc)) := hQ.now bd
      have z0 := hI.cell' (i := 0) rfl
      have z1 := hI.lt
      have hbw4 : base ≤ wc.heap.size := Nat.le_trans hbw3 hB.size
      clear hI hK hQ hB bd HT3 HG3 HI3 HKS HWR
      obtain rfl : a.take.become k nb nc (Door.sat a.seq 1) = a' := HA.out
      obtain rfl : ne = er := HR.out
      go_wp2_with fail
      refine (become_ (k := k) HT4.out hbw4 hlt HK4.out HQ4.out _ (fun i hi => by have := HO.out.que k hlt i hi; show ((a.fd k).que i).length + _ ≤ _; omega)).mono ?_
      rintro e w4 ⟨rfl, S', arr', p', Sk', h4, g4⟩
      have H4 := Lib.hid h4
      have G4 := Lib.hid (HG4.out.trans g4)
      clear h4 g4
      go_wp2_with fail
      go_ret
      exact ⟨rfl, S', ⟨_, _, _, _, _, _, H4.out⟩, G4.out⟩
end
end Mod
end Go.Proofs.YtohdlnefgieenaaGreat
/-
  What the table's (layer 10) watched and watch come to.
-/
namespace Go.Proofs.YtohdlnefgieenaaGreat
open Go.RowKit Go.Shelf
attribute [local go_sem] Oper.semAt_some
namespace Mod
open Go.Law Feed Bk
section
variable {w w' : World} {base m t c b : Nat} {S S' : Nat → Prop} {arr : Array Value} {p : Nat → Option Addr} {g : Nat → Nat} {Sk : Nat → Nat → Prop} {a : Mo}
def watchedUpto (a : Mo) (who j : Nat) : Nat := ((List.range j).map fun k => ((a.fd k).wat who).length).sum
theorem watchedUpto_next (a : Mo) (who j : Nat) : watchedUpto a who (j + 1) = watchedUpto a who j + ((a.fd j).wat who).length := by unfold watchedUpto; rw [List.range_succ, List.map_append, List.sum_append]; simp
theorem watchedUpto_le (ho : a.Ok b) {who : Nat} (hw : who < 8) : ∀ {j : Nat}, j ≤ a.n → watchedUpto a who j ≤ j * b
  | 0, _ => by simp [watchedUpto]
  | j + 1, hj => by
    have h1 := watchedUpto_le ho hw (j := j) (by omega)
    have h2 := ho.wat j (by omega) who hw
    rw [watchedUpto_next, Nat.add_mul, Nat.one_mul]
    omega
theorem watchedUpto_small (ho : a.Ok b) (hb : b ≤ 380) {who : Nat} (hw : who < 8) {j : Nat} (hj : j ≤ a.n) : watchedUpto a who j ≤ 3040 :=
  Nat.le_trans (watchedUpto_le ho hw hj) (Nat.mul_le_mul (Nat.le_trans hj ho.n8) hb)
set_option maxRecDepth 100000 in
set_option maxHeartbeats 1000000 in
theorem watched (h : Tab w base S m a) (ho : a.Ok b) (hb : b ≤ 380) {who : Nat} (hw : who < 8) {n : Int} (hn : (a.watched who : Int) = n) :
    Calls Tryz.prog 78 #[.pointer (some ⟨m, 0, none⟩), .int .i64 (who : Int)] w fun e w' => e = .returned (.int .i64 n) ∧ Below w.heap.size w w' := by
  obtain ⟨t, c, arr, p, g, Sk, h⟩ := h
  have c5 : w.cell? ⟨m, 5, none⟩ = some (.slice (some ⟨t, 0, none⟩) a.n c) := h.box.cell' rfl
  have l1 := h.box.lt
  have H := Lib.hid h
  have HO := Lib.hid ho
  have HN : Hid ((watchedUpto a who a.n : Int) = n) := hn
  have hn8 := ho.n8
  clear h ho hn
  go_enter Tryz.func78, Tryz.ntmps78
  go_wp2_with fail
  go_loopw [5, 13] (fun vn vi wr => ∃ j : Nat, j ≤ a.n ∧ vi = .int .i64 j ∧ vn = .int .i64 (watchedUpto a who j : Int) ∧ Below w.heap.size w wr) (fun _ vi _ => a.n - (intOf vi).toNat)
  case atStart => exact ⟨0, Nat.zero_le _, rfl, rfl, Below.refl _ _⟩
  case round =>
    obtain ⟨j, hj, rfl, rfl, hB⟩ := hrel
    have HB := Lib.hid hB
    have H1 := Lib.hid (H.out.below hB)
    have sz := hB.size
    clear hB
    by_cases hlt : j < a.n
    · have d1 : decide ((j : Int) < (a.n : Int)) = true := by simp; omega
      have e0 : World.cell? _ ⟨t, j * 2, none⟩ = some (.pointer (p j)) := (H1.out.row.cell _).trans (H1.out.bkc j hlt)
      have e1 : World.cell? _ ⟨t, j * 2 + 1, none⟩ = some (.pointer (some ⟨g j, 0, none⟩)) := (H1.out.row.cell _).trans (H1.out.fdc j hlt)
      have l2 := H1.out.row.lt
      have HNX := Lib.hid (watchedUpto_next a who j)
      have bb := (Below.refl wr.heap.size wr).alloc (Nat.le_refl _) (.cells #[.pointer (p j), .pointer (some ⟨g j, 0, none⟩)] 74)
      have HK := Lib.hid ((H1.out.feed j hlt).below bb)
      have HB2 := Lib.hid (HB.out.trans (bb.mono sz))
      have hfb := watchedUpto_small HO.out hb hw (j := j) (by omega)
      have hfb2 := watchedUpto_small HO.out hb hw (j := j + 1) (by omega)
      rw [HNX.out] at hfb2
      clear bb
      go_wp2_with fail
      refine (countE HK.out rfl hw rfl).mono ?_
      rintro e w2 ⟨rfl, b2⟩
      have HB3 := Lib.hid (HB2.out.trans (b2.mono HB2.out.size))
      clear b2
      go_wp2_with fail
      go_roundw
      case rel => exact ⟨j + 1, by omega, by go_num, by rw [HNX.out]; go_num, HB3.out⟩
      case measure => simp [intOf]; omega
    · obtain rfl : j = a.n := by omega
      have d1 : decide ((a.n : Int) < (a.n : Int)) = false := by simp
      have HN2 := HN.out
      go_wp2_with fail
      go_ret
      exact ⟨by rw [HN2]; rfl, HB.out⟩
set_option maxRecDepth 100000 in
set_option maxHeartbeats 1000000 in
theorem watch (h : Tab w base S m a) (ho : a.Ok b) (hb : b ≤ 380) {who : Nat} (hw : who < 8) (u : ByteArray) (hu : u.size ≤ maxLen) :
    Calls Tryz.prog 50 #[.pointer (some ⟨m, 0, none⟩), .int .i64 (who : Int), .string u] w (Did w base S m (a.watch who u).1 (a.watch who u).2) := by
  obtain ⟨a', ha'⟩ : ∃ a', (a.watch who u).1 = a' := ⟨_, rfl⟩
  obtain ⟨er, her⟩ : ∃ er, (a.watch who u).2 = er := ⟨_, rfl⟩
  rw [ha', her]
  have HA := Lib.hid ha'
  have HR := Lib.hid her
  clear ha' her
  obtain ⟨t, c, arr, p, g, Sk, h⟩ := h
  have hn1 := ho.n1
  have hn8 := ho.n8
  have HO := Lib.hid ho
  have H := Lib.hid h
  obtain ⟨k, hk⟩ : ∃ k, str u a.n = k := ⟨_, rfl⟩
  have hlt : k < a.n := hk ▸ str_lt u hn1
  have HK := Lib.hid hk
  clear h ho hk
  go_enter Tryz.func50, Tryz.ntmps50
  go_wp2_with fail
  refine (of_ H.out u hu hn1 hn8 HK.out).mono ?_
  rintro e w3 ⟨rfl, b3⟩
  have HT3 := Lib.hid (H.out.below b3)
  have HG3 : Hid (Gone w S w3 S) := Gone.of_below b3
  have l3 := HT3.out.row.lt
  have d1 : w3.cell? ⟨t, k * 2 + 1, none⟩ = some (.pointer (some ⟨g k, 0, none⟩)) := (HT3.out.row.cell _).trans (HT3.out.fdc k hlt)
  have d2 : w3.cell? ⟨m, 1, none⟩ = some (.int .i64 a.lim) := HT3.out.box.cell' rfl
  obtain ⟨bw, hbw⟩ : ∃ bw, (a.fd k).has who u = bw := ⟨_, rfl⟩
  obtain ⟨nn, hnn⟩ : ∃ nn : Int, (a.watched who : Int) = nn := ⟨_, rfl⟩
  have HWE : Hid (a.watch who u = if bw = false ∧ a.lim ≤ nn then (a, 4) else (a.feed1 k { a.fd k with wat := upd (a.fd k).wat who (putK OmapU.lt u 0 ((a.fd k).wat who)) }, 0)) := by show _ = _; unfold Mo.watch; rw [show str u a.n = k from HK.out, hbw, hnn]
  rw [HWE.out] at HA HR
  have hwl := HO.out.wat k hlt who hw
  have bd := Law.below_drewN (Below.refl w3.heap.size w3) 1
  have HT4 : Hid (TabV w3.drew base S m t c arr p g Sk a) := HT3.out.below bd
  have HG4 : Hid (Gone w S w3.drew S) := HG3.out.trans (Gone.of_below bd)
  have d4 : w3.drew.cell? ⟨m, 1, none⟩ = some (.int .i64 a.lim) := d2
  have l4 : m < w3.drew.heap.size := HT4.out.box.lt
  have HBW := Lib.hid hbw
  have HNN := Lib.hid hnn
  clear HWE HT3 HG3 bd hbw hnn
  go_upto_region 2 with (fail)
  cases bw with
  | true =>
    rw [if_neg (fun h => Bool.noConfusion h.1)] at HA HR
    obtain rfl := HA.out
    obtain rfl := HR.out
    refine wp_region_held_drew (S := fun _ => True) (by kernel_rfl) trivial (fun hS0 => ?_)
    refine wpAnyH_take (i := 0) (oi := { dst := some 14, op := .move (.tmp 7), type := _, pos := _, after := _, guard := _ }) (v := .pointer (some ⟨g k, 0, none⟩)) rfl (by kernel_rfl) (by kernel_rfl) (by kernel_rfl) (fun _ _ _ h => h) (Or.inl ⟨by rfl, ?_⟩) hS0 ?_
    · intro w' hSw
      go_simp
    try simp only [Act.put, List.setIfInBounds_toArray, List.set_cons_zero, List.set_cons_succ]
    refine wpAnyH_take (i := 1) (oi := { dst := some 15, op := .move (.tmp 1), type := _, pos := _, after := _, guard := _ }) (v := .int .i64 (who : Int)) rfl (by kernel_rfl) (by kernel_rfl) (by kernel_rfl) (fun _ _ _ h => h) (Or.inl ⟨by rfl, ?_⟩) hS0 ?_
    · intro w' hSw
      go_simp
    try simp only [Act.put, List.setIfInBounds_toArray, List.set_cons_zero, List.set_cons_succ]
    refine wpAnyH_take (i := 2) (oi := { dst := some 16, op := .move (.tmp 2), type := _, pos := _, after := _, guard := _ }) (v := .string u) rfl (by kernel_rfl) (by kernel_rfl) (by kernel_rfl) (fun _ _ _ h => h) (Or.inl ⟨by rfl, ?_⟩) hS0 ?_
    · intro w' hSw
      go_simp
    try simp only [Act.put, List.setIfInBounds_toArray, List.set_cons_zero, List.set_cons_succ]
    generalize w3.drew = w4 at *
    refine wpAnyH_ready (rs := [3]) (by kernel_rfl) (by simp) ?_
    refine AllReadyH.cons (o := { dst := some 17, op := .call { callee := .value (.func 77), args := #[.tmp 14, .tmp 15, .tmp 16], argTypes := _ }, type := _, pos := _, after := _, guard := _ }) rfl (fun K hK => ?_) AllReadyH.nil
    go_simp
    refine Calls.mono (watchingE (k := who) (HT4.out.feed k hlt) rfl hw u HBW.out) ?_
    rintro e w5 ⟨rfl, b5⟩
    have HT5 := Lib.hid (HT4.out.below b5)
    have HG5 := Lib.hid (HG4.out.trans (Gone.of_below b5))
    go_wp2_with fail
    refine hK.out _ _ trivial (fun hS1 => ?_)
    clear hK K
    try simp only [Act.put, List.setIfInBounds_toArray, List.set_cons_zero, List.set_cons_succ]
    refine wpAnyH_take (i := 4) (oi := { dst := some 18, op := .unOp .not 4 (.tmp 17), type := _, pos := _, after := _, guard := _ }) (v := .bool false) rfl (by kernel_rfl) (by kernel_rfl) (by kernel_rfl) (fun _ _ _ h => h) (Or.inl ⟨by rfl, ?_⟩) hS1 ?_
    · intro w' hSw
      go_simp
    try simp only [Act.put, List.setIfInBounds_toArray, List.set_cons_zero, List.set_cons_succ]
    refine wpAnyH_take (i := 5) (oi := { dst := some 19, op := .move (.tmp 18), type := _, pos := _, after := _, guard := _ }) (v := .bool false) rfl (by kernel_rfl) (by kernel_rfl) (by kernel_rfl) (fun _ _ _ h => h) (Or.inl ⟨by rfl, ?_⟩) hS1 ?_
    · intro w' hSw
      go_simp
    try simp only [Act.put, List.setIfInBounds_toArray, List.set_cons_zero, List.set_cons_succ]
    refine wpAnyH_take (i := 6) (oi := { dst := some 20, op := .move (.tmp 0), type := _, pos := _, after := _, guard := _ }) (v := undef) rfl (by kernel_rfl) (by kernel_rfl) (by kernel_rfl) (fun _ _ _ h => h) (Or.inr ⟨by rfl, rfl⟩) hS1 ?_
    try simp only [Act.put, List.setIfInBounds_toArray, List.set_cons_zero, List.set_cons_succ]
    refine wpAnyH_take (i := 7) (oi := { dst := some 21, op := .move (.tmp 1), type := _, pos := _, after := _, guard := _ }) (v := undef) rfl (by kernel_rfl) (by kernel_rfl) (by kernel_rfl) (fun _ _ _ h => h) (Or.inr ⟨by rfl, rfl⟩) hS1 ?_
    try simp only [Act.put, List.setIfInBounds_toArray, List.set_cons_zero, List.set_cons_succ]
    refine wpAnyH_take (i := 8) (oi := { dst := some 22, op := .call _, type := _, pos := _, after := _, guard := _ }) (v := undef) rfl (by kernel_rfl) (by kernel_rfl) (by kernel_rfl) (fun _ _ _ h => h) (Or.inr ⟨by rfl, rfl⟩) hS1 ?_
    try simp only [Act.put, List.setIfInBounds_toArray, List.set_cons_zero, List.set_cons_succ]
    refine wpAnyH_take (i := 9) (oi := { dst := some 23, op := .move (.tmp 0), type := _, pos := _, after := _, guard := _ }) (v := undef) rfl (by kernel_rfl) (by kernel_rfl) (by kernel_rfl) (fun _ _ _ h => h) (Or.inr ⟨by rfl, rfl⟩) hS1 ?_
    try simp only [Act.put, List.setIfInBounds_toArray, List.set_cons_zero, List.set_cons_succ]
    refine wpAnyH_take (i := 10) (oi := { dst := some 24, op := .nilCheck (.tmp 23), type := _, pos := _, after := _, guard := _ }) (v := undef) rfl (by kernel_rfl) (by kernel_rfl) (by kernel_rfl) (fun _ _ _ h => h) (Or.inr ⟨by rfl, rfl⟩) hS1 ?_
    try simp only [Act.put, List.setIfInBounds_toArray, List.set_cons_zero, List.set_cons_succ]
    refine wpAnyH_take (i := 11) (oi := { dst := some 25, op := .fieldAddr 67 (.tmp 24) 1, type := _, pos := _, after := _, guard := _ }) (v := undef) rfl (by kernel_rfl) (by kernel_rfl) (by kernel_rfl) (fun _ _ _ h => h) (Or.inr ⟨by rfl, rfl⟩) hS1 ?_
    try simp only [Act.put, List.setIfInBounds_toArray, List.set_cons_zero, List.set_cons_succ]
    refine wpAnyH_take (i := 12) (oi := { dst := some 26, op := .load 3 (.tmp 25), type := _, pos := _, after := _, guard := _ }) (v := undef) rfl (by kernel_rfl) (by kernel_rfl) (by kernel_rfl) (fun _ _ _ h => h) (Or.inr ⟨by rfl, rfl⟩) hS1 ?_
    try simp only [Act.put, List.setIfInBounds_toArray, List.set_cons_zero, List.set_cons_succ]
    refine wpAnyH_take (i := 13) (oi := { dst := some 27, op := .binOp .geq 3 (.tmp 22) (.tmp 26) 3, type := _, pos := _, after := _, guard := _ }) (v := undef) rfl (by kernel_rfl) (by kernel_rfl) (by kernel_rfl) (fun _ _ _ h => h) (Or.inr ⟨by rfl, rfl⟩) hS1 ?_
    try simp only [Act.put, List.setIfInBounds_toArray, List.set_cons_zero, List.set_cons_succ]
    refine wpAnyH_take (i := 14) (oi := { dst := some 28, op := .pick (.tmp 19) (.tmp 27) (.const (.bool false)), type := _, pos := _, after := _, guard := _ }) (v := .bool false) rfl (by kernel_rfl) (by kernel_rfl) (by kernel_rfl) (fun _ _ _ h => h) (Or.inl ⟨by rfl, ?_⟩) hS1 ?_
    · intro w' hSw
      go_simp
    try simp only [Act.put, List.setIfInBounds_toArray, List.set_cons_zero, List.set_cons_succ]
    refine wpAnyH_done (by kernel_rfl) ?_ _
    go_wp2_with fail
    refine (watchE (k := who) (HT5.out.feed k hlt) rfl hw u (by omega) rfl).mono ?_
    rintro e w7 ⟨rfl, hF, hW⟩
    have HT7 := Lib.hid (HT5.out.tell hlt hF hW)
    clear hF hW
    go_wp2_with fail
    go_ret
    exact ⟨rfl, _, ⟨_, _, _, _, _, _, HT7.out.1⟩, HG5.out.trans HT7.out.2⟩
  | false =>
    refine wp_region_held_drew (S := fun w' => w'.cell? ⟨m, 1, none⟩ = some (.int .i64 a.lim) ∧ m < w'.heap.size) (by kernel_rfl) ⟨d4, l4⟩ (fun hS0 => ?_)
    refine wpAnyH_take (i := 0) (oi := { dst := some 14, op := .move (.tmp 7), type := _, pos := _, after := _, guard := _ }) (v := .pointer (some ⟨g k, 0, none⟩)) rfl (by kernel_rfl) (by kernel_rfl) (by kernel_rfl) (fun _ _ _ h => h) (Or.inl ⟨by rfl, ?_⟩) hS0 ?_
    · intro w' hSw
      go_simp
    try simp only [Act.put, List.setIfInBounds_toArray, List.set_cons_zero, List.set_cons_succ]
    refine wpAnyH_take (i := 1) (oi := { dst := some 15, op := .move (.tmp 1), type := _, pos := _, after := _, guard := _ }) (v := .int .i64 (who : Int)) rfl (by kernel_rfl) (by kernel_rfl) (by kernel_rfl) (fun _ _ _ h => h) (Or.inl ⟨by rfl, ?_⟩) hS0 ?_
    · intro w' hSw
      go_simp
    try simp only [Act.put, List.setIfInBounds_toArray, List.set_cons_zero, List.set_cons_succ]
    refine wpAnyH_take (i := 2) (oi := { dst := some 16, op := .move (.tmp 2), type := _, pos := _, after := _, guard := _ }) (v := .string u) rfl (by kernel_rfl) (by kernel_rfl) (by kernel_rfl) (fun _ _ _ h => h) (Or.inl ⟨by rfl, ?_⟩) hS0 ?_
    · intro w' hSw
      go_simp
    try simp only [Act.put, List.setIfInBounds_toArray, List.set_cons_zero, List.set_cons_succ]
    generalize w3.drew = w4 at *
    refine wpAnyH_ready (rs := [3]) (by kernel_rfl) (by simp) ?_
    refine AllReadyH.cons (o := { dst := some 17, op := .call { callee := .value (.func 77), args := #[.tmp 14, .tmp 15, .tmp 16], argTypes := _ }, type := _, pos := _, after := _, guard := _ }) rfl (fun K hK => ?_) AllReadyH.nil
    go_simp
    refine Calls.mono (watchingE (k := who) (HT4.out.feed k hlt) rfl hw u HBW.out) ?_
    rintro e w5 ⟨rfl, b5⟩
    have HT5 := Lib.hid (HT4.out.below b5)
    have HG5 := Lib.hid (HG4.out.trans (Gone.of_below b5))
    go_wp2_with fail
    refine hK.out _ _ ⟨(b5.cell (p := ⟨m, 1, none⟩) l4).trans d4, Nat.lt_of_lt_of_le l4 b5.size⟩ (fun hS1 => ?_)
    clear hK K
    try simp only [Act.put, List.setIfInBounds_toArray, List.set_cons_zero, List.set_cons_succ]
    refine wpAnyH_take (i := 4) (oi := { dst := some 18, op := .unOp .not 4 (.tmp 17), type := _, pos := _, after := _, guard := _ }) (v := .bool true) rfl (by kernel_rfl) (by kernel_rfl) (by kernel_rfl) (fun _ _ _ h => h) (Or.inl ⟨by rfl, ?_⟩) hS1 ?_
    · intro w' hSw
      go_simp
    try simp only [Act.put, List.setIfInBounds_toArray, List.set_cons_zero, List.set_cons_succ]
    refine wpAnyH_take (i := 5) (oi := { dst := some 19, op := .move (.tmp 18), type := _, pos := _, after := _, guard := _ }) (v := .bool true) rfl (by kernel_rfl) (by kernel_rfl) (by kernel_rfl) (fun _ _ _ h => h) (Or.inl ⟨by rfl, ?_⟩) hS1 ?_
    · intro w' hSw
      go_simp
    try simp only [Act.put, List.setIfInBounds_toArray, List.set_cons_zero, List.set_cons_succ]
    refine wpAnyH_take (i := 6) (oi := { dst := some 20, op := .move (.tmp 0), type := _, pos := _, after := _, guard := _ }) (v := .pointer (some ⟨m, 0, none⟩)) rfl (by kernel_rfl) (by kernel_rfl) (by kernel_rfl) (fun _ _ _ h => h) (Or.inl ⟨by rfl, ?_⟩) hS1 ?_
    · intro w' hSw
      go_simp
    try simp only [Act.put, List.setIfInBounds_toArray, List.set_cons_zero, List.set_cons_succ]
    refine wpAnyH_take (i := 7) (oi := { dst := some 21, op := .move (.tmp 1), type := _, pos := _, after := _, guard := _ }) (v := .int .i64 (who : Int)) rfl (by kernel_rfl) (by kernel_rfl) (by kernel_rfl) (fun _ _ _ h => h) (Or.inl ⟨by rfl, ?_⟩) hS1 ?_
    · intro w' hSw
      go_simp
    try simp only [Act.put, List.setIfInBounds_toArray, List.set_cons_zero, List.set_cons_succ]
    refine wpAnyH_take (i := 9) (oi := { dst := some 23, op := .move (.tmp 0), type := _, pos := _, after := _, guard := _ }) (v := .pointer (some ⟨m, 0, none⟩)) rfl (by kernel_rfl) (by kernel_rfl) (by kernel_rfl) (fun _ _ _ h => h) (Or.inl ⟨by rfl, ?_⟩) hS1 ?_
    · intro w' hSw
      go_simp
    try simp only [Act.put, List.setIfInBounds_toArray, List.set_cons_zero, List.set_cons_succ]
    refine wpAnyH_take (i := 10) (oi := { dst := some 24, op := .nilCheck (.tmp 23), type := _, pos := _, after := _, guard := _ }) (v := .pointer (some ⟨m, 0, none⟩)) rfl (by kernel_rfl) (by kernel_rfl) (by kernel_rfl) (fun _ _ _ h => h) (Or.inl ⟨by rfl, ?_⟩) hS1 ?_
    · intro w' hSw
      go_simp
    try simp only [Act.put, List.setIfInBounds_toArray, List.set_cons_zero, List.set_cons_succ]
    refine wpAnyH_take (i := 11) (oi := { dst := some 25, op := .fieldAddr 67 (.tmp 24) 1, type := _, pos := _, after := _, guard := _ }) (v := .pointer (some ⟨m, 1, none⟩)) rfl (by kernel_rfl) (by kernel_rfl) (by kernel_rfl) (fun _ _ _ h => h) (Or.inl ⟨by rfl, ?_⟩) hS1 ?_
    · intro w' hSw
      go_simp
    try simp only [Act.put, List.setIfInBounds_toArray, List.set_cons_zero, List.set_cons_succ]
    refine wpAnyH_take (i := 12) (oi := { dst := some 26, op := .load 3 (.tmp 25), type := _, pos := _, after := _, guard := _ }) (v := .int .i64 a.lim) rfl (by kernel_rfl) (by kernel_rfl) (by kernel_rfl) (fun _ _ _ h => h) (Or.inl ⟨by rfl, ?_⟩) hS1 ?_
    · intro w' hSw
      obtain ⟨s1, s2⟩ := hSw
      go_simp
    try simp only [Act.put, List.setIfInBounds_toArray, List.set_cons_zero, List.set_cons_succ]
    refine wpAnyH_ready (rs := [8]) (by kernel_rfl) (by simp) ?_
    refine AllReadyH.cons (o := { dst := some 22, op := .call { callee := .value (.func 78), args := #[.tmp 20, .tmp 21], argTypes := _ }, type := _, pos := _, after := _, guard := _ }) rfl (fun K hK => ?_) AllReadyH.nil
    go_simp
    refine Calls.mono (watched ⟨_, _, _, _, _, _, HT5.out⟩ HO.out hb hw HNN.out) ?_
    rintro e w6 ⟨rfl, b6⟩
    have HT6 := Lib.hid (HT5.out.below b6)
    have HG6 := Lib.hid (HG5.out.trans (Gone.of_below b6))
    go_wp2_with fail
    refine hK.out _ _ ⟨(b6.cell (p := ⟨m, 1, none⟩) hS1.2).trans hS1.1, Nat.lt_of_lt_of_le hS1.2 b6.size⟩ (fun hS2 => ?_)
    clear hK K
    try simp only [Act.put, List.setIfInBounds_toArray, List.set_cons_zero, List.set_cons_succ]
    refine wpAnyH_take (i := 13) (oi := { dst := some 27, op := .binOp .geq 3 (.tmp 22) (.tmp 26) 3, type := _, pos := _, after := _, guard := _ }) (v := .bool (decide (a.lim ≤ nn))) rfl (by kernel_rfl) (by kernel_rfl) (by kernel_rfl) (fun _ _ _ h => h) (Or.inl ⟨by rfl, ?_⟩) hS2 ?_
    · intro w' hSw
      go_simp
    try simp only [Act.put, List.setIfInBounds_toArray, List.set_cons_zero, List.set_cons_succ]
    refine wpAnyH_take (i := 14) (oi := { dst := some 28, op := .pick (.tmp 19) (.tmp 27) (.const (.bool false)), type := _, pos := _, after := _, guard := _ }) (v := .bool (decide (a.lim ≤ nn))) rfl (by kernel_rfl) (by kernel_rfl) (by kernel_rfl) (fun _ _ _ h => h) (Or.inl ⟨by rfl, ?_⟩) hS2 ?_
    · intro w' hSw
      go_simp
    try simp only [Act.put, List.setIfInBounds_toArray, List.set_cons_zero, List.set_cons_succ]
    refine wpAnyH_done (by kernel_rfl) ?_ _
    by_cases hlim : a.lim ≤ nn
    · have dl : decide (a.lim ≤ nn) = true := by simpa using hlim
      rw [if_pos (by simpa using hlim)] at HA HR
      obtain rfl := HA.out
      obtain rfl := HR.out
      rw [dl]
      go_wp2_with fail
      go_ret
      exact ⟨rfl, S, ⟨_, _, _, _, _, _, HT6.out⟩, HG6.out⟩
    · have dl : decide (a.lim ≤ nn) = false := by simpa using hlim
      rw [if_neg (by simpa using hlim)] at HA HR
      obtain rfl := HA.out
      obtain rfl := HR.out
      rw [dl]
      go_wp2_with fail
      refine (watchE (k := who) (HT6.out.feed k hlt) rfl hw u (by omega) rfl).mono ?_
      rintro e w7 ⟨rfl, hF, hW⟩
      have HT7 := Lib.hid (HT6.out.tell hlt hF hW)
      clear hF hW
      go_wp2_with fail
      go_ret
      exact ⟨rfl, _, ⟨_, _, _, _, _, _, HT7.out.1⟩, HG6.out.trans HT7.out.2⟩
end
end Mod
end Go.Proofs.YtohdlnefgieenaaGreat
/-
  What slices.Clone at events and merge (layer 9) come to.
-/
namespace Go.Law
theorem flatE_ne {zs : List Ev} (h : zs ≠ []) : flatE zs ≠ [] := by
  intro h0
  have := flatE_length zs
  rw [h0] at this
  simp at this
  exact h (List.eq_nil_of_length_eq_zero (by omega))
theorem own_emptyE (w : World) {base : Nat} (e : TypeId) (hb : base ≤ w.heap.size) : (w.alloc (.cells #[] e)).ownsRow base e 8 (.slice (some ⟨w.heap.size, 0, none⟩) 0 0) 0 [] :=
  ⟨rfl, .inr ⟨w.heap.size, 0, #[], rfl, hb, heap_alloc_new w _, Nat.le_refl _, Nat.zero_le _, rfl, rfl⟩⟩
end Go.Law
namespace Go.Proofs.YtohdlnefgieenaaGreat
open Go.RowKit Go.Shelf
attribute [local go_sem] Oper.semAt_some
namespace Feed
open Go.Law
@[go_sem] theorem run_nil (n c : Nat) (w : World) : Sem.run Tryz.prog (binOp .eql 41 (.slice none n c) (.slice none 0 0)) w = .ok (.bool true) w := by kernel_rfl
@[go_sem] theorem run_not_nil (a : Addr) (n c : Nat) (w : World) : Sem.run Tryz.prog (binOp .eql 41 (.slice (some a) n c) (.slice none 0 0)) w = .ok (.bool false) w := by kernel_rfl
theorem tail_seq {w : World} {lo B : Nat} {b o : Nat} {x : Ev} {xs : List Ev} (h : Seq w lo B (some ⟨b, o, none⟩) (flatE (x :: xs))) : Seq w lo B (some ⟨b, o + 8, none⟩) (flatE xs) := fun hne => by
  have e : flatE (x :: xs) = cellsE x ++ flatE xs := by simp [flatE]
  obtain ⟨b', o', h0, h1, h2, h3⟩ := h (by rw [e]; simp [cellsE])
  obtain ⟨rfl, rfl, _⟩ := by simpa using h0
  refine ⟨b, o + 8, rfl, h1, h2, fun i u hu => ?_⟩
  have := h3 (8 + i) u (by rw [e, List.getElem?_append_right (by simp [cellsE])]; simpa [cellsE] using hu)
  rwa [← Nat.add_assoc] at this
theorem tail_if {w : World} {lo B : Nat} {b o c : Nat} {x : Ev} {xs : List Ev} (h : Seq w lo B (some ⟨b, o, none⟩) (flatE (x :: xs))) (hc : xs.length + 1 ≤ c) : Seq w lo B (if c = 1 then some ⟨b, o, none⟩ else some ⟨b, o + 8, none⟩) (flatE xs) := by
  by_cases e : c = 1
  · have : xs = [] := List.eq_nil_of_length_eq_zero (by omega)
    subst this
    exact fun h => absurd rfl h
  · rw [if_neg e]
    exact tail_seq h
def slen : Value → Nat
  | .slice _ n _ => n
  | _ => 0
/-- behind a call that answers these events in new memory -/
def Lists (w : World) (zs : List Ev) (e : Ending) (w' : World) : Prop := ∃ A c, e = .returned (.slice A zs.length c) ∧ zs.length ≤ c ∧ Seq w' w.heap.size w'.heap.size A (flatE zs) ∧ Below w.heap.size w w'
set_option maxHeartbeats 1000000 in
theorem clone (zs : List Ev) (A : Option Addr) (c : Nat) (w : World) (hs : Seq w 0 w.heap.size A (flatE zs)) (hl : zs.length ≤ 1000) :
    Calls Tryz.prog 99 #[.slice A zs.length c] w (Lists w zs) := by
  obtain ⟨i0, hE⟩ := RingE.elem
  have HE := Lib.hid hE
  have HS := Lib.hid hs
  clear hE hs
  cases A with
  | none =>
    have hz : zs = [] := Classical.byContradiction fun h => by
      obtain ⟨b, off, e, _⟩ := HS.out (flatE_ne h)
      cases e
    subst hz
    go_enter Tryz.func99, Tryz.ntmps99
    go_wp2_with fail
    go_ret
    exact ⟨none, 0, rfl, Nat.le_refl _, fun h => absurd rfl h, Below.refl _ _⟩
  | some a =>
    have HO := Lib.hid (own_emptyE w 63 (base := w.heap.size) (Nat.le_refl _))
    have HS1 := Lib.hid (HS.out.alloc (Nat.le_refl _) (.cells #[] 63))
    go_enter Tryz.func99, Tryz.ntmps99
    go_wp2_with (at_builtin; refine Law.wpList_append_seq _ w.heap.size 41 rfl _ _ rfl HE.out _ 0 [] rfl HO.out 0 w.heap.size (some a) zs.length c (flatE zs) rfl (flatE_length zs) HS1.out (flatE_one _) (by unfold maxLen; omega) (by omega) (by simp) ?_)
    intro v1 w1 hown hgrow
    have B1 : Below w.heap.size w w1 := ((Below.refl _ w).alloc (Nat.le_refl _) (.cells #[] 63)).grown hgrow (by simp) (fun k hk => by have h9 : w.heap.size = k := Option.some.inj hk; omega)
    have OW : w1.ownsRow w.heap.size 63 8 v1 zs.length (flatE zs) := by simpa using hown
    obtain ⟨A1, c1, rfl, hc1⟩ := own_shape OW
    have HB := Lib.hid B1
    have HW := Lib.hid OW
    clear hown hgrow B1 OW HO HS1
    go_wp2_with fail
    go_ret
    exact ⟨A1, c1, rfl, hc1, Seq.own HW.out, HB.out⟩
/-- on the way of a merge: what is left of both, and what there is so far -/
def Mid (w : World) (us bs : List Ev) (va vb vm : Value) (wr : World) : Prop := ∃ (xs ys dn : List Ev) (A' B' : Option Addr) (ca' cb' : Nat), va = .slice A' xs.length ca' ∧ vb = .slice B' ys.length cb' ∧ xs.length ≤ ca' ∧ ys.length ≤ cb' ∧ Seq w 0 w.heap.size A' (flatE xs) ∧ Seq w 0 w.heap.size B' (flatE ys) ∧ wr.ownsRow w.heap.size 63 8 vm dn.length (flatE dn) ∧ Below w.heap.size w wr ∧ mrg us bs = dn ++ mrg xs ys ∧ dn.length + (xs.length + ys.length) ≤ 500
set_option maxRecDepth 100000 in
set_option maxHeartbeats 4000000 in
theorem merge (us bs : List Ev) (A B : Option Addr) (ca cb : Nat) (w : World) (ha : Seq w 0 w.heap.size A (flatE us)) (hb : Seq w 0 w.heap.size B (flatE bs)) (hca : us.length ≤ ca) (hcb : bs.length ≤ cb) (hl : us.length + bs.length ≤ 500) :
    Calls Tryz.prog 100 #[.slice A us.length ca, .slice B bs.length cb] w (Lists w (mrg us bs)) := by
  obtain ⟨i0, hE⟩ := RingE.elem
  have HE := Lib.hid hE
  have HA := Lib.hid ha
  have HB := Lib.hid hb
  clear hE ha hb
  obtain ⟨n0, hn0⟩ : ∃ n : Nat, us.length + bs.length = n := ⟨_, rfl⟩
  go_enter Tryz.func100, Tryz.ntmps100
  go_wp2_with (at_make; refine wpList_make_own _ rfl _ _ 41 rfl w.heap.size 63 i0 (.agg #[.string ⟨#[]⟩, .int .i64 0, .int .i64 0, .int .i64 0, .int .i64 0, .int .i64 0, .int .i64 0, .int .u64 0]) 8 HE.out.ut HE.out.info HE.out.zero HE.out.sz .i64 .i64 _ n0 rfl rfl (by first | omega | (simp; omega)) (by rw [HE.out.by_]; omega) (by unfold maxLen; omega) (Nat.le_refl _) ?_; intro w1 hown hgrow)
  have B1 : Below w.heap.size w w1 := (Below.refl _ w).grown hgrow (Nat.le_refl _) (by simp)
  have HB1 := Lib.hid B1
  have HO1 := Lib.hid hown
  clear B1 hown hgrow
  go_loopw [0, 1, 5] (fun va vb vm wr => Mid w us bs va vb vm wr) (fun va vb _ _ => slen va + slen vb)
  case atStart => exact ⟨us, bs, [], A, B, ca, cb, rfl, rfl, hca, hcb, HA.out, HB.out, HO1.out, HB1.out, rfl, by simp; omega⟩
  case round =>
    clear HA HB HB1 HO1
    obtain ⟨xs, ys, dn, A', B', ca', cb', rfl, rfl, hca', hcb', hA, hB, hO, hBel, hM, hN⟩ := hrel
    have HA := Lib.hid hA
    have HB := Lib.hid hB
    have HO := Lib.hid hO
    have HBel := Lib.hid hBel
    have HM := Lib.hid hM
    have sz := hBel.size
    clear hA hB hO hBel hM
    cases xs with
    | nil =>
      have HM2 : Hid (mrg us bs = dn ++ ([] : List Ev) ++ ys) := by show _ = _; rw [HM.out, mrg_nil]; simp
      have HA1 := Lib.hid (HA.out.below HBel.out)
      simp only [List.length_nil] at hN
      obtain ⟨D, cd, rfl, hcd⟩ := own_shape HO.out
      go_wp2_with (first | (at_builtin; refine Law.wpList_append_seq _ w.heap.size 41 rfl _ _ rfl HE.out _ (dn.length) (flatE dn) rfl HO.out 0 w.heap.size A' _ _ (flatE ([] : List Ev)) rfl (flatE_length ([] : List Ev)) HA1.out (flatE_one _) (by unfold maxLen; first | omega | (simp; omega)) (by first | omega | (simp; omega)) (by omega) ?_; intro v1 z1 hown1 hg1; have hb1 := HBel.out.grown hg1 sz (fun k hk => (HO.out.lt k hk).1); have HBL1 := Lib.hid hb1; have HO1 := Lib.hid hown1; have HB1 := Lib.hid (HB.out.below hb1); have sz1 := hb1.size; obtain ⟨D1, cd1, hD1, hcd1⟩ := own_shape hown1; subst hD1; clear hown1 hg1 hb1) | (at_builtin; refine Law.wpList_append_seq _ w.heap.size 41 rfl _ _ rfl HE.out _ (dn.length + ([] : List Ev).length) (flatE dn ++ flatE ([] : List Ev)) rfl HO1.out 0 w.heap.size B' _ _ (flatE ys) rfl (flatE_length ys) HB1.out (flatE_one _) (by unfold maxLen; first | omega | (simp; omega)) (by first | omega | (simp; omega)) (by omega) ?_; intro v2 z2 hown2 hg2; have hb2 := HBL1.out.grown hg2 sz1 (fun k hk => (HO1.out.lt k hk).1); have HBL2 := Lib.hid hb2; have HO2 := Lib.hid hown2; obtain ⟨D2, cd2, hD2, hcd2⟩ := own_shape hown2; subst hD2; clear hown2 hg2 hb2))
      go_ret
      refine ⟨D2, cd2, ?_, ?_, ?_, HBL2.out⟩
      · rw [HM2.out]; simp
      · rw [HM2.out]; simpa using hcd2
      · rw [HM2.out, flatE_app, flatE_app]; exact Seq.own HO2.out
    | cons x xs =>
      cases ys with
      | nil =>
        have HM2 : Hid (mrg us bs = dn ++ (x :: xs) ++ ([] : List Ev)) := by show _ = _; rw [HM.out, mrg_nil']; simp
        have HA1 := Lib.hid (HA.out.below HBel.out)
        simp only [List.length_cons, List.length_nil] at hN
        obtain ⟨D, cd, rfl, hcd⟩ := own_shape HO.out
        go_wp2_with (first | (at_builtin; refine Law.wpList_append_seq _ w.heap.size 41 rfl _ _ rfl HE.out _ (dn.length) (flatE dn) rfl HO.out 0 w.heap.size A' _ _ (flatE (x :: xs)) rfl (flatE_length (x :: xs)) HA1.out (flatE_one _) (by unfold maxLen; first | omega | (simp; omega)) (by first | omega | (simp; omega)) (by omega) ?_; intro v1 z1 hown1 hg1; have hb1 := HBel.out.grown hg1 sz (fun k hk => (HO.out.lt k hk).1); have HBL1 := Lib.hid hb1; have HO1 := Lib.hid hown1; have HB1 := Lib.hid (HB.out.below hb1); have sz1 := hb1.size; obtain ⟨D1, cd1, hD1, hcd1⟩ := own_shape hown1; subst hD1; clear hown1 hg1 hb1) | (at_builtin; refine Law.wpList_append_seq _ w.heap.size 41 rfl _ _ rfl HE.out _ (dn.length + (x :: xs).length) (flatE dn ++ flatE (x :: xs)) rfl HO1.out 0 w.heap.size B' _ _ (flatE ([] : List Ev)) rfl (flatE_length ([] : List Ev)) HB1.out (flatE_one _) (by unfold maxLen; first | omega | (simp; omega)) (by first | omega | (simp; omega)) (by omega) ?_; intro v2 z2 hown2 hg2; have hb2 := HBL1.out.grown hg2 sz1 (fun k hk => (HO1.out.lt k hk).1); have HBL2 := Lib.hid hb2; have HO2 := Lib.hid hown2; obtain ⟨D2, cd2, hD2, hcd2⟩ := own_shape hown2; subst hD2; clear hown2 hg2 hb2))
        go_ret
        refine ⟨D2, cd2, ?_, ?_, ?_, HBL2.out⟩
        · rw [HM2.out]; simp
        · rw [HM2.out]; simpa using hcd2
        · rw [HM2.out, flatE_app, flatE_app]; exact Seq.own HO2.out
      | cons y ys =>
        obtain ⟨ga, oa, rfl, _, hga, p0, p1, p2, p3, p4, p5, p6, p7⟩ := (HA.out.below HBel.out).ev (i := 0) (by simp)
        obtain ⟨gb, ob, rfl, _, hgb, q0, q1, q2, q3, q4, q5, q6, q7⟩ := (HB.out.below HBel.out).ev (i := 0) (by simp)
        simp only [List.getElem_cons_zero, Nat.zero_mul, Nat.add_zero] at p0 p1 p2 p3 p4 p5 p6 p7 q0 q1 q2 q3 q4 q5 q6 q7
        have lga : ga < wr.heap.size := by omega
        have lgb : gb < wr.heap.size := by omega
        simp only [List.length_cons] at hca' hcb' hN
        obtain ⟨D, cd, rfl, hcd⟩ := own_shape HO.out
        simp only [List.length_cons]
        go_wp2_with fail
        go_quiet (fail)
        by_cases hlt : y.sq < x.sq
        · skip
          have d2 : decide (y.sq < x.sq) = true := by simp; omega
          have HM2 : Hid (mrg us bs = (dn ++ [y]) ++ mrg (x :: xs) ys) := by show _ = _; rw [HM.out, mrg_cons, if_pos hlt]; simp
          go_wp2_with fail
          have hbq : Below wr.heap.size wr (wr.drewN nq) := Law.below_drewN (Below.refl _ wr) nq
          have HO2 := Lib.hid (own_below HO.out hbq)
          have HB2 := Lib.hid (HBel.out.trans (hbq.mono sz))
          have hz2 : w.heap.size ≤ (wr.drewN nq).heap.size := sz
          have lg2 : gb < (wr.drewN nq).heap.size := lgb
          have r0 := (hbq.cell (p := ⟨gb, ob, none⟩) lgb).trans q0
          have r1 := (hbq.cell (p := ⟨gb, ob + 1, none⟩) lgb).trans q1
          have r2 := (hbq.cell (p := ⟨gb, ob + 2, none⟩) lgb).trans q2
          have r3 := (hbq.cell (p := ⟨gb, ob + 3, none⟩) lgb).trans q3
          have r4 := (hbq.cell (p := ⟨gb, ob + 4, none⟩) lgb).trans q4
          have r5 := (hbq.cell (p := ⟨gb, ob + 5, none⟩) lgb).trans q5
          have r6 := (hbq.cell (p := ⟨gb, ob + 6, none⟩) lgb).trans q6
          have r7 := (hbq.cell (p := ⟨gb, ob + 7, none⟩) lgb).trans q7
          clear hbq p0 p1 p2 p3 p4 p5 p6 p7 q0 q1 q2 q3 q4 q5 q6 q7 HO HBel HM d2 hlt
          generalize wr.drewN nq = W2 at *
          have h1y : (1 : Int) ≤ (ys.length : Int) + 1 := by omega
          have O2 := Lib.hid (HO2.out.alloc (.cells y.box 63))
          have s0 := (World.cell?_alloc_lt W2 (.cells y.box 63) ⟨gb, ob, none⟩ lg2).trans r0
          have s1 := (World.cell?_alloc_lt W2 (.cells y.box 63) ⟨gb, ob + 1, none⟩ lg2).trans r1
          have s2 := (World.cell?_alloc_lt W2 (.cells y.box 63) ⟨gb, ob + 2, none⟩ lg2).trans r2
          have s3 := (World.cell?_alloc_lt W2 (.cells y.box 63) ⟨gb, ob + 3, none⟩ lg2).trans r3
          have s4 := (World.cell?_alloc_lt W2 (.cells y.box 63) ⟨gb, ob + 4, none⟩ lg2).trans r4
          have s5 := (World.cell?_alloc_lt W2 (.cells y.box 63) ⟨gb, ob + 5, none⟩ lg2).trans r5
          have s6 := (World.cell?_alloc_lt W2 (.cells y.box 63) ⟨gb, ob + 6, none⟩ lg2).trans r6
          have s7 := (World.cell?_alloc_lt W2 (.cells y.box 63) ⟨gb, ob + 7, none⟩ lg2).trans r7
          have HS : Hid (Seq w 0 w.heap.size (if cb' = 1 then some ⟨gb, ob, none⟩ else some ⟨gb, ob + 8, none⟩) (flatE ys)) := tail_if HB.out hcb'
          by_cases hc1 : cb' = 1
          · rw [if_pos hc1] at HS
            go_region_law (refine Law.step_append_at (base := w.heap.size) (t := 41) rfl (.tmp 29) (.tmp 33) rfl HE.out (.slice D dn.length cd) dn.length (flatE dn) (by simp [Act.eval]) (by exact O2.out) ⟨W2.heap.size, 0, none⟩ 1 1 (cellsE y) (by simp [Act.eval]) (by rfl) (by exact new_E W2 y _ rfl) (one_E y) (by unfold maxLen; omega) (by omega) (by show w.heap.size ≤ (W2.alloc _).heap.size; simp; omega) ?_; intro v' w1 hown hg hv'; have OW := Lib.hid hown; have G := Lib.hid hg; clear hown hg hv')
            all_goals
              have B3 := Lib.hid ((HB2.out.alloc hz2 (.cells y.box 63)).drew.grown G.out (by simp; omega) (fun k hk => (HO2.out.lt k hk).1))
              simp only [List.getElem_toArray, List.getElem_cons_zero, List.getElem_cons_succ, Act.put, List.setIfInBounds_toArray, List.set_cons_zero, List.set_cons_succ]
              go_wp2_with fail
              go_roundw
              case rel => exact ⟨x :: xs, ys, dn ++ [y], _, _, _, _, rfl, rfl, by first | (simp only [List.length_cons]; omega) | omega, by first | (simp only [List.length_cons]; omega) | omega, HA.out, HS.out, by rw [flatE_snoc, List.length_append]; exact OW.out, B3.out, HM2.out, by simp; omega⟩
              case measure => simp [slen]
          · rw [if_neg hc1] at HS
            go_region_law (refine Law.step_append_at (base := w.heap.size) (t := 41) rfl (.tmp 29) (.tmp 33) rfl HE.out (.slice D dn.length cd) dn.length (flatE dn) (by simp [Act.eval]) (by exact O2.out) ⟨W2.heap.size, 0, none⟩ 1 1 (cellsE y) (by simp [Act.eval]) (by rfl) (by exact new_E W2 y _ rfl) (one_E y) (by unfold maxLen; omega) (by omega) (by show w.heap.size ≤ (W2.alloc _).heap.size; simp; omega) ?_; intro v' w1 hown hg hv'; have OW := Lib.hid hown; have G := Lib.hid hg; clear hown hg hv')
            all_goals
              have B3 := Lib.hid ((HB2.out.alloc hz2 (.cells y.box 63)).drew.grown G.out (by simp; omega) (fun k hk => (HO2.out.lt k hk).1))
              simp only [List.getElem_toArray, List.getElem_cons_zero, List.getElem_cons_succ, Act.put, List.setIfInBounds_toArray, List.set_cons_zero, List.set_cons_succ]
              go_wp2_with fail
              go_roundw
              case rel => exact ⟨x :: xs, ys, dn ++ [y], _, _, _, _, rfl, rfl, by first | (simp only [List.length_cons]; omega) | omega, by first | (simp only [List.length_cons]; omega) | omega, HA.out, HS.out, by rw [flatE_snoc, List.length_append]; exact OW.out, B3.out, HM2.out, by simp; omega⟩
              case measure => simp [slen]
        · skip
          have d2 : decide (y.sq < x.sq) = false := by simp; omega
          have HM2 : Hid (mrg us bs = (dn ++ [x]) ++ mrg xs (y :: ys)) := by show _ = _; rw [HM.out, mrg_cons, if_neg hlt]; simp
          go_wp2_with fail
          have hbq : Below wr.heap.size wr (wr.drewN nq) := Law.below_drewN (Below.refl _ wr) nq
          have HO2 := Lib.hid (own_below HO.out hbq)
          have HB2 := Lib.hid (HBel.out.trans (hbq.mono sz))
          have hz2 : w.heap.size ≤ (wr.drewN nq).heap.size := sz
          have lg2 : ga < (wr.drewN nq).heap.size := lga
          have r0 := (hbq.cell (p := ⟨ga, oa, none⟩) lga).trans p0
          have r1 := (hbq.cell (p := ⟨ga, oa + 1, none⟩) lga).trans p1
          have r2 := (hbq.cell (p := ⟨ga, oa + 2, none⟩) lga).trans p2
          have r3 := (hbq.cell (p := ⟨ga, oa + 3, none⟩) lga).trans p3
          have r4 := (hbq.cell (p := ⟨ga, oa + 4, none⟩) lga).trans p4
          have r5 := (hbq.cell (p := ⟨ga, oa + 5, none⟩) lga).trans p5
          have r6 := (hbq.cell (p := ⟨ga, oa + 6, none⟩) lga).trans p6
          have r7 := (hbq.cell (p := ⟨ga, oa + 7, none⟩) lga).trans p7
          clear hbq p0 p1 p2 p3 p4 p5 p6 p7 q0 q1 q2 q3 q4 q5 q6 q7 HO HBel HM d2 hlt
          generalize wr.drewN nq = W2 at *
          have h1y : (1 : Int) ≤ (xs.length : Int) + 1 := by omega
          have O2 := Lib.hid (HO2.out.alloc (.cells x.box 63))
          have s0 := (World.cell?_alloc_lt W2 (.cells x.box 63) ⟨ga, oa, none⟩ lg2).trans r0
          have s1 := (World.cell?_alloc_lt W2 (.cells x.box 63) ⟨ga, oa + 1, none⟩ lg2).trans r1
          have s2 := (World.cell?_alloc_lt W2 (.cells x.box 63) ⟨ga, oa + 2, none⟩ lg2).trans r2
          have s3 := (World.cell?_alloc_lt W2 (.cells x.box 63) ⟨ga, oa + 3, none⟩ lg2).trans r3
          have s4 := (World.cell?_alloc_lt W2 (.cells x.box 63) ⟨ga, oa + 4, none⟩ lg2).trans r4
          have s5 := (World.cell?_alloc_lt W2 (.cells x.box 63) ⟨ga, oa + 5, none⟩ lg2).trans r5
          have s6 := (World.cell?_alloc_lt W2 (.cells x.box 63) ⟨ga, oa + 6, none⟩ lg2).trans r6
          have s7 := (World.cell?_alloc_lt W2 (.cells x.box 63) ⟨ga, oa + 7, none⟩ lg2).trans r7
          have HS : Hid (Seq w 0 w.heap.size (if ca' = 1 then some ⟨ga, oa, none⟩ else some ⟨ga, oa + 8, none⟩) (flatE xs)) := tail_if HA.out hca'
          by_cases hc1 : ca' = 1
          · rw [if_pos hc1] at HS
            go_region_law (refine Law.step_append_at (base := w.heap.size) (t := 41) rfl (.tmp 37) (.tmp 41) rfl HE.out (.slice D dn.length cd) dn.length (flatE dn) (by simp [Act.eval]) (by exact O2.out) ⟨W2.heap.size, 0, none⟩ 1 1 (cellsE x) (by simp [Act.eval]) (by rfl) (by exact new_E W2 x _ rfl) (one_E x) (by unfold maxLen; omega) (by omega) (by show w.heap.size ≤ (W2.alloc _).heap.size; simp; omega) ?_; intro v' w1 hown hg hv'; have OW := Lib.hid hown; have G := Lib.hid hg; clear hown hg hv')
            all_goals
              have B3 := Lib.hid ((HB2.out.alloc hz2 (.cells x.box 63)).drew.grown G.out (by simp; omega) (fun k hk => (HO2.out.lt k hk).1))
              simp only [List.getElem_toArray, List.getElem_cons_zero, List.getElem_cons_succ, Act.put, List.setIfInBounds_toArray, List.set_cons_zero, List.set_cons_succ]
              go_wp2_with fail
              go_roundw
              case rel => exact ⟨xs, y :: ys, dn ++ [x], _, _, _, _, rfl, rfl, by first | (simp only [List.length_cons]; omega) | omega, by first | (simp only [List.length_cons]; omega) | omega, HS.out, HB.out, by rw [flatE_snoc, List.length_append]; exact OW.out, B3.out, HM2.out, by simp; omega⟩
              case measure => simp [slen]
          · rw [if_neg hc1] at HS
            go_region_law (refine Law.step_append_at (base := w.heap.size) (t := 41) rfl (.tmp 37) (.tmp 41) rfl HE.out (.slice D dn.length cd) dn.length (flatE dn) (by simp [Act.eval]) (by exact O2.out) ⟨W2.heap.size, 0, none⟩ 1 1 (cellsE x) (by simp [Act.eval]) (by rfl) (by exact new_E W2 x _ rfl) (one_E x) (by unfold maxLen; omega) (by omega) (by show w.heap.size ≤ (W2.alloc _).heap.size; simp; omega) ?_; intro v' w1 hown hg hv'; have OW := Lib.hid hown; have G := Lib.hid hg; clear hown hg hv')
            all_goals
              have B3 := Lib.hid ((HB2.out.alloc hz2 (.cells x.box 63)).drew.grown G.out (by simp; omega) (fun k hk => (HO2.out.lt k hk).1))
              simp only [List.getElem_toArray, List.getElem_cons_zero, List.getElem_cons_succ, Act.put, List.setIfInBounds_toArray, List.set_cons_zero, List.set_cons_succ]
              go_wp2_with fail
              go_roundw
              case rel => exact ⟨xs, y :: ys, dn ++ [x], _, _, _, _, rfl, rfl, by first | (simp only [List.length_cons]; omega) | omega, by first | (simp only [List.length_cons]; omega) | omega, HS.out, HB.out, by rw [flatE_snoc, List.length_append]; exact OW.out, B3.out, HM2.out, by simp; omega⟩
              case measure => simp [slen]
end Feed
end Go.Proofs.YtohdlnefgieenaaGreat
