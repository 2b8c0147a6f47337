/-
  Sweeping is not seen: with sweeps put in anywhere each reply, but those of Polls, is the same. For all lists of acts and all places, no condition.
-/
import Derived.Test.YtombdjkfbjpipaaGreatJ28
namespace Go.Proofs.YtombdjkfbjpipaaGreat
open Go.RowKit Go.ChangeShapes Go.WideShapes Go.ChangeAt
attribute [local go_sem] Oper.semAt_some
namespace modelSweeps
open Feed Go.Law Bk Go.Proofs.YtombdjkfbjpipaaGreat.Mod
/-- what is answered has few parts -/
theorem ask_vals {a : Mo} {b : Nat} (ho : a.Ok b) (q : AcM) (hs : shortB q.op = true) : (a.act q).2.vals.length ≤ 1000 ∧ (a.act q).2.evs.length ≤ 1000 := by
  have hu : q.op.us.length ≤ 20 := by simp [shortB] at hs; omega
  have hp : ∀ who : Nat, who < 8 → (all (a.told who a.n)).length ≤ 1000 := fun who hw => by
    have h1 : (all (a.told who a.n)).length = total (a.told who a.n) := all_length _ _ (Nat.le_refl _)
    have h2 : ∀ n, n ≤ a.n → total (a.told who n) ≤ n * 16 := fun n => by
      induction n with
      | zero => intro _; simp [Mo.told, total]
      | succ n ih =>
        intro hn
        have h3 := ih (by omega)
        have h4 := ho.que n (by omega) who hw
        have e : a.told who (n + 1) = a.told who n ++ [(a.fd n).que who] := by unfold Mo.told; rw [List.range_succ, List.map_append]; rfl
        rw [e, total_app]
        have h5 : total [(a.fd n).que who] = ((a.fd n).que who).length := by simp [total]
        omega
    have := h2 a.n (Nat.le_refl _)
    have := ho.n8
    omega
  unfold Mo.act
  split
  · exact ⟨Nat.zero_le _, Nat.zero_le _⟩
  · split
    · exact ⟨Nat.zero_le _, Nat.zero_le _⟩
    · unfold Mo.do_
      split
      · rename_i hg
        unfold Mo.ask
        split
        · exact ⟨Nat.zero_le _, Nat.zero_le _⟩
        · split
          · exact ⟨Nat.zero_le _, hp _ (by omega)⟩
          · split
            · exact ⟨Nat.zero_le _, Nat.zero_le _⟩
            · split
              · exact ⟨by simp, Nat.zero_le _⟩
              · split
                · exact ⟨by simp; omega, Nat.zero_le _⟩
                · split
                  · exact ⟨Nat.zero_le _, Nat.zero_le _⟩
                  · split <;> exact ⟨Nat.zero_le _, Nat.zero_le _⟩
      · exact ⟨Nat.zero_le _, Nat.zero_le _⟩
set_option maxRecDepth 100000 in
set_option maxHeartbeats 8000000 in
theorem walk (l : List AcM) (A : Option Addr) (c : Nat) (zs : List Int) (Ax : Option Addr) (cx : Nat) (w : World) (hs : Seq w 0 w.heap.size A (l.flatMap cellsM)) (hl : l.length ≤ maxLen) (hq : ∀ q ∈ l, q.Good w)
    (hx : Seq w 0 w.heap.size Ax (zs.map (.int .u8))) (hxl : zs.length ≤ maxLen) (hxw : ∀ z ∈ zs, (Lit.int .u8 z).wf = true) :
    Calls Tryz.prog 5 #[.slice A l.length c, .slice Ax zs.length cx] w fun e w' => e = .returned (.bool true) ∧ Below w.heap.size w w' := by
  have HX := Lib.hid hx
  have HXW := Lib.hid hxw
  unfold maxLen at hxl
  clear hx hxw
  have HS := Lib.hid hs
  have HQ := Lib.hid hq
  have HL := Lib.hid hl
  clear hs hq hl
  cases hlong : longM l with
  | true =>
    go_enter Tryz.func5, Tryz.ntmps5
    go_wp2_with fail
    refine (awake w).mono ?_
    rintro e w1 ⟨rfl, b1⟩
    have HB1 := Lib.hid b1
    clear b1
    go_wp2_with fail
    refine (long l A c w1 ((HS.out.below HB1.out).more HB1.out.size) HL.out (fun q hx => (HQ.out q hx).op.in_.below HB1.out) hlong).mono ?_
    rintro e w2 ⟨rfl, b2⟩
    have HB2 := Lib.hid (HB1.out.trans (b2.mono HB1.out.size))
    clear b2
    go_wp2_with fail
    refine (awake w2).mono ?_
    rintro e w3 ⟨rfl, b3⟩
    have HB3 := Lib.hid (HB2.out.trans (b3.mono HB2.out.size))
    clear b3
    go_wp2_with fail
    go_ret
    exact ⟨rfl, HB3.out⟩
  | false =>
    obtain ⟨hl1, hsh⟩ := longM_no hlong
    go_enter Tryz.func5, Tryz.ntmps5
    go_wp2_with fail
    refine (awake w).mono ?_
    rintro e w1 ⟨rfl, b1⟩
    have HB1 := Lib.hid b1
    clear b1
    go_wp2_with fail
    refine (long l A c w1 ((HS.out.below HB1.out).more HB1.out.size) HL.out (fun q hx => (HQ.out q hx).op.in_.below HB1.out) hlong).mono ?_
    rintro e w2 ⟨rfl, b2⟩
    have HB2 := Lib.hid (HB1.out.trans (b2.mono HB1.out.size))
    clear b2 HB1
    go_wp2_with fail
    refine (small_ w2).mono ?_
    rintro e w3 ⟨rfl, b3⟩
    have HB3 := Lib.hid (HB2.out.trans (b3.mono HB2.out.size))
    clear b3 HB2
    go_wp2_with fail
    refine (new_yes small w3 (base := w.heap.size) HB3.out.size small_right).mono ?_
    rintro e w4 ⟨m, S, rfl, hT, hS, hB⟩
    have H : Hid (Live w w4 w.heap.size S m (Mo.new small)) := ⟨hT, HB3.out.trans (hB.mono HB3.out.size), fun x hx => Nat.le_trans HB3.out.size (hS x hx)⟩
    clear hT hS hB HB3
    go_wp2_with fail
    refine (small_ w4).mono ?_
    rintro e w5 ⟨rfl, b5⟩
    have H5 := Lib.hid (H.out.below b5)
    clear b5 H
    go_wp2_with fail
    refine (new_yes small w5 (base := w.heap.size) H5.out.bel.size small_right).mono ?_
    rintro e w6 ⟨mb, Sb, rfl, hT, hS, hB⟩
    have HT : Hid (Two w w6 S Sb m mb (Mo.new small) (Mo.new small)) := ⟨H5.out.below hB, ⟨hT, H5.out.bel.trans (hB.mono H5.out.bel.size), fun x hx => Nat.le_trans H5.out.bel.size (hS x hx)⟩, fun x ha hb => by have h1 := (H5.out.tab.ok x ha).2; have h2 := hS x hb; omega⟩
    clear hT hS hB H5
    go_wp2_with fail
    go_loopw [9] (fun vi wr => ∃ (j : Nat) (Sa Sb : Nat → Prop) (a b : Mo), j ≤ l.length ∧ vi = .int .i64 j ∧ Mod.Alike a b ∧ a.Ok j ∧ b.Ok j ∧ Two w wr Sa Sb m mb a b) (fun vi _ => l.length - (intOf vi).toNat)
    case atStart => exact ⟨0, S, Sb, _, _, Nat.zero_le _, rfl, Mod.Alike.refl _, new_small_ok, new_small_ok, HT.out⟩
    case round =>
      clear HT
      obtain ⟨j, Sa, Sb, a, b, hj, rfl, hA, hOa, hOb, hT⟩ := hrel
      have HT := Lib.hid hT
      have HA := Lib.hid hA
      have HOa := Lib.hid hOa
      have HOb := Lib.hid hOb
      clear hT hA hOa hOb
      by_cases hlt : j < l.length
      · have d1 : decide ((j : Int) < (l.length : Int)) = true := by simp; omega
        have hB := HT.out.la.bel
        obtain ⟨bl, off, rfl, _, hb0, c0, c1, c2, c3, c4, c5, c6, c7, c8, c9⟩ := (HS.out.below hB).acM hlt
        have HM := Lib.hid (List.getElem_mem hlt)
        have HG := Lib.hid (HQ.out _ HM.out)
        have HIN := Lib.hid (HG.out.op.in_.below hB)
        have lb : bl < wr.heap.size := Nat.lt_of_lt_of_le hb0 hB.size
        clear hB
        have hsh1 := hsh _ HM.out
        generalize l[j] = q at *
        obtain ⟨dI, qw, ⟨kind, user0, id, st, pr, ttl, Au, cu, us0⟩, by_⟩ := q
        obtain ⟨d, hd⟩ := Int.eq_ofNat_of_zero_le (bounds_u8 HG.out.do_).1
        simp only at hd
        subst hd
        have hd255 := (bounds_u8 HG.out.do_).2
        have hby := bounds_u64 HG.out.by_
        simp only at c0 c1 c2 c3 c4 c5 c6 c7 c8 c9 hd255 hby
        skip
        skip
        have HKS : Hid (∀ w', Below w.heap.size w w' → (fun w' => w'.cell? ⟨bl, off + j * 10, none⟩ = some (.int .u8 (d : Int)) ∧ w'.cell? ⟨bl, off + j * 10 + 1, none⟩ = some (.int .i64 qw) ∧ w'.cell? ⟨bl, off + j * 10 + 2, none⟩ = some (.int .i64 kind) ∧ w'.cell? ⟨bl, off + j * 10 + 3, none⟩ = some (.string user0) ∧ w'.cell? ⟨bl, off + j * 10 + 4, none⟩ = some (.int .i64 id) ∧ w'.cell? ⟨bl, off + j * 10 + 5, none⟩ = some (.int .i64 st) ∧ w'.cell? ⟨bl, off + j * 10 + 6, none⟩ = some (.int .i64 pr) ∧ w'.cell? ⟨bl, off + j * 10 + 7, none⟩ = some (.int .u64 ttl) ∧ w'.cell? ⟨bl, off + j * 10 + 8, none⟩ = some (.slice Au us0.length cu) ∧ w'.cell? ⟨bl, off + j * 10 + 9, none⟩ = some (.int .u64 by_)) w') := fun w' hb => by
          have hc : ∀ k u, wr.cell? ⟨bl, off + j * 10 + k, none⟩ = some u → w'.cell? ⟨bl, off + j * 10 + k, none⟩ = some u := fun k u h => (hb.cell (p := ⟨bl, off + j * 10 + k, none⟩) hb0).trans ((HT.out.la.bel.cell (p := ⟨bl, off + j * 10 + k, none⟩) hb0).symm.trans h)
          exact ⟨hc 0 _ c0, hc 1 _ c1, hc 2 _ c2, hc 3 _ c3, hc 4 _ c4, hc 5 _ c5, hc 6 _ c6, hc 7 _ c7, hc 8 _ c8, hc 9 _ c9⟩
        go_upto_if 52 with (fail)
        go_cut [9] (fun vi wx => ∃ (Sb' : Nat → Prop) (b' : Mo), vi = .int .i64 (j : Int) ∧ Mod.Alike a b' ∧ b'.Ok j ∧ Two w wx Sa Sb' m mb a b')
        case first =>
          by_cases hz : j < zs.length
          · have d2 : decide ((j : Int) < (zs.length : Int)) = true := by simp; omega
            obtain ⟨bz, oz, hAx, _, hbz, cz0⟩ := (HX.out.below HT.out.la.bel).int hz
            subst hAx
            have hzw := bounds_u8 (HXW.out _ (List.getElem_mem hz))
            generalize zs[j] = z at *
            obtain ⟨zn, rfl⟩ := Int.eq_ofNat_of_zero_le hzw.1
            go_wp2_with fail
            refine (sweep HT.out.lb.tab HOb.out (by omega) HT.out.lb.bel.size _).mono ?_
            rintro e w7 ⟨rfl, S', hT, hG⟩
            have HT7 := Lib.hid (HT.out.second hT hG)
            clear hT hG
            go_wp2_with fail
            go_meet
            exact ⟨S', _, rfl, HA.out.sweep1 HOb.out _, sweep_ok HOb.out _, HT7.out⟩
          · have d2 : decide ((j : Int) < (zs.length : Int)) = false := by simp; omega
            go_wp2_with fail
            go_meet
            exact ⟨Sb, b, rfl, HA.out, HOb.out, HT.out⟩
        case rest =>
          clear HT HA HOb
          obtain ⟨Sb, b, rfl, hA, hOb, hT⟩ := hcut
          have HT := Lib.hid hT
          have HA := Lib.hid hA
          have HOb := Lib.hid hOb
          clear hT hA hOb
          have HK := Lib.hid (HA.out.act HOa.out HOb.out ⟨(d : Int), qw, ⟨kind, user0, id, st, pr, ttl, Au, cu, us0⟩, by_⟩ hby)
          have HVa := Lib.hid (ask_vals HOa.out ⟨(d : Int), qw, ⟨kind, user0, id, st, pr, ttl, Au, cu, us0⟩, by_⟩ hsh1)
          have HSa := Lib.hid (act_ok HOa.out ⟨(d : Int), qw, ⟨kind, user0, id, st, pr, ttl, Au, cu, us0⟩, by_⟩ hby)
          have HSb := Lib.hid (act_ok HOb.out ⟨(d : Int), qw, ⟨kind, user0, id, st, pr, ttl, Au, cu, us0⟩, by_⟩ hby)
          have HBa : Hid (∀ W Sa' Sb', Two w W Sa' Sb' m mb a b → Calls Tryz.prog 17 #[.pointer (some ⟨m, 0, none⟩), .agg (AcM.box ⟨(d : Int), qw, ⟨kind, user0, id, st, pr, ttl, Au, cu, us0⟩, by_⟩)] W (Polled W w.heap.size Sa' m (a.act ⟨(d : Int), qw, ⟨kind, user0, id, st, pr, ttl, Au, cu, us0⟩, by_⟩).1 (a.act ⟨(d : Int), qw, ⟨kind, user0, id, st, pr, ttl, Au, cu, us0⟩, by_⟩).2)) := fun W Sa' Sb' h => befalls ⟨(d : Int), qw, ⟨kind, user0, id, st, pr, ttl, Au, cu, us0⟩, by_⟩ h.la.tab HOa.out (by omega) h.la.bel.size ((HG.out.op.in_).below h.la.bel) ⟨Int.natCast_nonneg _, hd255⟩ hby
          have HBb : Hid (∀ W Sa' Sb' a', Two w W Sa' Sb' m mb a' b → Calls Tryz.prog 17 #[.pointer (some ⟨mb, 0, none⟩), .agg (AcM.box ⟨(d : Int), qw, ⟨kind, user0, id, st, pr, ttl, Au, cu, us0⟩, by_⟩)] W (Polled W w.heap.size Sb' mb (b.act ⟨(d : Int), qw, ⟨kind, user0, id, st, pr, ttl, Au, cu, us0⟩, by_⟩).1 (b.act ⟨(d : Int), qw, ⟨kind, user0, id, st, pr, ttl, Au, cu, us0⟩, by_⟩).2)) := fun W Sa' Sb' a' h => befalls ⟨(d : Int), qw, ⟨kind, user0, id, st, pr, ttl, Au, cu, us0⟩, by_⟩ h.lb.tab HOb.out (by omega) h.lb.bel.size ((HG.out.op.in_).below h.la.bel) ⟨Int.natCast_nonneg _, hd255⟩ hby
          generalize a.act ⟨(d : Int), qw, ⟨kind, user0, id, st, pr, ttl, Au, cu, us0⟩, by_⟩ = pa at *
          generalize b.act ⟨(d : Int), qw, ⟨kind, user0, id, st, pr, ttl, Au, cu, us0⟩, by_⟩ = pb at *
          obtain ⟨a', ra⟩ := pa
          obtain ⟨b', rb⟩ := pb
          simp only at HBa HBb HK HVa HSa HSb
          go_upto_region 12 with (fail)
          go_cut [10, 11] (fun v10 v11 wx => ∃ (gx gy : Nat) (Sa' Sb' : Nat → Prop) (A1 : Option Addr) (c1' : Nat) (A2 : Option Addr) (c2' : Nat) (B1 : Option Addr) (d1' : Nat) (B2 : Option Addr) (d2' : Nat), v10 = .pointer (some ⟨gx, 0, none⟩) ∧ v11 = .pointer (some ⟨gy, 0, none⟩) ∧ Mid w wx Sa' Sb' m mb a' b' [(gx, #[.int .i64 ra.err, .slice A1 ra.vals.length c1', .slice A2 ra.evs.length c2', .bool ra.lost]), (gy, #[.int .i64 rb.err, .slice B1 rb.vals.length d1', .slice B2 rb.evs.length d2', .bool rb.lost])] [(A1, flatPr ra.vals), (A2, flatE ra.evs)] [(B1, flatPr rb.vals), (B2, flatE rb.evs)])
          case first =>
            refine wp_region_held_drew (S := (fun w' => w'.cell? ⟨bl, off + j * 10, none⟩ = some (.int .u8 (d : Int)) ∧ w'.cell? ⟨bl, off + j * 10 + 1, none⟩ = some (.int .i64 qw) ∧ w'.cell? ⟨bl, off + j * 10 + 2, none⟩ = some (.int .i64 kind) ∧ w'.cell? ⟨bl, off + j * 10 + 3, none⟩ = some (.string user0) ∧ w'.cell? ⟨bl, off + j * 10 + 4, none⟩ = some (.int .i64 id) ∧ w'.cell? ⟨bl, off + j * 10 + 5, none⟩ = some (.int .i64 st) ∧ w'.cell? ⟨bl, off + j * 10 + 6, none⟩ = some (.int .i64 pr) ∧ w'.cell? ⟨bl, off + j * 10 + 7, none⟩ = some (.int .u64 ttl) ∧ w'.cell? ⟨bl, off + j * 10 + 8, none⟩ = some (.slice Au us0.length cu) ∧ w'.cell? ⟨bl, off + j * 10 + 9, none⟩ = some (.int .u64 by_))) (by kernel_rfl) (HKS.out _ (Mid.start HT.out).drew.two.la.bel) (fun hS => ?_)
            have HM := Lib.hid (Mid.start HT.out).drew
            generalize wc.drew = W0 at *
            refine wpAnyH_take (i := 0) (oi := { dst := some 61, op := .move (.tmp 5), type := _, pos := _, after := _, guard := _ }) (v := .pointer (some ⟨m, 0, none⟩)) rfl (by kernel_rfl) (by kernel_rfl) (by kernel_rfl) (fun _ _ _ h => h) (Or.inl ⟨by rfl, ?_⟩) hS ?_
            · intro w' hSw
              go_simp
            try simp only [Act.put, List.setIfInBounds_toArray, List.set_cons_zero, List.set_cons_succ]
            refine wpAnyH_take (i := 1) (oi := { dst := some 62, op := .move (.tmp 0), type := _, pos := _, after := _, guard := _ }) (v := .slice (some ⟨bl, off, none⟩) l.length c) rfl (by kernel_rfl) (by kernel_rfl) (by kernel_rfl) (fun _ _ _ h => h) (Or.inl ⟨by rfl, ?_⟩) hS ?_
            · intro w' hSw
              go_simp
            try simp only [Act.put, List.setIfInBounds_toArray, List.set_cons_zero, List.set_cons_succ]
            refine wpAnyH_take (i := 2) (oi := { dst := some 63, op := .move (.tmp 9), type := _, pos := _, after := _, guard := _ }) (v := .int .i64 (j : Int)) rfl (by kernel_rfl) (by kernel_rfl) (by kernel_rfl) (fun _ _ _ h => h) (Or.inl ⟨by rfl, ?_⟩) hS ?_
            · intro w' hSw
              go_simp
            try simp only [Act.put, List.setIfInBounds_toArray, List.set_cons_zero, List.set_cons_succ]
            refine wpAnyH_take (i := 3) (oi := { dst := some 64, op := .indexAddr 25 (.tmp 62) (.tmp 63), type := _, pos := _, after := _, guard := _ }) (v := .pointer (some ⟨bl, off + j * 10, none⟩)) rfl (by kernel_rfl) (by kernel_rfl) (by kernel_rfl) (fun _ _ _ h => h) (Or.inl ⟨by rfl, ?_⟩) hS ?_
            · intro w' hSw
              go_simp; (try (intro h8; omega))
            try simp only [Act.put, List.setIfInBounds_toArray, List.set_cons_zero, List.set_cons_succ]
            refine wpAnyH_take (i := 4) (oi := { dst := some 65, op := .load 39 (.tmp 64), type := _, pos := _, after := _, guard := _ }) (v := .agg #[.int .u8 (d : Int), .int .i64 qw, .int .i64 kind, .string user0, .int .i64 id, .int .i64 st, .int .i64 pr, .int .u64 ttl, .slice Au us0.length cu, .int .u64 by_]) rfl (by kernel_rfl) (by kernel_rfl) (by kernel_rfl) (fun _ _ _ h => h) (Or.inl ⟨by rfl, ?_⟩) hS ?_
            · intro w' hSw
              obtain ⟨t0', t1', t2', t3', t4', t5', t6', t7', t8', t9'⟩ := hSw
              go_simp
            try simp only [Act.put, List.setIfInBounds_toArray, List.set_cons_zero, List.set_cons_succ]
            refine wpAnyH_take (i := 6) (oi := { dst := some 67, op := .move (.tmp 7), type := _, pos := _, after := _, guard := _ }) (v := .pointer (some ⟨mb, 0, none⟩)) rfl (by kernel_rfl) (by kernel_rfl) (by kernel_rfl) (fun _ _ _ h => h) (Or.inl ⟨by rfl, ?_⟩) hS ?_
            · intro w' hSw
              go_simp
            try simp only [Act.put, List.setIfInBounds_toArray, List.set_cons_zero, List.set_cons_succ]
            refine wpAnyH_take (i := 7) (oi := { dst := some 68, op := .move (.tmp 0), type := _, pos := _, after := _, guard := _ }) (v := .slice (some ⟨bl, off, none⟩) l.length c) rfl (by kernel_rfl) (by kernel_rfl) (by kernel_rfl) (fun _ _ _ h => h) (Or.inl ⟨by rfl, ?_⟩) hS ?_
            · intro w' hSw
              go_simp
            try simp only [Act.put, List.setIfInBounds_toArray, List.set_cons_zero, List.set_cons_succ]
            refine wpAnyH_take (i := 8) (oi := { dst := some 69, op := .move (.tmp 9), type := _, pos := _, after := _, guard := _ }) (v := .int .i64 (j : Int)) rfl (by kernel_rfl) (by kernel_rfl) (by kernel_rfl) (fun _ _ _ h => h) (Or.inl ⟨by rfl, ?_⟩) hS ?_
            · intro w' hSw
              go_simp
            try simp only [Act.put, List.setIfInBounds_toArray, List.set_cons_zero, List.set_cons_succ]
            refine wpAnyH_take (i := 9) (oi := { dst := some 70, op := .indexAddr 25 (.tmp 68) (.tmp 69), type := _, pos := _, after := _, guard := _ }) (v := .pointer (some ⟨bl, off + j * 10, none⟩)) rfl (by kernel_rfl) (by kernel_rfl) (by kernel_rfl) (fun _ _ _ h => h) (Or.inl ⟨by rfl, ?_⟩) hS ?_
            · intro w' hSw
              go_simp; (try (intro h8; omega))
            try simp only [Act.put, List.setIfInBounds_toArray, List.set_cons_zero, List.set_cons_succ]
            refine wpAnyH_take (i := 10) (oi := { dst := some 71, op := .load 39 (.tmp 70), type := _, pos := _, after := _, guard := _ }) (v := .agg #[.int .u8 (d : Int), .int .i64 qw, .int .i64 kind, .string user0, .int .i64 id, .int .i64 st, .int .i64 pr, .int .u64 ttl, .slice Au us0.length cu, .int .u64 by_]) rfl (by kernel_rfl) (by kernel_rfl) (by kernel_rfl) (fun _ _ _ h => h) (Or.inl ⟨by rfl, ?_⟩) hS ?_
            · intro w' hSw
              obtain ⟨t0', t1', t2', t3', t4', t5', t6', t7', t8', t9'⟩ := hSw
              go_simp
            try simp only [Act.put, List.setIfInBounds_toArray, List.set_cons_zero, List.set_cons_succ]
            clear hS
            refine wpAnyH_ready (rs := [5, 12, 13]) (by kernel_rfl) (by simp) ?_
            refine AllReadyH.cons (o := { dst := some 66, op := .call { callee := .value (.func 17), args := #[.tmp 61, .tmp 65], argTypes := _ }, type := _, pos := _, after := _, guard := _ }) rfl (fun K hK => ?_) ?_
            · go_simp
              refine Calls.mono (HBa.out W0 _ _ HM.out.two) ?_
              rintro e W1 ⟨A1, c1', A2, c2', rfl, hs1, hs2, Sa', hT, hG⟩
              have HM2 := Lib.hid (HM.out.first hT hG hs1 hs2)
              clear hT hG hs1 hs2 HM
              have HM := HM2
              clear HM2
              go_wp2_with fail
              refine hK.out _ _ (HKS.out _ HM.out.two.la.bel) (fun _ => ?_)
              clear hK K
              try simp only [Act.put, List.setIfInBounds_toArray, List.set_cons_zero, List.set_cons_succ]
              refine wpAnyH_ready (rs := [11, 12, 13]) (by kernel_rfl) (by simp) ?_
              refine AllReadyH.cons (o := { dst := some 72, op := .call { callee := .value (.func 17), args := #[.tmp 67, .tmp 71], argTypes := _ }, type := _, pos := _, after := _, guard := _ }) rfl (fun K hK => ?_) ?_
              · go_simp
                refine Calls.mono (HBb.out W1 _ _ _ HM.out.two) ?_
                rintro e W2 ⟨B1, d1', B2, d2', rfl, hs1, hs2, Sb', hT, hG⟩
                have HM2 := Lib.hid (HM.out.second hT hG hs1 hs2)
                clear hT hG hs1 hs2 HM
                have HM := HM2
                clear HM2
                go_wp2_with fail
                refine hK.out _ _ (HKS.out _ HM.out.two.la.bel) (fun _ => ?_)
                clear hK K
                try simp only [Act.put, List.setIfInBounds_toArray, List.set_cons_zero, List.set_cons_succ]
                refine wpAnyH_ready (rs := [12, 13]) (by kernel_rfl) (by simp) ?_
                refine AllReadyH.cons (o := { dst := some 10, op := .alloc 43, type := _, pos := _, after := _, guard := _ }) rfl (fun K hK => ?_) ?_
                · go_simp
                  have HM2 := Lib.hid HM.out.alloc
                  refine hK.out _ _ (HKS.out _ HM2.out.two.la.bel) (fun _ => ?_)
                  clear hK K HM
                  try simp only [Act.put, List.setIfInBounds_toArray, List.set_cons_zero, List.set_cons_succ]
                  have HM := HM2
                  clear HM2
                  generalize W2.alloc (.cells #[.int .i64 0, .slice none 0 0, .slice none 0 0, .bool false] 43) = W3 at *
                  generalize W2.heap.size = gx at *
                  refine wpAnyH_ready (rs := [13]) (by kernel_rfl) (by simp) ?_
                  refine AllReadyH.cons (o := { dst := some 11, op := .alloc 43, type := _, pos := _, after := _, guard := _ }) rfl (fun K hK => ?_) AllReadyH.nil
                  go_simp
                  have HM2 := Lib.hid HM.out.alloc
                  refine hK.out _ _ (HKS.out _ HM2.out.two.la.bel) (fun _ => ?_)
                  clear hK K HM
                  try simp only [Act.put, List.setIfInBounds_toArray, List.set_cons_zero, List.set_cons_succ]
                  have HM := HM2
                  clear HM2
                  generalize W3.alloc (.cells #[.int .i64 0, .slice none 0 0, .slice none 0 0, .bool false] 43) = W4 at *
                  generalize W3.heap.size = gy at *
                  refine wpAnyH_ready (rs := [14]) (by kernel_rfl) (by simp) ?_
                  refine AllReadyH.cons (o := { dst := none, op := .store 43 (.tmp 10) (.tmp 66), type := _, pos := _, after := _, guard := _ }) rfl (fun K hK => ?_) AllReadyH.nil
                  replace HM := Lib.hid HM.out.swap
                  have IX := Lib.hid (HM.out.box _ (List.mem_cons_self ..)).1
                  have c80 : W4.cell? ⟨gx, 0, none⟩ = some (.int .i64 0) := IX.out.cell' rfl
                  have c81 : W4.cell? ⟨gx, 1, none⟩ = some (.slice none 0 0) := IX.out.cell' rfl
                  have c82 : W4.cell? ⟨gx, 2, none⟩ = some (.slice none 0 0) := IX.out.cell' rfl
                  have c83 : W4.cell? ⟨gx, 3, none⟩ = some (.bool false) := IX.out.cell' rfl
                  have f80 := IX.out.frozen 0
                  have f81 := IX.out.frozen 1
                  have f82 := IX.out.frozen 2
                  have f83 := IX.out.frozen 3
                  have l80 := IX.out.lt
                  go_simp
                  have HM2 := Lib.hid (HM.out.put (.int .i64 ra.err) (.slice A1 ra.vals.length c1') (.slice A2 ra.evs.length c2') (.bool ra.lost))
                  refine hK.out _ _ (HKS.out _ HM2.out.two.la.bel) (fun _ => ?_)
                  clear hK K HM c80 c81 c82 c83 f80 f81 f82 f83 l80 IX
                  try simp only [Act.put, List.setIfInBounds_toArray, List.set_cons_zero, List.set_cons_succ]
                  have HM := HM2
                  clear HM2
                  generalize (((W4.setCell ⟨gx, 0, none⟩ (.int .i64 ra.err)).setCell ⟨gx, 1, none⟩ (.slice A1 ra.vals.length c1')).setCell ⟨gx, 2, none⟩ (.slice A2 ra.evs.length c2')).setCell ⟨gx, 3, none⟩ (.bool ra.lost) = W5 at *
                  refine wpAnyH_ready (rs := [15]) (by kernel_rfl) (by simp) ?_
                  refine AllReadyH.cons (o := { dst := none, op := .store 43 (.tmp 11) (.tmp 72), type := _, pos := _, after := _, guard := _ }) rfl (fun K hK => ?_) AllReadyH.nil
                  replace HM := Lib.hid HM.out.swap
                  have IX := Lib.hid (HM.out.box _ (List.mem_cons_self ..)).1
                  have c80 : W5.cell? ⟨gy, 0, none⟩ = some (.int .i64 0) := IX.out.cell' rfl
                  have c81 : W5.cell? ⟨gy, 1, none⟩ = some (.slice none 0 0) := IX.out.cell' rfl
                  have c82 : W5.cell? ⟨gy, 2, none⟩ = some (.slice none 0 0) := IX.out.cell' rfl
                  have c83 : W5.cell? ⟨gy, 3, none⟩ = some (.bool false) := IX.out.cell' rfl
                  have f80 := IX.out.frozen 0
                  have f81 := IX.out.frozen 1
                  have f82 := IX.out.frozen 2
                  have f83 := IX.out.frozen 3
                  have l80 := IX.out.lt
                  go_simp
                  have HM2 := Lib.hid (HM.out.put (.int .i64 rb.err) (.slice B1 rb.vals.length d1') (.slice B2 rb.evs.length d2') (.bool rb.lost))
                  refine hK.out _ _ (HKS.out _ HM2.out.two.la.bel) (fun _ => ?_)
                  clear hK K HM c80 c81 c82 c83 f80 f81 f82 f83 l80 IX
                  try simp only [Act.put, List.setIfInBounds_toArray, List.set_cons_zero, List.set_cons_succ]
                  have HM := HM2
                  clear HM2
                  generalize (((W5.setCell ⟨gy, 0, none⟩ (.int .i64 rb.err)).setCell ⟨gy, 1, none⟩ (.slice B1 rb.vals.length d1')).setCell ⟨gy, 2, none⟩ (.slice B2 rb.evs.length d2')).setCell ⟨gy, 3, none⟩ (.bool rb.lost) = W6 at *
                  replace HM := Lib.hid HM.out.swap
                  refine wpAnyH_done (by kernel_rfl) ?_ _
                  go_wp2_with fail
                  go_meet
                  exact ⟨gx, gy, Sa', Sb', A1, c1', A2, c2', B1, d1', B2, d2', rfl, rfl, HM.out⟩
                refine AllReadyH.cons (o := { dst := some 11, op := .alloc 43, type := _, pos := _, after := _, guard := _ }) rfl (fun K hK => ?_) AllReadyH.nil
                go_simp
                have HM2 := Lib.hid HM.out.alloc
                refine hK.out _ _ (HKS.out _ HM2.out.two.la.bel) (fun _ => ?_)
                clear hK K HM
                try simp only [Act.put, List.setIfInBounds_toArray, List.set_cons_zero, List.set_cons_succ]
                have HM := HM2
                clear HM2
                generalize W2.alloc (.cells #[.int .i64 0, .slice none 0 0, .slice none 0 0, .bool false] 43) = W7 at *
                generalize W2.heap.size = gy at *
                refine wpAnyH_ready (rs := [12]) (by kernel_rfl) (by simp) ?_
                refine AllReadyH.cons (o := { dst := some 10, op := .alloc 43, type := _, pos := _, after := _, guard := _ }) rfl (fun K hK => ?_) AllReadyH.nil
                go_simp
                have HM2 := Lib.hid HM.out.alloc
                refine hK.out _ _ (HKS.out _ HM2.out.two.la.bel) (fun _ => ?_)
                clear hK K HM
                try simp only [Act.put, List.setIfInBounds_toArray, List.set_cons_zero, List.set_cons_succ]
                have HM := HM2
                clear HM2
                generalize W7.alloc (.cells #[.int .i64 0, .slice none 0 0, .slice none 0 0, .bool false] 43) = W8 at *
                generalize W7.heap.size = gx at *
                refine wpAnyH_ready (rs := [14]) (by kernel_rfl) (by simp) ?_
                refine AllReadyH.cons (o := { dst := none, op := .store 43 (.tmp 10) (.tmp 66), type := _, pos := _, after := _, guard := _ }) rfl (fun K hK => ?_) AllReadyH.nil
                have IX := Lib.hid (HM.out.box _ (List.mem_cons_self ..)).1
                have c80 : W8.cell? ⟨gx, 0, none⟩ = some (.int .i64 0) := IX.out.cell' rfl
                have c81 : W8.cell? ⟨gx, 1, none⟩ = some (.slice none 0 0) := IX.out.cell' rfl
                have c82 : W8.cell? ⟨gx, 2, none⟩ = some (.slice none 0 0) := IX.out.cell' rfl
                have c83 : W8.cell? ⟨gx, 3, none⟩ = some (.bool false) := IX.out.cell' rfl
                have f80 := IX.out.frozen 0
                have f81 := IX.out.frozen 1
                have f82 := IX.out.frozen 2
                have f83 := IX.out.frozen 3
                have l80 := IX.out.lt
                go_simp
                have HM2 := Lib.hid (HM.out.put (.int .i64 ra.err) (.slice A1 ra.vals.length c1') (.slice A2 ra.evs.length c2') (.bool ra.lost))
                refine hK.out _ _ (HKS.out _ HM2.out.two.la.bel) (fun _ => ?_)
                clear hK K HM c80 c81 c82 c83 f80 f81 f82 f83 l80 IX
                try simp only [Act.put, List.setIfInBounds_toArray, List.set_cons_zero, List.set_cons_succ]
                have HM := HM2
                clear HM2
                generalize (((W8.setCell ⟨gx, 0, none⟩ (.int .i64 ra.err)).setCell ⟨gx, 1, none⟩ (.slice A1 ra.vals.length c1')).setCell ⟨gx, 2, none⟩ (.slice A2 ra.evs.length c2')).setCell ⟨gx, 3, none⟩ (.bool ra.lost) = W9 at *
                refine wpAnyH_ready (rs := [15]) (by kernel_rfl) (by simp) ?_
                refine AllReadyH.cons (o := { dst := none, op := .store 43 (.tmp 11) (.tmp 72), type := _, pos := _, after := _, guard := _ }) rfl (fun K hK => ?_) AllReadyH.nil
                replace HM := Lib.hid HM.out.swap
                have IX := Lib.hid (HM.out.box _ (List.mem_cons_self ..)).1
                have c80 : W9.cell? ⟨gy, 0, none⟩ = some (.int .i64 0) := IX.out.cell' rfl
                have c81 : W9.cell? ⟨gy, 1, none⟩ = some (.slice none 0 0) := IX.out.cell' rfl
                have c82 : W9.cell? ⟨gy, 2, none⟩ = some (.slice none 0 0) := IX.out.cell' rfl
                have c83 : W9.cell? ⟨gy, 3, none⟩ = some (.bool false) := IX.out.cell' rfl
                have f80 := IX.out.frozen 0
                have f81 := IX.out.frozen 1
                have f82 := IX.out.frozen 2
                have f83 := IX.out.frozen 3
                have l80 := IX.out.lt
                go_simp
                have HM2 := Lib.hid (HM.out.put (.int .i64 rb.err) (.slice B1 rb.vals.length d1') (.slice B2 rb.evs.length d2') (.bool rb.lost))
                refine hK.out _ _ (HKS.out _ HM2.out.two.la.bel) (fun _ => ?_)
                clear hK K HM c80 c81 c82 c83 f80 f81 f82 f83 l80 IX
                try simp only [Act.put, List.setIfInBounds_toArray, List.set_cons_zero, List.set_cons_succ]
                have HM := HM2
                clear HM2
                generalize (((W9.setCell ⟨gy, 0, none⟩ (.int .i64 rb.err)).setCell ⟨gy, 1, none⟩ (.slice B1 rb.vals.length d1')).setCell ⟨gy, 2, none⟩ (.slice B2 rb.evs.length d2')).setCell ⟨gy, 3, none⟩ (.bool rb.lost) = W10 at *
                replace HM := Lib.hid HM.out.swap
                refine wpAnyH_done (by kernel_rfl) ?_ _
                go_wp2_with fail
                go_meet
                exact ⟨gx, gy, Sa', Sb', A1, c1', A2, c2', B1, d1', B2, d2', rfl, rfl, HM.out⟩
              refine AllReadyH.cons (o := { dst := some 10, op := .alloc 43, type := _, pos := _, after := _, guard := _ }) rfl (fun K hK => ?_) ?_
              · go_simp
                have HM2 := Lib.hid HM.out.alloc
                refine hK.out _ _ (HKS.out _ HM2.out.two.la.bel) (fun _ => ?_)
                clear hK K HM
                try simp only [Act.put, List.setIfInBounds_toArray, List.set_cons_zero, List.set_cons_succ]
                have HM := HM2
                clear HM2
                generalize W1.alloc (.cells #[.int .i64 0, .slice none 0 0, .slice none 0 0, .bool false] 43) = W11 at *
                generalize W1.heap.size = gx at *
                refine wpAnyH_ready (rs := [11, 13]) (by kernel_rfl) (by simp) ?_
                refine AllReadyH.cons (o := { dst := some 72, op := .call { callee := .value (.func 17), args := #[.tmp 67, .tmp 71], argTypes := _ }, type := _, pos := _, after := _, guard := _ }) rfl (fun K hK => ?_) ?_
                · go_simp
                  refine Calls.mono (HBb.out W11 _ _ _ HM.out.two) ?_
                  rintro e W12 ⟨B1, d1', B2, d2', rfl, hs1, hs2, Sb', hT, hG⟩
                  have HM2 := Lib.hid (HM.out.second hT hG hs1 hs2)
                  clear hT hG hs1 hs2 HM
                  have HM := HM2
                  clear HM2
                  go_wp2_with fail
                  refine hK.out _ _ (HKS.out _ HM.out.two.la.bel) (fun _ => ?_)
                  clear hK K
                  try simp only [Act.put, List.setIfInBounds_toArray, List.set_cons_zero, List.set_cons_succ]
                  refine wpAnyH_ready (rs := [13]) (by kernel_rfl) (by simp) ?_
                  refine AllReadyH.cons (o := { dst := some 11, op := .alloc 43, type := _, pos := _, after := _, guard := _ }) rfl (fun K hK => ?_) AllReadyH.nil
                  go_simp
                  have HM2 := Lib.hid HM.out.alloc
                  refine hK.out _ _ (HKS.out _ HM2.out.two.la.bel) (fun _ => ?_)
                  clear hK K HM
                  try simp only [Act.put, List.setIfInBounds_toArray, List.set_cons_zero, List.set_cons_succ]
                  have HM := HM2
                  clear HM2
                  generalize W12.alloc (.cells #[.int .i64 0, .slice none 0 0, .slice none 0 0, .bool false] 43) = W13 at *
                  generalize W12.heap.size = gy at *
                  refine wpAnyH_ready (rs := [14]) (by kernel_rfl) (by simp) ?_
                  refine AllReadyH.cons (o := { dst := none, op := .store 43 (.tmp 10) (.tmp 66), type := _, pos := _, after := _, guard := _ }) rfl (fun K hK => ?_) AllReadyH.nil
                  replace HM := Lib.hid HM.out.swap
                  have IX := Lib.hid (HM.out.box _ (List.mem_cons_self ..)).1
                  have c80 : W13.cell? ⟨gx, 0, none⟩ = some (.int .i64 0) := IX.out.cell' rfl
                  have c81 : W13.cell? ⟨gx, 1, none⟩ = some (.slice none 0 0) := IX.out.cell' rfl
                  have c82 : W13.cell? ⟨gx, 2, none⟩ = some (.slice none 0 0) := IX.out.cell' rfl
                  have c83 : W13.cell? ⟨gx, 3, none⟩ = some (.bool false) := IX.out.cell' rfl
                  have f80 := IX.out.frozen 0
                  have f81 := IX.out.frozen 1
                  have f82 := IX.out.frozen 2
                  have f83 := IX.out.frozen 3
                  have l80 := IX.out.lt
                  go_simp
                  have HM2 := Lib.hid (HM.out.put (.int .i64 ra.err) (.slice A1 ra.vals.length c1') (.slice A2 ra.evs.length c2') (.bool ra.lost))
                  refine hK.out _ _ (HKS.out _ HM2.out.two.la.bel) (fun _ => ?_)
                  clear hK K HM c80 c81 c82 c83 f80 f81 f82 f83 l80 IX
                  try simp only [Act.put, List.setIfInBounds_toArray, List.set_cons_zero, List.set_cons_succ]
                  have HM := HM2
                  clear HM2
                  generalize (((W13.setCell ⟨gx, 0, none⟩ (.int .i64 ra.err)).setCell ⟨gx, 1, none⟩ (.slice A1 ra.vals.length c1')).setCell ⟨gx, 2, none⟩ (.slice A2 ra.evs.length c2')).setCell ⟨gx, 3, none⟩ (.bool ra.lost) = W14 at *
                  refine wpAnyH_ready (rs := [15]) (by kernel_rfl) (by simp) ?_
                  refine AllReadyH.cons (o := { dst := none, op := .store 43 (.tmp 11) (.tmp 72), type := _, pos := _, after := _, guard := _ }) rfl (fun K hK => ?_) AllReadyH.nil
                  replace HM := Lib.hid HM.out.swap
                  have IX := Lib.hid (HM.out.box _ (List.mem_cons_self ..)).1
                  have c80 : W14.cell? ⟨gy, 0, none⟩ = some (.int .i64 0) := IX.out.cell' rfl
                  have c81 : W14.cell? ⟨gy, 1, none⟩ = some (.slice none 0 0) := IX.out.cell' rfl
                  have c82 : W14.cell? ⟨gy, 2, none⟩ = some (.slice none 0 0) := IX.out.cell' rfl
                  have c83 : W14.cell? ⟨gy, 3, none⟩ = some (.bool false) := IX.out.cell' rfl
                  have f80 := IX.out.frozen 0
                  have f81 := IX.out.frozen 1
                  have f82 := IX.out.frozen 2
                  have f83 := IX.out.frozen 3
                  have l80 := IX.out.lt
                  go_simp
                  have HM2 := Lib.hid (HM.out.put (.int .i64 rb.err) (.slice B1 rb.vals.length d1') (.slice B2 rb.evs.length d2') (.bool rb.lost))
                  refine hK.out _ _ (HKS.out _ HM2.out.two.la.bel) (fun _ => ?_)
                  clear hK K HM c80 c81 c82 c83 f80 f81 f82 f83 l80 IX
                  try simp only [Act.put, List.setIfInBounds_toArray, List.set_cons_zero, List.set_cons_succ]
                  have HM := HM2
                  clear HM2
                  generalize (((W14.setCell ⟨gy, 0, none⟩ (.int .i64 rb.err)).setCell ⟨gy, 1, none⟩ (.slice B1 rb.vals.length d1')).setCell ⟨gy, 2, none⟩ (.slice B2 rb.evs.length d2')).setCell ⟨gy, 3, none⟩ (.bool rb.lost) = W15 at *
                  replace HM := Lib.hid HM.out.swap
                  refine wpAnyH_done (by kernel_rfl) ?_ _
                  go_wp2_with fail
                  go_meet
                  exact ⟨gx, gy, Sa', Sb', A1, c1', A2, c2', B1, d1', B2, d2', rfl, rfl, HM.out⟩
                refine AllReadyH.cons (o := { dst := some 11, op := .alloc 43, type := _, pos := _, after := _, guard := _ }) rfl (fun K hK => ?_) AllReadyH.nil
                go_simp
                have HM2 := Lib.hid HM.out.alloc
                refine hK.out _ _ (HKS.out _ HM2.out.two.la.bel) (fun _ => ?_)
                clear hK K HM
                try simp only [Act.put, List.setIfInBounds_toArray, List.set_cons_zero, List.set_cons_succ]
                have HM := HM2
                clear HM2
                generalize W11.alloc (.cells #[.int .i64 0, .slice none 0 0, .slice none 0 0, .bool false] 43) = W16 at *
                generalize W11.heap.size = gy at *
                refine wpAnyH_ready (rs := [11]) (by kernel_rfl) (by simp) ?_
                refine AllReadyH.cons (o := { dst := some 72, op := .call { callee := .value (.func 17), args := #[.tmp 67, .tmp 71], argTypes := _ }, type := _, pos := _, after := _, guard := _ }) rfl (fun K hK => ?_) AllReadyH.nil
                go_simp
                refine Calls.mono (HBb.out W16 _ _ _ HM.out.two) ?_
                rintro e W17 ⟨B1, d1', B2, d2', rfl, hs1, hs2, Sb', hT, hG⟩
                have HM2 := Lib.hid (HM.out.second hT hG hs1 hs2)
                clear hT hG hs1 hs2 HM
                have HM := HM2
                clear HM2
                go_wp2_with fail
                refine hK.out _ _ (HKS.out _ HM.out.two.la.bel) (fun _ => ?_)
                clear hK K
                try simp only [Act.put, List.setIfInBounds_toArray, List.set_cons_zero, List.set_cons_succ]
                refine wpAnyH_ready (rs := [14]) (by kernel_rfl) (by simp) ?_
                refine AllReadyH.cons (o := { dst := none, op := .store 43 (.tmp 10) (.tmp 66), type := _, pos := _, after := _, guard := _ }) rfl (fun K hK => ?_) AllReadyH.nil
                replace HM := Lib.hid HM.out.swap
                have IX := Lib.hid (HM.out.box _ (List.mem_cons_self ..)).1
                have c80 : W17.cell? ⟨gx, 0, none⟩ = some (.int .i64 0) := IX.out.cell' rfl
                have c81 : W17.cell? ⟨gx, 1, none⟩ = some (.slice none 0 0) := IX.out.cell' rfl
                have c82 : W17.cell? ⟨gx, 2, none⟩ = some (.slice none 0 0) := IX.out.cell' rfl
                have c83 : W17.cell? ⟨gx, 3, none⟩ = some (.bool false) := IX.out.cell' rfl
                have f80 := IX.out.frozen 0
                have f81 := IX.out.frozen 1
                have f82 := IX.out.frozen 2
                have f83 := IX.out.frozen 3
                have l80 := IX.out.lt
                go_simp
                have HM2 := Lib.hid (HM.out.put (.int .i64 ra.err) (.slice A1 ra.vals.length c1') (.slice A2 ra.evs.length c2') (.bool ra.lost))
                refine hK.out _ _ (HKS.out _ HM2.out.two.la.bel) (fun _ => ?_)
                clear hK K HM c80 c81 c82 c83 f80 f81 f82 f83 l80 IX
                try simp only [Act.put, List.setIfInBounds_toArray, List.set_cons_zero, List.set_cons_succ]
                have HM := HM2
                clear HM2
                generalize (((W17.setCell ⟨gx, 0, none⟩ (.int .i64 ra.err)).setCell ⟨gx, 1, none⟩ (.slice A1 ra.vals.length c1')).setCell ⟨gx, 2, none⟩ (.slice A2 ra.evs.length c2')).setCell ⟨gx, 3, none⟩ (.bool ra.lost) = W18 at *
                refine wpAnyH_ready (rs := [15]) (by kernel_rfl) (by simp) ?_
                refine AllReadyH.cons (o := { dst := none, op := .store 43 (.tmp 11) (.tmp 72), type := _, pos := _, after := _, guard := _ }) rfl (fun K hK => ?_) AllReadyH.nil
                replace HM := Lib.hid HM.out.swap
                have IX := Lib.hid (HM.out.box _ (List.mem_cons_self ..)).1
                have c80 : W18.cell? ⟨gy, 0, none⟩ = some (.int .i64 0) := IX.out.cell' rfl
                have c81 : W18.cell? ⟨gy, 1, none⟩ = some (.slice none 0 0) := IX.out.cell' rfl
                have c82 : W18.cell? ⟨gy, 2, none⟩ = some (.slice none 0 0) := IX.out.cell' rfl
                have c83 : W18.cell? ⟨gy, 3, none⟩ = some (.bool false) := IX.out.cell' rfl
                have f80 := IX.out.frozen 0
                have f81 := IX.out.frozen 1
                have f82 := IX.out.frozen 2
                have f83 := IX.out.frozen 3
                have l80 := IX.out.lt
                go_simp
                have HM2 := Lib.hid (HM.out.put (.int .i64 rb.err) (.slice B1 rb.vals.length d1') (.slice B2 rb.evs.length d2') (.bool rb.lost))
                refine hK.out _ _ (HKS.out _ HM2.out.two.la.bel) (fun _ => ?_)
                clear hK K HM c80 c81 c82 c83 f80 f81 f82 f83 l80 IX
                try simp only [Act.put, List.setIfInBounds_toArray, List.set_cons_zero, List.set_cons_succ]
                have HM := HM2
                clear HM2
                generalize (((W18.setCell ⟨gy, 0, none⟩ (.int .i64 rb.err)).setCell ⟨gy, 1, none⟩ (.slice B1 rb.vals.length d1')).setCell ⟨gy, 2, none⟩ (.slice B2 rb.evs.length d2')).setCell ⟨gy, 3, none⟩ (.bool rb.lost) = W19 at *
                replace HM := Lib.hid HM.out.swap
                refine wpAnyH_done (by kernel_rfl) ?_ _
                go_wp2_with fail
                go_meet
                exact ⟨gx, gy, Sa', Sb', A1, c1', A2, c2', B1, d1', B2, d2', rfl, rfl, HM.out⟩
              refine AllReadyH.cons (o := { dst := some 11, op := .alloc 43, type := _, pos := _, after := _, guard := _ }) rfl (fun K hK => ?_) AllReadyH.nil
              go_simp
              have HM2 := Lib.hid HM.out.alloc
              refine hK.out _ _ (HKS.out _ HM2.out.two.la.bel) (fun _ => ?_)
              clear hK K HM
              try simp only [Act.put, List.setIfInBounds_toArray, List.set_cons_zero, List.set_cons_succ]
              have HM := HM2
              clear HM2
              generalize W1.alloc (.cells #[.int .i64 0, .slice none 0 0, .slice none 0 0, .bool false] 43) = W20 at *
              generalize W1.heap.size = gy at *
              refine wpAnyH_ready (rs := [11, 12]) (by kernel_rfl) (by simp) ?_
              refine AllReadyH.cons (o := { dst := some 72, op := .call { callee := .value (.func 17), args := #[.tmp 67, .tmp 71], argTypes := _ }, type := _, pos := _, after := _, guard := _ }) rfl (fun K hK => ?_) ?_
              · go_simp
                refine Calls.mono (HBb.out W20 _ _ _ HM.out.two) ?_
                rintro e W21 ⟨B1, d1', B2, d2', rfl, hs1, hs2, Sb', hT, hG⟩
                have HM2 := Lib.hid (HM.out.second hT hG hs1 hs2)
                clear hT hG hs1 hs2 HM
                have HM := HM2
                clear HM2
                go_wp2_with fail
                refine hK.out _ _ (HKS.out _ HM.out.two.la.bel) (fun _ => ?_)
                clear hK K
                try simp only [Act.put, List.setIfInBounds_toArray, List.set_cons_zero, List.set_cons_succ]
                refine wpAnyH_ready (rs := [12]) (by kernel_rfl) (by simp) ?_
                refine AllReadyH.cons (o := { dst := some 10, op := .alloc 43, type := _, pos := _, after := _, guard := _ }) rfl (fun K hK => ?_) AllReadyH.nil
                go_simp
                have HM2 := Lib.hid HM.out.alloc
                refine hK.out _ _ (HKS.out _ HM2.out.two.la.bel) (fun _ => ?_)
                clear hK K HM
                try simp only [Act.put, List.setIfInBounds_toArray, List.set_cons_zero, List.set_cons_succ]
                have HM := HM2
                clear HM2
                generalize W21.alloc (.cells #[.int .i64 0, .slice none 0 0, .slice none 0 0, .bool false] 43) = W22 at *
                generalize W21.heap.size = gx at *
                refine wpAnyH_ready (rs := [14]) (by kernel_rfl) (by simp) ?_
                refine AllReadyH.cons (o := { dst := none, op := .store 43 (.tmp 10) (.tmp 66), type := _, pos := _, after := _, guard := _ }) rfl (fun K hK => ?_) AllReadyH.nil
                have IX := Lib.hid (HM.out.box _ (List.mem_cons_self ..)).1
                have c80 : W22.cell? ⟨gx, 0, none⟩ = some (.int .i64 0) := IX.out.cell' rfl
                have c81 : W22.cell? ⟨gx, 1, none⟩ = some (.slice none 0 0) := IX.out.cell' rfl
                have c82 : W22.cell? ⟨gx, 2, none⟩ = some (.slice none 0 0) := IX.out.cell' rfl
                have c83 : W22.cell? ⟨gx, 3, none⟩ = some (.bool false) := IX.out.cell' rfl
                have f80 := IX.out.frozen 0
                have f81 := IX.out.frozen 1
                have f82 := IX.out.frozen 2
                have f83 := IX.out.frozen 3
                have l80 := IX.out.lt
                go_simp
                have HM2 := Lib.hid (HM.out.put (.int .i64 ra.err) (.slice A1 ra.vals.length c1') (.slice A2 ra.evs.length c2') (.bool ra.lost))
                refine hK.out _ _ (HKS.out _ HM2.out.two.la.bel) (fun _ => ?_)
                clear hK K HM c80 c81 c82 c83 f80 f81 f82 f83 l80 IX
                try simp only [Act.put, List.setIfInBounds_toArray, List.set_cons_zero, List.set_cons_succ]
                have HM := HM2
                clear HM2
                generalize (((W22.setCell ⟨gx, 0, none⟩ (.int .i64 ra.err)).setCell ⟨gx, 1, none⟩ (.slice A1 ra.vals.length c1')).setCell ⟨gx, 2, none⟩ (.slice A2 ra.evs.length c2')).setCell ⟨gx, 3, none⟩ (.bool ra.lost) = W23 at *
                refine wpAnyH_ready (rs := [15]) (by kernel_rfl) (by simp) ?_
                refine AllReadyH.cons (o := { dst := none, op := .store 43 (.tmp 11) (.tmp 72), type := _, pos := _, after := _, guard := _ }) rfl (fun K hK => ?_) AllReadyH.nil
                replace HM := Lib.hid HM.out.swap
                have IX := Lib.hid (HM.out.box _ (List.mem_cons_self ..)).1
                have c80 : W23.cell? ⟨gy, 0, none⟩ = some (.int .i64 0) := IX.out.cell' rfl
                have c81 : W23.cell? ⟨gy, 1, none⟩ = some (.slice none 0 0) := IX.out.cell' rfl
                have c82 : W23.cell? ⟨gy, 2, none⟩ = some (.slice none 0 0) := IX.out.cell' rfl
                have c83 : W23.cell? ⟨gy, 3, none⟩ = some (.bool false) := IX.out.cell' rfl
                have f80 := IX.out.frozen 0
                have f81 := IX.out.frozen 1
                have f82 := IX.out.frozen 2
                have f83 := IX.out.frozen 3
                have l80 := IX.out.lt
                go_simp
                have HM2 := Lib.hid (HM.out.put (.int .i64 rb.err) (.slice B1 rb.vals.length d1') (.slice B2 rb.evs.length d2') (.bool rb.lost))
                refine hK.out _ _ (HKS.out _ HM2.out.two.la.bel) (fun _ => ?_)
                clear hK K HM c80 c81 c82 c83 f80 f81 f82 f83 l80 IX
                try simp only [Act.put, List.setIfInBounds_toArray, List.set_cons_zero, List.set_cons_succ]
                have HM := HM2
                clear HM2
                generalize (((W23.setCell ⟨gy, 0, none⟩ (.int .i64 rb.err)).setCell ⟨gy, 1, none⟩ (.slice B1 rb.vals.length d1')).setCell ⟨gy, 2, none⟩ (.slice B2 rb.evs.length d2')).setCell ⟨gy, 3, none⟩ (.bool rb.lost) = W24 at *
                replace HM := Lib.hid HM.out.swap
                refine wpAnyH_done (by kernel_rfl) ?_ _
                go_wp2_with fail
                go_meet
                exact ⟨gx, gy, Sa', Sb', A1, c1', A2, c2', B1, d1', B2, d2', rfl, rfl, HM.out⟩
              refine AllReadyH.cons (o := { dst := some 10, op := .alloc 43, type := _, pos := _, after := _, guard := _ }) rfl (fun K hK => ?_) AllReadyH.nil
              go_simp
              have HM2 := Lib.hid HM.out.alloc
              refine hK.out _ _ (HKS.out _ HM2.out.two.la.bel) (fun _ => ?_)
              clear hK K HM
              try simp only [Act.put, List.setIfInBounds_toArray, List.set_cons_zero, List.set_cons_succ]
              have HM := HM2
              clear HM2
              generalize W20.alloc (.cells #[.int .i64 0, .slice none 0 0, .slice none 0 0, .bool false] 43) = W25 at *
              generalize W20.heap.size = gx at *
              refine wpAnyH_ready (rs := [11]) (by kernel_rfl) (by simp) ?_
              refine AllReadyH.cons (o := { dst := some 72, op := .call { callee := .value (.func 17), args := #[.tmp 67, .tmp 71], argTypes := _ }, type := _, pos := _, after := _, guard := _ }) rfl (fun K hK => ?_) AllReadyH.nil
              go_simp
              refine Calls.mono (HBb.out W25 _ _ _ HM.out.two) ?_
              rintro e W26 ⟨B1, d1', B2, d2', rfl, hs1, hs2, Sb', hT, hG⟩
              have HM2 := Lib.hid (HM.out.second hT hG hs1 hs2)
              clear hT hG hs1 hs2 HM
              have HM := HM2
              clear HM2
              go_wp2_with fail
              refine hK.out _ _ (HKS.out _ HM.out.two.la.bel) (fun _ => ?_)
              clear hK K
              try simp only [Act.put, List.setIfInBounds_toArray, List.set_cons_zero, List.set_cons_succ]
              refine wpAnyH_ready (rs := [14]) (by kernel_rfl) (by simp) ?_
              refine AllReadyH.cons (o := { dst := none, op := .store 43 (.tmp 10) (.tmp 66), type := _, pos := _, after := _, guard := _ }) rfl (fun K hK => ?_) AllReadyH.nil
              have IX := Lib.hid (HM.out.box _ (List.mem_cons_self ..)).1
              have c80 : W26.cell? ⟨gx, 0, none⟩ = some (.int .i64 0) := IX.out.cell' rfl
              have c81 : W26.cell? ⟨gx, 1, none⟩ = some (.slice none 0 0) := IX.out.cell' rfl
              have c82 : W26.cell? ⟨gx, 2, none⟩ = some (.slice none 0 0) := IX.out.cell' rfl
              have c83 : W26.cell? ⟨gx, 3, none⟩ = some (.bool false) := IX.out.cell' rfl
              have f80 := IX.out.frozen 0
              have f81 := IX.out.frozen 1
              have f82 := IX.out.frozen 2
              have f83 := IX.out.frozen 3
              have l80 := IX.out.lt
              go_simp
              have HM2 := Lib.hid (HM.out.put (.int .i64 ra.err) (.slice A1 ra.vals.length c1') (.slice A2 ra.evs.length c2') (.bool ra.lost))
              refine hK.out _ _ (HKS.out _ HM2.out.two.la.bel) (fun _ => ?_)
              clear hK K HM c80 c81 c82 c83 f80 f81 f82 f83 l80 IX
              try simp only [Act.put, List.setIfInBounds_toArray, List.set_cons_zero, List.set_cons_succ]
              have HM := HM2
              clear HM2
              generalize (((W26.setCell ⟨gx, 0, none⟩ (.int .i64 ra.err)).setCell ⟨gx, 1, none⟩ (.slice A1 ra.vals.length c1')).setCell ⟨gx, 2, none⟩ (.slice A2 ra.evs.length c2')).setCell ⟨gx, 3, none⟩ (.bool ra.lost) = W27 at *
              refine wpAnyH_ready (rs := [15]) (by kernel_rfl) (by simp) ?_
              refine AllReadyH.cons (o := { dst := none, op := .store 43 (.tmp 11) (.tmp 72), type := _, pos := _, after := _, guard := _ }) rfl (fun K hK => ?_) AllReadyH.nil
              replace HM := Lib.hid HM.out.swap
              have IX := Lib.hid (HM.out.box _ (List.mem_cons_self ..)).1
              have c80 : W27.cell? ⟨gy, 0, none⟩ = some (.int .i64 0) := IX.out.cell' rfl
              have c81 : W27.cell? ⟨gy, 1, none⟩ = some (.slice none 0 0) := IX.out.cell' rfl
              have c82 : W27.cell? ⟨gy, 2, none⟩ = some (.slice none 0 0) := IX.out.cell' rfl
              have c83 : W27.cell? ⟨gy, 3, none⟩ = some (.bool false) := IX.out.cell' rfl
              have f80 := IX.out.frozen 0
              have f81 := IX.out.frozen 1
              have f82 := IX.out.frozen 2
              have f83 := IX.out.frozen 3
              have l80 := IX.out.lt
              go_simp
              have HM2 := Lib.hid (HM.out.put (.int .i64 rb.err) (.slice B1 rb.vals.length d1') (.slice B2 rb.evs.length d2') (.bool rb.lost))
              refine hK.out _ _ (HKS.out _ HM2.out.two.la.bel) (fun _ => ?_)
              clear hK K HM c80 c81 c82 c83 f80 f81 f82 f83 l80 IX
              try simp only [Act.put, List.setIfInBounds_toArray, List.set_cons_zero, List.set_cons_succ]
              have HM := HM2
              clear HM2
              generalize (((W27.setCell ⟨gy, 0, none⟩ (.int .i64 rb.err)).setCell ⟨gy, 1, none⟩ (.slice B1 rb.vals.length d1')).setCell ⟨gy, 2, none⟩ (.slice B2 rb.evs.length d2')).setCell ⟨gy, 3, none⟩ (.bool rb.lost) = W28 at *
              replace HM := Lib.hid HM.out.swap
              refine wpAnyH_done (by kernel_rfl) ?_ _
              go_wp2_with fail
              go_meet
              exact ⟨gx, gy, Sa', Sb', A1, c1', A2, c2', B1, d1', B2, d2', rfl, rfl, HM.out⟩
            refine AllReadyH.cons (o := { dst := some 10, op := .alloc 43, type := _, pos := _, after := _, guard := _ }) rfl (fun K hK => ?_) ?_
            · go_simp
              have HM2 := Lib.hid HM.out.alloc
              refine hK.out _ _ (HKS.out _ HM2.out.two.la.bel) (fun _ => ?_)
              clear hK K HM
              try simp only [Act.put, List.setIfInBounds_toArray, List.set_cons_zero, List.set_cons_succ]
              have HM := HM2
              clear HM2
              generalize W0.alloc (.cells #[.int .i64 0, .slice none 0 0, .slice none 0 0, .bool false] 43) = W29 at *
              generalize W0.heap.size = gx at *
              refine wpAnyH_ready (rs := [5, 13]) (by kernel_rfl) (by simp) ?_
              refine AllReadyH.cons (o := { dst := some 66, op := .call { callee := .value (.func 17), args := #[.tmp 61, .tmp 65], argTypes := _ }, type := _, pos := _, after := _, guard := _ }) rfl (fun K hK => ?_) ?_
              · go_simp
                refine Calls.mono (HBa.out W29 _ _ HM.out.two) ?_
                rintro e W30 ⟨A1, c1', A2, c2', rfl, hs1, hs2, Sa', hT, hG⟩
                have HM2 := Lib.hid (HM.out.first hT hG hs1 hs2)
                clear hT hG hs1 hs2 HM
                have HM := HM2
                clear HM2
                go_wp2_with fail
                refine hK.out _ _ (HKS.out _ HM.out.two.la.bel) (fun _ => ?_)
                clear hK K
                try simp only [Act.put, List.setIfInBounds_toArray, List.set_cons_zero, List.set_cons_succ]
                refine wpAnyH_ready (rs := [11, 13]) (by kernel_rfl) (by simp) ?_
                refine AllReadyH.cons (o := { dst := some 72, op := .call { callee := .value (.func 17), args := #[.tmp 67, .tmp 71], argTypes := _ }, type := _, pos := _, after := _, guard := _ }) rfl (fun K hK => ?_) ?_
                · go_simp
                  refine Calls.mono (HBb.out W30 _ _ _ HM.out.two) ?_
                  rintro e W31 ⟨B1, d1', B2, d2', rfl, hs1, hs2, Sb', hT, hG⟩
                  have HM2 := Lib.hid (HM.out.second hT hG hs1 hs2)
                  clear hT hG hs1 hs2 HM
                  have HM := HM2
                  clear HM2
                  go_wp2_with fail
                  refine hK.out _ _ (HKS.out _ HM.out.two.la.bel) (fun _ => ?_)
                  clear hK K
                  try simp only [Act.put, List.setIfInBounds_toArray, List.set_cons_zero, List.set_cons_succ]
                  refine wpAnyH_ready (rs := [13]) (by kernel_rfl) (by simp) ?_
                  refine AllReadyH.cons (o := { dst := some 11, op := .alloc 43, type := _, pos := _, after := _, guard := _ }) rfl (fun K hK => ?_) AllReadyH.nil
                  go_simp
                  have HM2 := Lib.hid HM.out.alloc
                  refine hK.out _ _ (HKS.out _ HM2.out.two.la.bel) (fun _ => ?_)
                  clear hK K HM
                  try simp only [Act.put, List.setIfInBounds_toArray, List.set_cons_zero, List.set_cons_succ]
                  have HM := HM2
                  clear HM2
                  generalize W31.alloc (.cells #[.int .i64 0, .slice none 0 0, .slice none 0 0, .bool false] 43) = W32 at *
                  generalize W31.heap.size = gy at *
                  refine wpAnyH_ready (rs := [14]) (by kernel_rfl) (by simp) ?_
                  refine AllReadyH.cons (o := { dst := none, op := .store 43 (.tmp 10) (.tmp 66), type := _, pos := _, after := _, guard := _ }) rfl (fun K hK => ?_) AllReadyH.nil
                  replace HM := Lib.hid HM.out.swap
                  have IX := Lib.hid (HM.out.box _ (List.mem_cons_self ..)).1
                  have c80 : W32.cell? ⟨gx, 0, none⟩ = some (.int .i64 0) := IX.out.cell' rfl
                  have c81 : W32.cell? ⟨gx, 1, none⟩ = some (.slice none 0 0) := IX.out.cell' rfl
                  have c82 : W32.cell? ⟨gx, 2, none⟩ = some (.slice none 0 0) := IX.out.cell' rfl
                  have c83 : W32.cell? ⟨gx, 3, none⟩ = some (.bool false) := IX.out.cell' rfl
                  have f80 := IX.out.frozen 0
                  have f81 := IX.out.frozen 1
                  have f82 := IX.out.frozen 2
                  have f83 := IX.out.frozen 3
                  have l80 := IX.out.lt
                  go_simp
                  have HM2 := Lib.hid (HM.out.put (.int .i64 ra.err) (.slice A1 ra.vals.length c1') (.slice A2 ra.evs.length c2') (.bool ra.lost))
                  refine hK.out _ _ (HKS.out _ HM2.out.two.la.bel) (fun _ => ?_)
                  clear hK K HM c80 c81 c82 c83 f80 f81 f82 f83 l80 IX
                  try simp only [Act.put, List.setIfInBounds_toArray, List.set_cons_zero, List.set_cons_succ]
                  have HM := HM2
                  clear HM2
                  generalize (((W32.setCell ⟨gx, 0, none⟩ (.int .i64 ra.err)).setCell ⟨gx, 1, none⟩ (.slice A1 ra.vals.length c1')).setCell ⟨gx, 2, none⟩ (.slice A2 ra.evs.length c2')).setCell ⟨gx, 3, none⟩ (.bool ra.lost) = W33 at *
                  refine wpAnyH_ready (rs := [15]) (by kernel_rfl) (by simp) ?_
                  refine AllReadyH.cons (o := { dst := none, op := .store 43 (.tmp 11) (.tmp 72), type := _, pos := _, after := _, guard := _ }) rfl (fun K hK => ?_) AllReadyH.nil
                  replace HM := Lib.hid HM.out.swap
                  have IX := Lib.hid (HM.out.box _ (List.mem_cons_self ..)).1
                  have c80 : W33.cell? ⟨gy, 0, none⟩ = some (.int .i64 0) := IX.out.cell' rfl
                  have c81 : W33.cell? ⟨gy, 1, none⟩ = some (.slice none 0 0) := IX.out.cell' rfl
                  have c82 : W33.cell? ⟨gy, 2, none⟩ = some (.slice none 0 0) := IX.out.cell' rfl
                  have c83 : W33.cell? ⟨gy, 3, none⟩ = some (.bool false) := IX.out.cell' rfl
                  have f80 := IX.out.frozen 0
                  have f81 := IX.out.frozen 1
                  have f82 := IX.out.frozen 2
                  have f83 := IX.out.frozen 3
                  have l80 := IX.out.lt
                  go_simp
                  have HM2 := Lib.hid (HM.out.put (.int .i64 rb.err) (.slice B1 rb.vals.length d1') (.slice B2 rb.evs.length d2') (.bool rb.lost))
                  refine hK.out _ _ (HKS.out _ HM2.out.two.la.bel) (fun _ => ?_)
                  clear hK K HM c80 c81 c82 c83 f80 f81 f82 f83 l80 IX
                  try simp only [Act.put, List.setIfInBounds_toArray, List.set_cons_zero, List.set_cons_succ]
                  have HM := HM2
                  clear HM2
                  generalize (((W33.setCell ⟨gy, 0, none⟩ (.int .i64 rb.err)).setCell ⟨gy, 1, none⟩ (.slice B1 rb.vals.length d1')).setCell ⟨gy, 2, none⟩ (.slice B2 rb.evs.length d2')).setCell ⟨gy, 3, none⟩ (.bool rb.lost) = W34 at *
                  replace HM := Lib.hid HM.out.swap
                  refine wpAnyH_done (by kernel_rfl) ?_ _
                  go_wp2_with fail
                  go_meet
                  exact ⟨gx, gy, Sa', Sb', A1, c1', A2, c2', B1, d1', B2, d2', rfl, rfl, HM.out⟩
                refine AllReadyH.cons (o := { dst := some 11, op := .alloc 43, type := _, pos := _, after := _, guard := _ }) rfl (fun K hK => ?_) AllReadyH.nil
                go_simp
                have HM2 := Lib.hid HM.out.alloc
                refine hK.out _ _ (HKS.out _ HM2.out.two.la.bel) (fun _ => ?_)
                clear hK K HM
                try simp only [Act.put, List.setIfInBounds_toArray, List.set_cons_zero, List.set_cons_succ]
                have HM := HM2
                clear HM2
                generalize W30.alloc (.cells #[.int .i64 0, .slice none 0 0, .slice none 0 0, .bool false] 43) = W35 at *
                generalize W30.heap.size = gy at *
                refine wpAnyH_ready (rs := [11]) (by kernel_rfl) (by simp) ?_
                refine AllReadyH.cons (o := { dst := some 72, op := .call { callee := .value (.func 17), args := #[.tmp 67, .tmp 71], argTypes := _ }, type := _, pos := _, after := _, guard := _ }) rfl (fun K hK => ?_) AllReadyH.nil
                go_simp
                refine Calls.mono (HBb.out W35 _ _ _ HM.out.two) ?_
                rintro e W36 ⟨B1, d1', B2, d2', rfl, hs1, hs2, Sb', hT, hG⟩
                have HM2 := Lib.hid (HM.out.second hT hG hs1 hs2)
                clear hT hG hs1 hs2 HM
                have HM := HM2
                clear HM2
                go_wp2_with fail
                refine hK.out _ _ (HKS.out _ HM.out.two.la.bel) (fun _ => ?_)
                clear hK K
                try simp only [Act.put, List.setIfInBounds_toArray, List.set_cons_zero, List.set_cons_succ]
                refine wpAnyH_ready (rs := [14]) (by kernel_rfl) (by simp) ?_
                refine AllReadyH.cons (o := { dst := none, op := .store 43 (.tmp 10) (.tmp 66), type := _, pos := _, after := _, guard := _ }) rfl (fun K hK => ?_) AllReadyH.nil
                replace HM := Lib.hid HM.out.swap
                have IX := Lib.hid (HM.out.box _ (List.mem_cons_self ..)).1
                have c80 : W36.cell? ⟨gx, 0, none⟩ = some (.int .i64 0) := IX.out.cell' rfl
                have c81 : W36.cell? ⟨gx, 1, none⟩ = some (.slice none 0 0) := IX.out.cell' rfl
                have c82 : W36.cell? ⟨gx, 2, none⟩ = some (.slice none 0 0) := IX.out.cell' rfl
                have c83 : W36.cell? ⟨gx, 3, none⟩ = some (.bool false) := IX.out.cell' rfl
                have f80 := IX.out.frozen 0
                have f81 := IX.out.frozen 1
                have f82 := IX.out.frozen 2
                have f83 := IX.out.frozen 3
                have l80 := IX.out.lt
                go_simp
                have HM2 := Lib.hid (HM.out.put (.int .i64 ra.err) (.slice A1 ra.vals.length c1') (.slice A2 ra.evs.length c2') (.bool ra.lost))
                refine hK.out _ _ (HKS.out _ HM2.out.two.la.bel) (fun _ => ?_)
                clear hK K HM c80 c81 c82 c83 f80 f81 f82 f83 l80 IX
                try simp only [Act.put, List.setIfInBounds_toArray, List.set_cons_zero, List.set_cons_succ]
                have HM := HM2
                clear HM2
                generalize (((W36.setCell ⟨gx, 0, none⟩ (.int .i64 ra.err)).setCell ⟨gx, 1, none⟩ (.slice A1 ra.vals.length c1')).setCell ⟨gx, 2, none⟩ (.slice A2 ra.evs.length c2')).setCell ⟨gx, 3, none⟩ (.bool ra.lost) = W37 at *
                refine wpAnyH_ready (rs := [15]) (by kernel_rfl) (by simp) ?_
                refine AllReadyH.cons (o := { dst := none, op := .store 43 (.tmp 11) (.tmp 72), type := _, pos := _, after := _, guard := _ }) rfl (fun K hK => ?_) AllReadyH.nil
                replace HM := Lib.hid HM.out.swap
                have IX := Lib.hid (HM.out.box _ (List.mem_cons_self ..)).1
                have c80 : W37.cell? ⟨gy, 0, none⟩ = some (.int .i64 0) := IX.out.cell' rfl
                have c81 : W37.cell? ⟨gy, 1, none⟩ = some (.slice none 0 0) := IX.out.cell' rfl
                have c82 : W37.cell? ⟨gy, 2, none⟩ = some (.slice none 0 0) := IX.out.cell' rfl
                have c83 : W37.cell? ⟨gy, 3, none⟩ = some (.bool false) := IX.out.cell' rfl
                have f80 := IX.out.frozen 0
                have f81 := IX.out.frozen 1
                have f82 := IX.out.frozen 2
                have f83 := IX.out.frozen 3
                have l80 := IX.out.lt
                go_simp
                have HM2 := Lib.hid (HM.out.put (.int .i64 rb.err) (.slice B1 rb.vals.length d1') (.slice B2 rb.evs.length d2') (.bool rb.lost))
                refine hK.out _ _ (HKS.out _ HM2.out.two.la.bel) (fun _ => ?_)
                clear hK K HM c80 c81 c82 c83 f80 f81 f82 f83 l80 IX
                try simp only [Act.put, List.setIfInBounds_toArray, List.set_cons_zero, List.set_cons_succ]
                have HM := HM2
                clear HM2
                generalize (((W37.setCell ⟨gy, 0, none⟩ (.int .i64 rb.err)).setCell ⟨gy, 1, none⟩ (.slice B1 rb.vals.length d1')).setCell ⟨gy, 2, none⟩ (.slice B2 rb.evs.length d2')).setCell ⟨gy, 3, none⟩ (.bool rb.lost) = W38 at *
                replace HM := Lib.hid HM.out.swap
                refine wpAnyH_done (by kernel_rfl) ?_ _
                go_wp2_with fail
                go_meet
                exact ⟨gx, gy, Sa', Sb', A1, c1', A2, c2', B1, d1', B2, d2', rfl, rfl, HM.out⟩
              refine AllReadyH.cons (o := { dst := some 11, op := .alloc 43, type := _, pos := _, after := _, guard := _ }) rfl (fun K hK => ?_) AllReadyH.nil
              go_simp
              have HM2 := Lib.hid HM.out.alloc
              refine hK.out _ _ (HKS.out _ HM2.out.two.la.bel) (fun _ => ?_)
              clear hK K HM
              try simp only [Act.put, List.setIfInBounds_toArray, List.set_cons_zero, List.set_cons_succ]
              have HM := HM2
              clear HM2
              generalize W29.alloc (.cells #[.int .i64 0, .slice none 0 0, .slice none 0 0, .bool false] 43) = W39 at *
              generalize W29.heap.size = gy at *
              refine wpAnyH_ready (rs := [5]) (by kernel_rfl) (by simp) ?_
              refine AllReadyH.cons (o := { dst := some 66, op := .call { callee := .value (.func 17), args := #[.tmp 61, .tmp 65], argTypes := _ }, type := _, pos := _, after := _, guard := _ }) rfl (fun K hK => ?_) AllReadyH.nil
              go_simp
              refine Calls.mono (HBa.out W39 _ _ HM.out.two) ?_
              rintro e W40 ⟨A1, c1', A2, c2', rfl, hs1, hs2, Sa', hT, hG⟩
              have HM2 := Lib.hid (HM.out.first hT hG hs1 hs2)
              clear hT hG hs1 hs2 HM
              have HM := HM2
              clear HM2
              go_wp2_with fail
              refine hK.out _ _ (HKS.out _ HM.out.two.la.bel) (fun _ => ?_)
              clear hK K
              try simp only [Act.put, List.setIfInBounds_toArray, List.set_cons_zero, List.set_cons_succ]
              refine wpAnyH_ready (rs := [11]) (by kernel_rfl) (by simp) ?_
              refine AllReadyH.cons (o := { dst := some 72, op := .call { callee := .value (.func 17), args := #[.tmp 67, .tmp 71], argTypes := _ }, type := _, pos := _, after := _, guard := _ }) rfl (fun K hK => ?_) AllReadyH.nil
              go_simp
              refine Calls.mono (HBb.out W40 _ _ _ HM.out.two) ?_
              rintro e W41 ⟨B1, d1', B2, d2', rfl, hs1, hs2, Sb', hT, hG⟩
              have HM2 := Lib.hid (HM.out.second hT hG hs1 hs2)
              clear hT hG hs1 hs2 HM
              have HM := HM2
              clear HM2
              go_wp2_with fail
              refine hK.out _ _ (HKS.out _ HM.out.two.la.bel) (fun _ => ?_)
              clear hK K
              try simp only [Act.put, List.setIfInBounds_toArray, List.set_cons_zero, List.set_cons_succ]
              refine wpAnyH_ready (rs := [14]) (by kernel_rfl) (by simp) ?_
              refine AllReadyH.cons (o := { dst := none, op := .store 43 (.tmp 10) (.tmp 66), type := _, pos := _, after := _, guard := _ }) rfl (fun K hK => ?_) AllReadyH.nil
              replace HM := Lib.hid HM.out.swap
              have IX := Lib.hid (HM.out.box _ (List.mem_cons_self ..)).1
              have c80 : W41.cell? ⟨gx, 0, none⟩ = some (.int .i64 0) := IX.out.cell' rfl
              have c81 : W41.cell? ⟨gx, 1, none⟩ = some (.slice none 0 0) := IX.out.cell' rfl
              have c82 : W41.cell? ⟨gx, 2, none⟩ = some (.slice none 0 0) := IX.out.cell' rfl
              have c83 : W41.cell? ⟨gx, 3, none⟩ = some (.bool false) := IX.out.cell' rfl
              have f80 := IX.out.frozen 0
              have f81 := IX.out.frozen 1
              have f82 := IX.out.frozen 2
              have f83 := IX.out.frozen 3
              have l80 := IX.out.lt
              go_simp
              have HM2 := Lib.hid (HM.out.put (.int .i64 ra.err) (.slice A1 ra.vals.length c1') (.slice A2 ra.evs.length c2') (.bool ra.lost))
              refine hK.out _ _ (HKS.out _ HM2.out.two.la.bel) (fun _ => ?_)
              clear hK K HM c80 c81 c82 c83 f80 f81 f82 f83 l80 IX
              try simp only [Act.put, List.setIfInBounds_toArray, List.set_cons_zero, List.set_cons_succ]
              have HM := HM2
              clear HM2
              generalize (((W41.setCell ⟨gx, 0, none⟩ (.int .i64 ra.err)).setCell ⟨gx, 1, none⟩ (.slice A1 ra.vals.length c1')).setCell ⟨gx, 2, none⟩ (.slice A2 ra.evs.length c2')).setCell ⟨gx, 3, none⟩ (.bool ra.lost) = W42 at *
              refine wpAnyH_ready (rs := [15]) (by kernel_rfl) (by simp) ?_
              refine AllReadyH.cons (o := { dst := none, op := .store 43 (.tmp 11) (.tmp 72), type := _, pos := _, after := _, guard := _ }) rfl (fun K hK => ?_) AllReadyH.nil
              replace HM := Lib.hid HM.out.swap
              have IX := Lib.hid (HM.out.box _ (List.mem_cons_self ..)).1
              have c80 : W42.cell? ⟨gy, 0, none⟩ = some (.int .i64 0) := IX.out.cell' rfl
              have c81 : W42.cell? ⟨gy, 1, none⟩ = some (.slice none 0 0) := IX.out.cell' rfl
              have c82 : W42.cell? ⟨gy, 2, none⟩ = some (.slice none 0 0) := IX.out.cell' rfl
              have c83 : W42.cell? ⟨gy, 3, none⟩ = some (.bool false) := IX.out.cell' rfl
              have f80 := IX.out.frozen 0
              have f81 := IX.out.frozen 1
              have f82 := IX.out.frozen 2
              have f83 := IX.out.frozen 3
              have l80 := IX.out.lt
              go_simp
              have HM2 := Lib.hid (HM.out.put (.int .i64 rb.err) (.slice B1 rb.vals.length d1') (.slice B2 rb.evs.length d2') (.bool rb.lost))
              refine hK.out _ _ (HKS.out _ HM2.out.two.la.bel) (fun _ => ?_)
              clear hK K HM c80 c81 c82 c83 f80 f81 f82 f83 l80 IX
              try simp only [Act.put, List.setIfInBounds_toArray, List.set_cons_zero, List.set_cons_succ]
              have HM := HM2
              clear HM2
              generalize (((W42.setCell ⟨gy, 0, none⟩ (.int .i64 rb.err)).setCell ⟨gy, 1, none⟩ (.slice B1 rb.vals.length d1')).setCell ⟨gy, 2, none⟩ (.slice B2 rb.evs.length d2')).setCell ⟨gy, 3, none⟩ (.bool rb.lost) = W43 at *
              replace HM := Lib.hid HM.out.swap
              refine wpAnyH_done (by kernel_rfl) ?_ _
              go_wp2_with fail
              go_meet
              exact ⟨gx, gy, Sa', Sb', A1, c1', A2, c2', B1, d1', B2, d2', rfl, rfl, HM.out⟩
            refine AllReadyH.cons (o := { dst := some 11, op := .alloc 43, type := _, pos := _, after := _, guard := _ }) rfl (fun K hK => ?_) AllReadyH.nil
            go_simp
            have HM2 := Lib.hid HM.out.alloc
            refine hK.out _ _ (HKS.out _ HM2.out.two.la.bel) (fun _ => ?_)
            clear hK K HM
            try simp only [Act.put, List.setIfInBounds_toArray, List.set_cons_zero, List.set_cons_succ]
            have HM := HM2
            clear HM2
            generalize W0.alloc (.cells #[.int .i64 0, .slice none 0 0, .slice none 0 0, .bool false] 43) = W44 at *
            generalize W0.heap.size = gy at *
            refine wpAnyH_ready (rs := [5, 12]) (by kernel_rfl) (by simp) ?_
            refine AllReadyH.cons (o := { dst := some 66, op := .call { callee := .value (.func 17), args := #[.tmp 61, .tmp 65], argTypes := _ }, type := _, pos := _, after := _, guard := _ }) rfl (fun K hK => ?_) ?_
            · go_simp
              refine Calls.mono (HBa.out W44 _ _ HM.out.two) ?_
              rintro e W45 ⟨A1, c1', A2, c2', rfl, hs1, hs2, Sa', hT, hG⟩
              have HM2 := Lib.hid (HM.out.first hT hG hs1 hs2)
              clear hT hG hs1 hs2 HM
              have HM := HM2
              clear HM2
              go_wp2_with fail
              refine hK.out _ _ (HKS.out _ HM.out.two.la.bel) (fun _ => ?_)
              clear hK K
              try simp only [Act.put, List.setIfInBounds_toArray, List.set_cons_zero, List.set_cons_succ]
              refine wpAnyH_ready (rs := [11, 12]) (by kernel_rfl) (by simp) ?_
              refine AllReadyH.cons (o := { dst := some 72, op := .call { callee := .value (.func 17), args := #[.tmp 67, .tmp 71], argTypes := _ }, type := _, pos := _, after := _, guard := _ }) rfl (fun K hK => ?_) ?_
              · go_simp
                refine Calls.mono (HBb.out W45 _ _ _ HM.out.two) ?_
                rintro e W46 ⟨B1, d1', B2, d2', rfl, hs1, hs2, Sb', hT, hG⟩
                have HM2 := Lib.hid (HM.out.second hT hG hs1 hs2)
                clear hT hG hs1 hs2 HM
                have HM := HM2
                clear HM2
                go_wp2_with fail
                refine hK.out _ _ (HKS.out _ HM.out.two.la.bel) (fun _ => ?_)
                clear hK K
                try simp only [Act.put, List.setIfInBounds_toArray, List.set_cons_zero, List.set_cons_succ]
                refine wpAnyH_ready (rs := [12]) (by kernel_rfl) (by simp) ?_
                refine AllReadyH.cons (o := { dst := some 10, op := .alloc 43, type := _, pos := _, after := _, guard := _ }) rfl (fun K hK => ?_) AllReadyH.nil
                go_simp
                have HM2 := Lib.hid HM.out.alloc
                refine hK.out _ _ (HKS.out _ HM2.out.two.la.bel) (fun _ => ?_)
                clear hK K HM
                try simp only [Act.put, List.setIfInBounds_toArray, List.set_cons_zero, List.set_cons_succ]
                have HM := HM2
                clear HM2
                generalize W46.alloc (.cells #[.int .i64 0, .slice none 0 0, .slice none 0 0, .bool false] 43) = W47 at *
                generalize W46.heap.size = gx at *
                refine wpAnyH_ready (rs := [14]) (by kernel_rfl) (by simp) ?_
                refine AllReadyH.cons (o := { dst := none, op := .store 43 (.tmp 10) (.tmp 66), type := _, pos := _, after := _, guard := _ }) rfl (fun K hK => ?_) AllReadyH.nil
                have IX := Lib.hid (HM.out.box _ (List.mem_cons_self ..)).1
                have c80 : W47.cell? ⟨gx, 0, none⟩ = some (.int .i64 0) := IX.out.cell' rfl
                have c81 : W47.cell? ⟨gx, 1, none⟩ = some (.slice none 0 0) := IX.out.cell' rfl
                have c82 : W47.cell? ⟨gx, 2, none⟩ = some (.slice none 0 0) := IX.out.cell' rfl
                have c83 : W47.cell? ⟨gx, 3, none⟩ = some (.bool false) := IX.out.cell' rfl
                have f80 := IX.out.frozen 0
                have f81 := IX.out.frozen 1
                have f82 := IX.out.frozen 2
                have f83 := IX.out.frozen 3
                have l80 := IX.out.lt
                go_simp
                have HM2 := Lib.hid (HM.out.put (.int .i64 ra.err) (.slice A1 ra.vals.length c1') (.slice A2 ra.evs.length c2') (.bool ra.lost))
                refine hK.out _ _ (HKS.out _ HM2.out.two.la.bel) (fun _ => ?_)
                clear hK K HM c80 c81 c82 c83 f80 f81 f82 f83 l80 IX
                try simp only [Act.put, List.setIfInBounds_toArray, List.set_cons_zero, List.set_cons_succ]
                have HM := HM2
                clear HM2
                generalize (((W47.setCell ⟨gx, 0, none⟩ (.int .i64 ra.err)).setCell ⟨gx, 1, none⟩ (.slice A1 ra.vals.length c1')).setCell ⟨gx, 2, none⟩ (.slice A2 ra.evs.length c2')).setCell ⟨gx, 3, none⟩ (.bool ra.lost) = W48 at *
                refine wpAnyH_ready (rs := [15]) (by kernel_rfl) (by simp) ?_
                refine AllReadyH.cons (o := { dst := none, op := .store 43 (.tmp 11) (.tmp 72), type := _, pos := _, after := _, guard := _ }) rfl (fun K hK => ?_) AllReadyH.nil
                replace HM := Lib.hid HM.out.swap
                have IX := Lib.hid (HM.out.box _ (List.mem_cons_self ..)).1
                have c80 : W48.cell? ⟨gy, 0, none⟩ = some (.int .i64 0) := IX.out.cell' rfl
                have c81 : W48.cell? ⟨gy, 1, none⟩ = some (.slice none 0 0) := IX.out.cell' rfl
                have c82 : W48.cell? ⟨gy, 2, none⟩ = some (.slice none 0 0) := IX.out.cell' rfl
                have c83 : W48.cell? ⟨gy, 3, none⟩ = some (.bool false) := IX.out.cell' rfl
                have f80 := IX.out.frozen 0
                have f81 := IX.out.frozen 1
                have f82 := IX.out.frozen 2
                have f83 := IX.out.frozen 3
                have l80 := IX.out.lt
                go_simp
                have HM2 := Lib.hid (HM.out.put (.int .i64 rb.err) (.slice B1 rb.vals.length d1') (.slice B2 rb.evs.length d2') (.bool rb.lost))
                refine hK.out _ _ (HKS.out _ HM2.out.two.la.bel) (fun _ => ?_)
                clear hK K HM c80 c81 c82 c83 f80 f81 f82 f83 l80 IX
                try simp only [Act.put, List.setIfInBounds_toArray, List.set_cons_zero, List.set_cons_succ]
                have HM := HM2
                clear HM2
                generalize (((W48.setCell ⟨gy, 0, none⟩ (.int .i64 rb.err)).setCell ⟨gy, 1, none⟩ (.slice B1 rb.vals.length d1')).setCell ⟨gy, 2, none⟩ (.slice B2 rb.evs.length d2')).setCell ⟨gy, 3, none⟩ (.bool rb.lost) = W49 at *
                replace HM := Lib.hid HM.out.swap
                refine wpAnyH_done (by kernel_rfl) ?_ _
                go_wp2_with fail
                go_meet
                exact ⟨gx, gy, Sa', Sb', A1, c1', A2, c2', B1, d1', B2, d2', rfl, rfl, HM.out⟩
              refine AllReadyH.cons (o := { dst := some 10, op := .alloc 43, type := _, pos := _, after := _, guard := _ }) rfl (fun K hK => ?_) AllReadyH.nil
              go_simp
              have HM2 := Lib.hid HM.out.alloc
              refine hK.out _ _ (HKS.out _ HM2.out.two.la.bel) (fun _ => ?_)
              clear hK K HM
              try simp only [Act.put, List.setIfInBounds_toArray, List.set_cons_zero, List.set_cons_succ]
              have HM := HM2
              clear HM2
              generalize W45.alloc (.cells #[.int .i64 0, .slice none 0 0, .slice none 0 0, .bool false] 43) = W50 at *
              generalize W45.heap.size = gx at *
              refine wpAnyH_ready (rs := [11]) (by kernel_rfl) (by simp) ?_
              refine AllReadyH.cons (o := { dst := some 72, op := .call { callee := .value (.func 17), args := #[.tmp 67, .tmp 71], argTypes := _ }, type := _, pos := _, after := _, guard := _ }) rfl (fun K hK => ?_) AllReadyH.nil
              go_simp
              refine Calls.mono (HBb.out W50 _ _ _ HM.out.two) ?_
              rintro e W51 ⟨B1, d1', B2, d2', rfl, hs1, hs2, Sb', hT, hG⟩
              have HM2 := Lib.hid (HM.out.second hT hG hs1 hs2)
              clear hT hG hs1 hs2 HM
              have HM := HM2
              clear HM2
              go_wp2_with fail
              refine hK.out _ _ (HKS.out _ HM.out.two.la.bel) (fun _ => ?_)
              clear hK K
              try simp only [Act.put, List.setIfInBounds_toArray, List.set_cons_zero, List.set_cons_succ]
              refine wpAnyH_ready (rs := [14]) (by kernel_rfl) (by simp) ?_
              refine AllReadyH.cons (o := { dst := none, op := .store 43 (.tmp 10) (.tmp 66), type := _, pos := _, after := _, guard := _ }) rfl (fun K hK => ?_) AllReadyH.nil
              have IX := Lib.hid (HM.out.box _ (List.mem_cons_self ..)).1
              have c80 : W51.cell? ⟨gx, 0, none⟩ = some (.int .i64 0) := IX.out.cell' rfl
              have c81 : W51.cell? ⟨gx, 1, none⟩ = some (.slice none 0 0) := IX.out.cell' rfl
              have c82 : W51.cell? ⟨gx, 2, none⟩ = some (.slice none 0 0) := IX.out.cell' rfl
              have c83 : W51.cell? ⟨gx, 3, none⟩ = some (.bool false) := IX.out.cell' rfl
              have f80 := IX.out.frozen 0
              have f81 := IX.out.frozen 1
              have f82 := IX.out.frozen 2
              have f83 := IX.out.frozen 3
              have l80 := IX.out.lt
              go_simp
              have HM2 := Lib.hid (HM.out.put (.int .i64 ra.err) (.slice A1 ra.vals.length c1') (.slice A2 ra.evs.length c2') (.bool ra.lost))
              refine hK.out _ _ (HKS.out _ HM2.out.two.la.bel) (fun _ => ?_)
              clear hK K HM c80 c81 c82 c83 f80 f81 f82 f83 l80 IX
              try simp only [Act.put, List.setIfInBounds_toArray, List.set_cons_zero, List.set_cons_succ]
              have HM := HM2
              clear HM2
              generalize (((W51.setCell ⟨gx, 0, none⟩ (.int .i64 ra.err)).setCell ⟨gx, 1, none⟩ (.slice A1 ra.vals.length c1')).setCell ⟨gx, 2, none⟩ (.slice A2 ra.evs.length c2')).setCell ⟨gx, 3, none⟩ (.bool ra.lost) = W52 at *
              refine wpAnyH_ready (rs := [15]) (by kernel_rfl) (by simp) ?_
              refine AllReadyH.cons (o := { dst := none, op := .store 43 (.tmp 11) (.tmp 72), type := _, pos := _, after := _, guard := _ }) rfl (fun K hK => ?_) AllReadyH.nil
              replace HM := Lib.hid HM.out.swap
              have IX := Lib.hid (HM.out.box _ (List.mem_cons_self ..)).1
              have c80 : W52.cell? ⟨gy, 0, none⟩ = some (.int .i64 0) := IX.out.cell' rfl
              have c81 : W52.cell? ⟨gy, 1, none⟩ = some (.slice none 0 0) := IX.out.cell' rfl
              have c82 : W52.cell? ⟨gy, 2, none⟩ = some (.slice none 0 0) := IX.out.cell' rfl
              have c83 : W52.cell? ⟨gy, 3, none⟩ = some (.bool false) := IX.out.cell' rfl
              have f80 := IX.out.frozen 0
              have f81 := IX.out.frozen 1
              have f82 := IX.out.frozen 2
              have f83 := IX.out.frozen 3
              have l80 := IX.out.lt
              go_simp
              have HM2 := Lib.hid (HM.out.put (.int .i64 rb.err) (.slice B1 rb.vals.length d1') (.slice B2 rb.evs.length d2') (.bool rb.lost))
              refine hK.out _ _ (HKS.out _ HM2.out.two.la.bel) (fun _ => ?_)
              clear hK K HM c80 c81 c82 c83 f80 f81 f82 f83 l80 IX
              try simp only [Act.put, List.setIfInBounds_toArray, List.set_cons_zero, List.set_cons_succ]
              have HM := HM2
              clear HM2
              generalize (((W52.setCell ⟨gy, 0, none⟩ (.int .i64 rb.err)).setCell ⟨gy, 1, none⟩ (.slice B1 rb.vals.length d1')).setCell ⟨gy, 2, none⟩ (.slice B2 rb.evs.length d2')).setCell ⟨gy, 3, none⟩ (.bool rb.lost) = W53 at *
              replace HM := Lib.hid HM.out.swap
              refine wpAnyH_done (by kernel_rfl) ?_ _
              go_wp2_with fail
              go_meet
              exact ⟨gx, gy, Sa', Sb', A1, c1', A2, c2', B1, d1', B2, d2', rfl, rfl, HM.out⟩
            refine AllReadyH.cons (o := { dst := some 10, op := .alloc 43, type := _, pos := _, after := _, guard := _ }) rfl (fun K hK => ?_) AllReadyH.nil
            go_simp
            have HM2 := Lib.hid HM.out.alloc
            refine hK.out _ _ (HKS.out _ HM2.out.two.la.bel) (fun _ => ?_)
            clear hK K HM
            try simp only [Act.put, List.setIfInBounds_toArray, List.set_cons_zero, List.set_cons_succ]
            have HM := HM2
            clear HM2
            generalize W44.alloc (.cells #[.int .i64 0, .slice none 0 0, .slice none 0 0, .bool false] 43) = W54 at *
            generalize W44.heap.size = gx at *
            refine wpAnyH_ready (rs := [5]) (by kernel_rfl) (by simp) ?_
            refine AllReadyH.cons (o := { dst := some 66, op := .call { callee := .value (.func 17), args := #[.tmp 61, .tmp 65], argTypes := _ }, type := _, pos := _, after := _, guard := _ }) rfl (fun K hK => ?_) AllReadyH.nil
            go_simp
            refine Calls.mono (HBa.out W54 _ _ HM.out.two) ?_
            rintro e W55 ⟨A1, c1', A2, c2', rfl, hs1, hs2, Sa', hT, hG⟩
            have HM2 := Lib.hid (HM.out.first hT hG hs1 hs2)
            clear hT hG hs1 hs2 HM
            have HM := HM2
            clear HM2
            go_wp2_with fail
            refine hK.out _ _ (HKS.out _ HM.out.two.la.bel) (fun _ => ?_)
            clear hK K
            try simp only [Act.put, List.setIfInBounds_toArray, List.set_cons_zero, List.set_cons_succ]
            refine wpAnyH_ready (rs := [11]) (by kernel_rfl) (by simp) ?_
            refine AllReadyH.cons (o := { dst := some 72, op := .call { callee := .value (.func 17), args := #[.tmp 67, .tmp 71], argTypes := _ }, type := _, pos := _, after := _, guard := _ }) rfl (fun K hK => ?_) AllReadyH.nil
            go_simp
            refine Calls.mono (HBb.out W55 _ _ _ HM.out.two) ?_
            rintro e W56 ⟨B1, d1', B2, d2', rfl, hs1, hs2, Sb', hT, hG⟩
            have HM2 := Lib.hid (HM.out.second hT hG hs1 hs2)
            clear hT hG hs1 hs2 HM
            have HM := HM2
            clear HM2
            go_wp2_with fail
            refine hK.out _ _ (HKS.out _ HM.out.two.la.bel) (fun _ => ?_)
            clear hK K
            try simp only [Act.put, List.setIfInBounds_toArray, List.set_cons_zero, List.set_cons_succ]
            refine wpAnyH_ready (rs := [14]) (by kernel_rfl) (by simp) ?_
            refine AllReadyH.cons (o := { dst := none, op := .store 43 (.tmp 10) (.tmp 66), type := _, pos := _, after := _, guard := _ }) rfl (fun K hK => ?_) AllReadyH.nil
            have IX := Lib.hid (HM.out.box _ (List.mem_cons_self ..)).1
            have c80 : W56.cell? ⟨gx, 0, none⟩ = some (.int .i64 0) := IX.out.cell' rfl
            have c81 : W56.cell? ⟨gx, 1, none⟩ = some (.slice none 0 0) := IX.out.cell' rfl
            have c82 : W56.cell? ⟨gx, 2, none⟩ = some (.slice none 0 0) := IX.out.cell' rfl
            have c83 : W56.cell? ⟨gx, 3, none⟩ = some (.bool false) := IX.out.cell' rfl
            have f80 := IX.out.frozen 0
            have f81 := IX.out.frozen 1
            have f82 := IX.out.frozen 2
            have f83 := IX.out.frozen 3
            have l80 := IX.out.lt
            go_simp
            have HM2 := Lib.hid (HM.out.put (.int .i64 ra.err) (.slice A1 ra.vals.length c1') (.slice A2 ra.evs.length c2') (.bool ra.lost))
            refine hK.out _ _ (HKS.out _ HM2.out.two.la.bel) (fun _ => ?_)
            clear hK K HM c80 c81 c82 c83 f80 f81 f82 f83 l80 IX
            try simp only [Act.put, List.setIfInBounds_toArray, List.set_cons_zero, List.set_cons_succ]
            have HM := HM2
            clear HM2
            generalize (((W56.setCell ⟨gx, 0, none⟩ (.int .i64 ra.err)).setCell ⟨gx, 1, none⟩ (.slice A1 ra.vals.length c1')).setCell ⟨gx, 2, none⟩ (.slice A2 ra.evs.length c2')).setCell ⟨gx, 3, none⟩ (.bool ra.lost) = W57 at *
            refine wpAnyH_ready (rs := [15]) (by kernel_rfl) (by simp) ?_
            refine AllReadyH.cons (o := { dst := none, op := .store 43 (.tmp 11) (.tmp 72), type := _, pos := _, after := _, guard := _ }) rfl (fun K hK => ?_) AllReadyH.nil
            replace HM := Lib.hid HM.out.swap
            have IX := Lib.hid (HM.out.box _ (List.mem_cons_self ..)).1
            have c80 : W57.cell? ⟨gy, 0, none⟩ = some (.int .i64 0) := IX.out.cell' rfl
            have c81 : W57.cell? ⟨gy, 1, none⟩ = some (.slice none 0 0) := IX.out.cell' rfl
            have c82 : W57.cell? ⟨gy, 2, none⟩ = some (.slice none 0 0) := IX.out.cell' rfl
            have c83 : W57.cell? ⟨gy, 3, none⟩ = some (.bool false) := IX.out.cell' rfl
            have f80 := IX.out.frozen 0
            have f81 := IX.out.frozen 1
            have f82 := IX.out.frozen 2
            have f83 := IX.out.frozen 3
            have l80 := IX.out.lt
            go_simp
            have HM2 := Lib.hid (HM.out.put (.int .i64 rb.err) (.slice B1 rb.vals.length d1') (.slice B2 rb.evs.length d2') (.bool rb.lost))
            refine hK.out _ _ (HKS.out _ HM2.out.two.la.bel) (fun _ => ?_)
            clear hK K HM c80 c81 c82 c83 f80 f81 f82 f83 l80 IX
            try simp only [Act.put, List.setIfInBounds_toArray, List.set_cons_zero, List.set_cons_succ]
            have HM := HM2
            clear HM2
            generalize (((W57.setCell ⟨gy, 0, none⟩ (.int .i64 rb.err)).setCell ⟨gy, 1, none⟩ (.slice B1 rb.vals.length d1')).setCell ⟨gy, 2, none⟩ (.slice B2 rb.evs.length d2')).setCell ⟨gy, 3, none⟩ (.bool rb.lost) = W58 at *
            replace HM := Lib.hid HM.out.swap
            refine wpAnyH_done (by kernel_rfl) ?_ _
            go_wp2_with fail
            go_meet
            exact ⟨gx, gy, Sa', Sb', A1, c1', A2, c2', B1, d1', B2, d2', rfl, rfl, HM.out⟩
          case rest =>
            clear HT HBa HBb
            obtain ⟨gx, gy, Sa', Sb', A1, c1', A2, c2', B1, d1', B2, d2', rfl, rfl, hM⟩ := hcut
            have HM := Lib.hid hM
            have HSc := Lib.hid (HKS.out _ hM.two.la.bel)
            clear hM
            obtain ⟨z0, z1, z2, z3, z4, z5, z6, z7, z8, z9⟩ := HSc.out
            have lz : bl < wc.heap.size := Nat.lt_of_lt_of_le hb0 HM.out.two.la.bel.size
            have IX := Lib.hid (HM.out.box _ (List.mem_cons_self ..)).1
            have IY := Lib.hid (HM.out.box (gy, #[.int .i64 rb.err, .slice B1 rb.vals.length d1', .slice B2 rb.evs.length d2', .bool rb.lost]) (by simp)).1
            have p0 : wc.cell? ⟨gx, 0, none⟩ = some (.int .i64 ra.err) := IX.out.cell' rfl
            have p1 : wc.cell? ⟨gx, 1, none⟩ = some (.slice A1 ra.vals.length c1') := IX.out.cell' rfl
            have p2 : wc.cell? ⟨gx, 2, none⟩ = some (.slice A2 ra.evs.length c2') := IX.out.cell' rfl
            have p3 : wc.cell? ⟨gx, 3, none⟩ = some (.bool ra.lost) := IX.out.cell' rfl
            have r0 : wc.cell? ⟨gy, 0, none⟩ = some (.int .i64 rb.err) := IY.out.cell' rfl
            have r1 : wc.cell? ⟨gy, 1, none⟩ = some (.slice B1 rb.vals.length d1') := IY.out.cell' rfl
            have r2 : wc.cell? ⟨gy, 2, none⟩ = some (.slice B2 rb.evs.length d2') := IY.out.cell' rfl
            have r3 : wc.cell? ⟨gy, 3, none⟩ = some (.bool rb.lost) := IY.out.cell' rfl
            have lgx := IX.out.lt
            have lgy := IY.out.lt
            clear z1 z3 z4 z5 z6 z7 z8 z9 HSc
            by_cases h0 : d % 3 = 0
            · have e0 : ((d : Int) % 3 != 0) = false := by simp; omega
              have htm : (d : Int).tmod 3 = (d : Int) % 3 := Int.tmod_eq_emod_of_nonneg (Int.natCast_nonneg d)
              by_cases hk8 : kind = 8
              · have e8 : (kind != 8) = false := by simpa using hk8
                clear hk8
                have T20 := Lib.hid HM.out.two
                go_wp2_with fail
                refine (Mod.stored T20.out.lb.tab HSb.out (by omega) (n := (b'.stored : Int)) rfl).mono ?_
                rintro e w21 ⟨rfl, b21⟩
                have T21 := Lib.hid (T20.out.below b21)
                clear b21
                go_wp2_with fail
                refine (Mod.stored T21.out.la.tab HSa.out (by omega) (n := (a'.stored : Int)) rfl).mono ?_
                rintro e w22 ⟨rfl, b22⟩
                have T22 := Lib.hid (T21.out.below b22)
                clear b22
                have gsn := HK.out.1.stored HSa.out HSb.out
                have gsd : decide (a'.stored < b'.stored) = false := by simp; omega
                have gst : decide ((a'.stored : Int) < (b'.stored : Int)) = false := by simp; omega
                go_wp2_with fail
                refine (time T22.out.la.tab).mono ?_
                rintro e w23 ⟨rfl, b23⟩
                have T23 := Lib.hid (T22.out.below b23)
                clear b23
                go_wp2_with fail
                refine (time T23.out.lb.tab).mono ?_
                rintro e w24 ⟨rfl, b24⟩
                have T24 := Lib.hid (T23.out.below b24)
                clear b24
                have gnow := HK.out.1.now
                rw [gnow]
                go_wp2_with fail
                go_roundw
                case rel => exact ⟨j + 1, Sa', Sb', a', b', by omega, by go_num, HK.out.1, HSa.out, HSb.out, T24.out⟩
                case measure => simp [intOf]; omega
              · have e8 : (kind != 8) = true := by simpa using hk8
                have hr := HK.out.2 (.inr hk8) (Int.natCast_nonneg _)
                subst hr
                have QS := Lib.hid HM.out.q
                have ZS := Lib.hid HM.out.z
                have HSm : Hid (Calls Tryz.prog 21 #[Rep.val rb A1 c1' A2 c2', Rep.val rb B1 d1' B2 d2'] wc fun e w' => e = .returned (.bool true) ∧ Below wc.heap.size wc w') := by
                  obtain ⟨_, _, s1, s2, _⟩ := QS.out (A1, flatPr rb.vals) (by simp)
                  obtain ⟨_, _, s3, s4, _⟩ := QS.out (A2, flatE rb.evs) (by simp)
                  obtain ⟨_, _, s5, s6, _⟩ := ZS.out (B1, flatPr rb.vals) (by simp)
                  obtain ⟨_, _, s7, s8, _⟩ := ZS.out (B2, flatE rb.evs) (by simp)
                  exact refSame10 rb A1 B1 A2 B2 c1' d1' c2' d2' wc ((s1.more s2).from_ (Nat.zero_le _)) ((s5.more s6).from_ (Nat.zero_le _)) ((s3.more s4).from_ (Nat.zero_le _)) ((s7.more s8).from_ (Nat.zero_le _)) HVa.out.1 HVa.out.2
                clear QS ZS
                go_wp2_with fail
                refine HSm.out.mono ?_
                rintro e w20 ⟨rfl, b20⟩
                have T20 := Lib.hid (HM.out.two.below b20)
                clear b20
                go_wp2_with fail
                refine (Mod.stored T20.out.lb.tab HSb.out (by omega) (n := (b'.stored : Int)) rfl).mono ?_
                rintro e w21 ⟨rfl, b21⟩
                have T21 := Lib.hid (T20.out.below b21)
                clear b21
                go_wp2_with fail
                refine (Mod.stored T21.out.la.tab HSa.out (by omega) (n := (a'.stored : Int)) rfl).mono ?_
                rintro e w22 ⟨rfl, b22⟩
                have T22 := Lib.hid (T21.out.below b22)
                clear b22
                have gsn := HK.out.1.stored HSa.out HSb.out
                have gsd : decide (a'.stored < b'.stored) = false := by simp; omega
                have gst : decide ((a'.stored : Int) < (b'.stored : Int)) = false := by simp; omega
                go_wp2_with fail
                refine (time T22.out.la.tab).mono ?_
                rintro e w23 ⟨rfl, b23⟩
                have T23 := Lib.hid (T22.out.below b23)
                clear b23
                go_wp2_with fail
                refine (time T23.out.lb.tab).mono ?_
                rintro e w24 ⟨rfl, b24⟩
                have T24 := Lib.hid (T23.out.below b24)
                clear b24
                have gnow := HK.out.1.now
                rw [gnow]
                go_wp2_with fail
                go_roundw
                case rel => exact ⟨j + 1, Sa', Sb', a', b', by omega, by go_num, HK.out.1, HSa.out, HSb.out, T24.out⟩
                case measure => simp [intOf]; omega
            · have e0 : ((d : Int) % 3 != 0) = true := by simp; omega
              have hr := HK.out.2 (.inl (by show (d : Int) % 3 ≠ 0; omega)) (Int.natCast_nonneg _)
              subst hr
              have QS := Lib.hid HM.out.q
              have ZS := Lib.hid HM.out.z
              have HSm : Hid (Calls Tryz.prog 21 #[Rep.val rb A1 c1' A2 c2', Rep.val rb B1 d1' B2 d2'] wc fun e w' => e = .returned (.bool true) ∧ Below wc.heap.size wc w') := by
                obtain ⟨_, _, s1, s2, _⟩ := QS.out (A1, flatPr rb.vals) (by simp)
                obtain ⟨_, _, s3, s4, _⟩ := QS.out (A2, flatE rb.evs) (by simp)
                obtain ⟨_, _, s5, s6, _⟩ := ZS.out (B1, flatPr rb.vals) (by simp)
                obtain ⟨_, _, s7, s8, _⟩ := ZS.out (B2, flatE rb.evs) (by simp)
                exact refSame10 rb A1 B1 A2 B2 c1' d1' c2' d2' wc ((s1.more s2).from_ (Nat.zero_le _)) ((s5.more s6).from_ (Nat.zero_le _)) ((s3.more s4).from_ (Nat.zero_le _)) ((s7.more s8).from_ (Nat.zero_le _)) HVa.out.1 HVa.out.2
              clear QS ZS
              go_wp2_with fail
              refine HSm.out.mono ?_
              rintro e w20 ⟨rfl, b20⟩
              have T20 := Lib.hid (HM.out.two.below b20)
              clear b20
              go_wp2_with fail
              refine (Mod.stored T20.out.lb.tab HSb.out (by omega) (n := (b'.stored : Int)) rfl).mono ?_
              rintro e w21 ⟨rfl, b21⟩
              have T21 := Lib.hid (T20.out.below b21)
              clear b21
              go_wp2_with fail
              refine (Mod.stored T21.out.la.tab HSa.out (by omega) (n := (a'.stored : Int)) rfl).mono ?_
              rintro e w22 ⟨rfl, b22⟩
              have T22 := Lib.hid (T21.out.below b22)
              clear b22
              have gsn := HK.out.1.stored HSa.out HSb.out
              have gsd : decide (a'.stored < b'.stored) = false := by simp; omega
              have gst : decide ((a'.stored : Int) < (b'.stored : Int)) = false := by simp; omega
              go_wp2_with fail
              refine (time T22.out.la.tab).mono ?_
              rintro e w23 ⟨rfl, b23⟩
              have T23 := Lib.hid (T22.out.below b23)
              clear b23
              go_wp2_with fail
              refine (time T23.out.lb.tab).mono ?_
              rintro e w24 ⟨rfl, b24⟩
              have T24 := Lib.hid (T23.out.below b24)
              clear b24
              have gnow := HK.out.1.now
              rw [gnow]
              go_wp2_with fail
              go_roundw
              case rel => exact ⟨j + 1, Sa', Sb', a', b', by omega, by go_num, HK.out.1, HSa.out, HSb.out, T24.out⟩
              case measure => simp [intOf]; omega
      · have d1 : decide ((j : Int) < (l.length : Int)) = false := by simp; omega
        have hB := HT.out.la.bel
        go_wp2_with fail
        go_ret
        exact ⟨rfl, hB⟩

set_option maxRecDepth 100000 in
theorem lifted (os : Os) (started : os.Started) (H : Type) (enc : TypeId × Value → H) :
    ReturnsInHanded {} Tryz.checked os 5 .any (Rows.modelSweepsSpec.pre6 enc Tryz.prog Tryz.f5 Rows.modelSweepsRow.domain false) (Rows.modelSweepsSpec.post enc Tryz.prog Tryz.f5 false true false false) := by
  refine returnsInHanded_of_change (C := Tryz.checked) own started (by kernel_rfl) Tryz.func5
    (ChangeSpec.witness6 (enc := enc) (C := Tryz.checked) false ⟨#[], #[.slice none 0 0, .slice none 0 0], []⟩ 8 (by kernel_rfl) (by kernel_rfl) (by kernel_rfl) (by kernel_rfl)) ?_
  intro W base args ds gs before hval0 hW hcnd _
  have hval : ∀ (j : Nat) t v, Tryz.f5.params[j]? = some t → args[j]? = some v → Value.okWide Tryz.prog W .any base t v := hval0
  have hW' := hW
  obtain ⟨p, q, hA0, hV, rfl, hfz, hnd⟩ := hW
  have hA : DataW.TrodAll enc Tryz.prog W 0 (fun _ => true) true Tryz.f5.params.toList args.toList ds p := hA0
  rw [Tryz.params5] at hA hval
  obtain ⟨v0, vs0, d0, ds0, p0, q0, hargs, rfl, rfl, h0, r0⟩ := trodAll_cons hA
  obtain ⟨v1, vs1, d1, ds1, p1, q1, rfl, rfl, rfl, h1, r1⟩ := trodAll_cons r0
  obtain ⟨rfl, rfl, rfl⟩ := trodAll_nil r1
  obtain rfl : args = #[v0, v1] := by cases args; simp_all
  obtain ⟨A, c, l, rfl, hs, hl, hq⟩ := open_acts (hval 0 25 v0 rfl rfl) h0
  obtain ⟨B, d, zs, rfl, hs', hl', hc', hz'⟩ := Law.open_nums Tryz.underlying63 Tryz.underlying5 (by kernel_rfl) (hval 1 63 v1 rfl rfl) h1
  refine (walk l A c zs B d W hs hl hq hs' hl' hz').mono fun e W' ⟨he, bel⟩ => ?_
  subst he
  exact ⟨_, rfl, Law.post_law laidOut (by kernel_rfl) (by kernel_rfl) Tryz.underlying4 rfl (fun ds h => by match ds, h with | [_, _], _ => rfl) hW' bel⟩

theorem proved : Rows.ModelSweepsSaid :=
  OpenClaim.holds_of_wide 5 Tryz.f5 rfl rfl rfl rfl rfl rfl rfl ⟨rfl, rfl, rfl, rfl, rfl⟩ rfl rfl rfl rfl rfl (by kernel_rfl) Tryz.func5 (by kernel_rfl)
    (of_decide_eq_true (by kernel_rfl)) (by unfold Func.isWrapper; rw [if_neg (by decide +kernel)]; exact ⟨rfl, rfl⟩)
    (fun os started H enc _ => lifted os started H enc)
#print axioms proved
end modelSweeps
end Go.Proofs.YtombdjkfbjpipaaGreat
