/-
  SessKeeps: whatever the sessions, the session and the time, the statement's function returns true, and the arguments read as before. No condition.
-/
import Derived.Test.YtgnfgiiifohjhaaSessO
import Derived.Test.YtgnfgiiifohjhaaSessU
import Derived.Deep.QuietTactic
import Derived.BigQuiet
namespace Go.Proofs.Ytgnfgiiifohjhaa.sessKeeps
open Go.ChangeShapes Go.WideShapes Go.ChangeAt Go.RowKit
open Go.Law Go.Proofs.Ytgnfgiiifohjhaa.Sess
/-- a row of rows: the k-th one lies there, and rises -/
def Rows4 (w : World) (gr : Nat) : Prop := ∀ k, k < 4 → ∃ (A : Option Addr) (c : Nat) (l : List Sn), w.cell? ⟨gr, k, none⟩ = some (.slice A l.length c) ∧ Seq w 0 w.heap.size A (flatS l) ∧ Up l ∧ l.length ≤ 201
theorem Rows4.mk {w : World} {gr : Nat} {A0 A1 A2 A3 : Option Addr} {c0 c1 c2 c3 : Nat} {l0 l1 l2 l3 : List Sn} {t : TypeId} (hi : Is w gr t #[.slice A0 l0.length c0, .slice A1 l1.length c1, .slice A2 l2.length c2, .slice A3 l3.length c3])
    (s0 : Seq w 0 w.heap.size A0 (flatS l0)) (s1 : Seq w 0 w.heap.size A1 (flatS l1)) (s2 : Seq w 0 w.heap.size A2 (flatS l2)) (s3 : Seq w 0 w.heap.size A3 (flatS l3)) (u0 : Up l0) (u1 : Up l1) (u2 : Up l2) (u3 : Up l3)
    (h0 : l0.length ≤ 201) (h1 : l1.length ≤ 201) (h2 : l2.length ≤ 201) (h3 : l3.length ≤ 201) : Rows4 w gr := fun k hk => by
  match k, hk with
  | 0, _ => exact ⟨A0, c0, l0, hi.cell' rfl, s0, u0, h0⟩
  | 1, _ => exact ⟨A1, c1, l1, hi.cell' rfl, s1, u1, h1⟩
  | 2, _ => exact ⟨A2, c2, l2, hi.cell' rfl, s2, u2, h2⟩
  | 3, _ => exact ⟨A3, c3, l3, hi.cell' rfl, s3, u3, h3⟩
theorem up_next {l : List Sn} (h : Up l) {m : Nat} (hm : m + 1 < l.length) : (l[m]).1 < (l[m + 1]).1 := List.pairwise_iff_getElem.1 h m (m + 1) (by omega) hm (by omega)

set_option maxRecDepth 100000 in
set_option maxHeartbeats 6400000 in
theorem walk (raw : List Sn) (A : Option Addr) (c : Nat) (s : Sn) (now : Int) (w : World) (hs : Seq w 0 w.heap.size A (flatS raw)) (hl : raw.length ≤ maxLen) :
    Calls Try.prog 5 #[.slice A raw.length c, V s, .int .u64 now] w fun e w' => e = .returned (.bool true) ∧ Below w.heap.size w w' := by
  have HS := Lib.hid hs
  unfold maxLen at hl
  obtain ⟨x0, x1, x2, x3⟩ := s
  unfold V
  clear hs
  have B0 := (Below.refl w.heap.size w).alloc (Nat.le_refl _) (.cells #[.int .i64 x0, .int .i64 x1, .int .i64 x2, .int .u64 x3] 25)
  have I0 : Is (w.alloc (.cells #[.int .i64 x0, .int .i64 x1, .int .i64 x2, .int .u64 x3] 25)) w.heap.size 25 #[.int .i64 x0, .int .i64 x1, .int .i64 x2, .int .u64 x3] := Is.new _ _ _ rfl
  by_cases hf : 200 < raw.length
  · have d0 : decide ((200 : Int) < (raw.length : Int)) = true := by simp; omega
    go_enter Try.func5, Try.ntmps5
    go_wp2_with fail
    generalize w.alloc (.cells #[.int .i64 x0, .int .i64 x1, .int .i64 x2, .int .u64 x3] 25) = w0 at *
    refine (awake _).mono ?_
    rintro e w1 ⟨rfl, b1⟩
    have B1 := Lib.hid (B0.trans (b1.mono B0.size))
    clear b1 B0 I0
    go_wp2_with fail
    refine (awake _).mono ?_
    rintro e w2 ⟨rfl, b2⟩
    have B2 := Lib.hid (B1.out.trans (b2.mono B1.out.size))
    clear b2
    go_wp2_with fail
    go_ret
    exact ⟨rfl, B2.out⟩
  · have d0 : decide ((200 : Int) < (raw.length : Int)) = false := by simp; omega
    go_enter Try.func5, Try.ntmps5
    go_wp2_with fail
    generalize w.alloc (.cells #[.int .i64 x0, .int .i64 x1, .int .i64 x2, .int .u64 x3] 25) = w0 at *
    refine (awake _).mono ?_
    rintro e w1 ⟨rfl, b1⟩
    have B1 := Lib.hid (B0.trans (b1.mono B0.size))
    have I1 := Lib.hid (I0.below b1 I0.lt)
    have sb1 := B1.out.size
    have l1 := I1.out.lt
    clear b1 B0 I0
    go_wp2_with fail
    refine (refSorted raw A c w1 ((HS.out.below B1.out).more B1.out.size) (by omega)).mono ?_
    rintro e w2 ⟨us, hu, hul, A2, cc2, rfl, r2, b2⟩
    have HU := Lib.hid hu
    have S2 := Lib.hid ((Seq.own r2).from_ (Nat.zero_le _))
    have sb2 := b2.size
    have B2 := Lib.hid (B1.out.trans (b2.mono sb1))
    have I2 := Lib.hid (I1.out.below b2 l1)
    have l2 := I2.out.lt
    have hul2 : us.length ≤ 200 := by omega
    have c0 : w2.cell? ⟨w.heap.size, 0, none⟩ = some (.int .i64 x0) := I2.out.cell' rfl
    have c1 : w2.cell? ⟨w.heap.size, 1, none⟩ = some (.int .i64 x1) := I2.out.cell' rfl
    have c2 : w2.cell? ⟨w.heap.size, 2, none⟩ = some (.int .i64 x2) := I2.out.cell' rfl
    have c3 : w2.cell? ⟨w.heap.size, 3, none⟩ = some (.int .u64 x3) := I2.out.cell' rfl
    clear hu r2 b2 B1 I1 HS hul
    obtain ⟨i0, hE⟩ := elem
    have HE := Lib.hid hE
    clear hE
    have HPS : Hid (∃ ps, put (x0, x1, x2, x3) us = ps) := ⟨_, rfl⟩
    obtain ⟨ps, hps⟩ := HPS.out
    clear HPS
    have hpl : ps.length ≤ 201 := by have := put_le (x0, x1, x2, x3) us; rw [hps] at this; omega
    have PU : Hid (Up ps) := by show Up _; rw [← hps]; exact put_up _ HU.out
    have PH : Hid (hasS x0 ps = true) := by show _ = _; rw [← hps]; exact put_has (x0, x1, x2, x3) us
    have HPs := Lib.hid hps
    clear hps
    have HCS : Hid (∃ cs, beatS x0 now ps = cs) := ⟨_, rfl⟩
    obtain ⟨cs, hcs⟩ := HCS.out
    clear HCS
    have hcl0 : cs.length = ps.length := by rw [← hcs]; exact beat_length _ _ _
    have hcl : cs.length ≤ 201 := by omega
    have CU : Hid (Up cs) := by show Up _; rw [← hcs]; exact beat_up _ _ PU.out
    have CH : Hid (hasS x0 cs = true) := by show _ = _; rw [← hcs, beat_has]; exact PH.out
    have HCs := Lib.hid hcs
    clear hcs
    have HDS : Hid (∃ ds, out x0 cs = ds) := ⟨_, rfl⟩
    obtain ⟨ds, hds⟩ := HDS.out
    clear HDS
    have hdl0 : ds.length + 1 = cs.length := by rw [← hds]; exact out_length CU.out CH.out
    have hdl : ds.length ≤ 201 := by omega
    have DH : Hid (hasS x0 ds = false) := by show _ = _; rw [← hds]; exact out_has x0 cs
    have DU : Hid (Up ds) := by show Up _; rw [← hds]; exact out_up x0 CU.out
    have HDs := Lib.hid hds
    have hc1 : 0 < cs.length := by omega
    have dd : ((ds.length : Int) != (ps.length : Int) - 1) = false := by simp; omega
    clear hds hcl0 hdl0
    have HLS : Hid (∃ ls, live now cs = ls) := ⟨_, rfl⟩
    obtain ⟨ls, hls⟩ := HLS.out
    clear HLS
    have hll : ls.length ≤ 201 := by have := live_length now cs; rw [hls] at this; omega
    have LU : Hid (Up ls) := by show Up _; rw [← hls]; exact live_up now CU.out
    have HLs := Lib.hid hls
    clear hls
    go_wp2_with fail
    refine (setE (s := (x0, x1, x2, x3)) (most := 201) (c := cc2) (.inr (by omega)) HPs.out S2.out (by omega) HU.out).mono ?_
    rintro e w_3 ⟨Ab, kb, rfl, s_3, b_3⟩
    have Sus3 := Lib.hid ((S2.out.below b_3).more b_3.size)
    have c0_3 : w_3.cell? ⟨w.heap.size, 0, none⟩ = some (.int .i64 x0) := (b_3.cell (p := ⟨w.heap.size, 0, none⟩) l2).trans c0
    have c1_3 : w_3.cell? ⟨w.heap.size, 1, none⟩ = some (.int .i64 x1) := (b_3.cell (p := ⟨w.heap.size, 1, none⟩) l2).trans c1
    have c2_3 : w_3.cell? ⟨w.heap.size, 2, none⟩ = some (.int .i64 x2) := (b_3.cell (p := ⟨w.heap.size, 2, none⟩) l2).trans c2
    have c3_3 : w_3.cell? ⟨w.heap.size, 3, none⟩ = some (.int .u64 x3) := (b_3.cell (p := ⟨w.heap.size, 3, none⟩) l2).trans c3
    have B_3 := Lib.hid (B2.out.trans (b_3.mono B2.out.size))
    have l_3 := Nat.lt_of_lt_of_le l2 b_3.size
    have Sb3 := Lib.hid s_3
    clear S2 c0 c1 c2 c3 B2 l2 b_3
    clear s_3
    go_wp2_with fail
    refine (refHas x0 ps Ab kb _ Sb3.out (by omega)).mono ?_
    rintro e w_4 ⟨rfl, rfl⟩
    rw [PH.out]
    have HBt : Hid (Calls Try.prog 12 #[.slice Ab ps.length kb, .int .i64 x0, .int .u64 now] w_3 (Listed2 w_3 cs 0)) := by
      show Calls _ _ _ _ _
      rw [← HCs.out]
      exact beatOne x0 now ps Ab kb w_3 Sb3.out (by omega) PU.out PH.out
    have lwb := l_3
    go_wp2_with fail
    refine HBt.out.mono ?_
    clear HBt
    rintro e w_5 ⟨Ac, kc, rfl, rc, b_5⟩
    have LB5 := Lib.hid (Sb3.out.below b_5)
    have RC5 := Lib.hid rc
    have lbase5 := b_5.size
    have s_5 := (Seq.own rc).from_ (Nat.zero_le _)
    have Sb5 := Lib.hid ((Sb3.out.below b_5).more b_5.size)
    have c0_5 : w_5.cell? ⟨w.heap.size, 0, none⟩ = some (.int .i64 x0) := (b_5.cell (p := ⟨w.heap.size, 0, none⟩) l_3).trans c0_3
    have c1_5 : w_5.cell? ⟨w.heap.size, 1, none⟩ = some (.int .i64 x1) := (b_5.cell (p := ⟨w.heap.size, 1, none⟩) l_3).trans c1_3
    have c2_5 : w_5.cell? ⟨w.heap.size, 2, none⟩ = some (.int .i64 x2) := (b_5.cell (p := ⟨w.heap.size, 2, none⟩) l_3).trans c2_3
    have c3_5 : w_5.cell? ⟨w.heap.size, 3, none⟩ = some (.int .u64 x3) := (b_5.cell (p := ⟨w.heap.size, 3, none⟩) l_3).trans c3_3
    have B_5 := Lib.hid (B_3.out.trans (b_5.mono B_3.out.size))
    have l_5 := Nat.lt_of_lt_of_le l_3 b_5.size
    have Sc5 := Lib.hid s_5
    clear Sb3 c0_3 c1_3 c2_3 c3_3 B_3 l_3 b_5
    clear s_5 rc
    go_wp2_with fail
    refine (clearE (k := x0) (c := kc) CH.out HDs.out Sc5.out (by omega) CU.out).mono ?_
    rintro e w_6 ⟨Ad, kd, rfl, s_6, b_6⟩
    have LB6 := Lib.hid (LB5.out.below (b_6.mono lbase5))
    have RC6 := Lib.hid (own_below RC5.out b_6)
    have lbase6 := Nat.le_trans lbase5 b_6.size
    clear LB5 RC5 lbase5
    have Sb6 := Lib.hid ((Sb5.out.below b_6).more b_6.size)
    have Sc6 := Lib.hid ((Sc5.out.below b_6).more b_6.size)
    have c0_6 : w_6.cell? ⟨w.heap.size, 0, none⟩ = some (.int .i64 x0) := (b_6.cell (p := ⟨w.heap.size, 0, none⟩) l_5).trans c0_5
    have c1_6 : w_6.cell? ⟨w.heap.size, 1, none⟩ = some (.int .i64 x1) := (b_6.cell (p := ⟨w.heap.size, 1, none⟩) l_5).trans c1_5
    have c2_6 : w_6.cell? ⟨w.heap.size, 2, none⟩ = some (.int .i64 x2) := (b_6.cell (p := ⟨w.heap.size, 2, none⟩) l_5).trans c2_5
    have c3_6 : w_6.cell? ⟨w.heap.size, 3, none⟩ = some (.int .u64 x3) := (b_6.cell (p := ⟨w.heap.size, 3, none⟩) l_5).trans c3_5
    have B_6 := Lib.hid (B_5.out.trans (b_6.mono B_5.out.size))
    have l_6 := Nat.lt_of_lt_of_le l_5 b_6.size
    have Sd6 := Lib.hid s_6
    clear Sb5 Sc5 c0_5 c1_5 c2_5 c3_5 B_5 l_5 b_6
    clear s_6
    go_wp2_with fail
    refine (refHas x0 ds Ad kd _ Sd6.out (by omega)).mono ?_
    rintro e w_7 ⟨rfl, rfl⟩
    rw [DH.out]
    go_wp2_with fail
    refine (purgeE (now := now) (c := kc) HLs.out Sc6.out (by omega)).mono ?_
    rintro e w_8 ⟨Ap, kp, rfl, s_8, b_8⟩
    have LB8 := Lib.hid (LB6.out.below (b_8.mono lbase6))
    have RC8 := Lib.hid (own_below RC6.out b_8)
    have lbase8 := Nat.le_trans lbase6 b_8.size
    clear LB6 RC6 lbase6
    have Sb8 := Lib.hid ((Sb6.out.below b_8).more b_8.size)
    have Sc8 := Lib.hid ((Sc6.out.below b_8).more b_8.size)
    have Sd8 := Lib.hid ((Sd6.out.below b_8).more b_8.size)
    have c0_8 : w_8.cell? ⟨w.heap.size, 0, none⟩ = some (.int .i64 x0) := (b_8.cell (p := ⟨w.heap.size, 0, none⟩) l_6).trans c0_6
    have c1_8 : w_8.cell? ⟨w.heap.size, 1, none⟩ = some (.int .i64 x1) := (b_8.cell (p := ⟨w.heap.size, 1, none⟩) l_6).trans c1_6
    have c2_8 : w_8.cell? ⟨w.heap.size, 2, none⟩ = some (.int .i64 x2) := (b_8.cell (p := ⟨w.heap.size, 2, none⟩) l_6).trans c2_6
    have c3_8 : w_8.cell? ⟨w.heap.size, 3, none⟩ = some (.int .u64 x3) := (b_8.cell (p := ⟨w.heap.size, 3, none⟩) l_6).trans c3_6
    have B_8 := Lib.hid (B_6.out.trans (b_8.mono B_6.out.size))
    have l_8 := Nat.lt_of_lt_of_le l_6 b_8.size
    have Sp8 := Lib.hid s_8
    clear Sb6 Sc6 Sd6 c0_6 c1_6 c2_6 c3_6 B_6 l_6 b_8
    clear s_8
    go_wp2_with fail
    have b_9 : Below w_8.heap.size w_8 (w_8.alloc (.cells #[.slice Ab ps.length kb, .slice Ac cs.length kc, .slice Ad ds.length kd, .slice Ap ls.length kp] 22)) := (Below.refl _ _).alloc (Nat.le_refl _) _
    have IR : Is (w_8.alloc (.cells #[.slice Ab ps.length kb, .slice Ac cs.length kc, .slice Ad ds.length kd, .slice Ap ls.length kp] 22)) w_8.heap.size 22 #[.slice Ab ps.length kb, .slice Ac cs.length kc, .slice Ad ds.length kd, .slice Ap ls.length kp] := Is.new _ _ _ rfl
    generalize w_8.alloc (.cells #[.slice Ab ps.length kb, .slice Ac cs.length kc, .slice Ad ds.length kd, .slice Ap ls.length kp] 22) = w_9 at *
    have LB9 := Lib.hid (LB8.out.below (b_9.mono lbase8))
    have RC9 := Lib.hid (own_below RC8.out b_9)
    have lbase9 := Nat.le_trans lbase8 b_9.size
    clear LB8 RC8 lbase8
    have Sb9 := Lib.hid ((Sb8.out.below b_9).more b_9.size)
    have Sc9 := Lib.hid ((Sc8.out.below b_9).more b_9.size)
    have Sd9 := Lib.hid ((Sd8.out.below b_9).more b_9.size)
    have Sp9 := Lib.hid ((Sp8.out.below b_9).more b_9.size)
    have c0_9 : w_9.cell? ⟨w.heap.size, 0, none⟩ = some (.int .i64 x0) := (b_9.cell (p := ⟨w.heap.size, 0, none⟩) l_8).trans c0_8
    have c1_9 : w_9.cell? ⟨w.heap.size, 1, none⟩ = some (.int .i64 x1) := (b_9.cell (p := ⟨w.heap.size, 1, none⟩) l_8).trans c1_8
    have c2_9 : w_9.cell? ⟨w.heap.size, 2, none⟩ = some (.int .i64 x2) := (b_9.cell (p := ⟨w.heap.size, 2, none⟩) l_8).trans c2_8
    have c3_9 : w_9.cell? ⟨w.heap.size, 3, none⟩ = some (.int .u64 x3) := (b_9.cell (p := ⟨w.heap.size, 3, none⟩) l_8).trans c3_8
    have B_9 := Lib.hid (B_8.out.trans (b_9.mono B_8.out.size))
    have l_9 := Nat.lt_of_lt_of_le l_8 b_9.size
    clear Sb8 Sc8 Sd8 Sp8 c0_8 c1_8 c2_8 c3_8 B_8 l_8 b_9
    have R4 : Hid (Rows4 w_9 w_8.heap.size) := Rows4.mk IR Sb9.out Sc9.out Sd9.out Sp9.out PU.out CU.out DU.out LU.out hpl hcl hdl hll
    have lgr := IR.lt
    clear IR
    generalize w_8.heap.size = gr at *
    go_loopw [15] (fun k wr => ∃ kk : Nat, kk ≤ 4 ∧ k = .int .i64 kk ∧ Drawn w_9 wr) (fun k _ => 4 - (intOf k).toNat)
    case atStart => exact ⟨0, Nat.zero_le _, rfl, Drawn.refl _⟩
    case round =>
      obtain ⟨kk, hkk, rfl, hD⟩ := hrel
      have HD := Lib.hid hD
      clear hD
      by_cases hk4 : kk < 4
      · obtain ⟨Ax, kx, lx, hcx, hsx, hux, hlx⟩ := R4.out kk hk4
        have cx := (HD.out.cell ⟨gr, kk, none⟩).trans hcx
        have SX := Lib.hid hsx
        have UX := Lib.hid hux
        clear hcx hsx hux
        go_wp2_with fail
        go_loopw [16] (fun i wq => ∃ m : Nat, m ≤ lx.length ∧ i = .int .i64 ((m : Int) + 1) ∧ Drawn w_9 wq) (fun i _ => lx.length + 1 - (intOf i).toNat)
        case atStart => exact ⟨0, Nat.zero_le _, rfl, HD.out⟩
        case round =>
          obtain ⟨m, hm, rfl, hD2⟩ := hrel
          have HD2 := Lib.hid hD2
          clear hD2
          have cx2 : wr.cell? ⟨gr, kk, none⟩ = some (.slice Ax lx.length kx) := (HD2.out.cell ⟨gr, kk, none⟩).trans ((HD.out.cell ⟨gr, kk, none⟩).symm.trans cx)
          by_cases hm1 : m + 1 < lx.length
          · obtain ⟨bx, ox, rfl, _, hbx, y0, _, _, _⟩ := (HD2.out.seq SX.out).ses hm1
            obtain ⟨bx', ox', ex, _, _, z0, _, _, _⟩ := (HD2.out.seq SX.out).ses (i := m) (by omega)
            obtain ⟨rfl, rfl⟩ : bx = bx' ∧ ox = ox' := by injection ex with ex; injection ex with e1 e2; exact ⟨e1, e2⟩
            have hup := up_next UX.out hm1
            have dup : decide (lx[m + 1].1 ≤ lx[m].1) = false := by simp; omega
            generalize lx[m + 1].1 = p1 at *
            generalize lx[m].1 = p0 at *
            have hmi : (m : Int) + 1 < (lx.length : Int) := by omega
            clear ex
            go_wp2_with fail
            go_quiet (fail)
            go_wp2_with fail
            go_roundw
            case rel => exact ⟨m + 1, by omega, by go_num, HD2.out.drewN _⟩
            case measure => simp [intOf]; omega
          · have dm1 : decide ((m : Int) + 1 < (lx.length : Int)) = false := by simp; omega
            go_wp2_with fail
            go_roundw
            case rel => exact ⟨kk + 1, by omega, by go_num, HD2.out⟩
            case measure => simp [intOf]; omega
      · have dk4 : decide ((kk : Int) < 4) = false := by simp; omega
        have hsz := HD.out.size
        have LZ := Lib.hid (HD.out.seq LB9.out)
        have RZ : Hid (Row wr w_3.heap.size (.slice Ac cs.length kc) cs) := by
          obtain ⟨dn, hdn⟩ := HD.out
          show World.ownsRow _ _ _ _ _ _ _
          rw [hdn]
          exact own_drewN RC9.out dn
        have BZ := Lib.hid (HD.out.below B_9.out)
        have lz : w_3.heap.size ≤ wr.heap.size := by rw [hsz]; exact lbase9
        have lw : w.heap.size < wr.heap.size := by rw [hsz]; exact l_9
        have EZ := Lib.hid (own_empty wr 25 (Nat.le_refl _))
        clear HD hsz
        go_wp2_with (at_builtin; refine Law.wpList_append_seq _ wr.heap.size 22 rfl _ _ rfl HE.out _ 0 [] rfl EZ.out 0 w_3.heap.size Ab ps.length kb (flatS ps) rfl (flatS_length ps) (LZ.out.alloc lz _) (flatS_one _) (by unfold maxLen; omega) (by omega) (by simp) ?_)
        intro vw ww hown hgrow
        have bw : Below wr.heap.size wr ww := ((Below.refl wr.heap.size wr).alloc (Nat.le_refl _) (.cells #[] 25)).grown hgrow (by simp) (fun g hg => (EZ.out.lt g hg).1)
        obtain ⟨Awas, kwas, rfl, _⟩ := own_shape hown
        have SW := Lib.hid (Seq.own hown)
        have LW := Lib.hid (LZ.out.below (bw.mono lz))
        have RW := own_below RZ.out bw
        have BW := Lib.hid (BZ.out.trans (bw.mono BZ.out.size))
        have sw := bw.size
        have hgl := RZ.out.lt
        rcases RW.2 with ⟨_, h0⟩ | ⟨gc, cap, cur, hv, hbg, hgc, hcc, hcm, hsz, _⟩
        · omega
        injection hv with h1 h2 h3
        subst h1 h3
        have hg2 := (hgl gc rfl).2
        have IC : Hid (∃ cur' : Array Value, Is ww gc 25 cur' ∧ cs.length * 4 ≤ cur'.size) := ⟨cur, hgc, by rw [hsz]; exact Nat.mul_le_mul_right 4 hcc⟩
        clear hown hgrow bw RW LZ RZ BZ EZ hgl hgc hsz h2 hcm hcc
        go_wp2_with fail
        go_loopw [18] (fun i wq => ∃ m : Nat, m ≤ cs.length ∧ i = .int .i64 m ∧ Turned ww wq gc ∧ ∃ cur' : Array Value, Is wq gc 25 cur' ∧ cs.length * 4 ≤ cur'.size) (fun i _ => cs.length - (intOf i).toNat)
        case atStart => exact ⟨0, Nat.zero_le _, rfl, Turned.refl _ _, IC.out⟩
        case round =>
          obtain ⟨m, hm, rfl, hT, cur', hi, hs⟩ := hrel
          have HT := Lib.hid hT
          have HI := Lib.hid hi
          by_cases hm1 : m < cs.length
          · obtain ⟨u2, e2⟩ : ∃ u, wr.cell? ⟨gc, m * 4 + 2, none⟩ = some u := ⟨_, (hi.cell _).trans (Array.getElem?_eq_getElem (by omega))⟩
            have f2 := hi.frozen (m * 4 + 2)
            have lg := hi.lt
            have HS' : Hid (cs.length * 4 ≤ (cur'.setIfInBounds (m * 4 + 2) (.int .i64 (-9))).size) := by show _ ≤ _; simpa using hs
            clear hT hi hs
            go_wp2_with fail
            go_roundw
            case rel => exact ⟨m + 1, by omega, by go_num, HT.out.store _ _, _, HI.out.set _ _ rfl, HS'.out⟩
            case measure => simp [intOf]; omega
          · have hsz := hT.size
            have BF := Lib.hid (hT.below BW.out (by omega))
            have SF := Lib.hid ((hT.seq SW.out (.inl hg2)).from_ (Nat.zero_le _))
            have LF := Lib.hid (hT.seq LW.out (.inr hbg))
            clear hT hi hs HT HI
            go_wp2_with fail
            refine (refSame ps Ab Awas kb kwas _ (LF.out.more (by omega)) (SF.out.more (by omega)) (by omega)).mono ?_
            rintro e wf ⟨rfl, bf⟩
            have BG := Lib.hid (BF.out.trans (bf.mono BF.out.size))
            clear bf
            go_wp2_with fail
            go_ret
            exact ⟨rfl, BG.out⟩

set_option maxRecDepth 100000 in
theorem lifted (os : Os) (started : os.Started) (H : Type) (enc : TypeId × Value → H) :
    ReturnsInHanded {} Try.checked os 5 .any (Rows.sessKeepsSpec.pre6 enc Try.prog Try.f5 Rows.sessKeepsRow.domain false) (Rows.sessKeepsSpec.post enc Try.prog Try.f5 false true false false) := by
  refine returnsInHanded_of_change (C := Try.checked) own started (by kernel_rfl) Try.func5
    (ChangeSpec.witness6 (enc := enc) (C := Try.checked) false ⟨#[], #[.slice none 0 0, Law.V (0, 0, 0, 0), .int .u64 0], []⟩ 8 (by kernel_rfl) (by kernel_rfl) (by kernel_rfl) (by kernel_rfl)) ?_
  intro W base args ds gs before hval0 hW hcnd _
  have hval : ∀ (j : Nat) t v, Try.f5.params[j]? = some t → args[j]? = some v → Value.okWide Try.prog W .any base t v := hval0
  have hW' := hW
  obtain ⟨p, q, hA0, hV, rfl, hfz, hnd⟩ := hW
  have hA : DataW.TrodAll enc Try.prog W 0 (fun _ => true) true Try.f5.params.toList args.toList ds p := hA0
  rw [Try.params5] at hA hval
  obtain ⟨v0, vs0, d0, ds0, p0, q0, hargs, rfl, rfl, h0, r0⟩ := trodAll_cons hA
  obtain ⟨v1, vs1, d1, ds1, p1, q1, rfl, rfl, rfl, h1, r1⟩ := trodAll_cons r0
  obtain ⟨v2, vs2, d2, ds2, p2, q2, rfl, rfl, rfl, h2, r2⟩ := trodAll_cons r1
  obtain ⟨rfl, rfl, rfl⟩ := trodAll_nil r2
  obtain rfl : args = #[v0, v1, v2] := by cases args; simp_all
  obtain ⟨A, c, l, rfl, hs, hl⟩ := Law.open_sess Try.underlying22 Try.underlying25 (by kernel_rfl) rfl rfl rfl rfl (by kernel_rfl) (by kernel_rfl) (by kernel_rfl) (by kernel_rfl) (by kernel_rfl) (by kernel_rfl) (by kernel_rfl) (by kernel_rfl) (hval 0 22 v0 rfl rfl) h0
  obtain ⟨s, rfl⟩ := open_one (hval 1 25 v1 rfl rfl) h1
  obtain ⟨a2, rfl, rfl, rfl, w2⟩ := open_int Try.underlying23 (hval 2 23 v2 rfl rfl) h2
  refine (walk l A c s a2 W hs hl).mono fun e W' ⟨he, bel⟩ => ?_
  subst he
  exact ⟨_, rfl, Law.post_law laidOut (by kernel_rfl) (by kernel_rfl) Try.underlying4 rfl (fun ds h => by match ds, h with | [_, _, _], _ => rfl) hW' bel⟩

theorem proved : Rows.SessKeepsSaid :=
  OpenClaim.holds_of_wide 5 Try.f5 rfl rfl rfl rfl rfl rfl rfl ⟨rfl, rfl, rfl, rfl, rfl⟩ rfl rfl rfl rfl rfl (by kernel_rfl) Try.func5 (by kernel_rfl)
    (of_decide_eq_true (by kernel_rfl)) (by unfold Func.isWrapper; rw [if_neg (by decide +kernel)]; exact ⟨rfl, rfl⟩)
    (fun os started H enc _ => lifted os started H enc)
#print axioms proved
end Go.Proofs.Ytgnfgiiifohjhaa.sessKeeps
