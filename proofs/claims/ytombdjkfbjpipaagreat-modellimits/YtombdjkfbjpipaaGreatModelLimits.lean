/-
  Whatever befalls a table, no user has more live sessions than there may be, and no client watches more users than it may: one more is refused. For all lists of acts and users and every client's number, no condition.
-/
import Derived.Test.YtombdjkfbjpipaaGreatMod22
namespace Go.Proofs.YtombdjkfbjpipaaGreat
open Go.RowKit Go.ChangeShapes Go.WideShapes Go.ChangeAt
namespace modelLimits
open Feed Go.Law Bk Go.Proofs.YtombdjkfbjpipaaGreat.Mod
theorem elemS : ∃ i, Law.Elem Tryz.prog 35 9 i (.string .empty) 1 16 := Law.Elem.of Tryz.underlying35 (by kernel_rfl) rfl (by decide)
theorem new_two (w : World) (o : Obj) (v : Value) (t : TypeId) : ∀ (j : Nat) (u : Value), [v][j]? = some u → ((w.alloc o).alloc (.cells #[v] t)).cell? ((⟨w.heap.size + 1, 0, none⟩ : Addr).add j) = some u := by
  have h := Law.new_one (w.alloc o) v t
  rw [show (w.alloc o).heap.size = w.heap.size + 1 by simp] at h
  exact h
/-- what has been watched anew, so far -/
structure Met (who : Nat) (a : Mo) (met : List ByteArray) : Prop where
  one : met.Nodup
  has : ∀ u ∈ met, a.hasW who u = true
  wats : Wats 4 a
  lim : a.lim = 4
  shut : a.closed = false
theorem Met.le {who : Nat} {a : Mo} {b : Nat} {met : List ByteArray} (h : Met who a met) (ho : a.Ok b) : met.length ≤ 4 := Nat.le_trans (met_le ho h.one h.has) (h.wats.le who)
theorem Met.old {who : Nat} {a : Mo} {b : Nat} {met : List ByteArray} (h : Met who a met) (ho : a.Ok b) (u : ByteArray) : Met who (a.watch who u).1 met :=
  ⟨h.one, fun v hv => watch_keeps a (h.has v hv), wats_watch ho h.lim h.wats who u, (watch_as a who u).2.1.trans h.lim, (watch_as a who u).2.2.2.2.2.trans h.shut⟩
theorem Met.new {who : Nat} {a : Mo} {b : Nat} {met : List ByteArray} (h : Met who a met) (ho : a.Ok b) {u : ByteArray} (hu : u ∉ met) (h0 : (a.watch who u).2 = 0) : Met who (a.watch who u).1 (met ++ [u]) := by
  have ho' := h.old ho u
  refine ⟨?_, fun v hv => ?_, ho'.wats, ho'.lim, ho'.shut⟩
  · rw [List.nodup_append]
    exact ⟨h.one, by simp, fun x hx y hy => by obtain rfl := List.mem_singleton.1 hy; exact fun e => hu (e ▸ hx)⟩
  · rcases List.mem_append.1 hv with hv | hv
    · exact ho'.has v hv
    · obtain rfl := List.mem_singleton.1 hv; exact watch_has a h0
/-- an op of a Watch that may be -/
theorem do_watch {a : Mo} {who : Nat} (hw : who < 8) (hcl : a.closed = false) (u : ByteArray) (hg : goodB ⟨6, u, 0, 0, 0, 0, none, 0, []⟩ = true) : a.do_ (who : Int) ⟨6, u, 0, 0, 0, 0, none, 0, []⟩ = ((a.watch who u).1, Rep.of (a.watch who u).2) := by
  unfold Mo.do_
  rw [if_pos ⟨hg, by omega, by omega⟩]
  unfold Mo.ask
  simp [hcl]
/-- the table, and who has been watched anew -/
structure Both (w wr : World) (S : Nat → Prop) (m : Nat) (a : Mo) (vm : Value) (met : List ByteArray) : Prop where
  live : Live w wr w.heap.size S m a
  row : wr.ownsRow w.heap.size 9 1 vm met.length (met.map .string)
  off : ∀ g, vm.ownBlock = some g → ¬ S g
section
variable {w wr w' : World} {S S' : Nat → Prop} {m : Nat} {a a' : Mo} {vm vm' : Value} {met : List ByteArray}
theorem Both.below (h : Both w wr S m a vm met) (hb : Below wr.heap.size wr w') : Both w w' S m a vm met := ⟨h.live.below hb, own_below h.row hb, h.off⟩
theorem Both.gone (h : Both w wr S m a vm met) (hT : Tab w' w.heap.size S' m a') (hG : Gone wr S w' S') : Both w w' S' m a' vm met :=
  ⟨h.live.gone hT hG, hG.touch.own h.row h.off, fun g hg hs => (hG.new g hs).elim (h.off g hg) (fun hl => by have := (h.row.lt g hg).2; omega)⟩
theorem Both.grow (h : Both w wr S m a vm met) {o : Obj} {u : ByteArray} (ho : w'.ownsRow w.heap.size 9 1 vm' (met.length + 1) (met.map .string ++ [.string u])) (hg : (wr.alloc o).grownBy w' vm.ownBlock) (hv : vm'.ownBlock = vm.ownBlock ∨ vm'.ownBlock = some (wr.alloc o).heap.size) : Both w w' S m a vm' (met ++ [u]) := by
  have h1 := h.below ((Below.refl _ wr).alloc (Nat.le_refl _) o)
  have hK : ∀ t, 9 ≠ t → Keeps t (wr.alloc o) w' := fun t ht => Keeps.grown h1.row hg ht
  refine ⟨⟨h1.live.tab.touch (Law.Touch.grown (T := fun k => vm.ownBlock = some k) hg (fun _ hk => hk)) (fun x hx hk => h1.off x hk hx) ⟨⟨hK _ (by decide), hK _ (by decide)⟩, hK _ (by decide)⟩, h1.live.bel.grown hg h1.live.bel.size (fun g hg => (h1.row.lt g hg).1), h1.live.new⟩, by rw [List.map_append, List.length_append]; exact ho, fun g hgb hs => ?_⟩
  rcases hv with hv | hv
  · exact h1.off g (hv ▸ hgb) hs
  · have e1 : (wr.alloc o).heap.size = g := Option.some.inj (hv.symm.trans hgb)
    have := (h1.live.tab.ok g hs).2
    omega
end
set_option maxRecDepth 100000 in
set_option maxHeartbeats 4000000 in
theorem walk (l : List AcM) (A : Option Addr) (c : Nat) (us : List ByteArray) (Ax : Option Addr) (cx : Nat) (who : Nat) (w : World) (hs : Seq w 0 w.heap.size A (l.flatMap cellsM)) (hl : l.length ≤ maxLen) (hq : ∀ q ∈ l, q.Good w)
    (hx : Seq w 0 w.heap.size Ax (us.map .string)) (hxl : us.length ≤ maxLen) (hxu : ∀ u ∈ us, u.size ≤ maxLen) (hw : who ≤ 255) :
    Calls Tryz.prog 10 #[.slice A l.length c, .slice Ax us.length cx, .int .u8 (who : Int)] w fun e w' => e = .returned (.bool true) ∧ Below w.heap.size w w' := by
  have HX := Lib.hid hx
  have HXU := Lib.hid hxu
  unfold maxLen at hxl
  obtain ⟨k, hk⟩ : ∃ k : Nat, who % 8 = k := ⟨_, rfl⟩
  have k1 : (who : Int) % 8 = (k : Int) := by omega
  have k2 : k < 8 := by omega
  have K1 := Lib.hid k1
  clear hx hxu hk k1
  by_cases h20 : us.length ≤ 20
  · have d20 : decide ((20 : Int) < (us.length : Int)) = false := by simp; omega
    have HS := Lib.hid hs
    have HQ := Lib.hid hq
    have HL := Lib.hid hl
    clear hs hq hl
    cases hlong : longM l with
    | true =>
      go_enter Tryz.func10, Tryz.ntmps10
      go_wp2_with fail
      refine (awake w).mono ?_
      rintro e w1 ⟨rfl, b1⟩
      have HB1 := Lib.hid b1
      clear b1
      go_wp2_with fail
      refine (long l A c w1 ((HS.out.below HB1.out).more HB1.out.size) HL.out (fun q hx => (HQ.out q hx).op.in_.below HB1.out) hlong).mono ?_
      rintro e w2 ⟨rfl, b2⟩
      have HB2 := Lib.hid (HB1.out.trans (b2.mono HB1.out.size))
      clear b2
      go_wp2_with fail
      refine (awake w2).mono ?_
      rintro e w3 ⟨rfl, b3⟩
      have HB3 := Lib.hid (HB2.out.trans (b3.mono HB2.out.size))
      clear b3
      go_wp2_with fail
      go_ret
      exact ⟨rfl, HB3.out⟩
    | false =>
      obtain ⟨hl1, hsh⟩ := longM_no hlong
      go_enter Tryz.func10, Tryz.ntmps10
      go_wp2_with fail
      refine (awake w).mono ?_
      rintro e w1 ⟨rfl, b1⟩
      have HB1 := Lib.hid b1
      clear b1
      go_wp2_with fail
      refine (long l A c w1 ((HS.out.below HB1.out).more HB1.out.size) HL.out (fun q hx => (HQ.out q hx).op.in_.below HB1.out) hlong).mono ?_
      rintro e w2 ⟨rfl, b2⟩
      have HB2 := Lib.hid (HB1.out.trans (b2.mono HB1.out.size))
      clear b2 HB1
      go_wp2_with fail
      refine (small_ w2).mono ?_
      rintro e w3 ⟨rfl, b3⟩
      have HB3 := Lib.hid (HB2.out.trans (b3.mono HB2.out.size))
      clear b3 HB2
      go_wp2_with fail
      refine (new_yes small w3 (base := w.heap.size) HB3.out.size small_right).mono ?_
      rintro e w4 ⟨m, S, rfl, hT, hS, hB⟩
      have H : Hid (Live w w4 w.heap.size S m (Mo.new small)) := ⟨hT, HB3.out.trans (hB.mono HB3.out.size), fun x hx => Nat.le_trans HB3.out.size (hS x hx)⟩
      clear hT hS hB HB3
      go_wp2_with fail
      go_loopw [9] (fun vi wr => ∃ (j : Nat) (S : Nat → Prop), j ≤ l.length ∧ vi = .int .i64 j ∧ Live w wr w.heap.size S m ((Mo.new small).run (l.take j))) (fun vi _ => l.length - (intOf vi).toNat)
      case atStart => exact ⟨0, S, Nat.zero_le _, rfl, H.out⟩
      case round =>
        clear H
        obtain ⟨j, S, hj, rfl, hL⟩ := hrel
        have H := Lib.hid hL
        clear hL
        by_cases hlt : j < l.length
        · have d1 : decide ((j : Int) < (l.length : Int)) = true := by simp; omega
          have hB := H.out.bel
          obtain ⟨b, off, rfl, _, hb, c0, c1, c2, c3, c4, c5, c6, c7, c8, c9⟩ := (HS.out.below hB).acM hlt
          have HM := Lib.hid (List.getElem_mem hlt)
          have HG := Lib.hid (HQ.out _ HM.out)
          have HIN := Lib.hid (HG.out.op.in_.below hB)
          have lb : b < wr.heap.size := Nat.lt_of_lt_of_le hb hB.size
          clear hB
          have HR := Lib.hid (run_take (Mo.new small) hlt)
          have HO := Lib.hid (run_ok_take new_small_ok (fun q hx => bounds_u64 (HQ.out q hx).by_) hl1 j)
          have HO' := Lib.hid (run_ok_take new_small_ok (fun q hx => bounds_u64 (HQ.out q hx).by_) hl1 (j + 1))
          have HCp : Hid (Capped 2 ((Mo.new small).run (l.take (j + 1)))) := capped_run new_small_ok rfl (fun q hx => bounds_u64 (HQ.out q (List.mem_of_mem_take hx)).by_) (capped_new small 2)
          generalize l[j] = q at *
          obtain ⟨dI, qw, ⟨kind, user0, id, st, pr, ttl, Au, cu, us0⟩, by_⟩ := q
          obtain ⟨d, hd⟩ := Int.eq_ofNat_of_zero_le (bounds_u8 HG.out.do_).1
          simp only at hd
          subst hd
          have hd255 := (bounds_u8 HG.out.do_).2
          have hby := bounds_u64 HG.out.by_
          simp only at c0 c1 c2 c3 c4 c5 c6 c7 c8 c9 hd255 hby
          have hus := HIN.out.user
          simp only at hus
          obtain ⟨p, hp⟩ : ∃ p, ((Mo.new small).run (l.take (j + 1))).pres user0 = p := ⟨_, rfl⟩
          have hcap := capped_pres HO'.out HCp.out user0
          rw [hp] at hcap
          obtain ⟨s0, s1, s2⟩ := p
          simp only at hcap
          have g2 : decide ((2 : Int) < s2) = false := by simp; omega
          go_wp2_with fail
          refine (befalls ⟨(d : Int), qw, ⟨kind, user0, id, st, pr, ttl, Au, cu, us0⟩, by_⟩ H.out.tab HO.out (by omega) H.out.bel.size HIN.out ⟨Int.natCast_nonneg _, hd255⟩ hby).mono ?_
          rintro e w6 ⟨A1, c1', A2, c2', rfl, _, _, S', hT, hG⟩
          have H6 := Lib.hid (H.out.gone hT hG)
          rw [← HR.out] at H6
          have x3 : w6.cell? ⟨b, off + j * 10 + 3, none⟩ = some (.string user0) := (World.cell?_of_block (hG.touch.block b lb (fun hx => by have := H.out.new _ hx; omega))).trans c3
          have lb6 := Nat.lt_of_lt_of_le lb hG.touch.size
          clear hT hG H
          go_wp2_with fail
          refine (Mod.presence H6.out.tab HO'.out (by omega) user0 hus hp).mono ?_
          rintro e w7 ⟨rfl, b7⟩
          have H7 := Lib.hid (H6.out.below b7)
          clear b7 H6
          go_wp2_with fail
          refine (small_ w7).mono ?_
          rintro e w8 ⟨rfl, b8⟩
          have H8 := Lib.hid (H7.out.below b8)
          clear b8 H7
          go_wp2_with fail
          go_roundw
          case rel => exact ⟨j + 1, S', by omega, by go_num, H8.out⟩
          case measure => simp [intOf]; omega
        · have d1 : decide ((j : Int) < (l.length : Int)) = false := by simp; omega
          have e1 : l.take j = l := List.take_of_length_le (by omega)
          rw [e1] at H
          have HO : Hid (((Mo.new small).run l).Ok 120) := (run_ok new_small_ok (fun q hx => bounds_u64 (HQ.out q hx).by_)).more (by omega)
          have HW : Hid (Wats 4 ((Mo.new small).run l)) := wats_run new_small_ok rfl (fun q hx => bounds_u64 (HQ.out q hx).by_) (wats_new small 4)
          have HM : Hid (((Mo.new small).run l).lim = 4) := (run_as l (Mo.new small)).2.1
          generalize (Mo.new small).run l = a at *
          clear e1
          go_wp2_with fail
          refine (time H.out.tab).mono ?_
          rintro e w5 ⟨rfl, b5⟩
          have H5 := Lib.hid (H.out.below b5)
          clear b5 H
          cases hcl : a.closed with
          | true =>
            go_wp2_with fail
            go_ret
            exact ⟨rfl, H5.out.bel⟩
          | false =>
            have HMt : Hid (Met k a []) := ⟨List.nodup_nil, fun u hu => (by cases hu), HW.out, HM.out, hcl⟩
            clear HW HM hcl
            have HO2 := Lib.hid (HO.out.more (show 120 ≤ 120 + 0 by omega))
            have HB0 : Hid (Both w w5 S m a (.slice none 0 0) []) := ⟨H5.out, ⟨by simp, .inl ⟨rfl, rfl⟩⟩, fun g hg => by simp [Value.ownBlock] at hg⟩
            clear H5 HO
            obtain ⟨i1, hE1⟩ := elemS
            have HE1 := Lib.hid hE1
            clear hE1
            go_wp2_with fail
            go_loopw [10, 11, 12] (fun vf vm vi wr => ∃ (i : Nat) (S : Nat → Prop) (a : Mo) (met : List ByteArray) (D : Option Addr) (cap : Nat), i ≤ us.length ∧ vi = .int .i64 i ∧ vf = .int .i64 met.length ∧ vm = .slice D met.length cap ∧ a.Ok (120 + i) ∧ Met k a met ∧ Both w wr S m a (.slice D met.length cap) met ∧ (∀ y ∈ met, y.size ≤ maxLen)) (fun _ _ vi _ => us.length - (intOf vi).toNat)
            case atStart => exact ⟨0, S, a, [], none, 0, Nat.zero_le _, rfl, rfl, rfl, HO2.out, HMt.out, HB0.out, fun y hy => (by cases hy)⟩
            case round =>
              clear HB0 HO2 HMt
              obtain ⟨i, S, a, met, D, cap, hi, rfl, rfl, rfl, hO, hM, hB, hz⟩ := hrel
              have HO := Lib.hid hO
              have HM := Lib.hid hM
              have HB := Lib.hid hB
              have HZ := Lib.hid hz
              have hm4 := hM.le hO
              clear hO hM hB hz
              by_cases hlt2 : i < us.length
              · have e1 : decide ((i : Int) < (us.length : Int)) = true := by simp; omega
                obtain ⟨bu, ou, hAx, _, hbu, cu0⟩ := (HX.out.below HB.out.live.bel).str hlt2
                subst hAx
                have lbu : bu < wr.heap.size := Nat.lt_of_lt_of_le hbu HB.out.live.bel.size
                have hbw : bu < w.heap.size := hbu
                have HUM := Lib.hid (List.getElem_mem hlt2)
                have hus := HXU.out _ HUM.out
                generalize us[i] = u at *
                have bx := (Below.refl wr.heap.size wr).alloc (Nat.le_refl _) (.cells #[.int .i64 6, .string u, .int .i64 0, .int .i64 0, .int .i64 0, .int .u64 0, .slice none 0 0] 37)
                have HQ1 := Lib.hid (Is.new wr 37 #[.int .i64 6, .string u, .int .i64 0, .int .i64 0, .int .i64 0, .int .u64 0, .slice none 0 0] rfl)
                have HB1 := Lib.hid (HB.out.below bx)
                have cu1 := (bx.cell (p := ⟨bu, ou + i, none⟩) lbu).trans cu0
                have IN1 : Hid (OpW.In ⟨6, u, 0, 0, 0, 0, none, 0, []⟩ (wr.alloc (.cells #[.int .i64 6, .string u, .int .i64 0, .int .i64 0, .int .i64 0, .int .u64 0, .slice none 0 0] 37))) := lit_in _ _ _ _ _ _ _ hus (by decide)
                have l1 := bx.size
                go_wp2_with fail
                generalize wr.alloc (.cells #[.int .i64 6, .string u, .int .i64 0, .int .i64 0, .int .i64 0, .int .u64 0, .slice none 0 0] 37) = w6 at *
                obtain ⟨v6, hv6⟩ : ∃ n, wr.heap.size = n := ⟨_, rfl⟩
                rw [hv6] at HQ1 lbu l1
                try rw [hv6]
                clear hv6 bx HB cu0
                cases hsh2 : shortB ⟨6, u, 0, 0, 0, 0, none, 0, []⟩ with
                | false =>
                  refine (short ⟨6, u, 0, 0, 0, 0, none, 0, []⟩ IN1.out hsh2).mono ?_
                  rintro e w7 ⟨rfl, b7⟩
                  have HB7 := Lib.hid (HB1.out.below b7)
                  have HQ7 := Lib.hid (HQ1.out.below b7 HQ1.out.lt)
                  have IN7 := Lib.hid (IN1.out.below b7)
                  have cu7 := (b7.cell (p := ⟨bu, ou + i, none⟩) (show bu < w6.heap.size by omega)).trans cu1
                  have l7 := b7.size
                  clear b7 HB1 HQ1 IN1 cu1
                  have x0 : w7.cell? ⟨v6, 0, none⟩ = some (.int .i64 6) := HQ7.out.cell' rfl
                  have x1 : w7.cell? ⟨v6, 1, none⟩ = some (.string u) := HQ7.out.cell' rfl
                  have x2 : w7.cell? ⟨v6, 2, none⟩ = some (.int .i64 0) := HQ7.out.cell' rfl
                  have x3 : w7.cell? ⟨v6, 3, none⟩ = some (.int .i64 0) := HQ7.out.cell' rfl
                  have x4 : w7.cell? ⟨v6, 4, none⟩ = some (.int .i64 0) := HQ7.out.cell' rfl
                  have x5 : w7.cell? ⟨v6, 5, none⟩ = some (.int .u64 0) := HQ7.out.cell' rfl
                  have x6 : w7.cell? ⟨v6, 6, none⟩ = some (.slice none 0 0) := HQ7.out.cell' rfl
                  have lq := HQ7.out.lt
                  go_wp2_with fail
                  go_roundw
                  case rel => exact ⟨i + 1, S, a, met, D, cap, by omega, by go_num, rfl, rfl, HO.out.more (by omega), HM.out, HB7.out, HZ.out⟩
                  case measure => simp [intOf]; omega
                | true =>
                  refine (short ⟨6, u, 0, 0, 0, 0, none, 0, []⟩ IN1.out hsh2).mono ?_
                  rintro e w7 ⟨rfl, b7⟩
                  have HB7 := Lib.hid (HB1.out.below b7)
                  have HQ7 := Lib.hid (HQ1.out.below b7 HQ1.out.lt)
                  have IN7 := Lib.hid (IN1.out.below b7)
                  have cu7 := (b7.cell (p := ⟨bu, ou + i, none⟩) (show bu < w6.heap.size by omega)).trans cu1
                  have l7 := b7.size
                  clear b7 HB1 HQ1 IN1 cu1
                  have x0 : w7.cell? ⟨v6, 0, none⟩ = some (.int .i64 6) := HQ7.out.cell' rfl
                  have x1 : w7.cell? ⟨v6, 1, none⟩ = some (.string u) := HQ7.out.cell' rfl
                  have x2 : w7.cell? ⟨v6, 2, none⟩ = some (.int .i64 0) := HQ7.out.cell' rfl
                  have x3 : w7.cell? ⟨v6, 3, none⟩ = some (.int .i64 0) := HQ7.out.cell' rfl
                  have x4 : w7.cell? ⟨v6, 4, none⟩ = some (.int .i64 0) := HQ7.out.cell' rfl
                  have x5 : w7.cell? ⟨v6, 5, none⟩ = some (.int .u64 0) := HQ7.out.cell' rfl
                  have x6 : w7.cell? ⟨v6, 6, none⟩ = some (.slice none 0 0) := HQ7.out.cell' rfl
                  have lq := HQ7.out.lt
                  go_wp2_with fail
                  cases hg : goodB ⟨6, u, 0, 0, 0, 0, none, 0, []⟩ with
                  | false =>
                    refine (bad ⟨6, u, 0, 0, 0, 0, none, 0, []⟩ IN7.out (r := true) (by rw [hg]; rfl)).mono ?_
                    rintro e w8 ⟨rfl, b8⟩
                    have HB8 := Lib.hid (HB7.out.below b8)
                    have HQ8 := Lib.hid (HQ7.out.below b8 HQ7.out.lt)
                    have cu8 := (b8.cell (p := ⟨bu, ou + i, none⟩) (show bu < w7.heap.size by omega)).trans cu7
                    have l8 := b8.size
                    clear b8 HB7 HQ7 IN7 cu7 x0 x1 x2 x3 x4 x5 x6 lq
                    go_wp2_with fail
                    go_roundw
                    case rel => exact ⟨i + 1, S, a, met, D, cap, by omega, by go_num, rfl, rfl, HO.out.more (by omega), HM.out, HB8.out, HZ.out⟩
                    case measure => simp [intOf]; omega
                  | true =>
                    refine (bad ⟨6, u, 0, 0, 0, 0, none, 0, []⟩ IN7.out (r := false) (by rw [hg]; rfl)).mono ?_
                    rintro e w8 ⟨rfl, b8⟩
                    have HB8 := Lib.hid (HB7.out.below b8)
                    have HQ8 := Lib.hid (HQ7.out.below b8 HQ7.out.lt)
                    have cu8 := (b8.cell (p := ⟨bu, ou + i, none⟩) (show bu < w7.heap.size by omega)).trans cu7
                    have l8 := b8.size
                    clear b8 HB7 HQ7 IN7 cu7 x0 x1 x2 x3 x4 x5 x6 lq
                    go_wp2_with fail
                    go_loopw [14, 15] (fun vo vk wx => ∃ (n : Nat) (is : Bool), n ≤ met.length ∧ vk = .int .i64 n ∧ vo = .bool is ∧ (is = true ↔ u ∈ met.take n) ∧ Both w wx S m a (.slice D met.length cap) met ∧ Is wx v6 37 #[.int .i64 6, .string u, .int .i64 0, .int .i64 0, .int .i64 0, .int .u64 0, .slice none 0 0] ∧ wx.cell? ⟨bu, ou + i, none⟩ = some (.string u) ∧ w8.heap.size ≤ wx.heap.size) (fun _ vk _ => met.length - (intOf vk).toNat)
                    case atStart => exact ⟨0, false, Nat.zero_le _, rfl, rfl, by simp, HB8.out, HQ8.out, cu8, Nat.le_refl _⟩
                    case round =>
                      clear HB8 HQ8 cu8
                      obtain ⟨n, is, hn, rfl, rfl, his, hB, hQ, cu, hsz⟩ := hrel
                      have HB := Lib.hid hB
                      have HQ := Lib.hid hQ
                      have HIS := Lib.hid his
                      clear hB hQ his
                      by_cases hnl : n < met.length
                      · have d1 : decide ((n : Int) < (met.length : Int)) = true := by simp; omega
                        obtain ⟨g, o, hgD, _, hgl, cn⟩ := (Seq.own HB.out.row).str (i := n) hnl
                        subst hgD
                        have HTK := Lib.hid (List.take_succ_eq_append_getElem hnl)
                        generalize met[n] = y at *
                        cases is with
                        | true =>
                          have HNX : Hid (u ∈ met.take (n + 1)) := by show _ ∈ _; rw [HTK.out]; exact List.mem_append_left _ (HIS.out.1 rfl)
                          go_wp2_with fail
                          go_quiet (fail)
                          go_wp2_with fail
                          go_roundw
                          case rel => exact ⟨n + 1, true, by omega, by go_num, rfl, ⟨fun _ => HNX.out, fun _ => rfl⟩, HB.out.below (Law.below_drewN (Below.refl _ _) nq), HQ.out.drewN nq, by simpa using cu, by simpa using hsz⟩
                          case measure => simp [intOf]; omega
                        | false =>
                          have hnt : u ∉ met.take n := fun h => by have := HIS.out.2 h; cases this
                          by_cases hy : y = u
                          · have e1y : (y.toList == u.toList) = true := by subst hy; simp
                            have HNX : Hid (u ∈ met.take (n + 1)) := by show _ ∈ _; rw [HTK.out]; simp [hy]
                            clear hy
                            go_wp2_with fail
                            go_quiet (fail)
                            go_wp2_with fail
                            go_roundw
                            case rel => exact ⟨n + 1, true, by omega, by go_num, rfl, ⟨fun _ => HNX.out, fun _ => rfl⟩, HB.out.below (Law.below_drewN (Below.refl _ _) nq), HQ.out.drewN nq, by simpa using cu, by simpa using hsz⟩
                            case measure => simp [intOf]; omega
                          · have e1y : (y.toList == u.toList) = false := by simpa using fun e => hy (OmapU.ext e)
                            have HNX : Hid (u ∉ met.take (n + 1)) := by show ¬ _; rw [HTK.out]; simp [hnt]; exact fun e => hy e.symm
                            clear hy
                            go_wp2_with fail
                            go_quiet (fail)
                            go_wp2_with fail
                            go_roundw
                            case rel => exact ⟨n + 1, false, by omega, by go_num, rfl, ⟨fun h => (Bool.noConfusion h), fun h => absurd h HNX.out⟩, HB.out.below (Law.below_drewN (Below.refl _ _) nq), HQ.out.drewN nq, by simpa using cu, by simpa using hsz⟩
                            case measure => simp [intOf]; omega
                      · obtain rfl : n = met.length := by omega
                        have d1 : decide ((met.length : Int) < (met.length : Int)) = false := by simp
                        rw [List.take_of_length_le (Nat.le_refl _)] at HIS
                        have hdo := do_watch k2 HM.out.shut u hg
                        have x0 : wr.cell? ⟨v6, 0, none⟩ = some (.int .i64 6) := HQ.out.cell' rfl
                        have x1 : wr.cell? ⟨v6, 1, none⟩ = some (.string u) := HQ.out.cell' rfl
                        have x2 : wr.cell? ⟨v6, 2, none⟩ = some (.int .i64 0) := HQ.out.cell' rfl
                        have x3 : wr.cell? ⟨v6, 3, none⟩ = some (.int .i64 0) := HQ.out.cell' rfl
                        have x4 : wr.cell? ⟨v6, 4, none⟩ = some (.int .i64 0) := HQ.out.cell' rfl
                        have x5 : wr.cell? ⟨v6, 5, none⟩ = some (.int .u64 0) := HQ.out.cell' rfl
                        have x6 : wr.cell? ⟨v6, 6, none⟩ = some (.slice none 0 0) := HQ.out.cell' rfl
                        have lq := HQ.out.lt
                        have KN := K1.out
                        go_wp2_with fail
                        have HOk := Lib.hid (do_ok HO.out (k : Int) ⟨6, u, 0, 0, 0, 0, none, 0, []⟩)
                        have HD := do_ ⟨6, u, 0, 0, 0, 0, none, 0, []⟩ HB.out.live.tab HO.out (by omega) HB.out.live.bel.size (k : Int) (lit_in _ _ _ _ _ _ _ hus (by decide))
                        rw [hdo] at HD HOk
                        refine HD.mono ?_
                        clear HD hdo
                        rintro e w9 ⟨A9, c9', A10, c10, rfl, _, _, S', hT, hG⟩
                        have HB9 := Lib.hid (HB.out.gone hT hG)
                        have cu9 := (World.cell?_of_block (hG.touch.block bu (by omega) (fun hx => by have := HB.out.live.new _ hx; omega))).trans cu
                        have l9 := hG.touch.size
                        clear hT hG HB HQ cu x0 x1 x2 x3 x4 x5 x6 lq
                        have HM9 := Lib.hid (HM.out.old HO.out u)
                        have HN9 : Hid (u ∉ met → (a.watch k u).2 = 0 → Met k (a.watch k u).1 (met ++ [u])) := fun hu h0 => HM.out.new HO.out hu h0
                        have HI9 : Hid (u ∈ met → (a.watch k u).2 = 0) := fun hu => watch_old a (HM.out.has u hu)
                        have HE9 := Lib.hid (watch_err a k u)
                        generalize a.watch k u = aw at *
                        obtain ⟨a', er⟩ := aw
                        simp only at HE9 HI9 HN9 HM9 HB9 HOk
                        simp only [Rep.of, List.length_nil]
                        by_cases he : er = 0
                        · subst he
                          cases is with
                          | true =>
                            have bx := (Below.refl w9.heap.size w9).alloc (Nat.le_refl _) (.cells #[.int .i64 0, .slice A9 0 c9', .slice A10 0 c10, .bool false] 43)
                            have HB10 := Lib.hid (HB9.out.below bx)
                            have cu10 := (bx.cell (p := ⟨bu, ou + i, none⟩) (show bu < w9.heap.size by omega)).trans cu9
                            have l10 := bx.size
                            have sz9 := HB9.out.live.bel.size
                            clear HB9 cu9 bx
                            go_wp2_with fail
                            go_roundw
                            case rel => exact ⟨i + 1, S', a', met, D, cap, by omega, by go_num, rfl, rfl, HOk.out.more (by omega), HM9.out, HB10.out, HZ.out⟩
                            case measure => simp [intOf]; omega
                          | false =>
                            have hnt : u ∉ met := fun h => by have := HIS.out.2 h; cases this
                            have HN10 := Lib.hid (HN9.out hnt rfl)
                            clear HN9 HI9 HM9
                            have bx := (Below.refl w9.heap.size w9).alloc (Nat.le_refl _) (.cells #[.int .i64 0, .slice A9 0 c9', .slice A10 0 c10, .bool false] 43)
                            have HB10 := Lib.hid (HB9.out.below bx)
                            have cu10 := (bx.cell (p := ⟨bu, ou + i, none⟩) (show bu < w9.heap.size by omega)).trans cu9
                            have l10 := bx.size
                            have sz9 := HB9.out.live.bel.size
                            clear HB9 cu9 bx
                            go_wp2_with (at_builtin; refine wpList_append_own_at _ rfl _ _ 35 rfl w.heap.size 9 i1 (.string ⟨#[]⟩) 1 16 HE1.out.ut HE1.out.info HE1.out.zero HE1.out.sz HE1.out.by_ HE1.out.cells HE1.out.pos _ _ _ rfl (HB10.out.row.alloc _) ⟨w9.heap.size + 1, 0, none⟩ 1 1 [.string u] rfl rfl (new_two w9 _ _ _) (Law.one_str _) (by unfold maxLen; omega) (by omega) (by simp; omega) ?_; intro v' w11 hown hg _ hv'; have HB11 := Lib.hid (HB10.out.grow (u := u) hown hg hv'); have c11 := (Law.Touch.grown (T := fun k => Value.ownBlock (.slice D met.length cap) = some k) hg (fun _ hk => hk)).is ((Is.new w9 43 #[.int .i64 0, .slice A9 0 c9', .slice A10 0 c10, .bool false] rfl).alloc (.cells #[.string u] 9)) (fun hk => own_ne HB10.out.row (Is.new w9 43 #[.int .i64 0, .slice A9 0 c9', .slice A10 0 c10, .bool false] rfl) (by decide) hk); have y0 : w11.cell? ⟨w9.heap.size, 0, none⟩ = some (.int .i64 0) := c11.cell' rfl; have ly := c11.lt; clear c11; obtain ⟨g', cap', rfl⟩ := ownsRow_succ hown; clear hown hg hv')
                            go_roundw
                            case rel => exact ⟨i + 1, S', a', met ++ [u], some ⟨g', 0, none⟩, cap', by omega, by go_num, by simp, by simp, HOk.out.more (by omega), HN10.out, by simpa using HB11.out, fun y hy => (List.mem_append.1 hy).elim (HZ.out y) (fun h => by obtain rfl := List.mem_singleton.1 h; exact hus)⟩
                            case measure => simp [intOf]; omega
                        · obtain rfl : er = 4 := HE9.out.resolve_left he
                          cases is with
                          | true => exact absurd (HI9.out (HIS.out.1 rfl)) he
                          | false =>
                            clear he
                            have bx := (Below.refl w9.heap.size w9).alloc (Nat.le_refl _) (.cells #[.int .i64 4, .slice A9 0 c9', .slice A10 0 c10, .bool false] 43)
                            have HB10 := Lib.hid (HB9.out.below bx)
                            have cu10 := (bx.cell (p := ⟨bu, ou + i, none⟩) (show bu < w9.heap.size by omega)).trans cu9
                            have l10 := bx.size
                            have sz9 := HB9.out.live.bel.size
                            clear HB9 cu9 bx
                            go_wp2_with fail
                            go_roundw
                            case rel => exact ⟨i + 1, S', a', met, D, cap, by omega, by go_num, rfl, rfl, HOk.out.more (by omega), HM9.out, HB10.out, HZ.out⟩
                            case measure => simp [intOf]; omega
              · have e1 : decide ((i : Int) < (us.length : Int)) = false := by simp; omega
                have g4 : decide ((met.length : Int) ≤ 4) = true := by simp; omega
                go_wp2_with fail
                refine (small_ wr).mono ?_
                rintro e w7 ⟨rfl, b7⟩
                have HB7 := Lib.hid (HB.out.below b7)
                clear b7
                go_wp2_with fail
                go_ret
                exact ⟨rfl, HB7.out.live.bel⟩
  · have d20 : decide ((20 : Int) < (us.length : Int)) = true := by simp; omega
    have HS := Lib.hid hs
    have HQ := Lib.hid hq
    have HL := Lib.hid hl
    clear hs hq hl
    cases hlong : longM l <;>
    · go_enter Tryz.func10, Tryz.ntmps10
      go_wp2_with fail
      refine (awake w).mono ?_
      rintro e w1 ⟨rfl, b1⟩
      have HB1 := Lib.hid b1
      clear b1
      go_wp2_with fail
      refine (long l A c w1 ((HS.out.below HB1.out).more HB1.out.size) HL.out (fun q hx => (HQ.out q hx).op.in_.below HB1.out) hlong).mono ?_
      rintro e w2 ⟨rfl, b2⟩
      have HB2 := Lib.hid (HB1.out.trans (b2.mono HB1.out.size))
      clear b2
      go_wp2_with fail
      refine (awake w2).mono ?_
      rintro e w3 ⟨rfl, b3⟩
      have HB3 := Lib.hid (HB2.out.trans (b3.mono HB2.out.size))
      clear b3
      go_wp2_with fail
      go_ret
      exact ⟨rfl, HB3.out⟩

set_option maxRecDepth 100000 in
theorem lifted (os : Os) (started : os.Started) (H : Type) (enc : TypeId × Value → H) :
    ReturnsInHanded {} Tryz.checked os 10 .any (Rows.modelLimitsSpec.pre6 enc Tryz.prog Tryz.f10 Rows.modelLimitsRow.domain false) (Rows.modelLimitsSpec.post enc Tryz.prog Tryz.f10 false true false false) := by
  refine returnsInHanded_of_change (C := Tryz.checked) own started (by kernel_rfl) Tryz.func10
    (ChangeSpec.witness6 (enc := enc) (C := Tryz.checked) false ⟨#[], #[.slice none 0 0, .slice none 0 0, .int .u8 0], []⟩ 8 (by kernel_rfl) (by kernel_rfl) (by kernel_rfl) (by kernel_rfl)) ?_
  intro W base args ds gs before hval0 hW hcnd _
  have hval : ∀ (j : Nat) t v, Tryz.f10.params[j]? = some t → args[j]? = some v → Value.okWide Tryz.prog W .any base t v := hval0
  have hW' := hW
  obtain ⟨p, q, hA0, hV, rfl, hfz, hnd⟩ := hW
  have hA : DataW.TrodAll enc Tryz.prog W 0 (fun _ => true) true Tryz.f10.params.toList args.toList ds p := hA0
  rw [Tryz.params10] at hA hval
  obtain ⟨v0, vs0, d0, ds0, p0, q0, hargs, rfl, rfl, h0, r0⟩ := trodAll_cons hA
  obtain ⟨v1, vs1, d1, ds1, p1, q1, rfl, rfl, rfl, h1, r1⟩ := trodAll_cons r0
  obtain ⟨v2, vs2, d2, ds2, p2, q2, rfl, rfl, rfl, h2, r2⟩ := trodAll_cons r1
  obtain ⟨rfl, rfl, rfl⟩ := trodAll_nil r2
  obtain rfl : args = #[v0, v1, v2] := by cases args; simp_all
  obtain ⟨A, c, l, rfl, hs, hl, hq⟩ := open_acts (hval 0 25 v0 rfl rfl) h0
  obtain ⟨B, d, us, rfl, hs', hl', hc', hz'⟩ := Law.open_texts Tryz.underlying35 Tryz.underlying9 (by kernel_rfl) (hval 1 35 v1 rfl rfl) h1
  obtain ⟨a2, rfl, rfl, rfl, w2⟩ := open_int Tryz.underlying5 (hval 2 5 v2 rfl rfl) h2
  refine (Eq.subst (motive := fun z => Calls Tryz.prog 10 #[.slice A l.length c, .slice B us.length d, .int .u8 z] W _) (Int.toNat_of_nonneg (bounds_u8 w2).1) (walk l A c us B d a2.toNat W hs hl hq hs' hl' hz' (by have := bounds_u8 w2; omega))).mono fun e W' ⟨he, bel⟩ => ?_
  subst he
  exact ⟨_, rfl, Law.post_law laidOut (by kernel_rfl) (by kernel_rfl) Tryz.underlying4 rfl (fun ds h => by match ds, h with | [_, _, _], _ => rfl) hW' bel⟩

theorem proved : Rows.ModelLimitsSaid :=
  OpenClaim.holds_of_wide 10 Tryz.f10 rfl rfl rfl rfl rfl rfl rfl ⟨rfl, rfl, rfl, rfl, rfl⟩ rfl rfl rfl rfl rfl (by kernel_rfl) Tryz.func10 (by kernel_rfl)
    (of_decide_eq_true (by kernel_rfl)) (by unfold Func.isWrapper; rw [if_neg (by decide +kernel)]; exact ⟨rfl, rfl⟩)
    (fun os started H enc _ => lifted os started H enc)
#print axioms proved
end modelLimits
end Go.Proofs.YtombdjkfbjpipaaGreat
