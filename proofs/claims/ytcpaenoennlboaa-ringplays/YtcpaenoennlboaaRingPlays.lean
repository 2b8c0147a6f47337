/-
  Whatever befalls a queue of any room, all that it tells is the document's. For every room, all acts and every place to stop, no condition.
-/
import Derived.Test.YtcpaenoennlboaaRingP
namespace Go.Law
open Go.RowKit Go.ChangeShapes Go.WideShapes Go.ChangeAt
theorem add_none (b off j : Nat) : (⟨b, off, none⟩ : Addr).add j = ⟨b, off + j, none⟩ := by unfold Addr.add; split <;> simp_all
/-- the slice at A holds these pairs, in a block below B -/
def Pairs (w : World) (B : Nat) (A : Option Addr) (l : List (Bool × Int)) : Prop :=
  l ≠ [] → ∃ b off, A = some ⟨b, off, none⟩ ∧ b < B ∧ ∀ i p, l[i]? = some p → w.cell? ⟨b, off + i * 2, none⟩ = some (.bool p.1) ∧ w.cell? ⟨b, off + i * 2 + 1, none⟩ = some (.int .i64 p.2)
theorem Pairs.below {w w' : World} {B : Nat} {A : Option Addr} {l : List (Bool × Int)} (h : Pairs w B A l) (hb : Below B w w') : Pairs w' B A l := fun hn => by
  obtain ⟨b, off, e, hl, hc⟩ := h hn
  exact ⟨b, off, e, hl, fun i p hp => ⟨(hb.cell (p := ⟨b, off + i * 2, none⟩) hl).trans (hc i p hp).1, (hb.cell (p := ⟨b, off + i * 2 + 1, none⟩) hl).trans (hc i p hp).2⟩⟩
theorem Pairs.at {w : World} {B : Nat} {A : Option Addr} {l : List (Bool × Int)} (h : Pairs w B A l) {i : Nat} (hi : i < l.length) : ∃ b off, A = some ⟨b, off, none⟩ ∧ b < B ∧ w.cell? ⟨b, off + i * 2, none⟩ = some (.bool l[i].1) ∧ w.cell? ⟨b, off + i * 2 + 1, none⟩ = some (.int .i64 l[i].2) := by
  obtain ⟨b, off, e, hl, hc⟩ := h (by intro h0; subst h0; simp at hi)
  have := hc i _ (List.getElem?_eq_getElem hi)
  exact ⟨b, off, e, hl, this.1, this.2⟩
/-- a slice of such pairs that came in -/
theorem open_pairs {H : Type} {enc : TypeId × Value → H} {P : Program} {t e : TypeId} {f0 f1 : Field} (ht : P.underlying t = some (.slice e)) (he : P.underlying e = some (.struct #[f0, f1])) (ce : P.cellsOf e = 2) (o0 : f0.offset = 0) (o1 : f1.offset = 1) (c0 : P.cellsOf f0.type = 1) (c1 : P.cellsOf f1.type = 1)
    (u0 : P.underlying f0.type = some .bool) (u1 : P.underlying f1.type = some (.int .i64))
    {W : World} {base b0 : Nat} {sp : Nat → Bool} {hd : Bool} {v : Value} {d : DataW H} {p : List MemPlace}
    (hv : Value.okWide P W .any b0 t v) (h : DataW.Trod enc P W base sp hd t v d p) :
    ∃ (A : Option Addr) (c : Nat) (l : List (Bool × Int)), v = .slice A l.length c ∧ Pairs W W.heap.size A l := by
  obtain ⟨a, n, c, rfl⟩ := okWide_slice ht hv
  obtain ⟨fuel, hf⟩ := h
  rcases Go.Deep.open_slice_pairs ht he ce o0 o1 c0 c1 hf with ⟨hcs, _⟩ | ⟨x, l, k, m, n', V0, V1, D0, D1, P0, P1, hcs, _, hl, _, hm, _, hx⟩
  · simp [Value.cells] at hcs
    obtain ⟨rfl, rfl, rfl⟩ := hcs
    exact ⟨none, 0, [], rfl, fun h => absurd rfl h⟩
  · simp [Value.cells] at hcs
    obtain ⟨rfl, rfl, rfl⟩ := hcs
    have hlm : n ≤ m := by rw [hm]; split <;> omega
    have each : ∀ i, i < n → ∃ q : Bool × Int, V0 i = .bool q.1 ∧ V1 i = .int .i64 q.2 := fun i hi => by
      obtain ⟨_, _, h3, h4⟩ := hx i (by omega)
      obtain ⟨b, hb, _⟩ := DataW.trod_bool u0 h3
      obtain ⟨z, hz, _⟩ := DataW.trod_int u1 h4
      exact ⟨(b, z), by simpa using hb, by simpa using hz⟩
    have : ∃ g : Nat → Bool × Int, ∀ i, i < n → V0 i = .bool (g i).1 ∧ V1 i = .int .i64 (g i).2 := by
      refine ⟨fun i => if h : i < n then Classical.choose (each i h) else (false, 0), fun i hi => ?_⟩
      simp only [hi, dif_pos]
      exact Classical.choose_spec (each i hi)
    obtain ⟨g, hg⟩ := this
    refine ⟨some x, c, (List.range n).map g, by simp, fun hne => ?_⟩
    have hn : 0 < n := by
      rcases Nat.eq_zero_or_pos n with h0 | h0
      · subst h0; simp at hne
      · exact h0
    obtain ⟨b, off, spot⟩ := x
    have hspot : spot = none := by simpa [Addr.add] using World.cell?_spot (hx 0 (by omega)).1
    subst hspot
    have h00 := (hx 0 (by omega)).1
    rw [add_none] at h00
    refine ⟨b, off, rfl, World.block_lt_of_cell? W _ h00, fun i p hp => ?_⟩
    simp only [List.getElem?_map] at hp
    have hi : i < n := by
      rcases Nat.lt_or_ge i n with h1 | h1
      · exact h1
      · rw [List.getElem?_eq_none (by simpa using h1)] at hp; cases hp
    rw [List.getElem?_eq_getElem (by simpa using hi)] at hp
    simp at hp
    subst hp
    obtain ⟨h1, h2, _, _⟩ := hx i (by omega)
    rw [add_none, (hg i hi).1] at h1
    rw [add_none, (hg i hi).2] at h2
    exact ⟨h1, by rw [Nat.add_assoc]; exact h2⟩
/-- the same as 'quiet', of a callee that draws -/
theorem quietD {P : Program} {f : FuncId} {args : Array Value} {w : World} {n : Nat} {v : Value}
    (h : Calls P f args (w.drewN n) fun e w' => e = .returned v ∧ Drawn (w.drewN n) w') : Calls P f args (w.drewN n) fun e w'' => e = .returned v ∧ ∃ m, w'' = w.drewN m :=
  h.mono fun _ _ ⟨he, hm⟩ => ⟨he, by obtain ⟨d, rfl⟩ := hm; exact ⟨_, World.drewN_drewN _ _ _⟩⟩
end Go.Law
namespace Go.Proofs.Ytcpaenoennlboaa.ringPlays
open Go.RowKit Go.ChangeShapes Go.WideShapes Go.ChangeAt

/-- the queue b and the document's list are alike -/
def Inv (w0 wr : World) (b rm : Nat) (zs : List Int) (lost : Bool) (A : Option Addr) (c : Nat) : Prop :=
  Below w0.heap.size w0 wr ∧ ∃ S, RingI.At wr w0.heap.size S b rm zs lost ∧ Law.Lies wr S A (zs.map (.int .i64)) ∧ zs.length ≤ c
theorem Inv.below {w0 wr w' : World} {b rm : Nat} {zs : List Int} {lost : Bool} {A : Option Addr} {c : Nat} (h : Inv w0 wr b rm zs lost A c) (hb : Below wr.heap.size wr w') : Inv w0 w' b rm zs lost A c := by
  obtain ⟨h0, S, h1, h2, h3⟩ := h
  exact ⟨h0.trans (hb.mono h0.size), S, h1.below hb, h2.below hb, h3⟩
theorem Inv.drewN {w0 wr : World} {b rm : Nat} {zs : List Int} {lost : Bool} {A : Option Addr} {c : Nat} (h : Inv w0 wr b rm zs lost A c) (n : Nat) : Inv w0 (wr.drewN n) b rm zs lost A c := h.below (Law.below_drewN (Below.refl _ _) n)
theorem putL_len (rm : Nat) (zs : List Int) (x : Int) : (Law.putL rm zs x).length ≤ zs.length + 1 := by unfold Law.putL; split <;> simp

set_option maxRecDepth 100000 in
set_option maxHeartbeats 6400000 in
theorem walk (acts : List (Bool × Int)) (A : Option Addr) (c stop : Nat) (room : Int) (hst : stop ≤ 255) (w : World) (hs : Law.Pairs w w.heap.size A acts) (hl : acts.length ≤ 400) :
    Calls Try.prog 3 #[.int .i64 room, .slice A acts.length c, .int .u8 (stop : Int)] w fun e w' => e = .returned (.bool true) ∧ Below w.heap.size w w' := by
  have d1 : decide (400 < (acts.length : Int)) = false := by simp; omega
  have HA := Lib.hid (hs.below ((Below.refl _ w).alloc (Nat.le_refl _) (.cells #[.int .u8 (stop : Int)] 5)))
  have HB := Lib.hid ((Below.refl _ w).alloc (Nat.le_refl _) (.cells #[.int .u8 (stop : Int)] 5))
  have HP : Hid ((w.alloc (.cells #[.int .u8 (stop : Int)] 5)).cell? ⟨w.heap.size, 0, none⟩ = some (.int .u8 (stop : Int))) := (Boxed.new w 5 (.int .u8 (stop : Int))).cell
  have sp : w.heap.size < (w.alloc (.cells #[.int .u8 (stop : Int)] 5)).heap.size := by simp
  clear hs
  go_enter Try.func3, Try.ntmps3
  go_wp2_with fail
  generalize w.alloc (.cells #[.int .u8 (stop : Int)] 5) = w0 at *
  refine (Ring.awake _).mono ?_
  rintro e w1 ⟨rfl, B1⟩
  have HB1 := Lib.hid B1
  have s1 := B1.size
  clear B1
  go_wp2_with fail
  refine (RingI.new room w1).mono ?_
  rintro e w2 ⟨rfl, rfl⟩
  have HI : Hid (Inv w0 (w1.alloc (.cells #[.int .i64 (room.toNat : Int), .slice none 0 0, .bool false] 51)) w1.heap.size room.toNat [] false none 0) :=
    ⟨HB1.out.alloc s1 _, _, Law.Ring.new 51 3 w1 w0.heap.size room.toNat s1 rfl, Law.Lies.nil, Nat.le_refl _⟩
  generalize w1.alloc (.cells #[.int .i64 (room.toNat : Int), .slice none 0 0, .bool false] 51) = w2 at *
  generalize w1.heap.size = b at *
  clear HB1 s1
  have hrm : ∀ n : Nat, (n : Int) < room ↔ n < room.toNat := fun n => by omega
  have HRM := Lib.hid hrm
  clear hrm
  generalize room.toNat = rm at *
  go_wp2_with fail
  go_loopw [8, 9, 10] (fun v8 v9 i wr => ∃ (j : Nat) (zs : List Int) (lost : Bool) (A8 : Option Addr) (c8 : Nat), j ≤ acts.length ∧ i = .int .i64 j ∧ v8 = .slice A8 zs.length c8 ∧ v9 = .bool lost ∧ zs.length ≤ j ∧ Inv w0 wr b rm zs lost A8 c8) (fun _ _ i _ => acts.length - (intOf i).toNat)
  case atStart => exact ⟨0, [], false, none, 0, Nat.zero_le _, rfl, rfl, rfl, Nat.zero_le _, HI.out⟩
  case round =>
    clear HI
    obtain ⟨j, zs, lost, A8, c8, hj, rfl, rfl, rfl, hzj, hI⟩ := hrel
    have HI := Lib.hid hI
    have szr := hI.1.size
    clear hI
    by_cases hlt : j < acts.length
    · obtain ⟨g, off, e, hg, hc1, hc2⟩ := HA.out.at hlt
      have hg0 : g < w0.heap.size := by omega
      have q1 := (HI.out.1.cell (p := ⟨g, off + j * 2, none⟩) hg0).trans hc1
      have q2 := (HI.out.1.cell (p := ⟨g, off + j * 2 + 1, none⟩) hg0).trans hc2
      have Q2 := Lib.hid hc2
      subst e
      clear hc1 hc2
      generalize acts[j] = p at *
      obtain ⟨dr, x⟩ := p
      simp only at q1 q2 Q2
      have hgr : g < wr.heap.size := by omega
      have hlen : zs.length ≤ 1000 := by omega
      go_upto_if 36 with (fail)
      go_cut [8, 9, 11, 12, 13, 14] (fun v8 v9 _ _ _ _ wx => ∃ (zs : List Int) (lost : Bool) (A8 : Option Addr) (c8 : Nat), v8 = .slice A8 zs.length c8 ∧ v9 = .bool lost ∧ zs.length ≤ j + 1 ∧ Inv w0 wx b rm zs lost A8 c8)
      case first =>
        obtain ⟨h0, S, hR, hLi, hcl⟩ := HI.out
        have HR := Lib.hid hR
        have HL := Lib.hid hLi
        have H0 := Lib.hid h0
        clear hR hLi h0
        cases dr
        · go_wp2_with fail
          refine (Ring.refPut zs A8 c8 room x wr HL.out.seq hlen).mono ?_
          rintro e w3 (⟨hlr, A', c', rfl, hc', hs', hb'⟩ | ⟨hnl, rfl, rfl⟩)
          · have hlr' := (HRM.out _).1 hlr
            have HR3 := Lib.hid (HR.out.below hb')
            have H3 := Lib.hid (H0.out.trans (hb'.mono szr))
            have HL3 : Hid (Law.Lies w3 S A' ((zs ++ [x]).map (.int .i64))) := Law.Lies.of hs' (fun k hk => (HR.out.ok k hk).2)
            have q3 := (H3.out.cell (p := ⟨g, off + j * 2 + 1, none⟩) hg0).trans Q2.out
            have s3 := H3.out.size
            have HC := Lib.hid hc'
            clear hs' hb' hc' HL hlr
            go_wp2_with fail
            refine (RingI.put x zs lost w3 w0.heap.size S b rm HR3.out s3 hlen).mono ?_
            rintro e w4 ⟨rfl, S4, h4, t4, k4⟩
            rw [Law.putL_yes hlr', show decide (rm ≤ zs.length) = false from by simp; omega, Bool.or_false] at h4
            have HI4 : Hid (Inv w0 w4 b rm (zs ++ [x]) lost A' c') := ⟨t4.below H3.out (fun k hk => (HR3.out.ok k hk).1) s3, S4, h4, HL3.out.touch t4 k4, HC.out⟩
            have d2 : decide (zs.length < rm) = true := by simpa using hlr'
            rw [d2]
            have hzl : (zs ++ [x]).length ≤ j + 1 := by simp; omega
            clear h4 t4 k4 HR3 H3 HL3 HR
            cases lost
            · go_wp2_with fail
              go_meet
              exact ⟨zs ++ [x], _, A', c', by simp, rfl, hzl, HI4.out⟩
            · go_wp2_with fail
              go_meet
              exact ⟨zs ++ [x], _, A', c', by simp, rfl, hzl, HI4.out⟩
          · have hnl' : ¬ zs.length < rm := fun h => hnl ((HRM.out _).2 h)
            clear hnl
            go_wp2_with fail
            refine (RingI.put x zs lost wr w0.heap.size S b rm HR.out szr hlen).mono ?_
            rintro e w4 ⟨rfl, S4, h4, t4, k4⟩
            rw [Law.putL_no hnl', show decide (rm ≤ zs.length) = true from by simp; omega, Bool.or_true] at h4
            have HI4 : Hid (Inv w0 w4 b rm zs true A8 c8) := ⟨t4.below H0.out (fun k hk => (HR.out.ok k hk).1) szr, S4, h4, HL.out.touch t4 k4, hcl⟩
            have d2 : decide (zs.length < rm) = false := by simpa using hnl'
            rw [d2]
            clear h4 t4 k4 HR HL H0
            go_wp2_with fail
            all_goals
              go_meet
              exact ⟨zs, _, A8, c8, rfl, rfl, by omega, HI4.out⟩
        · go_wp2_with fail
          refine (RingI.drain HR.out hlen).mono ?_
          rintro e w3 ⟨A3, c3, rfl, hc3, h3, r3, t3⟩
          have t3' := t3.mono (T' := S) (fun k hk => by subst hk; exact HR.out.inn)
          have HL3 := Lib.hid (HL.out.touch (S' := S) t3' (fun k hk => .inl hk))
          have H3 := Lib.hid (t3'.below H0.out (fun k hk => (HR.out.ok k hk).1) szr)
          have HR3 := Lib.hid r3
          have HS3 := Lib.hid (h3.from_ (Nat.zero_le _))
          clear h3 r3 t3 t3' HR HL
          go_wp2_with fail
          refine (Ring.same zs zs A3 A8 c3 c8 w3 HS3.out HL3.out.seq hlen hlen).mono ?_
          rintro e w4 ⟨rfl, D4⟩
          obtain ⟨nd, rfl⟩ := D4
          have HI4 : Hid (Inv w0 (w3.drewN nd) b rm [] false none 0) := Inv.drewN ⟨H3.out, S, HR3.out, Law.Lies.nil, Nat.le_refl _⟩ nd
          generalize w3.drewN nd = w4 at *
          clear HL3 H3 HR3 HS3
          have d2 : decide (zs = zs) = true := by simp
          rw [d2]
          have d3 : (lost != lost) = false := by simp
          go_wp2_with fail
          go_meet
          exact ⟨[], _, none, 0, rfl, rfl, Nat.zero_le _, HI4.out⟩
      case rest =>
        clear HI q1 q2 szr hgr hlen hzj
        obtain ⟨ys, lo, A9, c9, rfl, rfl, hyj, hI⟩ := hcut
        have HI := Lib.hid hI
        clear hI
        obtain ⟨h0, S, hR, hLi, hcl⟩ := HI.out
        have s0 := h0.size
        have hlen : ys.length ≤ 1000 := by omega
        obtain ⟨AR, cR, hcell, hseq⟩ := Ring.items hR
        have HS := Lib.hid hseq
        have lb := hR.lt
        have hp := (h0.cell (p := ⟨w.heap.size, 0, none⟩) sp).trans HP.out
        have HQ : Hid ((wc.alloc (.cells #[.slice none 0 0] 26)).cell? ⟨b, 1, none⟩ = some (.slice AR ys.length cR)) := (World.cell?_alloc_lt _ _ ⟨b, 1, none⟩ lb).trans hcell
        have HP1 := Lib.hid hp
        have hp2 : w.heap.size < wc.heap.size := by omega
        clear hR hLi hseq hcell h0 hp
        go_wp2_with fail
        refine (Ring.all _ b AR ys.length cR HQ.out).mono ?_
        rintro e w3 ⟨rfl, rfl⟩
        have B3 := Lib.hid (((Below.refl _ wc).alloc (Nat.le_refl _) (.cells #[.slice none 0 0] 26)).alloc (by simp) (.cells #[.slice AR ys.length cR] 26))
        have bO := Lib.hid ((Boxed.new wc 26 (.slice none 0 0)).alloc (.cells #[.slice AR ys.length cR] 26))
        have bQ := Lib.hid (Boxed.new (wc.alloc (.cells #[.slice none 0 0] 26)) 26 (.slice AR ys.length cR))
        have s3 : wc.heap.size ≤ ((wc.alloc (.cells #[.slice none 0 0] 26)).alloc (.cells #[.slice AR ys.length cR] 26)).heap.size := by simp; omega
        simp only [World.size_alloc] at bQ
        generalize (wc.alloc (.cells #[.slice none 0 0] 26)).alloc (.cells #[.slice AR ys.length cR] 26) = w3 at *
        go_wp2_with fail
        refine (Ring.each ys stop wc.heap.size wc.heap.size w.heap.size (wc.heap.size + 1) cR AR w3 hst ⟨_, bO.out, World.ownsRow_nil _ _ _ _⟩ (Nat.le_refl _) s3 ((B3.out.cell (p := ⟨w.heap.size, 0, none⟩) hp2).trans HP1.out) hp2 bQ.out.cell (HS.out.below B3.out)).mono ?_
        rintro e w4 ⟨⟨vr, rfl⟩, h4, b4⟩
        have B4 := Lib.hid (B3.out.trans b4)
        have HI4 := Lib.hid (HI.out.below B4.out)
        have hp4 := (B4.out.cell (p := ⟨w.heap.size, 0, none⟩) hp2).trans HP1.out
        have s4 := B4.out.size
        obtain ⟨va, hva, hra⟩ := h4
        obtain ⟨_, S4, hR4, hL4, _⟩ := HI4.out
        have HR4 := Lib.hid hR4
        have HL4 := Lib.hid hL4
        have hcv := hva.cell
        have lva := hva.lt
        obtain ⟨Aa, ca, rfl, hca⟩ := Law.own_shape hra
        have HRa := Lib.hid hra
        clear b4 hva hra hR4 hL4 B3 bO bQ HQ HS HI B4 s3
        have d2 : ((ys.length : Int) != (ys.length : Int)) = false := by simp
        have d3 : (lo != lo) = false := by simp
        have hsp : w.heap.size < w4.heap.size := by omega
        by_cases hm : ys.length ≤ stop + 1
        · have et : ys.take (stop + 1) = ys := List.take_of_length_le hm
          rw [et] at hcv hca HRa
          clear et
          have HSa : Hid (∀ n, Calls Try.prog 11 #[.slice Aa ys.length ca, .slice A9 ys.length c9] (w4.drewN n) fun e w' => e = .returned (.bool true) ∧ ∃ m, w' = w4.drewN m) := fun n => by
            have := Ring.same ys ys Aa A9 ca c9 (w4.drewN n) ((Law.Seq.own (Law.own_drewN HRa.out n)).from_ (Nat.zero_le _)) (HL4.out.seq.below (Law.below_drewN (Below.refl _ _) n)) hlen hlen
            rw [show decide (ys = ys) = true from by simp] at this
            exact Law.quietD this
          have HLn : Hid (∀ n, Calls Try.prog 16 #[.pointer (some ⟨b, 0, none⟩)] (w4.drewN n) fun e w' => e = .returned (.int .i64 (ys.length : Int)) ∧ ∃ m, w' = w4.drewN m) := fun n => Law.quiet (RingI.len (HR4.out.below (Law.below_drewN (Below.refl _ _) n)))
          have HLo : Hid (∀ n, Calls Try.prog 17 #[.pointer (some ⟨b, 0, none⟩)] (w4.drewN n) fun e w' => e = .returned (.bool lo) ∧ ∃ m, w' = w4.drewN m) := fun n => Law.quiet (RingI.lost (HR4.out.below (Law.below_drewN (Below.refl _ _) n)))
          have d4 : decide (((stop : Int) + 1) < (ys.length : Int)) = false := by simp; omega
          go_wp2_with fail
          go_quiet (first | (go_at_call 16; exact HLn.out _) | (go_at_call 17; exact HLo.out _) | (go_at_call 11; exact HSa.out _))
          go_wp2_with fail
          go_roundw
          case rel => exact ⟨j + 1, ys, lo, A9, c9, by omega, by go_num, rfl, rfl, hyj, HI4.out.drewN _⟩
          case measure => simp [intOf]; omega
        · have et : (ys.take (stop + 1)).length = stop + 1 := by simp; omega
          rw [et] at hcv hca HRa
          have HSa : Hid (∀ n, Calls Try.prog 11 #[.slice Aa (stop + 1) ca, .slice A9 (stop + 1) c9] (w4.drewN n) fun e w' => e = .returned (.bool true) ∧ ∃ m, w' = w4.drewN m) := fun n => by
            have hY := (HL4.out.seq.below (Law.below_drewN (Below.refl _ _) n)).part (A' := A9) (i := 0) (n := stop + 1) (fun b off h _ _ => by simpa using h)
            rw [List.drop_zero, ← List.map_take] at hY
            have := Ring.same (ys.take (stop + 1)) (ys.take (stop + 1)) Aa A9 ca c9 (w4.drewN n) ((Law.Seq.own (Law.own_drewN HRa.out n)).from_ (Nat.zero_le _)) hY (by omega) (by omega)
            rw [show decide (ys.take (stop + 1) = ys.take (stop + 1)) = true from by simp, et] at this
            exact Law.quietD this
          clear et
          have HLn : Hid (∀ n, Calls Try.prog 16 #[.pointer (some ⟨b, 0, none⟩)] (w4.drewN n) fun e w' => e = .returned (.int .i64 (ys.length : Int)) ∧ ∃ m, w' = w4.drewN m) := fun n => Law.quiet (RingI.len (HR4.out.below (Law.below_drewN (Below.refl _ _) n)))
          have HLo : Hid (∀ n, Calls Try.prog 17 #[.pointer (some ⟨b, 0, none⟩)] (w4.drewN n) fun e w' => e = .returned (.bool lo) ∧ ∃ m, w' = w4.drewN m) := fun n => Law.quiet (RingI.lost (HR4.out.below (Law.below_drewN (Below.refl _ _) n)))
          have d4 : decide (((stop : Int) + 1) < (ys.length : Int)) = true := by simp; omega
          have d5 : (stop + 1 : Nat) ≤ c9 := by omega
          go_wp2_with fail
          go_quiet (first | (go_at_call 16; exact HLn.out _) | (go_at_call 17; exact HLo.out _) | (go_at_call 11; exact HSa.out _))
          go_wp2_with fail
          go_roundw
          case rel => exact ⟨j + 1, ys, lo, A9, c9, by omega, by go_num, rfl, rfl, hyj, HI4.out.drewN _⟩
          case measure => simp [intOf]; omega
    · go_wp2_with fail
      go_ret
      exact ⟨rfl, HB.out.trans (HI.out.1.mono (by omega))⟩

set_option maxRecDepth 100000 in
set_option maxHeartbeats 400000 in
theorem walkLong (n : Nat) (A : Option Addr) (c : Nat) (stop room : Int) (w : World) (hl : 400 < n) :
    Calls Try.prog 3 #[.int .i64 room, .slice A n c, .int .u8 stop] w fun e w' => e = .returned (.bool true) ∧ Below w.heap.size w w' := by
  have d1 : decide (400 < (n : Int)) = true := by simp; omega
  have HB := Lib.hid ((Below.refl _ w).alloc (Nat.le_refl _) (.cells #[.int .u8 stop] 5))
  clear hl
  go_enter Try.func3, Try.ntmps3
  go_wp2_with fail
  generalize w.alloc (.cells #[.int .u8 stop] 5) = w0 at *
  refine (Ring.awake _).mono ?_
  rintro e w1 ⟨rfl, B1⟩
  have HB1 := Lib.hid (HB.out.trans (B1.mono HB.out.size))
  clear B1 HB
  go_wp2_with fail
  refine (Ring.awake _).mono ?_
  rintro e w2 ⟨rfl, B2⟩
  have HB2 := Lib.hid (HB1.out.trans (B2.mono HB1.out.size))
  clear B2 HB1
  go_wp2_with fail
  go_ret
  exact ⟨rfl, HB2.out⟩

theorem walk0 (acts : List (Bool × Int)) (A : Option Addr) (c : Nat) (stop room : Int) (hn : (Lit.int .u8 stop).wf = true) (w : World) (hs : Law.Pairs w w.heap.size A acts) :
    Calls Try.prog 3 #[.int .i64 room, .slice A acts.length c, .int .u8 stop] w fun e w' => e = .returned (.bool true) ∧ Below w.heap.size w w' := by
  have h1 := bounds_u8 hn
  obtain ⟨k, rfl⟩ := Int.eq_ofNat_of_zero_le h1.1
  by_cases h : acts.length ≤ 400
  · exact walk acts A c k room (by omega) w hs h
  · exact walkLong _ A c _ room w (by omega)

set_option maxRecDepth 100000 in
theorem lifted (os : Os) (started : os.Started) (H : Type) (enc : TypeId × Value → H) :
    ReturnsInHanded {} Try.checked os 3 .any (Rows.ringPlaysSpec.pre6 enc Try.prog Try.f3 Rows.ringPlaysRow.domain false) (Rows.ringPlaysSpec.post enc Try.prog Try.f3 false true false false) := by
  refine returnsInHanded_of_change (C := Try.checked) own started (by kernel_rfl) Try.func3
    (ChangeSpec.witness6 (enc := enc) (C := Try.checked) false ⟨#[], #[.int .i64 0, .slice none 0 0, .int .u8 0], []⟩ 8 (by kernel_rfl) (by kernel_rfl) (by kernel_rfl) (by kernel_rfl)) ?_
  intro W base args ds gs before hval0 hW hcnd _
  have hval : ∀ (j : Nat) t v, Try.f3.params[j]? = some t → args[j]? = some v → Value.okWide Try.prog W .any base t v := hval0
  have hW' := hW
  obtain ⟨p, q, hA0, hV, rfl, hfz, hnd⟩ := hW
  have hA : DataW.TrodAll enc Try.prog W 0 (fun _ => true) true Try.f3.params.toList args.toList ds p := hA0
  rw [Try.params3] at hA hval
  obtain ⟨v0, vs0, d0, ds0, p0, q0, hargs, rfl, rfl, h0, r0⟩ := trodAll_cons hA
  obtain ⟨v1, vs1, d1, ds1, p1, q1, rfl, rfl, rfl, h1, r1⟩ := trodAll_cons r0
  obtain ⟨v2, vs2, d2, ds2, p2, q2, rfl, rfl, rfl, h2, r2⟩ := trodAll_cons r1
  obtain ⟨rfl, rfl, rfl⟩ := trodAll_nil r2
  obtain rfl : args = #[v0, v1, v2] := by cases args; simp_all
  obtain ⟨a0, rfl, rfl, rfl, w0⟩ := open_int Try.underlying3 (hval 0 3 v0 rfl rfl) h0
  obtain ⟨A, c, acts, rfl, hs⟩ := Law.open_pairs Try.underlying22 Try.underlying28 (by kernel_rfl) rfl rfl (by kernel_rfl) (by kernel_rfl) (by kernel_rfl) (by kernel_rfl) (hval 1 22 v1 rfl rfl) h1
  obtain ⟨a2, rfl, rfl, rfl, w2⟩ := open_int Try.underlying5 (hval 2 5 v2 rfl rfl) h2
  refine (walk0 acts A c a2 a0 w2 W hs).mono fun e W' ⟨he, bel⟩ => ?_
  subst he
  exact ⟨_, rfl, Law.post_law laidOut (by kernel_rfl) (by kernel_rfl) Try.underlying4 rfl (fun ds h => by match ds, h with | [_, _, _], _ => rfl) hW' bel⟩

theorem proved : Rows.RingPlaysSaid :=
  OpenClaim.holds_of_wide 3 Try.f3 rfl rfl rfl rfl rfl rfl rfl ⟨rfl, rfl, rfl, rfl, rfl⟩ rfl rfl rfl rfl rfl (by kernel_rfl) Try.func3 (by kernel_rfl)
    (of_decide_eq_true (by kernel_rfl)) (by unfold Func.isWrapper; rw [if_neg (by decide +kernel)]; exact ⟨rfl, rfl⟩)
    (fun os started H enc _ => lifted os started H enc)
#print axioms proved
end Go.Proofs.Ytcpaenoennlboaa.ringPlays
