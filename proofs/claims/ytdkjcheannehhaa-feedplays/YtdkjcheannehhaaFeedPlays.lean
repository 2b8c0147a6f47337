/-
  Whatever befalls a feed of any room, all that it tells is the document's. For all rooms, acts, clients and users, no condition.
-/
import Derived.Test.YtdkjcheannehhaaFeed15
import Derived.Deep.CutBlock
namespace Go.Proofs.Ytdkjcheannehhaa
open Go.RowKit Go.ChangeShapes Go.WideShapes Go.ChangeAt
namespace feedPlays
open Feed Go.Law
/-- a feed, and the reference's beside it -/
structure Pl (w wr : World) (S R : Nat → Prop) (b r : Nat) (room : Int) (s : St) (ps : List Pa) (qs : Nat → List Ev) (ls : Nat → Bool) : Prop where
  fed : Fed wr w.heap.size S b room.toNat s
  ref : RefAt wr R r room ps qs ls
  apart : ∀ n, S n → ¬ R n
  sr : ¬ S r
  rb : w.heap.size ≤ r
  bel : Below w.heap.size w wr
section
variable {w wr w' : World} {S S' R R' : Nat → Prop} {b r g : Nat} {room : Int} {s s' : St} {ps ps' : List Pa} {qs qs' : Nat → List Ev} {ls ls' : Nat → Bool} {t : TypeId} {cs : Array Value}
theorem Pl.below (h : Pl w wr S R b r room s ps qs ls) (hb : Below wr.heap.size wr w') : Pl w w' S R b r room s ps qs ls :=
  ⟨h.fed.below hb, h.ref.below hb, h.apart, h.sr, h.rb, h.bel.trans (hb.mono h.bel.size)⟩
theorem Pl.box (h : Pl w wr S R b r room s ps qs ls) : ∃ cr, Is wr r 33 cr := by obtain ⟨_, _, h⟩ := h.ref; exact ⟨_, h.box⟩
theorem Pl.lt (h : Pl w wr S R b r room s ps qs ls) : r < wr.heap.size := by obtain ⟨_, h⟩ := h.box; exact h.lt
theorem Pl.rok (h : Pl w wr S R b r room s ps qs ls) : ∀ n, R n → n < wr.heap.size := by obtain ⟨_, _, h⟩ := h.ref; exact h.ok
theorem Pl.went (h : Pl w wr S R b r room s ps qs ls) (hF : Fed w' w.heap.size S' b room.toNat s') (hW : Went wr S w' S') : Pl w w' S' R b r room s' ps qs ls :=
  ⟨hF, h.ref.touch hW.touch (fun n hR hS => h.apart n hS hR) h.sr, fun n hS hR => (hW.new n hS).elim (fun h' => h.apart n h' hR) (fun h' => by have := h.rok n hR; omega),
    fun hS => (hW.new r hS).elim h.sr (fun h' => by have := h.lt; omega), h.rb, hW.below (fun n hn => (h.fed.ok n hn).1) h.bel h.bel.size⟩
theorem Pl.rwent (h : Pl w wr S R b r room s ps qs ls) (hR : RefAt w' R' r room ps' qs' ls') (hW : RWent wr R r w' R') : Pl w w' S R' b r room s ps' qs' ls' := by
  obtain ⟨cr, hi⟩ := h.box
  refine ⟨h.fed.touch hW.touch (fun k hk e => h.sr (e ▸ hk)) (Keeps.touch1 hW.touch hi (by decide)), hR, fun n hS hR' => (hW.new n hR').elim (h.apart n hS) (fun h' => by have := (h.fed.ok n hS).2; omega), h.sr, h.rb, ?_⟩
  exact hW.touch.below h.bel (fun n e => e ▸ h.rb) h.bel.size
theorem Pl.is (h : Pl w wr S R b r room s ps qs ls) (hW : RWent wr R r w' R') (hi : Is wr g t cs) (ht : t ≠ 33) : Is w' g t cs := by
  obtain ⟨cr, h1⟩ := h.box
  exact hW.is hi h1 ht
theorem seq4 (hW : RWent wr R r w' R') {N : Nat} {A : Option Addr} {xs : List Value} (hs : Seq wr N wr.heap.size A xs) (hN : ∀ g, N ≤ g → g ≠ r) : Seq w' 0 w'.heap.size A xs := fun hn => by
  obtain ⟨g, off, hA, h1, h2, hc⟩ := hs hn
  have hg : g ≠ r := hN g h1
  exact ⟨g, off, hA, Nat.zero_le _, Nat.lt_of_lt_of_le h2 hW.touch.size, fun i u hu => (World.cell?_of_block (hW.touch.block g h2 hg)).trans (hc i u hu)⟩
theorem feedOnly_rise {w : World} {base b room k : Nat} {S : Nat → Prop} {s : St} (h : Fed w base S b room s) (hk : k < 8) : Rises OmapU.lt (s.wat k) := by obtain ⟨_, _, _, h⟩ := h; exact h.rise k hk
end
/-- behind j acts -/
structure PInv (j : Nat) (s : St) (ps : List Pa) : Prop where
  perm : ∀ k, k < 8 → (keys (s.wat k)).Perm ((ps.filter fun p => decide (p.1 = (k : Int))).map (·.2))
  inn : ∀ p ∈ ps, 0 ≤ p.1 ∧ p.1 < 8
  lp : ps.length ≤ j
  lq : ∀ c, c < 8 → (s.que c).length ≤ j
section
variable {j k : Nat} {s : St} {ps : List Pa}
theorem PInv.mem (ps : List Pa) (k : Int) (u : ByteArray) : u ∈ (ps.filter fun p => decide (p.1 = k)).map (·.2) ↔ (k, u) ∈ ps := by
  simp only [List.mem_map, List.mem_filter]
  exact ⟨fun ⟨p, ⟨h1, h2⟩, h3⟩ => by obtain ⟨a, y⟩ := p; simp at h2 h3; subst h2 h3; exact h1, fun h => ⟨(k, u), ⟨h, by simp⟩, rfl⟩⟩
theorem PInv.has (h : PInv j s ps) (hk : k < 8) (u : ByteArray) : s.has k u = true ↔ ((k : Int), u) ∈ ps := ((getK_keys u (s.wat k)).trans (h.perm k hk).mem_iff).trans (PInv.mem ps k u)
theorem PInv.len (h : PInv j s ps) (hk : k < 8) : (ps.filter fun p => decide (p.1 = (k : Int))).length = (s.wat k).length := by have := (h.perm k hk).length_eq; simpa [keys] using this.symm
theorem PInv.lw (h : PInv j s ps) (hk : k < 8) : (s.wat k).length ≤ j := by rw [← h.len hk]; exact Nat.le_trans (List.length_filter_le ..) h.lp
theorem PInv.no (h : PInv j s ps) {who : Int} (hw : ¬ (0 ≤ who ∧ who < 8)) (u : ByteArray) : (who, u) ∉ ps := fun hm => hw (h.inn _ hm)
theorem PInv.none (h : PInv j s ps) {who : Int} (hw : ¬ (0 ≤ who ∧ who < 8)) : (ps.filter fun p => decide (p.1 = who)).length = 0 := by
  rw [List.length_eq_zero_iff, List.filter_eq_nil_iff]
  intro p hp e
  have := of_decide_eq_true e
  exact hw (this ▸ h.inn p hp)
theorem PInv.next (h : PInv j s ps) : PInv (j + 1) s ps := ⟨h.perm, h.inn, Nat.le_succ_of_le h.lp, fun c hc => Nat.le_succ_of_le (h.lq c hc)⟩
theorem PInv.watchNew (h : PInv j s ps) (hk : k < 8) (u : ByteArray) (hn : ((k : Int), u) ∉ ps) : PInv (j + 1) { s with wat := upd s.wat k (putK OmapU.lt u 0 (s.wat k)) } (ps ++ [((k : Int), u)]) := by
  refine ⟨fun i hi => ?_, fun p hp => ?_, by simpa using h.lp, fun c hc => Nat.le_succ_of_le (h.lq c hc)⟩
  · show (keys (upd s.wat k _ i)).Perm _
    rw [List.filter_append, List.map_append]
    by_cases e : i = k
    · subst e
      rw [upd_same, List.filter_cons_of_pos (by simp)]
      have h1 : u ∉ keys (s.wat i) := fun h' => hn ((PInv.mem ps i u).1 ((h.perm i hi).mem_iff.1 h'))
      exact ((putK_new OmapU.tri u 0 _ h1).trans (List.Perm.cons u (h.perm i hi))).trans (List.perm_append_comm (l₁ := [u]))
    · rw [upd_other _ _ e, List.filter_cons_of_neg (by simp; omega)]
      simpa using h.perm i hi
  · rcases List.mem_append.1 hp with hp | hp
    · exact h.inn p hp
    · obtain rfl := List.mem_singleton.1 hp
      exact ⟨Int.natCast_nonneg _, by show (k : Int) < 8; omega⟩
theorem PInv.watchOld (h : PInv j s ps) (hk : k < 8) (hr : Rises OmapU.lt (s.wat k)) (u : ByteArray) (hn : ((k : Int), u) ∈ ps) : PInv (j + 1) { s with wat := upd s.wat k (putK OmapU.lt u 0 (s.wat k)) } ps := by
  refine ⟨fun i hi => ?_, h.inn, Nat.le_succ_of_le h.lp, fun c hc => Nat.le_succ_of_le (h.lq c hc)⟩
  show (keys (upd s.wat k _ i)).Perm _
  by_cases e : i = k
  · subst e
    rw [upd_same, putK_old OmapU.tri u 0 _ hr ((h.perm i hi).mem_iff.2 ((PInv.mem ps i u).2 hn))]
    exact h.perm i hi
  · rw [upd_other _ _ e]
    exact h.perm i hi
theorem filter_out (ps : List Pa) (who i : Int) (u : ByteArray) (e : i ≠ who) : (ps.filter fun p => !decide (p = (who, u))).filter (fun p => decide (p.1 = i)) = ps.filter fun p => decide (p.1 = i) := by
  rw [List.filter_filter]
  refine List.filter_congr fun p _ => ?_
  by_cases h : p.1 = i
  · have : p ≠ (who, u) := fun h' => e (by rw [← h, h'])
    simp [h, this]
  · simp [h]
theorem filter_same (who : Int) (u : ByteArray) : ∀ ps : List Pa, ((ps.filter fun p => !decide (p = (who, u))).filter fun p => decide (p.1 = who)).map (·.2) = ((ps.filter fun p => decide (p.1 = who)).map (·.2)).filter fun a => decide (a ≠ u)
  | [] => rfl
  | p :: r => by
    have ih := filter_same who u r
    obtain ⟨a, y⟩ := p
    by_cases ha : a = who
    · subst ha
      by_cases hy : y = u
      · subst hy
        rw [List.filter_cons_of_neg (by simp), List.filter_cons_of_pos (by simp), List.map_cons, List.filter_cons_of_neg (by simp)]
        exact ih
      · rw [List.filter_cons_of_pos (by simp [hy]), List.filter_cons_of_pos (by simp), List.map_cons, List.filter_cons_of_pos (l := r) (by simp), List.map_cons, List.filter_cons_of_pos (by simpa using hy), ih]
    · rw [List.filter_cons_of_pos (by simp [ha]), List.filter_cons_of_neg (by simpa using ha), List.filter_cons_of_neg (l := r) (by simpa using ha)]
      exact ih
theorem PInv.unwatch (h : PInv j s ps) (hk : k < 8) (u : ByteArray) : PInv (j + 1) { s with wat := upd s.wat k (outK u (s.wat k)) } (ps.filter fun p => !decide (p = ((k : Int), u))) := by
  refine ⟨fun i hi => ?_, fun p hp => h.inn p (List.mem_filter.1 hp).1, Nat.le_succ_of_le (Nat.le_trans (List.length_filter_le ..) h.lp), fun c hc => Nat.le_succ_of_le (h.lq c hc)⟩
  show (keys (upd s.wat k _ i)).Perm _
  by_cases e : i = k
  · subst e
    rw [upd_same, outK_keys, filter_same]
    exact (h.perm i hi).filter _
  · rw [upd_other _ _ e, filter_out _ _ _ _ (by omega)]
    exact h.perm i hi
theorem PInv.unwatchNo (h : PInv j s ps) {who : Int} (hw : ¬ (0 ≤ who ∧ who < 8)) (u : ByteArray) : (ps.filter fun p => !decide (p = (who, u))) = ps := by
  rw [List.filter_eq_self]
  intro p hp
  have : p ≠ (who, u) := fun e => hw (by have := h.inn p hp; rw [e] at this; exact this)
  simpa using this
theorem PInv.tell (h : PInv j s ps) (room : Nat) (e : Ev) : PInv (j + 1) (s.upto room e 8) ps := by
  refine ⟨fun i hi => by rw [upto_wat]; exact h.perm i hi, h.inn, Nat.le_succ_of_le h.lp, fun c hc => ?_⟩
  have := upto_le room s e c 8
  have := h.lq c hc
  omega
theorem PInv.drain (h : PInv j s ps) (k : Nat) : PInv (j + 1) { s with que := upd s.que k [], los := upd s.los k false } ps := by
  refine ⟨h.perm, h.inn, Nat.le_succ_of_le h.lp, fun c hc => ?_⟩
  show (upd s.que k [] c).length ≤ j + 1
  by_cases e : c = k
  · subst e; rw [upd_same]; simp
  · rw [upd_other _ _ e]; exact Nat.le_succ_of_le (h.lq c hc)
end
set_option maxRecDepth 100000 in
set_option maxHeartbeats 8000000 in
theorem walk (room : Int) (l : List Ac) (A : Option Addr) (c : Nat) (who : Int) (user : ByteArray) (w : World) (hs : Seq w 0 w.heap.size A (l.flatMap cellsAc)) (hm : l.length ≤ maxLen) (hq : ∀ q ∈ l, q.Good) (hno : longA l = false) (hsz : user.size ≤ 100) :
    Calls Try.prog 3 #[.int .i64 room, .slice A l.length c, .int .i64 who, .string user] w fun e w' => e = .returned (.bool true) ∧ Below w.heap.size w w' := by
  obtain ⟨hl, hus⟩ := longA_no hno
  have HS := Lib.hid hs
  have HQ := Lib.hid hq
  have HNO := Lib.hid hno
  have HM := Lib.hid hm
  have d0 : decide ((100 : Int) < (user.size : Int)) = false := by simp; omega
  clear hs hq hus hno hm
  go_enter Try.func3, Try.ntmps3
  go_wp2_with fail
  refine (awake w).mono ?_
  rintro e w1 ⟨rfl, hB⟩
  have HB := Lib.hid hB
  have sb := hB.size
  clear hB
  go_wp2_with fail
  refine (long_ l A c w1 ((HS.out.below HB.out).more sb) HM.out HQ.out HNO.out).mono ?_
  rintro e w1' ⟨rfl, rfl⟩
  go_wp2_with fail
  refine (new room w1 sb).mono ?_
  rintro e w2 ⟨rfl, hF, hb⟩
  have HF : Hid (Fed w2 w.heap.size (fun n => w1.heap.size ≤ n ∧ n < w2.heap.size) w1.heap.size room.toNat St.zero) := hF
  have HB2 := Lib.hid (HB.out.trans (hb.mono sb))
  have sb2 := HB2.out.size
  clear hF hb HB
  generalize w1.heap.size = b at *
  go_wp2_with fail
  have H0 : Hid (Pl w (w2.alloc (.cells (cellsRf room (.slice none 0 0) (fun _ => .slice none 0 0) (fun _ => false)) 33)) (fun n => b ≤ n ∧ n < w2.heap.size) (fun _ => False) b w2.heap.size room St.zero [] St.zero.que St.zero.los) := by
    have bb := (Below.refl w2.heap.size w2).alloc (Nat.le_refl _) (.cells (cellsRf room (.slice none 0 0) (fun _ => .slice none 0 0) (fun _ => false)) 33)
    exact ⟨HF.out.below bb, ⟨_, _, Is.new w2 _ _ rfl, fun h => h, fun _ h => h.elim, ⟨none, 0, rfl, fun h => absurd rfl h⟩, fun k hk => ⟨none, 0, rfl, fun h => absurd rfl h⟩⟩, fun _ _ h => h, fun h => by omega, sb2, HB2.out.trans (bb.mono sb2)⟩
  simp only [cellsRf] at H0
  generalize w2.heap.size = r at *
  clear HF HB2
  go_loopw [11] (fun vi wr => ∃ (j : Nat) (S R : Nat → Prop) (s : St) (ps : List Pa), j ≤ l.length ∧ vi = .int .i64 j ∧ Pl w wr S R b r room s ps s.que s.los ∧ PInv j s ps) (fun vi _ => l.length - (intOf vi).toNat)
  case atStart => exact ⟨0, _, _, St.zero, [], Nat.zero_le _, rfl, H0.out, ⟨fun _ _ => List.Perm.refl _, fun _ h => (by cases h), Nat.le_refl _, fun _ _ => Nat.le_refl _⟩⟩
  case round =>
    clear H0
    obtain ⟨j, S, R, s, ps, hj, rfl, hO, hI⟩ := hrel
    have HO := Lib.hid hO
    have HI := Lib.hid hI
    have sz := hO.bel.size
    clear hO hI
    by_cases hlt : j < l.length
    · obtain ⟨ba, oa, rfl, _, hba, c0, c1, c2, c3, c4⟩ := (HS.out.below HO.out.bel).ac hlt
      have hd := bounds_u8 (HQ.out _ (List.getElem_mem hlt)).do_
      have hlb := Nat.lt_of_lt_of_le hba sz
      generalize l[j] = q at *
      obtain ⟨dI, qw, u, ql, qs⟩ := q
      simp only at c0 c1 c2 c3 c4 hd
      obtain ⟨d, rfl⟩ := Int.eq_ofNat_of_zero_le hd.1
      have hd2 : d < 256 := by omega
      have bb := (Below.refl wr.heap.size wr).alloc (Nat.le_refl _) (.cells #[.int .u8 (d : Int), .int .i64 qw, .string u, .int .i64 ql, .int .u64 qs] 36)
      have HO1 := Lib.hid (HO.out.below bb)
      have I1 : Hid (Is (wr.alloc (.cells #[.int .u8 (d : Int), .int .i64 qw, .string u, .int .i64 ql, .int .u64 qs] 36)) wr.heap.size 36 #[.int .u8 (d : Int), .int .i64 qw, .string u, .int .i64 ql, .int .u64 qs]) := Is.new wr _ _ rfl
      have N1 : Hid (¬ S wr.heap.size) := fun h => by have := (HO.out.fed.ok _ h).2; omega
      have hsz1 : wr.heap.size < (wr.alloc (.cells #[.int .u8 (d : Int), .int .i64 qw, .string u, .int .i64 ql, .int .u64 qs] 36)).heap.size := by simp
      clear bb hd hba
      go_upto_block 2 with (fail)
      generalize hW1 : wr.alloc (.cells #[.int .u8 (d : Int), .int .i64 qw, .string u, .int .i64 ql, .int .u64 qs] 36) = W1 at *
      generalize wr.heap.size = Bx at *
      clear hW1 HO c0 c1 c2 c3 c4
      go_cut [13, 14, 15, 16] (fun _ _ _ _ wx => ∃ (S R : Nat → Prop) (s : St) (ps : List Pa), Pl w wx S R b r room s ps s.que s.los ∧ PInv (j + 1) s ps)
      case first =>
        have x0 : World.cell? _ ⟨Bx, 0, none⟩ = some (.int .u8 (d : Int)) := I1.out.cell' rfl
        have x1 : World.cell? _ ⟨Bx, 1, none⟩ = some (.int .i64 qw) := I1.out.cell' rfl
        have x2 : World.cell? _ ⟨Bx, 2, none⟩ = some (.string u) := I1.out.cell' rfl
        have x3 : World.cell? _ ⟨Bx, 3, none⟩ = some (.int .i64 ql) := I1.out.cell' rfl
        have x4 : World.cell? _ ⟨Bx, 4, none⟩ = some (.int .u64 qs) := I1.out.cell' rfl
        by_cases h0 : d % 4 = 0
        · skip
          have hE0 : ((d : Int) % 4 == 0) = true := by simp; omega
          by_cases hcl : 0 ≤ qw ∧ qw < 8
          · skip
            obtain ⟨a, rfl⟩ := Int.eq_ofNat_of_zero_le hcl.1
            have ha : a < 8 := by omega
            have hla := HI.out.lw ha
            have hlq := HI.out.lq a ha
            have hlp := HI.out.lp
            have HRI := Lib.hid (feedOnly_rise HO1.out.fed ha)
            go_wp2_with fail
            refine (watchE (k := a) HO1.out.fed rfl ha u (by omega) rfl).mono ?_
            rintro e w3 ⟨rfl, hF, hW⟩
            have HO2 := Lib.hid (HO1.out.went hF hW)
            have I2 := Lib.hid (hW.is I1.out N1.out)
            have sz3 := HO2.out.bel.size
            clear hF hW x0 x1 x2 x3 x4 HO1 I1
            have x0 : World.cell? _ ⟨Bx, 0, none⟩ = some (.int .u8 (d : Int)) := I2.out.cell' rfl
            have x1 : World.cell? _ ⟨Bx, 1, none⟩ = some (.int .i64 (a : Int)) := I2.out.cell' rfl
            have x2 : World.cell? _ ⟨Bx, 2, none⟩ = some (.string u) := I2.out.cell' rfl
            have x3 : World.cell? _ ⟨Bx, 3, none⟩ = some (.int .i64 ql) := I2.out.cell' rfl
            have x4 : World.cell? _ ⟨Bx, 4, none⟩ = some (.int .u64 qs) := I2.out.cell' rfl
            by_cases hm : ((a : Int), u) ∈ ps
            · skip
              go_wp2_with fail
              refine (rWatch_old HO2.out.ref (by omega) ha u hm).mono ?_
              rintro e w4 ⟨rfl, R', hR, hRW⟩
              have HO4 := Lib.hid (HO2.out.rwent hR hRW)
              clear hR hRW
              go_wp2_with fail
              go_meet
              exact ⟨S, R', _, _, HO4.out, HI.out.watchOld ha HRI.out u hm⟩
            · skip
              go_wp2_with fail
              refine (rWatch_new HO2.out.ref (by omega) ha u hm).mono ?_
              rintro e w4 ⟨rfl, R', hR, hRW⟩
              have HO4 := Lib.hid (HO2.out.rwent hR hRW)
              clear hR hRW
              go_wp2_with fail
              go_meet
              exact ⟨S, R', _, _, HO4.out, HI.out.watchNew ha u hm⟩
          · skip
            have hlp := HI.out.lp
            go_wp2_with fail
            refine (watch_no hcl b u _).mono ?_
            rintro e w3 ⟨rfl, rfl⟩
            have HO2 := HO1
            go_wp2_with fail
            refine (rWatch_no HO2.out.ref hcl u).mono ?_
            rintro e w4 ⟨rfl, R', hR, hRW⟩
            have HO4 := Lib.hid (HO2.out.rwent hR hRW)
            clear hR hRW
            go_wp2_with fail
            go_meet
            exact ⟨S, R', _, _, HO4.out, HI.out.next⟩
        · by_cases h1 : d % 4 = 1
          · skip
            have hE0 : ((d : Int) % 4 == 0) = false := by simp; omega
            have hE1 : ((d : Int) % 4 == 1) = true := by simp; omega
            by_cases hcl : 0 ≤ qw ∧ qw < 8
            · skip
              obtain ⟨a, rfl⟩ := Int.eq_ofNat_of_zero_le hcl.1
              have ha : a < 8 := by omega
              have hla := HI.out.lw ha
              have hlq := HI.out.lq a ha
              have hlp := HI.out.lp
              go_wp2_with fail
              refine (unwatchE (k := a) HO1.out.fed rfl ha u (by omega) rfl).mono ?_
              rintro e w3 ⟨rfl, hF, hW⟩
              have HO2 := Lib.hid (HO1.out.went hF hW)
              have I2 := Lib.hid (hW.is I1.out N1.out)
              have sz3 := HO2.out.bel.size
              clear hF hW x0 x1 x2 x3 x4 HO1 I1
              have x0 : World.cell? _ ⟨Bx, 0, none⟩ = some (.int .u8 (d : Int)) := I2.out.cell' rfl
              have x1 : World.cell? _ ⟨Bx, 1, none⟩ = some (.int .i64 (a : Int)) := I2.out.cell' rfl
              have x2 : World.cell? _ ⟨Bx, 2, none⟩ = some (.string u) := I2.out.cell' rfl
              have x3 : World.cell? _ ⟨Bx, 3, none⟩ = some (.int .i64 ql) := I2.out.cell' rfl
              have x4 : World.cell? _ ⟨Bx, 4, none⟩ = some (.int .u64 qs) := I2.out.cell' rfl
              go_wp2_with fail
              refine (rUnwatch HO2.out.ref (by omega) (a : Int) u).mono ?_
              rintro e w4 ⟨rfl, R', hR, hRW⟩
              have HO4 := Lib.hid (HO2.out.rwent hR hRW)
              clear hR hRW
              go_wp2_with fail
              go_meet
              exact ⟨S, R', _, _, HO4.out, HI.out.unwatch ha u⟩
            · skip
              have hlp := HI.out.lp
              have HPS := Lib.hid (HI.out.unwatchNo hcl u)
              go_wp2_with fail
              refine (unwatch_no hcl b u _).mono ?_
              rintro e w3 ⟨rfl, rfl⟩
              have HO2 := HO1
              go_wp2_with fail
              refine (rUnwatch HO2.out.ref (by omega) qw u).mono ?_
              rintro e w4 ⟨rfl, R', hR, hRW⟩
              rw [HPS.out] at hR
              have HO4 := Lib.hid (HO2.out.rwent hR hRW)
              clear hR hRW
              go_wp2_with fail
              go_meet
              exact ⟨S, R', _, _, HO4.out, HI.out.next⟩
          · by_cases h2 : d % 4 = 2
            · skip
              have hE0 : ((d : Int) % 4 == 0) = false := by simp; omega
              have hE1 : ((d : Int) % 4 == 1) = false := by simp; omega
              have hE2 : ((d : Int) % 4 == 2) = true := by simp; omega
              have hlp := HI.out.lp
              have hlq := Lib.hid HI.out.lq
              have HAS := Lib.hid (fun n (hn : n < 8) => HI.out.has hn u)
              go_wp2_with fail
              refine (tellLit HO1.out.fed HO1.out.bel.size [⟨u, 0, 0, 0, 0, 0, ql⟩] qs rfl rfl (fun i hi => by have := hlq.out i hi; simp; omega) (s' := s.upto room.toNat ⟨u, 0, 0, 0, 0, 0, ql, qs⟩ 8) (by simp only [St.tell, List.foldl_cons, List.foldl_nil])).mono ?_
              rintro e w3 ⟨rfl, S3, hF, hW, _⟩
              have HO2 := Lib.hid (HO1.out.went hF hW)
              have I2 := Lib.hid (hW.is I1.out N1.out)
              have sz3 := HO2.out.bel.size
              clear hF hW x0 x1 x2 x3 x4 HO1 I1
              have x0 : World.cell? _ ⟨Bx, 0, none⟩ = some (.int .u8 (d : Int)) := I2.out.cell' rfl
              have x1 : World.cell? _ ⟨Bx, 1, none⟩ = some (.int .i64 qw) := I2.out.cell' rfl
              have x2 : World.cell? _ ⟨Bx, 2, none⟩ = some (.string u) := I2.out.cell' rfl
              have x3 : World.cell? _ ⟨Bx, 3, none⟩ = some (.int .i64 ql) := I2.out.cell' rfl
              have x4 : World.cell? _ ⟨Bx, 4, none⟩ = some (.int .u64 qs) := I2.out.cell' rfl
              have bb := (Below.refl w3.heap.size w3).alloc (Nat.le_refl _) (.cells #[.string u, .int .i64 0, .int .i64 0, .int .i64 0, .int .i64 0, .int .i64 0, .int .i64 ql] 45)
              have HO3 := Lib.hid (HO2.out.below bb)
              clear bb
              have l2 := I2.out.lt
              go_wp2_with fail
              refine (rTell (s := s) HO3.out.ref ⟨u, 0, 0, 0, 0, 0, ql⟩ qs (Is.new w3 _ _ rfl) HAS.out (by omega) (fun n hn => by have := hlq.out n hn; omega)).mono ?_
              rintro e w4 ⟨rfl, R', hR, hRW⟩
              have HO4 := Lib.hid (HO3.out.rwent hR hRW)
              clear hR hRW
              go_wp2_with fail
              go_meet
              exact ⟨S3, R', _, _, HO4.out, HI.out.tell _ _⟩
            · skip
              have hE0 : ((d : Int) % 4 == 0) = false := by simp; omega
              have hE1 : ((d : Int) % 4 == 1) = false := by simp; omega
              have hE2 : ((d : Int) % 4 == 2) = false := by simp; omega
              by_cases hcl : 0 ≤ qw ∧ qw < 8
              · skip
                obtain ⟨a, rfl⟩ := Int.eq_ofNat_of_zero_le hcl.1
                have ha : a < 8 := by omega
                have hla := HI.out.lw ha
                have hlq := HI.out.lq a ha
                have hlp := HI.out.lp
                go_wp2_with fail
                refine (drainE (k := a) HO1.out.fed rfl ha rfl (m := (s.que a).length) rfl rfl (by omega) rfl).mono ?_
                rintro e w3 ⟨A3, c3, rfl, hs, hF, hW⟩
                have HSA := Lib.hid hs
                have hrl := HO1.out.lt
                clear hs
                have HO2 := Lib.hid (HO1.out.went hF hW)
                have I2 := Lib.hid (hW.is I1.out N1.out)
                have sz3 := HO2.out.bel.size
                clear hF hW x0 x1 x2 x3 x4 HO1 I1
                have x0 : World.cell? _ ⟨Bx, 0, none⟩ = some (.int .u8 (d : Int)) := I2.out.cell' rfl
                have x1 : World.cell? _ ⟨Bx, 1, none⟩ = some (.int .i64 (a : Int)) := I2.out.cell' rfl
                have x2 : World.cell? _ ⟨Bx, 2, none⟩ = some (.string u) := I2.out.cell' rfl
                have x3 : World.cell? _ ⟨Bx, 3, none⟩ = some (.int .i64 ql) := I2.out.cell' rfl
                have x4 : World.cell? _ ⟨Bx, 4, none⟩ = some (.int .u64 qs) := I2.out.cell' rfl
                go_wp2_with fail
                refine (rDrain HO2.out.ref ha).mono ?_
                rintro e w4 ⟨A4, c4, rfl, hl4, hR, hRW⟩
                have HO4 := Lib.hid (HO2.out.rwent hR hRW)
                have HSB := Lib.hid (hl4.seq HO4.out.rok)
                have HSA4 : Hid (Seq w4 0 w4.heap.size A3 (flatE (s.que a))) := seq4 hRW HSA.out (fun g h e => by omega)
                clear hl4 hR hRW HSA
                go_wp2_with fail
                generalize s.que a = zs at *
                refine (refSame zs A3 A4 c3 _ _ HSA4.out HSB.out (by omega)).mono ?_
                rintro e w5 ⟨rfl, hb⟩
                have HO5 := Lib.hid (HO4.out.below hb)
                clear hb
                have eL : (s.los a != s.los a) = false := by simp
                go_wp2_with fail
                go_meet
                exact ⟨S, R, _, _, HO5.out, HI.out.drain a⟩
              · skip
                have hlp := HI.out.lp
                go_wp2_with fail
                refine (drain_no hcl b _).mono ?_
                rintro e w3 ⟨rfl, rfl⟩
                go_wp2_with fail
                refine (rDrain_no hcl r _).mono ?_
                rintro e w3 ⟨rfl, rfl⟩
                go_wp2_with fail
                refine (refSame [] none none 0 0 _ (fun h => absurd rfl h) (fun h => absurd rfl h) (by simp)).mono ?_
                rintro e w5 ⟨rfl, hb⟩
                have HO5 := Lib.hid (HO1.out.below hb)
                clear hb
                go_wp2_with fail
                go_meet
                exact ⟨S, R, s, ps, HO5.out, HI.out.next⟩
      case rest =>
        obtain ⟨S, R, s, ps, hO, hI⟩ := hcut
        have HO := Lib.hid hO
        have HI := Lib.hid hI
        clear hO hI
        have hlp := HI.out.lp
        by_cases hcl : 0 ≤ who ∧ who < 8
        · skip
          obtain ⟨a, rfl⟩ := Int.eq_ofNat_of_zero_le hcl.1
          have ha : a < 8 := by omega
          have hla := HI.out.lw ha
          have HH := Lib.hid (HI.out.has ha user)
          have HN := Lib.hid (HI.out.len ha)
          obtain ⟨rr, hrr⟩ : ∃ rr : Bool, s.has a user = rr := ⟨_, rfl⟩
          rw [hrr] at HH
          obtain ⟨nn, hnn⟩ : ∃ nn : Int, ((s.wat a).length : Int) = nn := ⟨_, rfl⟩
          have HN2 : Hid (((ps.filter fun p => decide (p.1 = (a : Int))).length : Int) = nn) := by show _ = _; rw [HN.out, hnn]
          have e0 : (rr != rr) = false := by simp
          have e1 : (nn != nn) = false := by simp
          have HRR := Lib.hid hrr
          have HNN := Lib.hid hnn
          clear hrr hnn
          go_wp2_with fail
          refine (watchingE (k := a) HO.out.fed rfl ha user HRR.out).mono ?_
          rintro e w3 ⟨rfl, hb⟩
          have HO3 := Lib.hid (HO.out.below hb)
          clear hb
          go_wp2_with fail
          refine (rWatching HO3.out.ref (by omega) (a : Int) user HH.out).mono ?_
          rintro e w4 ⟨rfl, hb⟩
          have HO4 := Lib.hid (HO3.out.below hb)
          clear hb
          go_wp2_with fail
          refine (countE (k := a) HO4.out.fed rfl ha HNN.out).mono ?_
          rintro e w5 ⟨rfl, hb⟩
          have HO5 := Lib.hid (HO4.out.below hb)
          clear hb
          go_wp2_with fail
          refine (rCount HO5.out.ref (by omega) (a : Int) HN2.out).mono ?_
          rintro e w6 ⟨rfl, hb⟩
          have HO6 := Lib.hid (HO5.out.below hb)
          clear hb
          go_wp2_with fail
          go_roundw
          case rel => exact ⟨j + 1, S, R, s, ps, by omega, by go_num, HO6.out, HI.out⟩
          case measure => simp [intOf]; omega
        · skip
          have HN2 : Hid (((ps.filter fun p => decide (p.1 = who)).length : Int) = 0) := by show _ = _; rw [HI.out.none hcl]; rfl
          go_wp2_with fail
          refine (watching_no hcl b user _).mono ?_
          rintro e w3 ⟨rfl, rfl⟩
          go_wp2_with fail
          refine (rWatching HO.out.ref (by omega) who user (res := false) ⟨fun h => Bool.noConfusion h, fun h => absurd h (HI.out.no hcl user)⟩).mono ?_
          rintro e w4 ⟨rfl, hb⟩
          have HO4 := Lib.hid (HO.out.below hb)
          clear hb
          go_wp2_with fail
          refine (count_no hcl b _).mono ?_
          rintro e w5 ⟨rfl, rfl⟩
          go_wp2_with fail
          refine (rCount HO4.out.ref (by omega) who HN2.out).mono ?_
          rintro e w6 ⟨rfl, hb⟩
          have HO6 := Lib.hid (HO4.out.below hb)
          clear hb
          go_wp2_with fail
          go_roundw
          case rel => exact ⟨j + 1, S, R, s, ps, by omega, by go_num, HO6.out, HI.out⟩
          case measure => simp [intOf]; omega
    · skip
      have e1 : j = l.length := by omega
      have d1 : decide ((j : Int) < (l.length : Int)) = false := by simp; omega
      go_wp2_with fail
      go_ret
      exact ⟨rfl, HO.out.bel⟩
set_option maxHeartbeats 1000000 in
theorem walkLong (room : Int) (l : List Ac) (A : Option Addr) (c : Nat) (who : Int) (user : ByteArray) (w : World) (hs : Seq w 0 w.heap.size A (l.flatMap cellsAc)) (hm : l.length ≤ maxLen) (hq : ∀ q ∈ l, q.Good) {bl bu : Bool} (hno : longA l = bl) (hbu : decide ((100 : Int) < (user.size : Int)) = bu) (hor : bl = true ∨ bu = true) :
    Calls Try.prog 3 #[.int .i64 room, .slice A l.length c, .int .i64 who, .string user] w fun e w' => e = .returned (.bool true) ∧ Below w.heap.size w w' := by
  have HS := Lib.hid hs
  have HM := Lib.hid hm
  have HQ := Lib.hid hq
  have HNO := Lib.hid hno
  clear hs hm hq hno
  go_enter Try.func3, Try.ntmps3
  go_wp2_with fail
  refine (awake w).mono ?_
  rintro e w1 ⟨rfl, hB⟩
  have HB := Lib.hid hB
  have sb := hB.size
  clear hB
  go_wp2_with fail
  refine (long_ l A c w1 ((HS.out.below HB.out).more sb) HM.out HQ.out HNO.out).mono ?_
  rintro e w1' ⟨rfl, rfl⟩
  cases bl with
  | true =>
    go_wp2_with fail
    refine (awake w1).mono ?_
    rintro e w2 ⟨rfl, hB⟩
    have HB2 := Lib.hid (HB.out.trans (hB.mono sb))
    clear hB HB
    go_wp2_with fail
    go_ret
    exact ⟨rfl, HB2.out⟩
  | false =>
    obtain rfl : bu = true := hor.elim (fun h => Bool.noConfusion h) id
    go_wp2_with fail
    refine (awake w1).mono ?_
    rintro e w2 ⟨rfl, hB⟩
    have HB2 := Lib.hid (HB.out.trans (hB.mono sb))
    clear hB HB
    go_wp2_with fail
    go_ret
    exact ⟨rfl, HB2.out⟩
theorem walk0 (room : Int) (l : List Ac) (A : Option Addr) (c : Nat) (who : Int) (user : ByteArray) (w : World) (hs : Seq w 0 w.heap.size A (l.flatMap cellsAc)) (hm : l.length ≤ maxLen) (hq : ∀ q ∈ l, q.Good) :
    Calls Try.prog 3 #[.int .i64 room, .slice A l.length c, .int .i64 who, .string user] w fun e w' => e = .returned (.bool true) ∧ Below w.heap.size w w' := by
  cases h : longA l with
  | true => exact walkLong room l A c who user w hs hm hq h rfl (.inl rfl)
  | false =>
    by_cases h1 : 100 < user.size
    · exact walkLong room l A c who user w hs hm hq h rfl (.inr (by simp; omega))
    · exact walk room l A c who user w hs hm hq h (by omega)

set_option maxRecDepth 100000 in
theorem lifted (os : Os) (started : os.Started) (H : Type) (enc : TypeId × Value → H) :
    ReturnsInHanded {} Try.checked os 3 .any (Rows.feedPlaysSpec.pre6 enc Try.prog Try.f3 Rows.feedPlaysRow.domain false) (Rows.feedPlaysSpec.post enc Try.prog Try.f3 false true false false) := by
  refine returnsInHanded_of_change (C := Try.checked) own started (by kernel_rfl) Try.func3
    (ChangeSpec.witness6 (enc := enc) (C := Try.checked) false ⟨#[], #[.int .i64 0, .slice none 0 0, .int .i64 0, .string ⟨#[]⟩], []⟩ 8 (by kernel_rfl) (by kernel_rfl) (by kernel_rfl) (by kernel_rfl)) ?_
  intro W base args ds gs before hval0 hW hcnd _
  have hval : ∀ (j : Nat) t v, Try.f3.params[j]? = some t → args[j]? = some v → Value.okWide Try.prog W .any base t v := hval0
  have hW' := hW
  obtain ⟨p, q, hA0, hV, rfl, hfz, hnd⟩ := hW
  have hA : DataW.TrodAll enc Try.prog W 0 (fun _ => true) true Try.f3.params.toList args.toList ds p := hA0
  rw [Try.params3] at hA hval
  obtain ⟨v0, vs0, d0, ds0, p0, q0, hargs, rfl, rfl, h0, r0⟩ := trodAll_cons hA
  obtain ⟨v1, vs1, d1, ds1, p1, q1, rfl, rfl, rfl, h1, r1⟩ := trodAll_cons r0
  obtain ⟨v2, vs2, d2, ds2, p2, q2, rfl, rfl, rfl, h2, r2⟩ := trodAll_cons r1
  obtain ⟨v3, vs3, d3, ds3, p3, q3, rfl, rfl, rfl, h3, r3⟩ := trodAll_cons r2
  obtain ⟨rfl, rfl, rfl⟩ := trodAll_nil r3
  obtain rfl : args = #[v0, v1, v2, v3] := by cases args; simp_all
  obtain ⟨a0, rfl, rfl, rfl, w0⟩ := open_int Try.underlying3 (hval 0 3 v0 rfl rfl) h0
  obtain ⟨A, c, l, rfl, hs, hm, hq⟩ := open_acts (hval 1 22 v1 rfl rfl) h1
  obtain ⟨a2, rfl, rfl, rfl, w2⟩ := open_int Try.underlying3 (hval 2 3 v2 rfl rfl) h2
  obtain ⟨a3, rfl, rfl, rfl, w3⟩ := Go.ChangeMaps.open_string Try.underlying9 (hval 3 9 v3 rfl rfl) h3
  refine (walk0 a0 l A c a2 a3 W hs hm hq).mono fun e W' ⟨he, bel⟩ => ?_
  subst he
  exact ⟨_, rfl, Law.post_law laidOut (by kernel_rfl) (by kernel_rfl) Try.underlying4 rfl (fun ds h => by match ds, h with | [_, _, _, _], _ => rfl) hW' bel⟩

theorem proved : Rows.FeedPlaysSaid :=
  OpenClaim.holds_of_wide 3 Try.f3 rfl rfl rfl rfl rfl rfl rfl ⟨rfl, rfl, rfl, rfl, rfl⟩ rfl rfl rfl rfl rfl (by kernel_rfl) Try.func3 (by kernel_rfl)
    (of_decide_eq_true (by kernel_rfl)) (by unfold Func.isWrapper; rw [if_neg (by decide +kernel)]; exact ⟨rfl, rfl⟩)
    (fun os started H enc _ => lifted os started H enc)
#print axioms proved
end feedPlays
end Go.Proofs.Ytdkjcheannehhaa
