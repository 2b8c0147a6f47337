/-
  Pairs of the reference beside who watches whom. Plain.
-/
import Derived.Test.YtohdlnefgieenaaGreatJ25
import Derived.Test.YtohdlnefgieenaaGreatJ17
import Derived.Test.YtohdlnefgieenaaGreatJ12
import Derived.Test.YtohdlnefgieenaaGreatJ7
import Derived.Test.YtohdlnefgieenaaGreatJ9
import Derived.Deep.QuietTactic
import Derived.BigQuiet
import Derived.StillTailTactics
namespace Go.Proofs.YtohdlnefgieenaaGreat
open Go.RowKit
namespace Feed
open Go.Law
/-- the pairs of the reference, at most N, beside a feed's sets -/
structure PI (N : Nat) (s : St) (ps : List Pa) : Prop where
  perm : ∀ k, k < 8 → (keys (s.wat k)).Perm ((ps.filter fun p => decide (p.1 = (k : Int))).map (·.2))
  inn : ∀ p ∈ ps, 0 ≤ p.1 ∧ p.1 < 8
  lp : ps.length ≤ N
section
variable {N k : Nat} {s : St} {ps : List Pa}
theorem PI.mem (ps : List Pa) (k : Int) (u : ByteArray) : u ∈ (ps.filter fun p => decide (p.1 = k)).map (·.2) ↔ (k, u) ∈ ps := by
  simp only [List.mem_map, List.mem_filter]
  exact ⟨fun ⟨p, ⟨h1, h2⟩, h3⟩ => by obtain ⟨a, y⟩ := p; simp at h2 h3; subst h2 h3; exact h1, fun h => ⟨(k, u), ⟨h, by simp⟩, rfl⟩⟩
theorem PI.has (h : PI N s ps) (hk : k < 8) (u : ByteArray) : s.has k u = true ↔ ((k : Int), u) ∈ ps := ((getK_keys u (s.wat k)).trans (h.perm k hk).mem_iff).trans (PI.mem ps k u)
theorem PI.len (h : PI N s ps) (hk : k < 8) : (ps.filter fun p => decide (p.1 = (k : Int))).length = (s.wat k).length := by have := (h.perm k hk).length_eq; simpa [keys] using this.symm
theorem PI.lw (h : PI N s ps) (hk : k < 8) : (s.wat k).length ≤ N := by rw [← h.len hk]; exact Nat.le_trans (List.length_filter_le ..) h.lp
theorem PI.no (h : PI N s ps) {who : Int} (hw : ¬ (0 ≤ who ∧ who < 8)) (u : ByteArray) : (who, u) ∉ ps := fun hm => hw (h.inn _ hm)
theorem PI.none (h : PI N s ps) {who : Int} (hw : ¬ (0 ≤ who ∧ who < 8)) : (ps.filter fun p => decide (p.1 = who)).length = 0 := by
  rw [List.length_eq_zero_iff, List.filter_eq_nil_iff]
  intro p hp e
  have := of_decide_eq_true e
  exact hw (this ▸ h.inn p hp)
theorem PI.watchNew (h : PI N s ps) (hk : k < 8) (u : ByteArray) (hn : ((k : Int), u) ∉ ps) : PI (N + 1) { s with wat := upd s.wat k (putK OmapU.lt u 0 (s.wat k)) } (ps ++ [((k : Int), u)]) := by
  refine ⟨fun i hi => ?_, fun p hp => ?_, by simpa using h.lp⟩
  · show (keys (upd s.wat k _ i)).Perm _
    rw [List.filter_append, List.map_append]
    by_cases e : i = k
    · subst e
      rw [upd_same, List.filter_cons_of_pos (by simp)]
      have h1 : u ∉ keys (s.wat i) := fun h' => hn ((PI.mem ps i u).1 ((h.perm i hi).mem_iff.1 h'))
      exact ((putK_new OmapU.tri u 0 _ h1).trans (List.Perm.cons u (h.perm i hi))).trans (List.perm_append_comm (l₁ := [u]))
    · rw [upd_other _ _ e, List.filter_cons_of_neg (by simp; omega)]
      simpa using h.perm i hi
  · rcases List.mem_append.1 hp with hp | hp
    · exact h.inn p hp
    · obtain rfl := List.mem_singleton.1 hp
      exact ⟨Int.natCast_nonneg _, by show (k : Int) < 8; omega⟩
theorem PI.watchOld (h : PI N s ps) (hk : k < 8) (hr : Rises OmapU.lt (s.wat k)) (u : ByteArray) (hn : ((k : Int), u) ∈ ps) : PI (N + 1) { s with wat := upd s.wat k (putK OmapU.lt u 0 (s.wat k)) } ps := by
  refine ⟨fun i hi => ?_, h.inn, Nat.le_succ_of_le h.lp⟩
  show (keys (upd s.wat k _ i)).Perm _
  by_cases e : i = k
  · subst e
    rw [upd_same, putK_old OmapU.tri u 0 _ hr ((h.perm i hi).mem_iff.2 ((PI.mem ps i u).2 hn))]
    exact h.perm i hi
  · rw [upd_other _ _ e]
    exact h.perm i hi
theorem filter_out (ps : List Pa) (who i : Int) (u : ByteArray) (e : i ≠ who) : (ps.filter fun p => !decide (p = (who, u))).filter (fun p => decide (p.1 = i)) = ps.filter fun p => decide (p.1 = i) := by
  rw [List.filter_filter]
  refine List.filter_congr fun p _ => ?_
  by_cases h : p.1 = i
  · have : p ≠ (who, u) := fun h' => e (by rw [← h, h'])
    simp [h, this]
  · simp [h]
theorem filter_same (who : Int) (u : ByteArray) : ∀ ps : List Pa, ((ps.filter fun p => !decide (p = (who, u))).filter fun p => decide (p.1 = who)).map (·.2) = ((ps.filter fun p => decide (p.1 = who)).map (·.2)).filter fun a => decide (a ≠ u)
  | [] => rfl
  | p :: r => by
    have ih := filter_same who u r
    obtain ⟨a, y⟩ := p
    by_cases ha : a = who
    · subst ha
      by_cases hy : y = u
      · subst hy
        rw [List.filter_cons_of_neg (by simp), List.filter_cons_of_pos (by simp), List.map_cons, List.filter_cons_of_neg (by simp)]
        exact ih
      · rw [List.filter_cons_of_pos (by simp [hy]), List.filter_cons_of_pos (by simp), List.map_cons, List.filter_cons_of_pos (l := r) (by simp), List.map_cons, List.filter_cons_of_pos (by simpa using hy), ih]
    · rw [List.filter_cons_of_pos (by simp [ha]), List.filter_cons_of_neg (by simpa using ha), List.filter_cons_of_neg (l := r) (by simpa using ha)]
      exact ih
theorem PI.unwatch (h : PI N s ps) (hk : k < 8) (u : ByteArray) : PI (N + 1) { s with wat := upd s.wat k (outK u (s.wat k)) } (ps.filter fun p => !decide (p = ((k : Int), u))) := by
  refine ⟨fun i hi => ?_, fun p hp => h.inn p (List.mem_filter.1 hp).1, Nat.le_succ_of_le (Nat.le_trans (List.length_filter_le ..) h.lp)⟩
  show (keys (upd s.wat k _ i)).Perm _
  by_cases e : i = k
  · subst e
    rw [upd_same, outK_keys, filter_same]
    exact (h.perm i hi).filter _
  · rw [upd_other _ _ e, filter_out _ _ _ _ (by omega)]
    exact h.perm i hi
theorem PI.unwatchNo (h : PI N s ps) {who : Int} (hw : ¬ (0 ≤ who ∧ who < 8)) (u : ByteArray) : (ps.filter fun p => !decide (p = (who, u))) = ps := by
  rw [List.filter_eq_self]
  intro p hp
  have : p ≠ (who, u) := fun e => hw (by have := h.inn p hp; rw [e] at this; exact this)
  simpa using this
theorem PI.more {M : Nat} (h : PI N s ps) (hm : N ≤ M) : PI M s ps := ⟨h.perm, h.inn, Nat.le_trans h.lp hm⟩
/-- the sets are the same -/
theorem PI.wat {s' : St} (h : PI N s ps) (hw : s'.wat = s.wat) : PI N s' ps := ⟨by rw [hw]; exact h.perm, h.inn, h.lp⟩
theorem PI.nil (N : Nat) {s : St} (h : ∀ k, k < 8 → s.wat k = []) : PI N s [] := ⟨fun k hk => by rw [h k hk]; exact List.Perm.nil, fun _ hp => (by cases hp), Nat.zero_le _⟩
end
end Feed
end Go.Proofs.YtohdlnefgieenaaGreat
/-
  What Users of layer 8's statements comes to: a book, as a list of users.
-/
namespace Go.Law
open Go.RowKit
/-- a user's cells -/
def cellsU (q : ByteArray × EnV) : List Value := [.string q.1, .slice q.2.A q.2.n q.2.c, .int .i64 q.2.st, .int .i64 q.2.pr, .int .i64 q.2.lv]
def flatU (l : List (ByteArray × EnV)) : List Value := l.flatMap cellsU
theorem flatU_one (l : List (ByteArray × EnV)) : ∀ u ∈ flatU l, u.oneCell' = true := by
  intro u hu
  obtain ⟨q, _, hq⟩ := List.mem_flatMap.1 hu
  simp [cellsU] at hq
  rcases hq with rfl | rfl | rfl | rfl | rfl <;> rfl
theorem cellsU_one (q : ByteArray × EnV) : ∀ u ∈ cellsU q, u.oneCell' = true := by
  intro u hq
  simp [cellsU] at hq
  rcases hq with rfl | rfl | rfl | rfl | rfl <;> rfl
theorem flatU_length (l : List (ByteArray × EnV)) : (flatU l).length = l.length * 5 := rows_length (cells := cellsU) (fun _ => rfl) l
theorem flatU_app (xs ys : List (ByteArray × EnV)) : flatU (xs ++ ys) = flatU xs ++ flatU ys := List.flatMap_append
theorem Seq.us {w : World} {lo B : Nat} {A : Option Addr} {l : List (ByteArray × EnV)} {i : Nat} (h : Seq w lo B A (flatU l)) (hi : i < l.length) : ∃ b off, A = some ⟨b, off, none⟩ ∧ lo ≤ b ∧ b < B ∧
    w.cell? ⟨b, off + i * 5, none⟩ = some (.string l[i].1) ∧ w.cell? ⟨b, off + i * 5 + 1, none⟩ = some (.slice l[i].2.A l[i].2.n l[i].2.c) ∧ w.cell? ⟨b, off + i * 5 + 2, none⟩ = some (.int .i64 l[i].2.st) ∧ w.cell? ⟨b, off + i * 5 + 3, none⟩ = some (.int .i64 l[i].2.pr) ∧ w.cell? ⟨b, off + i * 5 + 4, none⟩ = some (.int .i64 l[i].2.lv) := by
  obtain ⟨b, off, hA, h1, h2, hc⟩ := Seq.row (cells := cellsU) (fun _ => rfl) (by decide : 0 < 5) h hi
  exact ⟨b, off, hA, h1, h2, by simpa using hc 0 _ rfl, hc 1 _ rfl, hc 2 _ rfl, hc 3 _ rfl, hc 4 _ rfl⟩
theorem new_five (w : World) (q : ByteArray × EnV) (t : TypeId) {g : Nat} (hg : g = w.heap.size) : ∀ (j : Nat) (u : Value), (cellsU q)[j]? = some u → (w.alloc (.cells #[.string q.1, .slice q.2.A q.2.n q.2.c, .int .i64 q.2.st, .int .i64 q.2.pr, .int .i64 q.2.lv] t)).cell? ((⟨g, 0, none⟩ : Addr).add j) = some u := by
  intro j u hu
  rw [add_plainR]
  simp only [Nat.zero_add]
  refine ((Is.new w t _ hg).cell j).trans ?_
  simpa [cellsU] using hu
end Go.Law
namespace Go.Proofs.YtohdlnefgieenaaGreat
open Go.RowKit
namespace Bk
open Go.Law Go.Proofs.YtohdlnefgieenaaGreat.OmapB Door
theorem elemU : ∃ i, Law.Elem Tryz.prog 84 107 i (.agg #[.string .empty, .slice none 0 0, .int .i64 0, .int .i64 0, .int .i64 0]) 5 64 := Law.Elem.of Tryz.underlying84 (by kernel_rfl) rfl (by decide)
/-- at A lies a list of users that is this book -/
def UsersAt (w : World) (A : Option Addr) (b : List (ByteArray × En)) : Prop := ∃ xs, Lain 107 w A (flatU xs) ∧ (∀ q ∈ xs, q.2.In 138 w) ∧ mapV EnV.en xs = b
/-- on the way through a book -/
def Gone (w : World) (g : Nat) (pre : List (ByteArray × EnV)) (W : World) : Prop := ∃ v, Is W g 84 #[v] ∧ W.ownsRow w.heap.size 107 5 v pre.length (flatU pre) ∧ Below w.heap.size w W

end Bk
end Go.Proofs.YtohdlnefgieenaaGreat
/-
  What the reference's Of (layer 7) comes to.
-/
namespace Go.Law
/-- nobody of the first k beats place i -/
def FirstTo (l : List Sn) (i k : Nat) : Prop := ∀ (n : Nat) p q, n < k → l[n]? = some p → l[i]? = some q → beats n i p q = false
theorem FirstTo.snoc {l : List Sn} {i k : Nat} (hk : k < l.length) (hi : i < l.length) (h : FirstTo l i k) (hb : beats k i l[k] l[i] = false) : FirstTo l i (k + 1) := fun n p q hn hp hq => by
  rcases Nat.lt_or_ge n k with h1 | h1
  · exact h n p q h1 hp hq
  · obtain rfl : n = k := by omega
    rw [List.getElem?_eq_getElem hk] at hp
    rw [List.getElem?_eq_getElem hi] at hq
    rw [← Option.some.inj hp, ← Option.some.inj hq]
    exact hb
theorem FirstTo.picks {l : List Sn} {i : Nat} (h : FirstTo l i l.length) : Picks l i := fun k p q hp hq => h k p q (List.getElem?_eq_some_iff.1 hp).1 hp hq
theorem not_picks {l : List Sn} {i k : Nat} (hk : k < l.length) (hi : i < l.length) (hb : beats k i l[k] l[i] = true) : ¬ Picks l i := fun h => by
  have := h k _ _ (List.getElem?_eq_getElem hk) (List.getElem?_eq_getElem hi)
  rw [hb] at this
  cases this
end Go.Law
namespace Go.Proofs.YtohdlnefgieenaaGreat
open Go.RowKit
namespace Aggr
open Go.Law

set_option maxRecDepth 100000 in
set_option maxHeartbeats 4000000 in
theorem refOf (now : Int) (zs : List Sn) (A : Option Addr) (c : Nat) (w : World) (hs : Seq w 0 w.heap.size A (flatS zs)) (hl : zs.length ≤ 900) :
    Calls Tryz.prog 70 #[.slice A zs.length c, .int .u64 now] w fun e w' => e = .returned (PV (live now zs)) ∧ Below w.heap.size w w' := by
  have HS := Lib.hid hs
  clear hs
  have B0 := (Below.refl w.heap.size w).alloc (Nat.le_refl _) (.cells #[.int .i64 0, .int .i64 0, .int .i64 0] 57)
  have I0 := Is.new w 57 #[.int .i64 0, .int .i64 0, .int .i64 0] rfl
  have S0 := Lib.hid ((HS.out.alloc (Nat.le_refl _) (.cells #[.int .i64 0, .int .i64 0, .int .i64 0] 57)).more (Nat.le_of_lt I0.lt))
  have hll := live_length now zs
  have hlv : (live now zs).length ≤ 900 := by omega
  clear hll
  go_enter Tryz.func70, Tryz.ntmps70
  go_wp2_with fail
  generalize w.alloc (.cells #[.int .i64 0, .int .i64 0, .int .i64 0] 57) = w0 at *
  refine (Sess.refPurge now zs A c w0 S0.out hl).mono ?_
  rintro e w1 ⟨A1, c1, rfl, r1, b1⟩
  have S1 := Lib.hid ((Seq.own r1).from_ (Nat.zero_le _))
  have B1 := Lib.hid (B0.trans (b1.mono B0.size))
  have I1 := Lib.hid (I0.below b1 I0.lt)
  clear r1 b1 B0 I0 S0 HS
  obtain ⟨lv, hlvE⟩ : ∃ lv, live now zs = lv := ⟨_, rfl⟩
  rw [hlvE] at S1 hlv ⊢
  have HLV := Lib.hid hlvE
  clear hlvE
  go_wp2_with fail
  go_loopw [6] (fun i wr => ∃ j : Nat, j ≤ lv.length ∧ i = .int .i64 j ∧ (∀ i', i' < j → ¬ Picks lv i') ∧ Drawn w1 wr) (fun i _ => lv.length - (intOf i).toNat)
  case atStart => exact ⟨0, Nat.zero_le _, rfl, fun i' h => by omega, Drawn.refl _⟩
  case round =>
    obtain ⟨j, hj, rfl, hN, hD⟩ := hrel
    have HN := Lib.hid hN
    have HD := Lib.hid hD
    clear hN hD
    by_cases hlt : j < lv.length
    · obtain ⟨b, off, rfl, _, hb, q0, q1, q2, q3⟩ := S1.out.ses hlt
      have HQ : Hid (Picks lv j → lv[j] = top lv) := fun h => picks_top (List.getElem?_eq_getElem hlt) h
      have HF : Hid (∀ k (hk : k < lv.length), FirstTo lv j k → beats k j lv[k] lv[j] = false → FirstTo lv j (k + 1)) := fun k hk h hb => h.snoc hk hlt hb
      have HX : Hid (∀ k (hk : k < lv.length), beats k j lv[k] lv[j] = true → ¬ Picks lv j) := fun k hk hb => not_picks hk hlt hb
      generalize lv[j] = q at *
      obtain ⟨x0, x1, x2, x3⟩ := q
      simp only at q0 q1 q2 q3
      go_wp2_with fail
      go_loopw [7, 8] (fun f k wr' => ∃ (n : Nat) (bf : Bool), n ≤ lv.length ∧ k = .int .i64 n ∧ f = .bool bf ∧ (bf = true → FirstTo lv j n) ∧ (bf = false → ¬ Picks lv j) ∧ Drawn w1 wr') (fun _ k _ => lv.length - (intOf k).toNat)
      case atStart => exact ⟨0, true, Nat.zero_le _, rfl, rfl, fun _ n p q h => by omega, (fun h => by cases h), HD.out⟩
      case round =>
        obtain ⟨n, bf, hn, rfl, rfl, hY, hNo, hD2⟩ := hrel
        have HY := Lib.hid hY
        have HNo := Lib.hid hNo
        have HD2 := Lib.hid hD2
        clear hY hNo hD2
        by_cases hlt2 : n < lv.length
        · obtain ⟨b', off', e', _, hb', u0, u1, u2, u3⟩ := (HD2.out.seq S1.out).ses hlt2
          obtain ⟨rfl, rfl⟩ : b = b' ∧ off = off' := by simpa using e'
          have k0 := (HD2.out.cell _).trans q0
          have k2 := (HD2.out.cell _).trans q2
          have HF2 := Lib.hid (HF.out n hlt2)
          have HX2 := Lib.hid (HX.out n hlt2)
          clear e' hb'
          generalize lv[n] = y at *
          obtain ⟨p0, p1, p2, p3⟩ := y
          simp only at u0 u1 u2 u3
          clear u1 u3
          rcases (by omega : x2 < p2 ∨ p2 < x2 ∨ (p2 = x2 ∧ p0 < x0) ∨ (p2 = x2 ∧ x0 < p0) ∨ (p2 = x2 ∧ p0 = x0 ∧ n < j) ∨ (p2 = x2 ∧ p0 = x0 ∧ j ≤ n)) with h1 | h1 | h1 | h1 | h1 | h1
          · have hbt : beats n j (p0, p1, p2, p3) (x0, x1, x2, x3) = true := by simp [beats]; omega
            have g1 : decide (x2 < p2) = true := by simpa using h1
            have HBT := Lib.hid hbt
            have H1 := Lib.hid h1
            clear hbt h1
            go_wp2_with fail
            go_quiet (fail)
            go_wp2_with fail
            go_roundw
            case rel => exact ⟨n + 1, false, by omega, by go_num, rfl, (fun h => by cases h), (fun _ => HX2.out HBT.out), HD2.out.drewN _⟩
            case measure => simp [intOf]; omega
          · have hbt : beats n j (p0, p1, p2, p3) (x0, x1, x2, x3) = false := by simp [beats]; omega
            have g1 : decide (x2 < p2) = false := by simp; omega
            have g2 : (p2 == x2) = false := by simp; omega
            have HBT := Lib.hid hbt
            have H1 := Lib.hid h1
            clear hbt h1
            go_wp2_with fail
            go_quiet (fail)
            go_wp2_with fail
            go_roundw
            case rel => exact ⟨n + 1, bf, by omega, by go_num, rfl, (fun h => HF2.out (HY.out h) HBT.out), HNo.out, HD2.out.drewN _⟩
            case measure => simp [intOf]; omega
          · have hbt : beats n j (p0, p1, p2, p3) (x0, x1, x2, x3) = true := by simp [beats]; omega
            have g1 : decide (x2 < p2) = false := by simp; omega
            have g2 : (p2 == x2) = true := by simpa using h1.1
            have g3 : decide (p0 < x0) = true := by simpa using h1.2
            have HBT := Lib.hid hbt
            have H1 := Lib.hid h1
            clear hbt h1
            go_wp2_with fail
            go_quiet (fail)
            go_wp2_with fail
            go_roundw
            case rel => exact ⟨n + 1, false, by omega, by go_num, rfl, (fun h => by cases h), (fun _ => HX2.out HBT.out), HD2.out.drewN _⟩
            case measure => simp [intOf]; omega
          · have hbt : beats n j (p0, p1, p2, p3) (x0, x1, x2, x3) = false := by simp [beats]; omega
            have g1 : decide (x2 < p2) = false := by simp; omega
            have g2 : (p2 == x2) = true := by simpa using h1.1
            have g3 : decide (p0 < x0) = false := by simp; omega
            have g4 : (p0 == x0) = false := by simp; omega
            have HBT := Lib.hid hbt
            have H1 := Lib.hid h1
            clear hbt h1
            go_wp2_with fail
            go_quiet (fail)
            go_wp2_with fail
            go_roundw
            case rel => exact ⟨n + 1, bf, by omega, by go_num, rfl, (fun h => HF2.out (HY.out h) HBT.out), HNo.out, HD2.out.drewN _⟩
            case measure => simp [intOf]; omega
          · have hbt : beats n j (p0, p1, p2, p3) (x0, x1, x2, x3) = true := by simp [beats]; omega
            have g1 : decide (x2 < p2) = false := by simp; omega
            have g2 : (p2 == x2) = true := by simpa using h1.1
            have g3 : decide (p0 < x0) = false := by simp; omega
            have g4 : (p0 == x0) = true := by simpa using h1.2.1
            have g5 : decide ((n : Int) < (j : Int)) = true := by simp; omega
            have g6 : decide (n < j) = true := by simp; omega
            have HBT := Lib.hid hbt
            have H1 := Lib.hid h1
            clear hbt h1
            go_wp2_with fail
            go_quiet (fail)
            go_wp2_with fail
            go_roundw
            case rel => exact ⟨n + 1, false, by omega, by go_num, rfl, (fun h => by cases h), (fun _ => HX2.out HBT.out), HD2.out.drewN _⟩
            case measure => simp [intOf]; omega
          · have hbt : beats n j (p0, p1, p2, p3) (x0, x1, x2, x3) = false := by simp [beats]; omega
            have g1 : decide (x2 < p2) = false := by simp; omega
            have g2 : (p2 == x2) = true := by simpa using h1.1
            have g3 : decide (p0 < x0) = false := by simp; omega
            have g4 : (p0 == x0) = true := by simpa using h1.2.1
            have g5 : decide ((n : Int) < (j : Int)) = false := by simp; omega
            have g6 : decide (n < j) = false := by simp; omega
            have HBT := Lib.hid hbt
            have H1 := Lib.hid h1
            clear hbt h1
            go_wp2_with fail
            go_quiet (fail)
            go_wp2_with fail
            go_roundw
            case rel => exact ⟨n + 1, bf, by omega, by go_num, rfl, (fun h => HF2.out (HY.out h) HBT.out), HNo.out, HD2.out.drewN _⟩
            case measure => simp [intOf]; omega
        · cases bf with
          | true =>
            have ht : (x0, x1, x2, x3) = top lv := HQ.out (FirstTo.picks (by have h := HY.out rfl; rwa [show n = lv.length by omega] at h))
            have HP : Hid (PV lv = .agg #[.int .i64 x1, .int .i64 x2, .int .i64 (lv.length : Int)]) := by show _ = _; unfold PV; rw [← ht]
            obtain ⟨d, hd⟩ := HD2.out
            have I2 : Is wr w.heap.size 57 #[.int .i64 0, .int .i64 0, .int .i64 0] := by rw [hd]; exact I1.out.drewN d
            have k1 := (HD2.out.cell _).trans q1
            have k2 := (HD2.out.cell _).trans q2
            have B2 := HD2.out.below B1.out
            have k1' : wr.drew.cell? ⟨b, off + j * 4 + 1, none⟩ = some (.int .i64 x1) := k1
            have hz := I2.lt
            clear ht hd HF HX HQ HN HD HY HNo HD2 S1 I1 B1 q0 q1 q2 q3
            go_wp2_with fail
            go_still_tail 13, (by kernel_rfl)
            change wpList _ _ _ _ _ wr.drew
            have I3 : Is wr.drew w.heap.size 57 #[.int .i64 0, .int .i64 0, .int .i64 0] := I2.drew
            have B3 : Below w.heap.size w wr.drew := B2.drew
            clear I2 B2 k1 k2 k1' hz
            generalize wr.drew = w2 at *
            have c40 : w2.cell? ⟨w.heap.size, 0, none⟩ = some (.int .i64 0) := I3.cell' rfl
            have c41 : w2.cell? ⟨w.heap.size, 1, none⟩ = some (.int .i64 0) := I3.cell' rfl
            have c42 : w2.cell? ⟨w.heap.size, 2, none⟩ = some (.int .i64 0) := I3.cell' rfl
            have f40 := I3.frozen 0
            have f41 := I3.frozen 1
            have f42 := I3.frozen 2
            have HI := Lib.hid I3
            have HB3 := Lib.hid B3
            clear I3 B3
            go_wp2_with fail
            have J : Is (((w2.setCell ⟨w.heap.size, 0, none⟩ (.int .i64 x1)).setCell ⟨w.heap.size, 1, none⟩ (.int .i64 x2)).setCell ⟨w.heap.size, 2, none⟩ (.int .i64 (lv.length : Int))) w.heap.size 57 #[.int .i64 x1, .int .i64 x2, .int .i64 (lv.length : Int)] := ((HI.out.set 0 _ rfl).set 1 _ rfl).set 2 _ rfl
            have hB' := ((HB3.out.setCell (p := ⟨w.heap.size, 0, none⟩) (Nat.le_refl _) (.int .i64 x1)).setCell (p := ⟨w.heap.size, 1, none⟩) (Nat.le_refl _) (.int .i64 x2)).setCell (p := ⟨w.heap.size, 2, none⟩) (Nat.le_refl _) (.int .i64 (lv.length : Int))
            clear c40 c41 c42 f40 f41 f42
            generalize ((w2.setCell ⟨w.heap.size, 0, none⟩ (.int .i64 x1)).setCell ⟨w.heap.size, 1, none⟩ (.int .i64 x2)).setCell ⟨w.heap.size, 2, none⟩ (.int .i64 (lv.length : Int)) = w3 at *
            have c0 : w3.cell? ⟨w.heap.size, 0, none⟩ = some (.int .i64 x1) := J.cell' rfl
            have c1' : w3.cell? ⟨w.heap.size, 1, none⟩ = some (.int .i64 x2) := J.cell' rfl
            have c2 : w3.cell? ⟨w.heap.size, 2, none⟩ = some (.int .i64 (lv.length : Int)) := J.cell' rfl
            exact bodyPost_ret (v := .agg #[.int .i64 x1, .int .i64 x2, .int .i64 (lv.length : Int)]) (by simp [results, Tryz.results70, go_sem, c0, c1', c2]) rfl ⟨by rw [HLV.out, HP.out], hB'⟩
          | false =>
            have hno := HNo.out rfl
            have HNP := Lib.hid hno
            clear hno
            go_wp2_with fail
            go_roundw
            case rel => exact ⟨j + 1, by omega, by go_num, (fun i' h => by rcases Nat.lt_or_ge i' j with h' | h'; exact HN.out i' h'; obtain rfl : i' = j := (by omega); exact HNP.out), HD2.out⟩
            case measure => simp [intOf]; omega
    · have h0 : lv = [] := Classical.byContradiction fun h => by
        obtain ⟨i, hi, hp⟩ := some_picks h
        exact HN.out i (by omega) hp
      subst h0
      obtain ⟨d, hd⟩ := HD.out
      have I2 : Is wr w.heap.size 57 #[.int .i64 0, .int .i64 0, .int .i64 0] := by rw [hd]; exact I1.out.drewN d
      have B2 := HD.out.below B1.out
      have c40 : wr.cell? ⟨w.heap.size, 0, none⟩ = some (.int .i64 0) := I2.cell' rfl
      have c41 : wr.cell? ⟨w.heap.size, 1, none⟩ = some (.int .i64 0) := I2.cell' rfl
      have c42 : wr.cell? ⟨w.heap.size, 2, none⟩ = some (.int .i64 0) := I2.cell' rfl
      have f40 := I2.frozen 0
      have f41 := I2.frozen 1
      have f42 := I2.frozen 2
      have HI := Lib.hid I2
      have HB3 := Lib.hid B2
      clear I2 B2 hd HN HD S1 I1 B1
      go_wp2_with fail
      have J : Is (((wr.setCell ⟨w.heap.size, 0, none⟩ (.int .i64 0)).setCell ⟨w.heap.size, 1, none⟩ (.int .i64 0)).setCell ⟨w.heap.size, 2, none⟩ (.int .i64 0)) w.heap.size 57 #[.int .i64 0, .int .i64 0, .int .i64 0] := ((HI.out.set 0 _ rfl).set 1 _ rfl).set 2 _ rfl
      have hB' := ((HB3.out.setCell (p := ⟨w.heap.size, 0, none⟩) (Nat.le_refl _) (.int .i64 0)).setCell (p := ⟨w.heap.size, 1, none⟩) (Nat.le_refl _) (.int .i64 0)).setCell (p := ⟨w.heap.size, 2, none⟩) (Nat.le_refl _) (.int .i64 0)
      clear c40 c41 c42 f40 f41 f42
      generalize ((wr.setCell ⟨w.heap.size, 0, none⟩ (.int .i64 0)).setCell ⟨w.heap.size, 1, none⟩ (.int .i64 0)).setCell ⟨w.heap.size, 2, none⟩ (.int .i64 0) = w3 at *
      have c0 : w3.cell? ⟨w.heap.size, 0, none⟩ = some (.int .i64 0) := J.cell' rfl
      have c1' : w3.cell? ⟨w.heap.size, 1, none⟩ = some (.int .i64 0) := J.cell' rfl
      have c2 : w3.cell? ⟨w.heap.size, 2, none⟩ = some (.int .i64 0) := J.cell' rfl
      exact bodyPost_ret (v := .agg #[.int .i64 0, .int .i64 0, .int .i64 0]) (by simp [results, Tryz.results70, go_sem, c0, c1', c2]) rfl ⟨by rw [HLV.out]; rfl, hB'⟩
end Aggr
end Go.Proofs.YtohdlnefgieenaaGreat
