/-
  What the table's small calls (layer 10) come to: of, take, become, Time, Tick.
-/
import Derived.Test.YtdkjcheannehhaaGreatMod02
import Derived.Test.YtdkjcheannehhaaGreatTick01
import Derived.Test.YtdkjcheannehhaaGreatHash01
namespace Go.Proofs.YtdkjcheannehhaaGreat
open Go.RowKit Go.Shelf
attribute [local go_sem] Oper.semAt_some
namespace Mod
open Go.Law Feed Bk
/-- a change as the feed takes it -/
def cgOf (q : Ch) : Cg := ⟨q.1, q.2.1.1, q.2.1.2.1, q.2.1.2.2, q.2.2.1, q.2.2.2.1, q.2.2.2.2⟩
theorem flat_cg : ∀ l : List Ch, flatG (l.map cgOf) = flatC l
  | [] => rfl
  | q :: r => by
    have ih := flat_cg r
    unfold flatG flatC at *
    rw [List.map_cons, List.flatMap_cons, List.flatMap_cons, ih]
    rfl
/-- the stripe that a user is in -/
def str (u : ByteArray) (n : Nat) : Nat := Hash.stripe u.data.toList (n : Int)
theorem str_lt (u : ByteArray) {n : Nat} (h : 1 ≤ n) : str u n < n := by
  have := Hash.stripe_lt u.data.toList (n := (n : Int)) (by omega)
  unfold str; omega
section
variable {w w' : World} {base m t c : Nat} {S S' : Nat → Prop} {arr : Array Value} {p : Nat → Option Addr} {g : Nat → Nat} {Sk : Nat → Nat → Prop} {a : Mo}
set_option maxRecDepth 100000 in
set_option maxHeartbeats 1000000 in
theorem of_ (h : TabV w base S m t c arr p g Sk a) (u : ByteArray) (hu : u.size ≤ maxLen) (hn : 1 ≤ a.n) (hn2 : a.n ≤ 8) {k : Nat} (hk : str u a.n = k) :
    Calls Tryz.prog 51 #[.pointer (some ⟨m, 0, none⟩), .string u] w fun e w' => e = .returned (.pointer (some ⟨t, k * 2, none⟩)) ∧ Below w.heap.size w w' := by
  have hlt : k < a.n := hk ▸ str_lt u hn
  have c5 : w.cell? ⟨m, 5, none⟩ = some (.slice (some ⟨t, 0, none⟩) a.n c) := h.box.cell' rfl
  have l1 := h.box.lt
  have l2 := h.row.lt
  have d2 : k * 2 < arr.size := (Array.getElem?_eq_some_iff.1 (h.bkc k hlt)).1
  have HS : Hid (∀ W, Calls Tryz.prog 78 #[.string u, .int .i64 (a.n : Int)] W fun e w' => e = .returned (.int .i64 (k : Int)) ∧ W = w') := fun W => by rw [← hk]; exact Hash.hstripe u (a.n : Int) W hu (by omega)
  clear h hk
  generalize a.n = n at *
  go_enter Tryz.func51, Tryz.ntmps51
  go_wp2_with fail
  go_quiet ((go_at_call 78; exact Law.quiet (HS.out _)))
  go_wp2_with fail
  go_ret
  exact ⟨rfl, Law.below_drewN (Below.refl _ _) nq⟩
set_option maxRecDepth 100000 in
set_option maxHeartbeats 1000000 in
theorem take_ (h : TabV w base S m t c arr p g Sk a) (hs : Door.U a.seq) :
    Calls Tryz.prog 57 #[.pointer (some ⟨m, 0, none⟩)] w fun e w' => e = .returned (.int .u64 (Door.sat a.seq 1)) ∧ TabV w' base S m t c arr p g Sk { a with seq := Door.sat a.seq 1 } ∧ Gone w S w' S := by
  have c2 : w.cell? ⟨m, 2, none⟩ = some (.int .u64 a.now) := h.box.cell' rfl
  have c3 : w.cell? ⟨m, 3, none⟩ = some (.int .u64 a.seq) := h.box.cell' rfl
  have c4 : w.cell? ⟨m, 4, none⟩ = some (.bool a.closed) := h.box.cell' rfl
  have l1 := h.box.lt
  have H := Lib.hid h
  clear h
  go_enter Tryz.func57, Tryz.ntmps57
  go_wp2_with fail
  refine (Tick.take _ _ _ hs _).mono ?_
  rintro e w1 ⟨rfl, hw⟩
  have hb : Below w.heap.size w w1 := by subst hw; exact Law.below_drewN (((Below.refl _ w).alloc (Nat.le_refl _) _).alloc (by simp) _) 1
  clear hw
  have H1 := Lib.hid (H.out.below hb)
  have HB := Lib.hid hb
  have b2 : w1.cell? ⟨m, 2, none⟩ = some (.int .u64 a.now) := H1.out.box.cell' rfl
  have b3 : w1.cell? ⟨m, 3, none⟩ = some (.int .u64 a.seq) := H1.out.box.cell' rfl
  have b4 : w1.cell? ⟨m, 4, none⟩ = some (.bool a.closed) := H1.out.box.cell' rfl
  have f2 := H1.out.box.frozen 2
  have f3 := H1.out.box.frozen 3
  have f4 := H1.out.box.frozen 4
  have l2 := H1.out.box.lt
  clear hb c2 c3 c4 l1
  go_wp2_with fail
  have t1 := H1.out.time 2 (.int .u64 a.now) (a' := a) rfl rfl rfl rfl rfl
  have t2 := t1.1.time 3 (.int .u64 (Door.sat a.seq 1)) (a' := { a with seq := Door.sat a.seq 1 }) rfl rfl rfl rfl rfl
  have t3 := t2.1.time 4 (.bool a.closed) (a' := { a with seq := Door.sat a.seq 1 }) rfl rfl rfl rfl rfl
  go_ret
  exact ⟨rfl, t3.1, (Gone.of_below HB.out).trans (t1.2.trans (t2.2.trans t3.2))⟩
set_option maxRecDepth 100000 in
set_option maxHeartbeats 1000000 in
theorem become_ (h : TabV w base S m t c arr p g Sk a) (hbw : base ≤ w.heap.size) {k : Nat} (hk : k < a.n) {q : Option Addr} {nb : List (ByteArray × En)} (hq : Booked w q nb) {A : Option Addr} {cs : List Ch} {cc : Nat} (hc : Lain 181 w A (flatC cs)) (seq : Int) (hl : ∀ i, i < 8 → ((a.fd k).que i).length + cs.length ≤ 1000) :
    Calls Tryz.prog 59 #[.pointer (some ⟨t, k * 2, none⟩), .agg #[.pointer q], .slice A cs.length cc, .int .u64 seq] w fun e w' => e = .returned (.tuple #[]) ∧ ∃ S' arr' p' Sk', TabV w' base S' m t c arr' p' g Sk' { a with bk := upd a.bk k nb, fd := upd a.fd k ((a.fd k).tell a.room (cs.map cgOf) seq) } ∧ Gone w S w' S' := by
  have hp := h.put hk hq
  have hK1 : Lain 181 (w.setCell ⟨t, k * 2, none⟩ (.pointer q)) A (flatC cs) := hc.keeps (Keeps.store h.row (by decide) _)
  have hb := (Below.refl (w.setCell ⟨t, k * 2, none⟩ (.pointer q)).heap.size (w.setCell ⟨t, k * 2, none⟩ (.pointer q))).alloc (Nat.le_refl _) (.cells #[.pointer q] 77)
  have H := Lib.hid (hp.1.below hb)
  have HC := Lib.hid (hK1.now hb)
  have HG : Hid (Gone w S ((w.setCell ⟨t, k * 2, none⟩ (.pointer q)).alloc (.cells #[.pointer q] 77)) S) := hp.2.trans (Gone.of_below hb)
  have hbw2 : base ≤ ((w.setCell ⟨t, k * 2, none⟩ (.pointer q)).alloc (.cells #[.pointer q] 77)).heap.size := by simp; omega
  have l3 := h.row.lt
  have b2 := (Below.refl w.heap.size w).alloc (Nat.le_refl _) (.cells #[.pointer q] 77)
  have R2 := h.row.below b2 l3
  have c0 := (R2.cell (k * 2)).trans (h.bkc k hk)
  have f0 := R2.frozen (k * 2)
  have l0 := R2.lt
  have c1 : World.cell? _ ⟨t, k * 2 + 1, none⟩ = some (.pointer (some ⟨g k, 0, none⟩)) := (H.out.row.cell (k * 2 + 1)).trans (H.out.fdc k hk)
  have l1 := H.out.row.lt
  have HL := Lib.hid hl
  have HF := Lib.hid (H.out.feed k hk)
  clear h hq hc hb hl hp hK1 R2 b2
  go_enter Tryz.func59, Tryz.ntmps59
  go_wp2_with fail
  generalize ((w.setCell ⟨t, k * 2, none⟩ (.pointer q)).alloc (.cells #[.pointer q] 77)) = w1 at *
  have HT := tell HF.out hbw2 (cs.map cgOf) seq (c := cc) (by rw [flat_cg]; exact HC.out) (fun i hi => by have := HL.out i hi; simpa using this)
  rw [List.length_map] at HT
  refine HT.mono ?_
  rintro e w2 ⟨rfl, S2, hF, hW, _⟩
  have HT2 := Lib.hid (H.out.tell hk hF hW)
  clear hF hW HT
  go_wp2_with fail
  go_end0
  exact ⟨rfl, _, _, _, _, HT2.out.1, HG.out.trans HT2.out.2⟩
end
end Mod
end Go.Proofs.YtdkjcheannehhaaGreat
