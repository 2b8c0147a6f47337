/-
  What Copy of a queue (layer 3) of numbers comes to: a new one, alike.
-/
import Derived.Test.YtcpaenoennlboaaRingI
import Derived.Laws.CopyOwn
import Derived.BigRegion
namespace Go.Proofs.Ytcpaenoennlboaa
open Go.RowKit
namespace RingI
theorem splice_all {α : Type} (cur cs : List α) (h : cur.length = cs.length) : splice cur 0 cs = cs := by
  unfold splice
  rw [List.take_zero, List.nil_append, Nat.zero_add, List.drop_of_length_le (by omega), List.append_nil]
/-- a new queue round a new row -/
theorem copied {w w' : World} {base g n room : Nat} {lost : Bool} {zs : List Int} (hb : base ≤ w.heap.size) (hg : w.heap.size ≤ g) (hn : zs.length = n) (hm : n ≤ maxLen) (hr : w'.heap[g]? = some (.cells ((zs.map (Value.int .i64)).toArray) 3 (0, 0))) :
    At (w'.alloc (.cells #[.int .i64 (room : Int), .slice (some ⟨g, 0, none⟩) n n, .bool lost] 51)) base (fun k => w.heap.size ≤ k ∧ k < w'.heap.size + 1) w'.heap.size room zs lost := by
  have hlt : g < w'.heap.size := (Array.getElem?_eq_some_iff.1 hr).1
  subst hn
  refine ⟨.slice (some ⟨g, 0, none⟩) zs.length zs.length, Law.Is.new _ _ _ rfl, ?_, by omega, ?_, ?_⟩
  · refine World.ownsRow.alloc ⟨by simp, .inr ⟨g, zs.length, _, by simp, Nat.zero_le _, hr, by simp, hm, by simp, ?_⟩⟩ _
    rw [List.take_of_length_le (by simp)]
  · intro k hk
    obtain rfl : g = k := Option.some.inj hk
    omega
  · intro k hk
    simp
    omega

set_option maxRecDepth 100000 in
set_option maxHeartbeats 1600000 in
theorem copy {w : World} {base : Nat} {S : Nat → Prop} {b room : Nat} {zs : List Int} {lost : Bool} (h : At w base S b room zs lost) (hb : base ≤ w.heap.size) (hl : zs.length ≤ 1000) :
    Calls Try.prog 18 #[.pointer (some ⟨b, 0, none⟩)] w fun e w' => ∃ (b' : Nat) (S' : Nat → Prop), e = .returned (.pointer (some ⟨b', 0, none⟩)) ∧ At w' base S' b' room zs lost ∧ (∀ k, S' k → w.heap.size ≤ k) ∧ Below w.heap.size w w' := by
  obtain ⟨v, hv⟩ := h
  obtain ⟨i0, hE⟩ := elem
  have HE := Lib.hid hE
  have c0 := hv.box.cell 0
  have c1 := hv.box.cell 1
  have c2 := hv.box.cell 2
  have l0 := hv.box.lt
  obtain ⟨A, c, rfl, hc⟩ := Law.own_shape hv.row
  have hrow := hv.row
  rw [List.length_map] at hrow
  have HS := Lib.hid (Law.Seq.own hrow)
  clear hv hE hrow
  simp only [List.getElem?_toArray, List.getElem?_cons_zero, List.getElem?_cons_succ, List.length_map] at c0 c1 c2 hc
  go_enter Try.func18, Try.ntmps18
  go_wp2_with (at_make; refine wpList_make_full _ rfl _ _ 26 rfl w.heap.size 3 i0 (.int .i64 0) 1 HE.out.ut HE.out.info HE.out.zero HE.out.sz .i64 .i64 (zs.length : Int) (zs.length : Int) zs.length rfl rfl rfl rfl (by rw [HE.out.by_]; omega) (by unfold maxLen; omega) (Nat.le_refl _) ?_)
  intro w1 hown hgrow
  obtain ⟨cur, hcur, hsz⟩ : ∃ cur : Array Value, w1.heap[w.heap.size]? = some (.cells cur 3 (0, 0)) ∧ cur.size = zs.length := by
    rcases hown.2 with ⟨h0, _⟩ | ⟨g, cap, cur, h0, _, hh, _, _, hs, _⟩
    · simp at h0
    · injection h0 with h1 h2 h3
      injection h1 with h1
      injection h1 with h1
      subst h1 h3
      exact ⟨cur, hh, by simpa using hs⟩
  have B1 : Below w.heap.size w w1 := (Below.refl _ w).grown hgrow (Nat.le_refl _) (by simp)
  have s1 : w.heap.size < w1.heap.size := (Array.getElem?_eq_some_iff.1 hcur).1
  have HS1 := Lib.hid (HS.out.below B1)
  have HC := Lib.hid hcur
  have HZ := Lib.hid hsz
  have HB := Lib.hid B1
  have c0' := (B1.cell (p := ⟨b, 0, none⟩) l0).trans c0
  have c1' := (B1.cell (p := ⟨b, 1, none⟩) l0).trans c1
  have c2' := (B1.cell (p := ⟨b, 2, none⟩) l0).trans c2
  clear hown hgrow hcur hsz B1 c0 c1 c2 HS
  have HP : Hid (0 < (zs.map (Value.int .i64)).length → (some (⟨w.heap.size, 0, none⟩ : Addr) = some ⟨w.heap.size, 0, none⟩) ∧ ∃ ad, A = some ad ∧ ∀ j v, (zs.map (Value.int .i64))[j]? = some v → w1.cell? (ad.add j) = some v) := fun h => by
    obtain ⟨g, off, e, _⟩ := HS1.out (by intro h0; rw [h0] at h; simp at h)
    exact ⟨rfl, _, e, HS1.out.adds e⟩
  have HO : Hid (∀ v ∈ zs.map (Value.int .i64), v.oneCell' = true) := fun v hv => by
    obtain ⟨_, _, rfl⟩ := List.mem_map.1 hv
    rfl
  have HN : Hid ((zs.map (Value.int .i64)).length = Nat.min zs.length zs.length) := (List.length_map _).trans (Nat.min_self _).symm
  have HF : Hid (0 + (zs.map (Value.int .i64)).length ≤ cur.toList.length) := by show _ ≤ _; have h1 : cur.toList.length = cur.size := Array.length_toList; have := HZ.out; rw [List.length_map, h1]; omega
  have HI : Hid ((Try.prog.info? 3).map (·.size) = some 1) := by show _ = _; rw [HE.out.info, Option.map_some, HE.out.sz]
  have HC' : Hid (w1.heap[w.heap.size]? = some (.cells cur.toList.toArray 3 (0, 0))) := HC.out
  go_wp2_with (refine wpList_copy_splice rfl (.tmp 10) (.tmp 14) 26 26 rfl 3 HE.out.ut HI.out (some ⟨w.heap.size, 0, none⟩) A zs.length zs.length zs.length c rfl rfl w.heap.size 0 cur.toList 3 HC'.out (zs.map (Value.int .i64)) HN.out HP.out HF.out HO.out w.heap.size w HB.out (Nat.le_refl _) ?_)
  intro w2 HG B2
  have hG := HG.out
  rw [splice_all _ _ (by have := HF.out; have h1 : cur.toList.length = cur.size := Array.length_toList; have := HZ.out; rw [List.length_map, h1]; omega)] at hG
  have HG2 := Lib.hid hG
  have HB2 := Lib.hid B2
  have e0 := (B2.cell (p := ⟨b, 0, none⟩) l0).trans ((HB.out.cell (p := ⟨b, 0, none⟩) l0).symm.trans c0')
  have e2 := (B2.cell (p := ⟨b, 2, none⟩) l0).trans ((HB.out.cell (p := ⟨b, 2, none⟩) l0).symm.trans c2')
  have l2 : b < w2.heap.size := by have := B2.size; omega
  clear HG hG B2 c0' c1' c2' HP HO HN HF HC' HC HS1
  go_wp2_with fail
  go_region
  go_wp2_with fail
  go_ret
  exact ⟨w2.heap.size, (fun k => w.heap.size ≤ k ∧ k < w2.heap.size + 1), rfl, (copied hb (Nat.le_refl _) rfl (by unfold maxLen; omega) HG2.out).below (Below.refl _ _).drew, fun k hk => hk.1, (HB2.out.alloc HB2.out.size _).drew⟩
end RingI
end Go.Proofs.Ytcpaenoennlboaa
