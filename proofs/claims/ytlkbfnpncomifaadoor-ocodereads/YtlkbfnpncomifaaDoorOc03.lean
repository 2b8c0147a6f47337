/-
  The reader's lists (layer 12): ops, clients, picks; Read.
-/
import Derived.Test.YtlkbfnpncomifaaDoorOc02
namespace Go.Proofs.YtlkbfnpncomifaaDoor
open Go.RowKit Go.Lib
attribute [local go_sem] Oper.semAt_some
namespace Opx
open Go.Law
def flatW (qs : List OpW) : List Value := qs.flatMap cellsW
theorem flatW_snoc (qs : List OpW) (q : OpW) : flatW (qs ++ [q]) = flatW qs ++ cellsW q := by simp [flatW]
theorem flatW_len (qs : List OpW) : (flatW qs).length = qs.length * 7 := by
  induction qs with
  | nil => rfl
  | cons q r ih => rw [flatW, List.flatMap_cons, List.length_append]; show 7 + (flatW r).length = _; rw [ih, List.length_cons]; omega
/-- ops in memory: a row of them at D -/
structure Ops (w : World) (D : Option Addr) (qs : List OpW) : Prop where
  row : Lain 49 w D (flatW qs)
  us : ∀ q ∈ qs, Lain 9 w q.A (q.us.map .string)
theorem Ops.keeps {w w' : World} {D : Option Addr} {qs : List OpW} (h : Ops w D qs) (h1 : Keeps 49 w w') (h2 : Keeps 9 w w') : Ops w' D qs := ⟨h.row.keeps h1, fun q hq => (h.us q hq).keeps h2⟩
theorem Ops.now {w w' : World} {D : Option Addr} {qs : List OpW} (h : Ops w D qs) (hb : Below w.heap.size w w') : Ops w' D qs := h.keeps (Keeps.of_below hb) (Keeps.of_below hb)
theorem Rd.keeps {w w' : World} {B g i : Nat} {b : List Int} (h : Rd w B g b i) (ht : Law.Touch w w' (fun k => k = g)) {t : TypeId} (hn : t ≠ 53) : Keeps t w w' := by
  obtain ⟨A, c, h1, h2, h3⟩ := h.box
  exact Keeps.touch1 ht h1 hn
theorem seven_one (q : OpW) : ∀ u ∈ cellsW q, u.oneCell' = true := by
  intro u hu; simp [cellsW] at hu; rcases hu with rfl | rfl | rfl | rfl | rfl | rfl | rfl <;> rfl
theorem new_cells (w : World) (cs : Array Value) (t : TypeId) {g : Nat} (hg : g = w.heap.size) : ∀ (j : Nat) (u : Value), cs.toList[j]? = some u → (w.alloc (.cells cs t)).cell? ((⟨g, 0, none⟩ : Addr).add j) = some u := by
  intro j u hu
  have h := (Is.new w t cs hg).cell j
  rcases Nat.eq_zero_or_pos j with h0 | h0
  · subst h0; simpa [Addr.add] using h.trans (by simpa using hu)
  · simpa [Addr.add, show j ≠ 0 by omega] using h.trans (by simpa using hu)
theorem elemO : ∃ i, Law.Elem Tryd.prog 43 49 i (.agg #[.int .i64 0, .string ⟨#[]⟩, .int .i64 0, .int .i64 0, .int .i64 0, .int .u64 0, .slice none 0 0]) 7 80 := Law.Elem.of Tryd.underlying43 (by kernel_rfl) rfl (by decide)
theorem elemC : ∃ i, Law.Elem Tryd.prog 28 43 i (.slice none 0 0) 1 24 := Law.Elem.of Tryd.underlying28 (by kernel_rfl) rfl (by decide)
theorem elemP : ∃ i, Law.Elem Tryd.prog 29 34 i (.agg #[.int .i64 0, .int .i64 0, .int .u64 0]) 3 24 := Law.Elem.of Tryd.underlying29 (by kernel_rfl) rfl (by decide)
set_option maxRecDepth 100000 in
set_option maxHeartbeats 4000000 in
theorem ops {w : World} {B g i : Nat} {b : List Int} (h : Rd w B g b i) (hT : Tabs w) (hg : 0 < g) :
    Calls Tryd.prog 33 #[.pointer (some ⟨g, 0, none⟩)] w fun e w' => ∃ D c qs, e = .returned (.slice D qs.length c) ∧ qs.length ≤ c ∧ qs.map plain = opsAt b i ∧ Ops w' D qs ∧ Rd w' B g b (opsEnd b i) ∧ Law.Touch w w' (fun k => k = g) := by
  have hok := h.ok.at i
  obtain ⟨n, hn⟩ : ∃ n, manyAt b i = n := ⟨_, rfl⟩
  have hx : at_ b i % 41 = (n : Int) := by unfold manyAt at hn; omega
  have hn9 : n ≤ 40 := by omega
  have HA : Hid (opsAt b i = opsTo b (i + 1) n) := by show _ = _; unfold opsAt; rw [hn]
  have HZ : Hid (opsEnd b i = opsPos b (i + 1) n) := by show _ = _; unfold opsEnd; rw [hn]
  have lg := h.lt
  have HL := Lib.hid (left h 41 (by decide) hx)
  have HT := Lib.hid hT
  obtain ⟨i1, hE1⟩ := elemO
  have HE1 := Lib.hid hE1
  clear h hT hE1 hn hx hok
  go_enter Tryd.func33, Tryd.ntmps33
  go_wp2_with fail
  refine HL.out.mono ?_
  rintro e w1 ⟨rfl, r1, t1⟩
  have HR1 := Lib.hid r1
  have HT1 := Lib.hid t1
  clear r1 t1 HL
  go_wp2_with fail
  go_loopw [3, 6] (fun vs vi wr => ∃ (j : Nat) (D : Option Addr) (cap : Nat) (qs : List OpW), j ≤ n ∧ vi = .int .i64 j ∧ vs = .slice D j cap ∧ qs.map plain = opsTo b (i + 1) j ∧ wr.ownsRow w.heap.size 49 7 (.slice D j cap) j (flatW qs) ∧ (∀ q ∈ qs, Lain 9 wr q.A (q.us.map .string)) ∧ Rd wr B g b (opsPos b (i + 1) j) ∧ Law.Touch w wr (fun k => k = g)) (fun _ vi _ => n - (RowKit.intOf vi).toNat)
  case atStart => exact ⟨0, _, _, [], Nat.zero_le _, rfl, rfl, rfl, own_nil _ _ _ _, (fun _ h => by cases h), HR1.out, HT1.out⟩
  case round =>
    clear HR1 HT1
    obtain ⟨j, D, cap, qs, hj, rfl, rfl, hq, hO, hU, hR, hW⟩ := hrel
    have HQ := Lib.hid hq
    have HO := Lib.hid hO
    have HU := Lib.hid hU
    have HR := Lib.hid hR
    have HW := Lib.hid hW
    have HTr := Lib.hid (HT.out.touch hW (by omega))
    clear hO hR hW hU hq
    by_cases hlt : j < n
    · have d1 : decide ((j : Int) < (n : Int)) = true := by simp; omega
      go_wp2_with fail
      refine (op HR.out HTr.out hg rfl rfl).mono ?_
      rintro e w5 ⟨q, rfl, p5, c5, u5, r5, t5⟩
      have HP5 := Lib.hid p5
      have HU5 := Lib.hid u5
      have HR5 := Lib.hid r5
      have HUa := Lib.hid (fun q' hq' => (HU.out q' hq').keeps (HR.out.keeps t5 (t := 9) (by decide)))
      have HW5 := Lib.hid (HW.out.trans t5 (fun _ e => .inl e))
      have HO5 := Lib.hid (t5.own HO.out (fun k hk => by have := (HO.out.lt k hk).1; omega))
      have HTK := Lib.hid (opsTo_snoc b (i + 1) j)
      have HPK := Lib.hid (show opsPos b (i + 1) (j + 1) = opsPos b (i + 1) j + opLen b (opsPos b (i + 1) j) from rfl)
      clear r5 t5 HR HW HO p5 u5 c5 HU
      obtain ⟨kd, us, id, st, pr, ttl, A, c, ul⟩ := q
      have sz5 := HW5.out.size
      go_wp2_with (at_builtin; refine wpList_append_own _ rfl _ _ 43 rfl w.heap.size 49 i1 (.agg #[.int .i64 0, .string ⟨#[]⟩, .int .i64 0, .int .i64 0, .int .i64 0, .int .u64 0, .slice none 0 0]) 7 80 HE1.out.ut HE1.out.info HE1.out.zero HE1.out.sz HE1.out.by_ HE1.out.cells HE1.out.pos _ _ _ rfl (HO5.out.alloc _) ⟨w5.heap.size, 0, none⟩ 1 1 (cellsW ⟨kd, us, id, st, pr, ttl, A, c, ul⟩) rfl rfl (new_cells _ _ _ rfl) (seven_one _) (by unfold maxLen; omega) (by omega) (by simp; omega) ?_; intro v' w6 hown hg6 _; have HR6 := Lib.hid ((HR5.out.below ((Below.refl w5.heap.size w5).alloc (Nat.le_refl _) _)).grown hg6 (fun k hk => by have := (HO5.out.lt k hk).1; omega)); have HW6 := Lib.hid (grow_touch HW5.out _ hg6 (fun k hk => (HO5.out.lt k hk).1)); have HK6 := Lib.hid ((Keeps.alloc (t := 9) (w := w5) _).trans (Keeps.grown (HO5.out.alloc _) hg6 (by decide))); have HO6 := Lib.hid hown; obtain ⟨D', cap', rfl, _⟩ := own_shape hown; clear hown hg6)
      go_roundw
      case rel => exact ⟨j + 1, _, _, qs ++ [⟨kd, us, id, st, pr, ttl, A, c, ul⟩], by omega, by go_num, rfl, by rw [HTK.out, List.map_append, HQ.out, List.map_cons, HP5.out]; rfl, by rw [flatW_snoc]; exact HO6.out, fun q' hq' => by
        rcases List.mem_append.1 hq' with h | h
        · exact (HUa.out q' h).keeps HK6.out
        · obtain rfl := List.mem_singleton.1 h
          exact HU5.out.keeps HK6.out, HPK.out ▸ HR6.out, HW6.out⟩
      case measure => simp [RowKit.intOf]; omega
    · obtain rfl : j = n := by omega
      have d1 : decide ((j : Int) < (j : Int)) = false := by simp
      obtain ⟨_, _, hsh, hcap⟩ := own_shape HO.out
      cases hsh
      have HLN : qs.length = j := by have h := congrArg List.length HQ.out; rw [opsTo_len, List.length_map] at h; exact h
      have HLN2 := Lib.hid HLN
      clear HLN
      go_wp2_with fail
      go_ret
      exact ⟨D, cap, qs, by rw [HLN2.out]; rfl, by rw [HLN2.out]; exact hcap, by rw [HA.out]; exact HQ.out, ⟨Lain.own HO.out, HU.out⟩, by rw [HZ.out]; exact HR.out, HW.out⟩
abbrev Cl := Option Addr × Nat × List OpW
def cellC (r : Cl) : Value := .slice r.1 r.2.2.length r.2.1
/-- what clients ask, in memory -/
structure Cls (w : World) (C : Option Addr) (ls : List Cl) : Prop where
  row : Lain 43 w C (ls.map cellC)
  each : ∀ r ∈ ls, Ops w r.1 r.2.2
theorem Cls.keeps {w w' : World} {D : Option Addr} {ls : List Cl} (h : Cls w D ls) (h0 : Keeps 43 w w') (h1 : Keeps 49 w w') (h2 : Keeps 9 w w') : Cls w' D ls := ⟨h.row.keeps h0, fun q hq => (h.each q hq).keeps h1 h2⟩
def plainC (ls : List Cl) : List (List OpP) := ls.map fun r => r.2.2.map plain
set_option maxRecDepth 100000 in
set_option maxHeartbeats 4000000 in
theorem clientsR {w : World} {B g : Nat} {b : List Int} (h : Rd w B g b 7) (hT : Tabs w) (hg : 0 < g) :
    Calls Tryd.prog 21 #[.pointer (some ⟨g, 0, none⟩)] w fun e w' => ∃ D c ls, e = .returned (.slice D ls.length c) ∧ ls.length ≤ c ∧ plainC ls = clients b ∧ Cls w' D ls ∧ Rd w' B g b (clEnd b) ∧ Law.Touch w w' (fun k => k = g) := by
  have hok := h.ok.at 7
  obtain ⟨n, hn⟩ : ∃ n, clN b = n := ⟨_, rfl⟩
  obtain ⟨m, hm⟩ := Int.eq_ofNat_of_zero_le (show 0 ≤ at_ b 7 % 8 by omega)
  have hmn : n = 1 + m := by unfold clN at hn; omega
  have hn9 : n ≤ 8 := by omega
  have HA : Hid (clients b = clTo b n) := by show _ = _; unfold clients; rw [hn]
  have HZ : Hid (clEnd b = clPos b n) := by show _ = _; unfold clEnd; rw [hn]
  have lg := h.lt
  have HL := Lib.hid (left h 8 (by decide) hm)
  have HT := Lib.hid hT
  obtain ⟨i1, hE1⟩ := elemC
  have HE1 := Lib.hid hE1
  clear h hT hE1 hn hm hok
  go_enter Tryd.func21, Tryd.ntmps21
  go_wp2_with fail
  refine HL.out.mono ?_
  rintro e w1 ⟨rfl, r1, t1⟩
  have HR1 := Lib.hid r1
  have HT1 := Lib.hid t1
  clear r1 t1 HL
  have hm9 : m ≤ 7 := by omega
  have HMN := Lib.hid hmn
  clear hmn
  go_wp2_with fail
  go_loopw [3, 7] (fun vs vi wr => ∃ (j : Nat) (D : Option Addr) (cap : Nat) (qs : List Cl), j ≤ n ∧ vi = .int .i64 j ∧ vs = .slice D j cap ∧ plainC qs = clTo b j ∧ wr.ownsRow w.heap.size 43 1 (.slice D j cap) j (qs.map cellC) ∧ (∀ r ∈ qs, Ops wr r.1 r.2.2) ∧ Rd wr B g b (clPos b j) ∧ Law.Touch w wr (fun k => k = g)) (fun _ vi _ => n - (RowKit.intOf vi).toNat)
  case atStart => exact ⟨0, _, _, [], Nat.zero_le _, rfl, rfl, rfl, own_nil _ _ _ _, (fun _ h => by cases h), HR1.out, HT1.out⟩
  case round =>
    clear HR1 HT1
    obtain ⟨j, D, cap, qs, hj, rfl, rfl, hq, hO, hU, hR, hW⟩ := hrel
    have HQ := Lib.hid hq
    have HO := Lib.hid hO
    have HU := Lib.hid hU
    have HR := Lib.hid hR
    have HW := Lib.hid hW
    have HTr := Lib.hid (HT.out.touch hW (by omega))
    clear hO hR hW hU hq
    by_cases hlt : j < n
    · have hmn := HMN.out
      have d1' : decide ((j : Int) < 1 + (m : Int)) = true := by simp; omega
      clear hmn
      go_wp2_with fail
      refine (ops HR.out HTr.out hg).mono ?_
      rintro e w5 ⟨D5, c5, q5, rfl, _, p5, u5, r5, t5⟩
      have HP5 := Lib.hid p5
      have HU5 := Lib.hid u5
      have HR5 := Lib.hid r5
      have HUa := Lib.hid (fun q' hq' => (HU.out q' hq').keeps (HR.out.keeps t5 (t := 49) (by decide)) (HR.out.keeps t5 (t := 9) (by decide)))
      have HW5 := Lib.hid (HW.out.trans t5 (fun _ e => .inl e))
      have HO5 := Lib.hid (t5.own HO.out (fun k hk => by have := (HO.out.lt k hk).1; omega))
      have HTK := Lib.hid (clTo_snoc b j)
      have HPK := Lib.hid (show clPos b (j + 1) = opsEnd b (clPos b j) from rfl)
      clear r5 t5 HR HW HO p5 u5 HU
      have sz5 := HW5.out.size
      have HCE : Hid (Value.slice D5 q5.length c5 = cellC (D5, c5, q5)) := Lib.hid rfl
      go_wp2_with (at_builtin; refine wpList_append_own _ rfl _ _ 28 rfl w.heap.size 43 i1 (.slice none 0 0) 1 24 HE1.out.ut HE1.out.info HE1.out.zero HE1.out.sz HE1.out.by_ HE1.out.cells HE1.out.pos _ _ _ rfl (HO5.out.alloc _) ⟨w5.heap.size, 0, none⟩ 1 1 [.slice D5 q5.length c5] rfl rfl (new_cells _ _ _ rfl) (fun u hu => by obtain rfl := List.mem_singleton.1 hu; rfl) (by unfold maxLen; omega) (by omega) (by simp; omega) ?_; intro v' w6 hown hg6 _; have HR6 := Lib.hid ((HR5.out.below ((Below.refl w5.heap.size w5).alloc (Nat.le_refl _) _)).grown hg6 (fun k hk => by have := (HO5.out.lt k hk).1; omega)); have HW6 := Lib.hid (grow_touch HW5.out _ hg6 (fun k hk => (HO5.out.lt k hk).1)); have HK6 := Lib.hid ((Keeps.alloc (t := 9) (w := w5) _).trans (Keeps.grown (HO5.out.alloc _) hg6 (by decide))); have HKo := Lib.hid ((Keeps.alloc (t := 49) (w := w5) _).trans (Keeps.grown (HO5.out.alloc _) hg6 (by decide))); have HO6 := Lib.hid hown; obtain ⟨D', cap', rfl, _⟩ := own_shape hown; clear hown hg6)
      go_roundw
      case rel => exact ⟨j + 1, _, _, qs ++ [(D5, c5, q5)], by omega, by go_num, rfl, by rw [HTK.out]; show (qs ++ [(D5, c5, q5)]).map _ = _; rw [List.map_append, ← HQ.out, ← HP5.out]; rfl, by rw [List.map_append]; exact HO6.out, fun q' hq' => by
        rcases List.mem_append.1 hq' with h | h
        · exact (HUa.out q' h).keeps HKo.out HK6.out
        · obtain rfl := List.mem_singleton.1 h
          exact HU5.out.keeps HKo.out HK6.out, HPK.out ▸ HR6.out, HW6.out⟩
      case measure => simp [RowKit.intOf]; omega
    · obtain rfl : j = n := by omega
      have hmn := HMN.out
      have d1' : decide ((j : Int) < 1 + (m : Int)) = false := by simp; omega
      clear hmn
      obtain ⟨_, _, hsh, hcap⟩ := own_shape HO.out
      cases hsh
      have HLN : qs.length = j := by have h := congrArg List.length HQ.out; rw [clTo_len, plainC, List.length_map] at h; exact h
      have HLN2 := Lib.hid HLN
      clear HLN
      go_wp2_with fail
      go_ret
      exact ⟨D, cap, qs, by rw [HLN2.out]; rfl, by rw [HLN2.out]; exact hcap, by rw [HA.out]; exact HQ.out, ⟨Lain.own HO.out, HU.out⟩, by rw [HZ.out]; exact HR.out, HW.out⟩
def flatPk (ps : List Pk) : List Value := ps.flatMap cellsPk
theorem flatPk_snoc (ps : List Pk) (p : Pk) : flatPk (ps ++ [p]) = flatPk ps ++ cellsPk p := by simp [flatPk]
theorem three_one (q : Pk) : ∀ u ∈ cellsPk q, u.oneCell' = true := by
  intro u hu; simp [cellsPk] at hu; rcases hu with rfl | rfl | rfl <;> rfl
def sLen : Value → Nat
  | .slice _ n _ => n
  | _ => 0
set_option maxRecDepth 100000 in
set_option maxHeartbeats 4000000 in
theorem picksR {w : World} {B g i : Nat} {b : List Int} (h : Rd w B g b i) {n : Nat} (hn : pkN b i = n) :
    Calls Tryd.prog 22 #[.pointer (some ⟨g, 0, none⟩)] w fun e w' => ∃ D c, e = .returned (.slice D n c) ∧ n ≤ c ∧ Lain 34 w' D (flatPk (pkTo b i n)) ∧ Law.Touch w w' (fun k => k = g) := by
  have hok := h.ok
  have hlen := h.len
  unfold maxLen at hlen
  have HN : Hid (∀ k, k < n ↔ i + 2 * k < b.length ∧ k < 20000) := Lib.hid (fun k => hn ▸ pkN_iff b i k)
  have lg := h.lt
  have HR1 := Lib.hid h
  obtain ⟨i1, hE1⟩ := elemP
  have HE1 := Lib.hid hE1
  clear h hE1 hn
  have HOK := Lib.hid hok
  clear hok
  go_enter Tryd.func22, Tryd.ntmps22
  go_wp2_with fail
  go_loopw [3] (fun vs wr => ∃ (j : Nat) (D : Option Addr) (cap : Nat), j ≤ n ∧ vs = .slice D j cap ∧ wr.ownsRow w.heap.size 34 3 (.slice D j cap) j (flatPk (pkTo b i j)) ∧ Rd wr B g b (i + 2 * j) ∧ Law.Touch w wr (fun k => k = g)) (fun vs _ => n - sLen vs)
  case atStart => exact ⟨0, _, _, Nat.zero_le _, rfl, own_nil _ _ _ _, HR1.out, Law.Touch.refl _ _⟩
  case round =>
    clear HR1
    obtain ⟨j, D, cap, hj, rfl, hO, hR, hW⟩ := hrel
    have HO := Lib.hid hO
    have HR := Lib.hid hR
    have HW := Lib.hid hW
    clear hO hR hW
    obtain ⟨A0, c0, hI, _, _⟩ := HR.out.box
    have x0 : wr.cell? ⟨g, 0, none⟩ = some (.slice A0 (b.drop (i + 2 * j)).length c0) := hI.cell' rfl
    have l0 := hI.lt
    clear hI
    have hdl : (b.drop (i + 2 * j)).length = b.length - (i + 2 * j) := List.length_drop
    generalize (b.drop (i + 2 * j)).length = m at *
    by_cases hlt : j < n
    · have hb2 := (HN.out j).1 hlt
      have d1 : decide ((0 : Int) < (m : Int)) = true := by simp; omega
      have d2 : decide ((j : Int) < 20000) = true := by simp; omega
      go_wp2_with fail
      refine (next HR.out rfl).mono ?_
      rintro e w4 ⟨rfl, r4, t4⟩
      have HR4 := Lib.hid r4
      have HT4 := Lib.hid t4
      clear r4 t4 x0
      go_wp2_with fail
      refine (next HR4.out rfl).mono ?_
      rintro e w5 ⟨rfl, r5, t5⟩
      have HR5 := Lib.hid r5
      have HT5 := Lib.hid (HT4.out.trans t5 (fun _ e => .inl e))
      clear r5 t5 HT4 HR4
      have HTK := Lib.hid (pkTo_snoc b i j)
      have a1 := HOK.out.at (i + 2 * j)
      have a2 := HOK.out.at (i + 2 * j + 1)
      have HPI := Lib.hid (fun W => pick _ _ a1 a2 W rfl)
      generalize hp : pickP (at_ b (i + 2 * j)) (at_ b (i + 2 * j + 1)) = p at *
      clear hp
      go_wp2_with fail
      refine (HPI.out w5).mono ?_
      rintro e w7 ⟨rfl, b7⟩
      have HR7 := Lib.hid (HR5.out.below b7)
      have HT7 := Lib.hid (HT5.out.trans (Law.Touch.of_below b7 (fun _ => False)) (fun _ e => e.elim))
      have HW7 := Lib.hid (HW.out.trans HT7.out (fun _ e => .inl e))
      have HO7 := Lib.hid (HT7.out.own HO.out (fun k hk => by have := (HO.out.lt k hk).1; omega))
      clear b7 HR HW HO HR5 HT5 HPI
      have sz7 := HW7.out.size
      go_wp2_with (at_builtin; refine wpList_append_own _ rfl _ _ 29 rfl w.heap.size 34 i1 (.agg #[.int .i64 0, .int .i64 0, .int .u64 0]) 3 24 HE1.out.ut HE1.out.info HE1.out.zero HE1.out.sz HE1.out.by_ HE1.out.cells HE1.out.pos _ _ _ rfl (HO7.out.alloc _) ⟨w7.heap.size, 0, none⟩ 1 1 (cellsPk p) rfl rfl (new_cells _ _ _ rfl) (three_one _) (by unfold maxLen; omega) (by omega) (by simp; omega) ?_; intro v' w8 hown hg6 _; have HR8 := Lib.hid ((HR7.out.below ((Below.refl w7.heap.size w7).alloc (Nat.le_refl _) _)).grown hg6 (fun k hk => by have := (HO7.out.lt k hk).1; omega)); have HW8 := Lib.hid (grow_touch HW7.out _ hg6 (fun k hk => (HO7.out.lt k hk).1)); have HO8 := Lib.hid hown; obtain ⟨D', cap', rfl, _⟩ := own_shape hown; clear hown hg6)
      go_roundw
      case rel => exact ⟨j + 1, _, _, by omega, rfl, by rw [HTK.out, flatPk_snoc]; exact HO8.out, HR8.out, HW8.out⟩
      case measure => simp [sLen]; omega
    · obtain rfl : j = n := by omega
      have hb2 : ¬ (i + 2 * j < b.length ∧ j < 20000) := fun h => hlt ((HN.out j).2 h)
      have HF : Hid (∃ D' c', Value.slice D j cap = .slice D' j c' ∧ j ≤ c') := Lib.hid (own_shape HO.out)
      obtain ⟨_, _, hsh, hcap⟩ := HF.out
      cases hsh
      clear HF
      have HF := Lib.hid (show _ ∧ _ from ⟨Lain.own HO.out, HW.out⟩)
      clear HO HW HR
      by_cases hm : m = 0
      · clear hdl
        subst hm
        have d1 : decide ((0 : Int) < ((0 : Nat) : Int)) = false := by decide
        go_wp2_with fail
        go_ret
        exact ⟨_, _, rfl, hcap, HF.out.1, HF.out.2⟩
      · have d1 : decide ((0 : Int) < (m : Int)) = true := by simp; omega
        have d2 : decide ((j : Int) < 20000) = false := by simp; omega
        go_wp2_with fail
        go_ret
        exact ⟨_, _, rfl, hcap, HF.out.1, HF.out.2⟩
end Opx
end Go.Proofs.YtlkbfnpncomifaaDoor
