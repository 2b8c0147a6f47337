/-
  What the calls of a feed (layer 9) come to: client, New, Watching, Count.
-/
import Derived.Test.YtdkjcheannehhaaGreatJ22
import Derived.Test.YtdkjcheannehhaaGreatJ24
import Derived.Test.YtdkjcheannehhaaGreatJ5
import Derived.Lib.QuietBelow
namespace Go.Proofs.YtdkjcheannehhaaGreat
open Go.RowKit Go.Shelf
attribute [local go_sem] Oper.semAt_some
namespace Feed
open Go.Law
/-- whom each client watches, what was told to it, whether something was lost -/
structure St where
  wat : Nat → List (ByteArray × Int)
  que : Nat → List Ev
  los : Nat → Bool
def cellsF (p : Nat → Option Addr) (g : Nat → Nat) : Array Value := #[.pointer (p 0), .pointer (p 1), .pointer (p 2), .pointer (p 3), .pointer (p 4), .pointer (p 5), .pointer (p 6), .pointer (p 7),
  .pointer (some ⟨g 0, 0, none⟩), .pointer (some ⟨g 1, 0, none⟩), .pointer (some ⟨g 2, 0, none⟩), .pointer (some ⟨g 3, 0, none⟩), .pointer (some ⟨g 4, 0, none⟩), .pointer (some ⟨g 5, 0, none⟩), .pointer (some ⟨g 6, 0, none⟩), .pointer (some ⟨g 7, 0, none⟩)]
theorem cellsF_wat (p : Nat → Option Addr) (g : Nat → Nat) {k : Nat} (h : k < 8) : (cellsF p g)[k]? = some (.pointer (p k)) := by
  match k, h with
  | 0, _ | 1, _ | 2, _ | 3, _ | 4, _ | 5, _ | 6, _ | 7, _ => rfl
theorem cellsF_que (p : Nat → Option Addr) (g : Nat → Nat) {k : Nat} (h : k < 8) : (cellsF p g)[8 + k]? = some (.pointer (some ⟨g k, 0, none⟩)) := by
  match k, h with
  | 0, _ | 1, _ | 2, _ | 3, _ | 4, _ | 5, _ | 6, _ | 7, _ => rfl
theorem cellsF_set (p : Nat → Option Addr) (g : Nat → Nat) (q : Option Addr) {k : Nat} (h : k < 8) : (cellsF p g).setIfInBounds k (.pointer q) = cellsF (fun i => if i = k then q else p i) g := by
  match k, h with
  | 0, _ | 1, _ | 2, _ | 3, _ | 4, _ | 5, _ | 6, _ | 7, _ => rfl
/-- block b is a feed -/
structure FedV (w : World) (base : Nat) (S : Nat → Prop) (b room : Nat) (p : Nat → Option Addr) (g : Nat → Nat) (Sk : Nat → Nat → Prop) (s : St) : Prop where
  box : Is w b 131 (cellsF p g)
  tree : ∀ k, k < 8 → OmapU.At w w.heap.size (p k) (s.wat k)
  rise : ∀ k, k < 8 → Rises OmapU.lt (s.wat k)
  ring : ∀ k, k < 8 → RingE.At w base (Sk k) (g k) room (s.que k) (s.los k)
  apart : ∀ i j, i < 8 → j < 8 → i ≠ j → ∀ n, Sk i n → ¬ Sk j n
  out : ∀ k, k < 8 → ¬ Sk k b
  inn : S b
  sub : ∀ k, k < 8 → ∀ n, Sk k n → S n
  ok : ∀ n, S n → base ≤ n ∧ n < w.heap.size
def Fed (w : World) (base : Nat) (S : Nat → Prop) (b room : Nat) (s : St) : Prop := ∃ p g Sk, FedV w base S b room p g Sk s
section
variable {w w' : World} {base b room : Nat} {S T : Nat → Prop} {p : Nat → Option Addr} {g : Nat → Nat} {Sk : Nat → Nat → Prop} {s : St}
theorem FedV.touch (h : FedV w base S b room p g Sk s) (ht : Law.Touch w w' T) (hd : ∀ k, S k → ¬ T k) (hk : Keeps 205 w w') : FedV w' base S b room p g Sk s :=
  ⟨ht.is h.box (hd _ h.inn), fun k hk' => ((h.tree k hk').keeps hk).wide ht.size, h.rise, fun k hk' => (h.ring k hk').touch ht (fun n hn => hd n (h.sub k hk' n hn)), h.apart, h.out, h.inn, h.sub, fun n hn => ⟨(h.ok n hn).1, Nat.lt_of_lt_of_le (h.ok n hn).2 ht.size⟩⟩
theorem Fed.touch (h : Fed w base S b room s) (ht : Law.Touch w w' T) (hd : ∀ k, S k → ¬ T k) (hk : Keeps 205 w w') : Fed w' base S b room s := by
  obtain ⟨p, g, Sk, h⟩ := h
  exact ⟨p, g, Sk, h.touch ht hd hk⟩
theorem FedV.below (h : FedV w base S b room p g Sk s) (hb : Below w.heap.size w w') : FedV w' base S b room p g Sk s := h.touch (Law.Touch.of_below hb fun _ => False) (fun _ _ h => h) (Keeps.of_below hb)
theorem Fed.below (h : Fed w base S b room s) (hb : Below w.heap.size w w') : Fed w' base S b room s := h.touch (Law.Touch.of_below hb fun _ => False) (fun _ _ h => h) (Keeps.of_below hb)
theorem Fed.ok (h : Fed w base S b room s) : ∀ n, S n → base ≤ n ∧ n < w.heap.size := by obtain ⟨_, _, _, h⟩ := h; exact h.ok
theorem Fed.inn (h : Fed w base S b room s) : S b := by obtain ⟨_, _, _, h⟩ := h; exact h.inn
end
/-- only blocks of S have turned; what is of S' was of S, or is new -/
structure Went (w : World) (S : Nat → Prop) (w' : World) (S' : Nat → Prop) : Prop where
  touch : Law.Touch w w' S
  new : ∀ n, S' n → S n ∨ w.heap.size ≤ n
  calm : ∀ t, t ≠ 131 → t ≠ 168 → t ≠ 67 → Keeps t w w'
section
variable {w w' w'' : World} {S S' S'' : Nat → Prop}
theorem Went.refl (w : World) (S : Nat → Prop) : Went w S w S := ⟨Law.Touch.refl _ _, fun _ h => .inl h, fun t _ _ _ => Keeps.refl t w⟩
theorem Went.trans (h : Went w S w' S') (h' : Went w' S' w'' S'') : Went w S w'' S'' :=
  ⟨h.touch.trans h'.touch h.new, fun n hn => (h'.new n hn).elim (h.new n) (fun hl => .inr (Nat.le_trans h.touch.size hl)), fun t h1 h2 h3 => (h.calm t h1 h2 h3).trans (h'.calm t h1 h2 h3)⟩
theorem Went.of_below (hb : Below w.heap.size w w') : Went w S w' S := ⟨Law.Touch.of_below hb S, fun _ h => .inl h, fun _ _ _ _ => Keeps.of_below hb⟩
theorem Went.is (h : Went w S w' S') {g : Nat} {t : TypeId} {cs : Array Value} (hi : Is w g t cs) (hg : ¬ S g) : Is w' g t cs := h.touch.is hi hg
theorem Went.off (h : Went w S w' S') {g : Nat} (hl : g < w.heap.size) (hg : ¬ S g) : ¬ S' g := fun h' => (h.new g h').elim hg (fun h => by omega)
end
set_option maxHeartbeats 400000 in
theorem client_yes {k : Nat} (h : k < 8) (w : World) :
    Calls Tryz.prog 95 #[.int .i64 (k : Int)] w fun e w' => e = .returned (.bool true) ∧ w = w' := by
  have d1 : decide ((0 : Int) ≤ (k : Int)) = true := by simp
  have d2 : decide ((k : Int) < 8) = true := by simp; omega
  go_enter Tryz.func95, Tryz.ntmps95
  go_wp2
  go_ret
  exact ⟨rfl, rfl⟩
set_option maxHeartbeats 400000 in
theorem client_no {who : Int} (h : ¬ (0 ≤ who ∧ who < 8)) (w : World) :
    Calls Tryz.prog 95 #[.int .i64 who] w fun e w' => e = .returned (.bool false) ∧ w = w' := by
  by_cases h0 : 0 ≤ who
  · have d1 : decide ((0 : Int) ≤ who) = true := by simp; omega
    have d2 : decide (who < 8) = false := by simp; omega
    go_enter Tryz.func95, Tryz.ntmps95
    go_wp2
    go_ret
    exact ⟨rfl, rfl⟩
  · have d1 : decide ((0 : Int) ≤ who) = false := by simp; omega
    go_enter Tryz.func95, Tryz.ntmps95
    go_wp2
    go_ret
    exact ⟨rfl, rfl⟩
/-- whether a client watches a user -/
def St.has (s : St) (k : Nat) (u : ByteArray) : Bool := (getK u (s.wat k)).isSome
set_option maxHeartbeats 1000000 in
theorem watching {w : World} {base b room k : Nat} {S : Nat → Prop} {s : St} (h : Fed w base S b room s) (hk : k < 8) (u : ByteArray) :
    Calls Tryz.prog 92 #[.pointer (some ⟨b, 0, none⟩), .int .i64 (k : Int), .string u] w fun e w' => e = .returned (.bool (s.has k u)) ∧ Below w.heap.size w w' := by
  obtain ⟨p, g, Sk, h⟩ := h
  have HC := Lib.hid (client_yes hk)
  have HG := Lib.hid (OmapU.get u (h.tree k hk) (Nat.le_refl _) (h.rise k hk))
  have c0 : w.cell? ⟨b, k, none⟩ = some (.pointer (p k)) := (h.box.cell k).trans (by simpa using cellsF_wat p g hk)
  have hk1 : k ≤ 7 := by omega
  have lb := h.box.lt
  clear h
  go_enter Tryz.func92, Tryz.ntmps92
  go_wp2_with fail
  refine (HC.out w).mono ?_
  rintro e w' ⟨rfl, rfl⟩
  go_wp2_with fail
  refine HG.out.mono ?_
  rintro e w' ⟨rfl, hb⟩
  go_wp2_with fail
  go_ret
  exact ⟨rfl, hb.alloc hb.size _⟩
set_option maxHeartbeats 1000000 in
theorem watching_no {who : Int} (h : ¬ (0 ≤ who ∧ who < 8)) (b : Nat) (u : ByteArray) (w : World) :
    Calls Tryz.prog 92 #[.pointer (some ⟨b, 0, none⟩), .int .i64 who, .string u] w fun e w' => e = .returned (.bool false) ∧ w = w' := by
  have HC := Lib.hid (client_no h)
  clear h
  go_enter Tryz.func92, Tryz.ntmps92
  go_wp2_with fail
  refine (HC.out w).mono ?_
  rintro e w' ⟨rfl, rfl⟩
  go_wp2_with fail
  go_ret
  exact ⟨rfl, rfl⟩
set_option maxHeartbeats 1000000 in
theorem count {w : World} {base b room k : Nat} {S : Nat → Prop} {s : St} (h : Fed w base S b room s) (hk : k < 8) :
    Calls Tryz.prog 115 #[.pointer (some ⟨b, 0, none⟩), .int .i64 (k : Int)] w fun e w' => e = .returned (.int .i64 ((s.wat k).length : Int)) ∧ Below w.heap.size w w' := by
  obtain ⟨p, g, Sk, h⟩ := h
  have HC := Lib.hid (client_yes hk)
  have HG := Lib.hid (OmapU.len (h.tree k hk) (Nat.le_refl _))
  have c0 : w.cell? ⟨b, k, none⟩ = some (.pointer (p k)) := (h.box.cell k).trans (by simpa using cellsF_wat p g hk)
  have hk1 : k ≤ 7 := by omega
  have lb := h.box.lt
  clear h
  go_enter Tryz.func115, Tryz.ntmps115
  go_wp2_with fail
  refine (HC.out w).mono ?_
  rintro e w' ⟨rfl, rfl⟩
  go_wp2_with fail
  refine HG.out.mono ?_
  rintro e w' ⟨rfl, rfl⟩
  go_wp2_with fail
  go_ret
  exact ⟨rfl, (Below.refl _ w).alloc (Nat.le_refl _) _⟩
set_option maxHeartbeats 1000000 in
theorem count_no {who : Int} (h : ¬ (0 ≤ who ∧ who < 8)) (b : Nat) (w : World) :
    Calls Tryz.prog 115 #[.pointer (some ⟨b, 0, none⟩), .int .i64 who] w fun e w' => e = .returned (.int .i64 0) ∧ w = w' := by
  have HC := Lib.hid (client_no h)
  clear h
  go_enter Tryz.func115, Tryz.ntmps115
  go_wp2_with fail
  refine (HC.out w).mono ?_
  rintro e w' ⟨rfl, rfl⟩
  go_wp2_with fail
  go_ret
  exact ⟨rfl, rfl⟩
/-- a value put in place of that of k -/
def upd {α : Type} (f : Nat → α) (k : Nat) (a : α) : Nat → α := fun i => if i = k then a else f i
theorem upd_same {α : Type} (f : Nat → α) (k : Nat) (a : α) : upd f k a k = a := by simp [upd]
theorem upd_other {α : Type} (f : Nat → α) {k i : Nat} (a : α) (h : i ≠ k) : upd f k a i = f i := by simp [upd, h]
/-- whom client k watches is put -/
theorem FedV.watched {w w' : World} {base b room k : Nat} {S : Nat → Prop} {p : Nat → Option Addr} {g : Nat → Nat} {Sk : Nat → Nat → Prop} {s : St} (h : FedV w base S b room p g Sk s) (hk : k < 8) (hb : Below w.heap.size w w') {q : Option Addr} {zs : List (ByteArray × Int)} (hq : OmapU.At w' w'.heap.size q zs) (hz : Rises OmapU.lt zs) :
    FedV (w'.setCell ⟨b, k, none⟩ (.pointer q)) base S b room (upd p k q) g Sk { s with wat := upd s.wat k zs } := by
  have h' := h.below hb
  have ht := Law.Touch.store (T := fun n => n = b) w' ⟨b, k, none⟩ (.pointer q) rfl
  have hK := Keeps.store (t := 205) h'.box (by decide) (i := k) (.pointer q)
  refine ⟨?_, ?_, ?_, ?_, h.apart, h.out, h.inn, h.sub, ?_⟩
  · exact h'.box.set k (.pointer q) (cellsF_set _ _ _ hk)
  · intro i hi
    show OmapU.At _ _ (upd p k q i) (upd s.wat k zs i)
    by_cases e : i = k
    · subst e
      rw [upd_same, upd_same]
      exact (hq.keeps hK).wide ht.size
    · rw [upd_other _ _ e, upd_other _ _ e]
      exact ((h'.tree i hi).keeps hK).wide ht.size
  · intro i hi
    show Rises OmapU.lt (upd s.wat k zs i)
    by_cases e : i = k
    · subst e
      rw [upd_same]
      exact hz
    · rw [upd_other _ _ e]
      exact h.rise i hi
  · intro i hi
    exact (h'.ring i hi).touch ht (fun n hn e => h.out i hi (e ▸ hn))
  · intro n hn
    have := h'.ok n hn
    simpa using this
set_option maxRecDepth 100000 in
set_option maxHeartbeats 1000000 in
theorem watch {w : World} {base b room k : Nat} {S : Nat → Prop} {s : St} (h : Fed w base S b room s) (hk : k < 8) (u : ByteArray) (hl : (s.wat k).length ≤ 999) :
    Calls Tryz.prog 94 #[.pointer (some ⟨b, 0, none⟩), .int .i64 (k : Int), .string u] w fun e w' => e = .returned (.tuple #[]) ∧ Fed w' base S b room { s with wat := upd s.wat k (putK OmapU.lt u 0 (s.wat k)) } ∧ Went w S w' S := by
  obtain ⟨p, g, Sk, h⟩ := h
  have HC := Lib.hid (client_yes hk)
  have HF := Lib.hid h
  have HG := Lib.hid (OmapU.withM u 0 (h.tree k hk) (Nat.le_refl _) (h.rise k hk) hl)
  have c0 : w.cell? ⟨b, k, none⟩ = some (.pointer (p k)) := (h.box.cell k).trans (by simpa using cellsF_wat p g hk)
  have hk1 : k ≤ 7 := by omega
  have lb := h.box.lt
  clear h
  go_enter Tryz.func94, Tryz.ntmps94
  go_wp2_with fail
  refine (HC.out w).mono ?_
  rintro e w' ⟨rfl, rfl⟩
  go_wp2_with fail
  have HF1 : Hid (FedV w.drew base S b room p g Sk s) := HF.out.touch (Law.Touch.drewN w 1 fun _ => False) (fun _ _ h => h) (Keeps.drewN _ w 1)
  have hbd : Below w.heap.size w w.drew := Law.below_drewN (Below.refl _ w) 1
  have HBD := Lib.hid hbd
  have HZ := Lib.hid (putK_rises OmapU.lt OmapU.tri (k := u) (v := (0 : Int)) (HF.out.rise k hk))
  clear hbd
  refine wp_region_held_drew (S := fun _ => True) (by kernel_rfl) trivial (fun hS0 => ?_)
  refine wpAnyH_take (i := 0) (oi := { dst := some 8, op := .move (.tmp 0), type := _, pos := _, after := _, guard := _ }) (v := .pointer (some ⟨b, 0, none⟩)) rfl (by kernel_rfl) (by kernel_rfl) (by kernel_rfl) (fun _ _ _ h => h) (Or.inl ⟨by rfl, ?_⟩) hS0 ?_
  · intro w' hSw
    go_simp
  try simp only [Act.put, List.setIfInBounds_toArray, List.set_cons_zero, List.set_cons_succ]
  refine wpAnyH_take (i := 1) (oi := { dst := some 9, op := .move (.tmp 1), type := _, pos := _, after := _, guard := _ }) (v := .int .i64 (k : Int)) rfl (by kernel_rfl) (by kernel_rfl) (by kernel_rfl) (fun _ _ _ h => h) (Or.inl ⟨by rfl, ?_⟩) hS0 ?_
  · intro w' hSw
    go_simp
  try simp only [Act.put, List.setIfInBounds_toArray, List.set_cons_zero, List.set_cons_succ]
  refine wpAnyH_take (i := 2) (oi := { dst := some 10, op := .move (.tmp 0), type := _, pos := _, after := _, guard := _ }) (v := .pointer (some ⟨b, 0, none⟩)) rfl (by kernel_rfl) (by kernel_rfl) (by kernel_rfl) (fun _ _ _ h => h) (Or.inl ⟨by rfl, ?_⟩) hS0 ?_
  · intro w' hSw
    go_simp
  try simp only [Act.put, List.setIfInBounds_toArray, List.set_cons_zero, List.set_cons_succ]
  refine wpAnyH_take (i := 3) (oi := { dst := some 11, op := .move (.tmp 1), type := _, pos := _, after := _, guard := _ }) (v := .int .i64 (k : Int)) rfl (by kernel_rfl) (by kernel_rfl) (by kernel_rfl) (fun _ _ _ h => h) (Or.inl ⟨by rfl, ?_⟩) hS0 ?_
  · intro w' hSw
    go_simp
  try simp only [Act.put, List.setIfInBounds_toArray, List.set_cons_zero, List.set_cons_succ]
  refine wpAnyH_take (i := 4) (oi := { dst := some 12, op := .nilCheck (.tmp 10), type := _, pos := _, after := _, guard := _ }) (v := .pointer (some ⟨b, 0, none⟩)) rfl (by kernel_rfl) (by kernel_rfl) (by kernel_rfl) (fun _ _ _ h => h) (Or.inl ⟨by rfl, ?_⟩) hS0 ?_
  · intro w' hSw
    go_simp
  try simp only [Act.put, List.setIfInBounds_toArray, List.set_cons_zero, List.set_cons_succ]
  refine wpAnyH_take (i := 5) (oi := { dst := some 13, op := .fieldAddr 131 (.tmp 12) 0, type := _, pos := _, after := _, guard := _ }) (v := .pointer (some ⟨b, 0, none⟩)) rfl (by kernel_rfl) (by kernel_rfl) (by kernel_rfl) (fun _ _ _ h => h) (Or.inl ⟨by rfl, ?_⟩) hS0 ?_
  · intro w' hSw
    go_simp
  try simp only [Act.put, List.setIfInBounds_toArray, List.set_cons_zero, List.set_cons_succ]
  refine wpAnyH_take (i := 6) (oi := { dst := some 14, op := .indexAddr 127 (.tmp 13) (.tmp 11), type := _, pos := _, after := _, guard := _ }) (v := .pointer (some ⟨b, k, none⟩)) rfl (by kernel_rfl) (by kernel_rfl) (by kernel_rfl) (fun _ _ _ h => h) (Or.inl ⟨by rfl, ?_⟩) hS0 ?_
  · intro w' hSw
    go_simp; (try (intro h8; omega))
  try simp only [Act.put, List.setIfInBounds_toArray, List.set_cons_zero, List.set_cons_succ]
  refine wpAnyH_take (i := 8) (oi := { dst := some 16, op := .move (.tmp 2), type := _, pos := _, after := _, guard := _ }) (v := .string u) rfl (by kernel_rfl) (by kernel_rfl) (by kernel_rfl) (fun _ _ _ h => h) (Or.inl ⟨by rfl, ?_⟩) hS0 ?_
  · intro w' hSw
    go_simp
  try simp only [Act.put, List.setIfInBounds_toArray, List.set_cons_zero, List.set_cons_succ]
  refine wpAnyH_take (i := 9) (oi := { dst := some 17, op := .build 166 #[], type := _, pos := _, after := _, guard := _ }) (v := .agg #[]) rfl (by kernel_rfl) (by kernel_rfl) (by kernel_rfl) (fun _ _ _ h => h) (Or.inl ⟨by rfl, ?_⟩) hS0 ?_
  · intro w' hSw
    go_simp
  try simp only [Act.put, List.setIfInBounds_toArray, List.set_cons_zero, List.set_cons_succ]
  refine wpAnyH_take (i := 11) (oi := { dst := some 19, op := .nilCheck (.tmp 8), type := _, pos := _, after := _, guard := _ }) (v := .pointer (some ⟨b, 0, none⟩)) rfl (by kernel_rfl) (by kernel_rfl) (by kernel_rfl) (fun _ _ _ h => h) (Or.inl ⟨by rfl, ?_⟩) hS0 ?_
  · intro w' hSw
    go_simp
  try simp only [Act.put, List.setIfInBounds_toArray, List.set_cons_zero, List.set_cons_succ]
  refine wpAnyH_take (i := 12) (oi := { dst := some 20, op := .fieldAddr 131 (.tmp 19) 0, type := _, pos := _, after := _, guard := _ }) (v := .pointer (some ⟨b, 0, none⟩)) rfl (by kernel_rfl) (by kernel_rfl) (by kernel_rfl) (fun _ _ _ h => h) (Or.inl ⟨by rfl, ?_⟩) hS0 ?_
  · intro w' hSw
    go_simp
  try simp only [Act.put, List.setIfInBounds_toArray, List.set_cons_zero, List.set_cons_succ]
  refine wpAnyH_ready (rs := [7]) (by kernel_rfl) (by simp) ?_
  refine AllReadyH.cons (o := { dst := some 15, op := .load 126 (.tmp 14), type := _, pos := _, after := _, guard := _ }) rfl (fun K hK => ?_) AllReadyH.nil
  go_simp
  refine hK.out _ _ trivial (fun hS1 => ?_)
  clear hK K
  try simp only [Act.put, List.setIfInBounds_toArray, List.set_cons_zero, List.set_cons_succ]
  refine wpAnyH_ready (rs := [10]) (by kernel_rfl) (by simp) ?_
  refine AllReadyH.cons (o := { dst := some 18, op := .call { callee := .value (.func 116), args := #[.tmp 15, .tmp 16, .tmp 17], argTypes := _ }, type := _, pos := _, after := _, guard := _ }) rfl (fun K hK => ?_) AllReadyH.nil
  go_simp
  refine Calls.mono (OmapU.withM u 0 (HF1.out.tree k hk) (Nat.le_refl _) (HF1.out.rise k hk) hl) ?_
  rintro e w1 ⟨p1, rfl, t1, b1⟩
  have T1 := Lib.hid t1
  have B1 := Lib.hid b1
  clear t1 b1
  go_wp2_with fail
  refine hK.out _ _ trivial (fun hS2 => ?_)
  clear hK K
  try simp only [Act.put, List.setIfInBounds_toArray, List.set_cons_zero, List.set_cons_succ]
  refine wpAnyH_take (i := 13) (oi := { dst := some 21, op := .indexAddr 127 (.tmp 20) (.tmp 9), type := _, pos := _, after := _, guard := _ }) (v := .pointer (some ⟨b, k, none⟩)) rfl (by kernel_rfl) (by kernel_rfl) (by kernel_rfl) (fun _ _ _ h => h) (Or.inl ⟨by rfl, ?_⟩) hS2 ?_
  · intro w' hSw
    go_simp; (try (intro h8; omega))
  try simp only [Act.put, List.setIfInBounds_toArray, List.set_cons_zero, List.set_cons_succ]
  have I1 := (HF1.out.below B1.out).box
  have c1 : w1.cell? ⟨b, k, none⟩ = some (.pointer (p k)) := (I1.cell k).trans (by simpa using cellsF_wat p g hk)
  have f1 := I1.frozen k
  have l1 := I1.lt
  clear I1
  refine wpAnyH_ready (rs := [14]) (by kernel_rfl) (by simp) ?_
  refine AllReadyH.cons (o := { dst := none, op := .store 126 (.tmp 21) (.tmp 18), type := _, pos := _, after := _, guard := _ }) rfl (fun K hK => ?_) AllReadyH.nil
  go_simp
  refine hK.out _ _ trivial (fun hS3 => ?_)
  clear hK K
  try simp only [Act.put, List.setIfInBounds_toArray, List.set_cons_zero, List.set_cons_succ]
  refine wpAnyH_done (by kernel_rfl) ?_ _
  go_wp2_with fail
  go_end0
  exact ⟨rfl, ⟨_, _, _, HF1.out.watched hk B1.out T1.out HZ.out⟩, Went.trans (Went.of_below HBD.out) ⟨(Law.Touch.of_below B1.out S).trans (Law.Touch.store w1 ⟨b, k, none⟩ _ HF1.out.inn) (fun n hn => .inl hn), fun n hn => .inl hn, fun t ht _ _ => (Keeps.of_below B1.out).trans (Keeps.store (HF1.out.below B1.out).box ht (i := k) _)⟩⟩
end Feed
end Go.Proofs.YtdkjcheannehhaaGreat
/-
  What the calls of a feed (layer 9) come to: Unwatch, of who is no client, New, Drain.
-/
namespace Go.Proofs.YtdkjcheannehhaaGreat
open Go.RowKit Go.Shelf
attribute [local go_sem] Oper.semAt_some
namespace Feed
open Go.Law
set_option maxRecDepth 100000 in
set_option maxHeartbeats 1000000 in
theorem unwatch {w : World} {base b room k : Nat} {S : Nat → Prop} {s : St} (h : Fed w base S b room s) (hk : k < 8) (u : ByteArray) (hl : (s.wat k).length ≤ 999) :
    Calls Tryz.prog 64 #[.pointer (some ⟨b, 0, none⟩), .int .i64 (k : Int), .string u] w fun e w' => e = .returned (.tuple #[]) ∧ Fed w' base S b room { s with wat := upd s.wat k (outK u (s.wat k)) } ∧ Went w S w' S := by
  obtain ⟨p, g, Sk, h⟩ := h
  have HC := Lib.hid (client_yes hk)
  have HF := Lib.hid h
  have HG := Lib.hid (OmapU.withoutM u (h.tree k hk) (Nat.le_refl _) (h.rise k hk) hl)
  have c0 : w.cell? ⟨b, k, none⟩ = some (.pointer (p k)) := (h.box.cell k).trans (by simpa using cellsF_wat p g hk)
  have hk1 : k ≤ 7 := by omega
  have lb := h.box.lt
  clear h
  go_enter Tryz.func64, Tryz.ntmps64
  go_wp2_with fail
  refine (HC.out w).mono ?_
  rintro e w' ⟨rfl, rfl⟩
  go_wp2_with fail
  have HF1 : Hid (FedV w.drew base S b room p g Sk s) := HF.out.touch (Law.Touch.drewN w 1 fun _ => False) (fun _ _ h => h) (Keeps.drewN _ w 1)
  have hbd : Below w.heap.size w w.drew := Law.below_drewN (Below.refl _ w) 1
  have HBD := Lib.hid hbd
  have HZ := Lib.hid (outK_rises OmapU.lt (k := u) (HF.out.rise k hk))
  clear hbd
  refine wp_region_held_drew (S := fun _ => True) (by kernel_rfl) trivial (fun hS0 => ?_)
  refine wpAnyH_take (i := 0) (oi := { dst := some 8, op := .move (.tmp 0), type := _, pos := _, after := _, guard := _ }) (v := .pointer (some ⟨b, 0, none⟩)) rfl (by kernel_rfl) (by kernel_rfl) (by kernel_rfl) (fun _ _ _ h => h) (Or.inl ⟨by rfl, ?_⟩) hS0 ?_
  · intro w' hSw
    go_simp
  try simp only [Act.put, List.setIfInBounds_toArray, List.set_cons_zero, List.set_cons_succ]
  refine wpAnyH_take (i := 1) (oi := { dst := some 9, op := .move (.tmp 1), type := _, pos := _, after := _, guard := _ }) (v := .int .i64 (k : Int)) rfl (by kernel_rfl) (by kernel_rfl) (by kernel_rfl) (fun _ _ _ h => h) (Or.inl ⟨by rfl, ?_⟩) hS0 ?_
  · intro w' hSw
    go_simp
  try simp only [Act.put, List.setIfInBounds_toArray, List.set_cons_zero, List.set_cons_succ]
  refine wpAnyH_take (i := 2) (oi := { dst := some 10, op := .move (.tmp 0), type := _, pos := _, after := _, guard := _ }) (v := .pointer (some ⟨b, 0, none⟩)) rfl (by kernel_rfl) (by kernel_rfl) (by kernel_rfl) (fun _ _ _ h => h) (Or.inl ⟨by rfl, ?_⟩) hS0 ?_
  · intro w' hSw
    go_simp
  try simp only [Act.put, List.setIfInBounds_toArray, List.set_cons_zero, List.set_cons_succ]
  refine wpAnyH_take (i := 3) (oi := { dst := some 11, op := .move (.tmp 1), type := _, pos := _, after := _, guard := _ }) (v := .int .i64 (k : Int)) rfl (by kernel_rfl) (by kernel_rfl) (by kernel_rfl) (fun _ _ _ h => h) (Or.inl ⟨by rfl, ?_⟩) hS0 ?_
  · intro w' hSw
    go_simp
  try simp only [Act.put, List.setIfInBounds_toArray, List.set_cons_zero, List.set_cons_succ]
  refine wpAnyH_take (i := 4) (oi := { dst := some 12, op := .nilCheck (.tmp 10), type := _, pos := _, after := _, guard := _ }) (v := .pointer (some ⟨b, 0, none⟩)) rfl (by kernel_rfl) (by kernel_rfl) (by kernel_rfl) (fun _ _ _ h => h) (Or.inl ⟨by rfl, ?_⟩) hS0 ?_
  · intro w' hSw
    go_simp
  try simp only [Act.put, List.setIfInBounds_toArray, List.set_cons_zero, List.set_cons_succ]
  refine wpAnyH_take (i := 5) (oi := { dst := some 13, op := .fieldAddr 131 (.tmp 12) 0, type := _, pos := _, after := _, guard := _ }) (v := .pointer (some ⟨b, 0, none⟩)) rfl (by kernel_rfl) (by kernel_rfl) (by kernel_rfl) (fun _ _ _ h => h) (Or.inl ⟨by rfl, ?_⟩) hS0 ?_
  · intro w' hSw
    go_simp
  try simp only [Act.put, List.setIfInBounds_toArray, List.set_cons_zero, List.set_cons_succ]
  refine wpAnyH_take (i := 6) (oi := { dst := some 14, op := .indexAddr 127 (.tmp 13) (.tmp 11), type := _, pos := _, after := _, guard := _ }) (v := .pointer (some ⟨b, k, none⟩)) rfl (by kernel_rfl) (by kernel_rfl) (by kernel_rfl) (fun _ _ _ h => h) (Or.inl ⟨by rfl, ?_⟩) hS0 ?_
  · intro w' hSw
    go_simp; (try (intro h8; omega))
  try simp only [Act.put, List.setIfInBounds_toArray, List.set_cons_zero, List.set_cons_succ]
  refine wpAnyH_take (i := 8) (oi := { dst := some 16, op := .move (.tmp 2), type := _, pos := _, after := _, guard := _ }) (v := .string u) rfl (by kernel_rfl) (by kernel_rfl) (by kernel_rfl) (fun _ _ _ h => h) (Or.inl ⟨by rfl, ?_⟩) hS0 ?_
  · intro w' hSw
    go_simp
  try simp only [Act.put, List.setIfInBounds_toArray, List.set_cons_zero, List.set_cons_succ]
  refine wpAnyH_take (i := 10) (oi := { dst := some 18, op := .nilCheck (.tmp 8), type := _, pos := _, after := _, guard := _ }) (v := .pointer (some ⟨b, 0, none⟩)) rfl (by kernel_rfl) (by kernel_rfl) (by kernel_rfl) (fun _ _ _ h => h) (Or.inl ⟨by rfl, ?_⟩) hS0 ?_
  · intro w' hSw
    go_simp
  try simp only [Act.put, List.setIfInBounds_toArray, List.set_cons_zero, List.set_cons_succ]
  refine wpAnyH_take (i := 11) (oi := { dst := some 19, op := .fieldAddr 131 (.tmp 18) 0, type := _, pos := _, after := _, guard := _ }) (v := .pointer (some ⟨b, 0, none⟩)) rfl (by kernel_rfl) (by kernel_rfl) (by kernel_rfl) (fun _ _ _ h => h) (Or.inl ⟨by rfl, ?_⟩) hS0 ?_
  · intro w' hSw
    go_simp
  try simp only [Act.put, List.setIfInBounds_toArray, List.set_cons_zero, List.set_cons_succ]
  refine wpAnyH_ready (rs := [7]) (by kernel_rfl) (by simp) ?_
  refine AllReadyH.cons (o := { dst := some 15, op := .load 126 (.tmp 14), type := _, pos := _, after := _, guard := _ }) rfl (fun K hK => ?_) AllReadyH.nil
  go_simp
  refine hK.out _ _ trivial (fun hS1 => ?_)
  clear hK K
  try simp only [Act.put, List.setIfInBounds_toArray, List.set_cons_zero, List.set_cons_succ]
  refine wpAnyH_ready (rs := [9]) (by kernel_rfl) (by simp) ?_
  refine AllReadyH.cons (o := { dst := some 17, op := .call { callee := .value (.func 96), args := #[.tmp 15, .tmp 16], argTypes := _ }, type := _, pos := _, after := _, guard := _ }) rfl (fun K hK => ?_) AllReadyH.nil
  go_simp
  refine Calls.mono (OmapU.withoutM u (HF1.out.tree k hk) (Nat.le_refl _) (HF1.out.rise k hk) hl) ?_
  rintro e w1 ⟨p1, rfl, t1, b1⟩
  have T1 := Lib.hid t1
  have B1 := Lib.hid b1
  clear t1 b1
  go_wp2_with fail
  refine hK.out _ _ trivial (fun hS2 => ?_)
  clear hK K
  try simp only [Act.put, List.setIfInBounds_toArray, List.set_cons_zero, List.set_cons_succ]
  refine wpAnyH_take (i := 12) (oi := { dst := some 20, op := .indexAddr 127 (.tmp 19) (.tmp 9), type := _, pos := _, after := _, guard := _ }) (v := .pointer (some ⟨b, k, none⟩)) rfl (by kernel_rfl) (by kernel_rfl) (by kernel_rfl) (fun _ _ _ h => h) (Or.inl ⟨by rfl, ?_⟩) hS2 ?_
  · intro w' hSw
    go_simp; (try (intro h8; omega))
  try simp only [Act.put, List.setIfInBounds_toArray, List.set_cons_zero, List.set_cons_succ]
  have I1 := (HF1.out.below B1.out).box
  have c1 : w1.cell? ⟨b, k, none⟩ = some (.pointer (p k)) := (I1.cell k).trans (by simpa using cellsF_wat p g hk)
  have f1 := I1.frozen k
  have l1 := I1.lt
  clear I1
  refine wpAnyH_ready (rs := [13]) (by kernel_rfl) (by simp) ?_
  refine AllReadyH.cons (o := { dst := none, op := .store 126 (.tmp 20) (.tmp 17), type := _, pos := _, after := _, guard := _ }) rfl (fun K hK => ?_) AllReadyH.nil
  go_simp
  refine hK.out _ _ trivial (fun hS3 => ?_)
  clear hK K
  try simp only [Act.put, List.setIfInBounds_toArray, List.set_cons_zero, List.set_cons_succ]
  refine wpAnyH_done (by kernel_rfl) ?_ _
  go_wp2_with fail
  go_end0
  exact ⟨rfl, ⟨_, _, _, HF1.out.watched hk B1.out T1.out HZ.out⟩, Went.trans (Went.of_below HBD.out) ⟨(Law.Touch.of_below B1.out S).trans (Law.Touch.store w1 ⟨b, k, none⟩ _ HF1.out.inn) (fun n hn => .inl hn), fun n hn => .inl hn, fun t ht _ _ => (Keeps.of_below B1.out).trans (Keeps.store (HF1.out.below B1.out).box ht (i := k) _)⟩⟩
set_option maxHeartbeats 1000000 in
theorem watch_no {who : Int} (h : ¬ (0 ≤ who ∧ who < 8)) (b : Nat) (u : ByteArray) (w : World) :
    Calls Tryz.prog 94 #[.pointer (some ⟨b, 0, none⟩), .int .i64 who, .string u] w fun e w' => e = .returned (.tuple #[]) ∧ w = w' := by
  have HC := Lib.hid (client_no h)
  clear h
  go_enter Tryz.func94, Tryz.ntmps94
  go_wp2_with fail
  refine (HC.out w).mono ?_
  rintro e w' ⟨rfl, rfl⟩
  go_wp2_with fail
  go_end0
  exact ⟨rfl, rfl⟩
set_option maxHeartbeats 1000000 in
theorem unwatch_no {who : Int} (h : ¬ (0 ≤ who ∧ who < 8)) (b : Nat) (u : ByteArray) (w : World) :
    Calls Tryz.prog 64 #[.pointer (some ⟨b, 0, none⟩), .int .i64 who, .string u] w fun e w' => e = .returned (.tuple #[]) ∧ w = w' := by
  have HC := Lib.hid (client_no h)
  clear h
  go_enter Tryz.func64, Tryz.ntmps64
  go_wp2_with fail
  refine (HC.out w).mono ?_
  rintro e w' ⟨rfl, rfl⟩
  go_wp2_with fail
  go_end0
  exact ⟨rfl, rfl⟩
set_option maxHeartbeats 1000000 in
theorem drain_no {who : Int} (h : ¬ (0 ≤ who ∧ who < 8)) (b : Nat) (w : World) :
    Calls Tryz.prog 90 #[.pointer (some ⟨b, 0, none⟩), .int .i64 who] w fun e w' => e = .returned (.tuple #[.slice none 0 0, .bool false]) ∧ w = w' := by
  have HC := Lib.hid (client_no h)
  clear h
  go_enter Tryz.func90, Tryz.ntmps90
  go_wp2_with fail
  refine (HC.out w).mono ?_
  rintro e w' ⟨rfl, rfl⟩
  go_wp2_with fail
  go_ret2
  exact ⟨rfl, rfl⟩

/-- the cells of a new feed, j of whose queues are made -/
def cellsN (N j : Nat) : Array Value := #[.pointer none, .pointer none, .pointer none, .pointer none, .pointer none, .pointer none, .pointer none, .pointer none,
  .pointer (if 0 < j then some ⟨N + 1 + 0, 0, none⟩ else none), .pointer (if 1 < j then some ⟨N + 1 + 1, 0, none⟩ else none), .pointer (if 2 < j then some ⟨N + 1 + 2, 0, none⟩ else none), .pointer (if 3 < j then some ⟨N + 1 + 3, 0, none⟩ else none),
  .pointer (if 4 < j then some ⟨N + 1 + 4, 0, none⟩ else none), .pointer (if 5 < j then some ⟨N + 1 + 5, 0, none⟩ else none), .pointer (if 6 < j then some ⟨N + 1 + 6, 0, none⟩ else none), .pointer (if 7 < j then some ⟨N + 1 + 7, 0, none⟩ else none)]
theorem cellsN_at (N : Nat) {j : Nat} (h : j < 8) : (cellsN N j)[8 + j]? = some (.pointer none) := by
  match j, h with
  | 0, _ | 1, _ | 2, _ | 3, _ | 4, _ | 5, _ | 6, _ | 7, _ => rfl
theorem cellsN_next (N : Nat) {j : Nat} (h : j < 8) : (cellsN N j).setIfInBounds (8 + j) (.pointer (some ⟨N + 1 + j, 0, none⟩)) = cellsN N (j + 1) := by
  match j, h with
  | 0, _ | 1, _ | 2, _ | 3, _ | 4, _ | 5, _ | 6, _ | 7, _ => rfl
/-- nobody watches, nothing was told -/
def St.zero : St := ⟨fun _ => [], fun _ => [], fun _ => false⟩
set_option maxRecDepth 100000 in
set_option maxHeartbeats 2000000 in
theorem new (room : Int) (w : World) {base : Nat} (hbase : base ≤ w.heap.size) :
    Calls Tryz.prog 34 #[.int .i64 room] w fun e w' => e = .returned (.pointer (some ⟨w.heap.size, 0, none⟩)) ∧ Fed w' base (fun n => w.heap.size ≤ n ∧ n < w'.heap.size) w.heap.size room.toNat St.zero ∧ Below w.heap.size w w' := by
  go_enter Tryz.func34, Tryz.ntmps34
  go_wp2_with fail
  go_loopw [7] (fun i wr => ∃ j : Nat, j ≤ 8 ∧ i = .int .i64 j ∧ Is wr w.heap.size 131 (cellsN w.heap.size j) ∧ wr.heap.size = w.heap.size + 1 + j ∧ (∀ k, k < j → Is wr (w.heap.size + 1 + k) 168 #[.int .i64 (room.toNat : Int), .slice none 0 0, .bool false]) ∧ Below w.heap.size w wr) (fun i _ => 8 - (intOf i).toNat)
  case atStart => exact ⟨0, Nat.zero_le _, rfl, Is.new w _ _ rfl, by simp, fun k hk => by omega, (Below.refl _ w).alloc (Nat.le_refl _) _⟩
  case round =>
    obtain ⟨j, hj, rfl, hI, hs, hR, hB⟩ := hrel
    have HI := Lib.hid hI
    have HS := Lib.hid hs
    have HR := Lib.hid hR
    have HB := Lib.hid hB
    have hs1 : w.heap.size < wr.heap.size := by omega
    clear hI hs hR hB
    by_cases hlt : j < 8
    · have c0 : wr.cell? ⟨w.heap.size, 8 + j, none⟩ = some (.pointer none) := (HI.out.cell _).trans (by simpa using cellsN_at w.heap.size hlt)
      have f0 := HI.out.frozen (8 + j)
      have hj7 : j ≤ 7 := by omega
      have d1 : decide ((j : Int) < 8) = true := by simp; omega
      go_wp2_with fail
      have HI1 : Hid (Is wr.drew w.heap.size 131 (cellsN w.heap.size j)) := HI.out.drewN 1
      have HB1 : Hid (Below w.heap.size w wr.drew) := Law.below_drewN HB.out 1
      have HS1 : Hid (wr.drew.heap.size = w.heap.size + 1 + j) := HS.out
      have HR1 : Hid (∀ k, k < j → Is wr.drew (w.heap.size + 1 + k) 168 #[.int .i64 (room.toNat : Int), .slice none 0 0, .bool false]) := fun k hk => (HR.out k hk).drewN 1
      have hs2 : w.heap.size < wr.drew.heap.size := hs1
      clear HI HB HS HR c0 f0 hs1
      refine wp_region_held_drew (S := fun _ => True) (by kernel_rfl) trivial (fun hS0 => ?_)
      refine wpAnyH_take (i := 0) (oi := { dst := some 10, op := .move (.tmp 3), type := _, pos := _, after := _, guard := _ }) (v := .pointer (some ⟨w.heap.size, 0, none⟩)) rfl (by kernel_rfl) (by kernel_rfl) (by kernel_rfl) (fun _ _ _ h => h) (Or.inl ⟨by rfl, ?_⟩) hS0 ?_
      · intro w' hSw
        go_simp
      try simp only [Act.put, List.setIfInBounds_toArray, List.set_cons_zero, List.set_cons_succ]
      refine wpAnyH_take (i := 1) (oi := { dst := some 11, op := .move (.tmp 4), type := _, pos := _, after := _, guard := _ }) (v := .int .i64 (j : Int)) rfl (by kernel_rfl) (by kernel_rfl) (by kernel_rfl) (fun _ _ _ h => h) (Or.inl ⟨by rfl, ?_⟩) hS0 ?_
      · intro w' hSw
        go_simp
      try simp only [Act.put, List.setIfInBounds_toArray, List.set_cons_zero, List.set_cons_succ]
      refine wpAnyH_take (i := 2) (oi := { dst := some 12, op := .move (.tmp 0), type := _, pos := _, after := _, guard := _ }) (v := .int .i64 room) rfl (by kernel_rfl) (by kernel_rfl) (by kernel_rfl) (fun _ _ _ h => h) (Or.inl ⟨by rfl, ?_⟩) hS0 ?_
      · intro w' hSw
        go_simp
      try simp only [Act.put, List.setIfInBounds_toArray, List.set_cons_zero, List.set_cons_succ]
      refine wpAnyH_take (i := 4) (oi := { dst := some 14, op := .nilCheck (.tmp 10), type := _, pos := _, after := _, guard := _ }) (v := .pointer (some ⟨w.heap.size, 0, none⟩)) rfl (by kernel_rfl) (by kernel_rfl) (by kernel_rfl) (fun _ _ _ h => h) (Or.inl ⟨by rfl, ?_⟩) hS0 ?_
      · intro w' hSw
        go_simp
      try simp only [Act.put, List.setIfInBounds_toArray, List.set_cons_zero, List.set_cons_succ]
      refine wpAnyH_take (i := 5) (oi := { dst := some 15, op := .fieldAddr 131 (.tmp 14) 1, type := _, pos := _, after := _, guard := _ }) (v := .pointer (some ⟨w.heap.size, 8, none⟩)) rfl (by kernel_rfl) (by kernel_rfl) (by kernel_rfl) (fun _ _ _ h => h) (Or.inl ⟨by rfl, ?_⟩) hS0 ?_
      · intro w' hSw
        go_simp
      try simp only [Act.put, List.setIfInBounds_toArray, List.set_cons_zero, List.set_cons_succ]
      generalize wr.drew = wd at *
      refine wpAnyH_ready (rs := [3]) (by kernel_rfl) (by simp) ?_
      refine AllReadyH.cons (o := { dst := some 13, op := .call { callee := .value (.func 66), args := #[.tmp 12], argTypes := _ }, type := _, pos := _, after := _, guard := _ }) rfl (fun K hK => ?_) AllReadyH.nil
      go_simp
      refine Calls.mono (RingE.new room _) ?_
      rintro e w1 ⟨rfl, hw1⟩
      have HW := Lib.hid hw1
      clear hw1
      go_wp2_with fail
      refine hK.out _ _ trivial (fun hS2 => ?_)
      clear hK K
      try simp only [Act.put, List.setIfInBounds_toArray, List.set_cons_zero, List.set_cons_succ]
      refine wpAnyH_take (i := 6) (oi := { dst := some 16, op := .indexAddr 129 (.tmp 15) (.tmp 11), type := _, pos := _, after := _, guard := _ }) (v := .pointer (some ⟨w.heap.size, 8 + j, none⟩)) rfl (by kernel_rfl) (by kernel_rfl) (by kernel_rfl) (fun _ _ _ h => h) (Or.inl ⟨by rfl, ?_⟩) hS2 ?_
      · intro w' hSw
        go_simp; (try (intro h8; omega))
      try simp only [Act.put, List.setIfInBounds_toArray, List.set_cons_zero, List.set_cons_succ]
      have I1 : Is w1 w.heap.size 131 (cellsN w.heap.size j) := by rw [← HW.out]; exact HI1.out.alloc _
      have c1 : w1.cell? ⟨w.heap.size, 8 + j, none⟩ = some (.pointer none) := (I1.cell _).trans (by simpa using cellsN_at w.heap.size hlt)
      have f1 := I1.frozen (8 + j)
      have l1 := I1.lt
      have HI2 := Lib.hid I1
      clear I1
      refine wpAnyH_ready (rs := [7]) (by kernel_rfl) (by simp) ?_
      refine AllReadyH.cons (o := { dst := none, op := .store 128 (.tmp 16) (.tmp 13), type := _, pos := _, after := _, guard := _ }) rfl (fun K hK => ?_) AllReadyH.nil
      go_simp
      refine hK.out _ _ trivial (fun hS3 => ?_)
      clear hK K
      try simp only [Act.put, List.setIfInBounds_toArray, List.set_cons_zero, List.set_cons_succ]
      refine wpAnyH_done (by kernel_rfl) ?_ _
      go_wp2_with fail
      go_roundw
      case rel =>
        have hw : w1 = wd.alloc _ := HW.out.symm
        have hsz : w1.heap.size = wd.heap.size + 1 := by rw [hw]; simp
        have hs := HS1.out
        refine ⟨j + 1, by omega, by go_num, HI2.out.set _ _ (by rw [hs]; exact cellsN_next w.heap.size hlt), by simp; omega, fun k hk => ?_, (HB1.out.trans ((show Below wd.heap.size wd w1 by rw [hw]; exact (Below.refl _ wd).alloc (Nat.le_refl _) _).mono (by omega))).setCell (Nat.le_refl _) _⟩
        refine Is.far (p := ⟨w.heap.size, 8 + j, none⟩) ?_ (by show w.heap.size + 1 + k ≠ w.heap.size; omega) _
        by_cases e : k = j
        · subst e
          rw [hw]
          exact Is.new wd _ _ (by omega)
        · rw [hw]
          exact (HR1.out k (by omega)).alloc _
      case measure => simp [intOf]; omega
    · have e8 : j = 8 := by omega
      subst e8
      go_wp2_with fail
      go_ret
      refine ⟨rfl, ⟨fun _ => none, fun k => w.heap.size + 1 + k, fun k n => n = w.heap.size + 1 + k, ?_⟩, HB.out⟩
      have hs := HS.out
      refine ⟨HI.out, fun k hk => .nil, fun k hk => Rises.nil, fun k hk => ⟨.slice none 0 0, HR.out k hk, World.ownsRow_nil _ _ _ _, rfl, fun g h => by simp [Value.ownBlock] at h, fun n hn => by omega⟩, fun a b _ _ hne n hn hm => by omega, fun k hk h => by omega, by omega, fun k hk n hn => by omega, fun n hn => ⟨by omega, hn.2⟩⟩
end Feed
end Go.Proofs.YtdkjcheannehhaaGreat
