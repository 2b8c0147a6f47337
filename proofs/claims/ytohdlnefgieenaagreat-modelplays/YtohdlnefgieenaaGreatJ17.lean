/-
  What the calls of a feed (layer 9) come to: client, New, Watching, Count.
-/
import Derived.Test.YtohdlnefgieenaaGreatJ15
import Derived.Test.YtohdlnefgieenaaGreatJ16
import Derived.Test.YtohdlnefgieenaaGreatJ3
import Derived.Lib.QuietBelow
namespace Go.Proofs.YtohdlnefgieenaaGreat
open Go.RowKit Go.Shelf
attribute [local go_sem] Oper.semAt_some
namespace Feed
open Go.Law
structure St where
 wat : Nat → List (ByteArray × Int)
 que : Nat → List Ev
 los : Nat → Bool
def cellsF (p : Nat → Option Addr) (g : Nat → Nat) : Array Value := #[.pointer (p 0), .pointer (p 1), .pointer (p 2), .pointer (p 3), .pointer (p 4), .pointer (p 5), .pointer (p 6), .pointer (p 7),
 .pointer (some ⟨g 0, 0, none⟩), .pointer (some ⟨g 1, 0, none⟩), .pointer (some ⟨g 2, 0, none⟩), .pointer (some ⟨g 3, 0, none⟩), .pointer (some ⟨g 4, 0, none⟩), .pointer (some ⟨g 5, 0, none⟩), .pointer (some ⟨g 6, 0, none⟩), .pointer (some ⟨g 7, 0, none⟩)]
theorem cellsF_wat (p : Nat → Option Addr) (g : Nat → Nat) {k : Nat} (h : k < 8) : (cellsF p g)[k]? = some (.pointer (p k)) := by
 match k, h with
 | 0, _ | 1, _ | 2, _ | 3, _ | 4, _ | 5, _ | 6, _ | 7, _ => rfl
theorem cellsF_que (p : Nat → Option Addr) (g : Nat → Nat) {k : Nat} (h : k < 8) : (cellsF p g)[8 + k]? = some (.pointer (some ⟨g k, 0, none⟩)) := by
 match k, h with
 | 0, _ | 1, _ | 2, _ | 3, _ | 4, _ | 5, _ | 6, _ | 7, _ => rfl
theorem cellsF_set (p : Nat → Option Addr) (g : Nat → Nat) (q : Option Addr) {k : Nat} (h : k < 8) : (cellsF p g).setIfInBounds k (.pointer q) = cellsF (fun i => if i = k then q else p i) g := by
 match k, h with
 | 0, _ | 1, _ | 2, _ | 3, _ | 4, _ | 5, _ | 6, _ | 7, _ => rfl
structure FedV (w : World) (base : Nat) (S : Nat → Prop) (b room : Nat) (p : Nat → Option Addr) (g : Nat → Nat) (Sk : Nat → Nat → Prop) (s : St) : Prop where
 box : Is w b 121 (cellsF p g)
 tree : ∀ k, k < 8 → OmapU.At w w.heap.size (p k) (s.wat k)
 rise : ∀ k, k < 8 → Rises OmapU.lt (s.wat k)
 ring : ∀ k, k < 8 → RingE.At w base (Sk k) (g k) room (s.que k) (s.los k)
 apart : ∀ i j, i < 8 → j < 8 → i ≠ j → ∀ n, Sk i n → ¬ Sk j n
 out : ∀ k, k < 8 → ¬ Sk k b
 inn : S b
 sub : ∀ k, k < 8 → ∀ n, Sk k n → S n
 ok : ∀ n, S n → base ≤ n ∧ n < w.heap.size
def Fed (w : World) (base : Nat) (S : Nat → Prop) (b room : Nat) (s : St) : Prop := ∃ p g Sk, FedV w base S b room p g Sk s
section
variable {w w' : World} {base b room : Nat} {S T : Nat → Prop} {p : Nat → Option Addr} {g : Nat → Nat} {Sk : Nat → Nat → Prop} {s : St}
theorem FedV.touch (h : FedV w base S b room p g Sk s) (ht : Law.Touch w w' T) (hd : ∀ k, S k → ¬ T k) (hk : Keeps 200 w w') : FedV w' base S b room p g Sk s :=
 ⟨ht.is h.box (hd _ h.inn), fun k hk' => ((h.tree k hk').keeps hk).wide ht.size, h.rise, fun k hk' => (h.ring k hk').touch ht (fun n hn => hd n (h.sub k hk' n hn)), h.apart, h.out, h.inn, h.sub, fun n hn => ⟨(h.ok n hn).1, Nat.lt_of_lt_of_le (h.ok n hn).2 ht.size⟩⟩
theorem Fed.touch (h : Fed w base S b room s) (ht : Law.Touch w w' T) (hd : ∀ k, S k → ¬ T k) (hk : Keeps 200 w w') : Fed w' base S b room s := by
 obtain ⟨p, g, Sk, h⟩ := h
 exact ⟨p, g, Sk, h.touch ht hd hk⟩
theorem FedV.below (h : FedV w base S b room p g Sk s) (hb : Below w.heap.size w w') : FedV w' base S b room p g Sk s := h.touch (Law.Touch.of_below hb fun _ => False) (fun _ _ h => h) (Keeps.of_below hb)
theorem Fed.below (h : Fed w base S b room s) (hb : Below w.heap.size w w') : Fed w' base S b room s := h.touch (Law.Touch.of_below hb fun _ => False) (fun _ _ h => h) (Keeps.of_below hb)
theorem Fed.ok (h : Fed w base S b room s) : ∀ n, S n → base ≤ n ∧ n < w.heap.size := by obtain ⟨_, _, _, h⟩ := h; exact h.ok
end
structure Went (w : World) (S : Nat → Prop) (w' : World) (S' : Nat → Prop) : Prop where
 touch : Law.Touch w w' S
 new : ∀ n, S' n → S n ∨ w.heap.size ≤ n
 calm : ∀ t, t ≠ 121 → t ≠ 159 → t ≠ 63 → Keeps t w w'
section
variable {w w' w'' : World} {S S' S'' : Nat → Prop}
theorem Went.refl (w : World) (S : Nat → Prop) : Went w S w S := ⟨Law.Touch.refl _ _, fun _ h => .inl h, fun t _ _ _ => Keeps.refl t w⟩
theorem Went.trans (h : Went w S w' S') (h' : Went w' S' w'' S'') : Went w S w'' S'' :=
 ⟨h.touch.trans h'.touch h.new, fun n hn => (h'.new n hn).elim (h.new n) (fun hl => .inr (Nat.le_trans h.touch.size hl)), fun t h1 h2 h3 => (h.calm t h1 h2 h3).trans (h'.calm t h1 h2 h3)⟩
theorem Went.of_below (hb : Below w.heap.size w w') : Went w S w' S := ⟨Law.Touch.of_below hb S, fun _ h => .inl h, fun _ _ _ _ => Keeps.of_below hb⟩
theorem Went.is (h : Went w S w' S') {g : Nat} {t : TypeId} {cs : Array Value} (hi : Is w g t cs) (hg : ¬ S g) : Is w' g t cs := h.touch.is hi hg
theorem Went.off (h : Went w S w' S') {g : Nat} (hl : g < w.heap.size) (hg : ¬ S g) : ¬ S' g := fun h' => (h.new g h').elim hg (fun h => by omega)
end
set_option maxHeartbeats 400000 in
theorem client_yes {k : Nat} (h : k < 8) (w : World) :
  Calls Tryz.prog 80 #[.int .i64 (k : Int)] w fun e w' => e = .returned (.bool true) ∧ w = w' := by
 have d1 : decide ((0 : Int) ≤ (k : Int)) = true := by simp
 have d2 : decide ((k : Int) < 8) = true := by simp; omega
 go_enter Tryz.func80, Tryz.ntmps80
 go_wp2
 go_ret
 exact ⟨rfl, rfl⟩
def St.has (s : St) (k : Nat) (u : ByteArray) : Bool := (getK u (s.wat k)).isSome
set_option maxHeartbeats 1000000 in
theorem watching {w : World} {base b room k : Nat} {S : Nat → Prop} {s : St} (h : Fed w base S b room s) (hk : k < 8) (u : ByteArray) :
  Calls Tryz.prog 77 #[.pointer (some ⟨b, 0, none⟩), .int .i64 (k : Int), .string u] w fun e w' => e = .returned (.bool (s.has k u)) ∧ Below w.heap.size w w' := by
 obtain ⟨p, g, Sk, h⟩ := h
 have HC := Lib.hid (client_yes hk)
 have HG := Lib.hid (OmapU.get u (h.tree k hk) (Nat.le_refl _) (h.rise k hk))
 have c0 : w.cell? ⟨b, k, none⟩ = some (.pointer (p k)) := (h.box.cell k).trans (by simpa using cellsF_wat p g hk)
 have hk1 : k ≤ 7 := by omega
 have lb := h.box.lt
 clear h
 go_enter Tryz.func77, Tryz.ntmps77
 go_wp2_with fail
 refine (HC.out w).mono ?_
 rintro e w' ⟨rfl, rfl⟩
 go_wp2_with fail
 refine HG.out.mono ?_
 rintro e w' ⟨rfl, hb⟩
 go_wp2_with fail
 go_ret
 exact ⟨rfl, hb.alloc hb.size _⟩
set_option maxHeartbeats 1000000 in
theorem count {w : World} {base b room k : Nat} {S : Nat → Prop} {s : St} (h : Fed w base S b room s) (hk : k < 8) :
  Calls Tryz.prog 102 #[.pointer (some ⟨b, 0, none⟩), .int .i64 (k : Int)] w fun e w' => e = .returned (.int .i64 ((s.wat k).length : Int)) ∧ Below w.heap.size w w' := by
 obtain ⟨p, g, Sk, h⟩ := h
 have HC := Lib.hid (client_yes hk)
 have HG := Lib.hid (OmapU.len (h.tree k hk) (Nat.le_refl _))
 have c0 : w.cell? ⟨b, k, none⟩ = some (.pointer (p k)) := (h.box.cell k).trans (by simpa using cellsF_wat p g hk)
 have hk1 : k ≤ 7 := by omega
 have lb := h.box.lt
 clear h
 go_enter Tryz.func102, Tryz.ntmps102
 go_wp2_with fail
 refine (HC.out w).mono ?_
 rintro e w' ⟨rfl, rfl⟩
 go_wp2_with fail
 refine HG.out.mono ?_
 rintro e w' ⟨rfl, rfl⟩
 go_wp2_with fail
 go_ret
 exact ⟨rfl, (Below.refl _ w).alloc (Nat.le_refl _) _⟩
def upd {α : Type} (f : Nat → α) (k : Nat) (a : α) : Nat → α := fun i => if i = k then a else f i
theorem upd_same {α : Type} (f : Nat → α) (k : Nat) (a : α) : upd f k a k = a := by simp [upd]
theorem upd_other {α : Type} (f : Nat → α) {k i : Nat} (a : α) (h : i ≠ k) : upd f k a i = f i := by simp [upd, h]
theorem FedV.watched {w w' : World} {base b room k : Nat} {S : Nat → Prop} {p : Nat → Option Addr} {g : Nat → Nat} {Sk : Nat → Nat → Prop} {s : St} (h : FedV w base S b room p g Sk s) (hk : k < 8) (hb : Below w.heap.size w w') {q : Option Addr} {zs : List (ByteArray × Int)} (hq : OmapU.At w' w'.heap.size q zs) (hz : Rises OmapU.lt zs) :
  FedV (w'.setCell ⟨b, k, none⟩ (.pointer q)) base S b room (upd p k q) g Sk { s with wat := upd s.wat k zs } := by
 have h' := h.below hb
 have ht := Law.Touch.store (T := fun n => n = b) w' ⟨b, k, none⟩ (.pointer q) rfl
 have hK := Keeps.store (t := 200) h'.box (by decide) (i := k) (.pointer q)
 refine ⟨?_, ?_, ?_, ?_, h.apart, h.out, h.inn, h.sub, ?_⟩
 ·exact h'.box.set k (.pointer q) (cellsF_set _ _ _ hk)
 ·intro i hi
  show OmapU.At _ _ (upd p k q i) (upd s.wat k zs i)
  by_cases e : i = k
  ·subst e
   rw [upd_same, upd_same]
   exact (hq.keeps hK).wide ht.size
  ·rw [upd_other _ _ e, upd_other _ _ e]
   exact ((h'.tree i hi).keeps hK).wide ht.size
 ·intro i hi
  show Rises OmapU.lt (upd s.wat k zs i)
  by_cases e : i = k
  ·subst e
   rw [upd_same]
   exact hz
  ·rw [upd_other _ _ e]
   exact h.rise i hi
 ·intro i hi
  exact (h'.ring i hi).touch ht (fun n hn e => h.out i hi (e ▸ hn))
 ·intro n hn
  have := h'.ok n hn
  simpa using this
set_option maxRecDepth 100000 in
set_option maxHeartbeats 1000000 in
theorem watch {w : World} {base b room k : Nat} {S : Nat → Prop} {s : St} (h : Fed w base S b room s) (hk : k < 8) (u : ByteArray) (hl : (s.wat k).length ≤ 999) :
  Calls Tryz.prog 79 #[.pointer (some ⟨b, 0, none⟩), .int .i64 (k : Int), .string u] w fun e w' => e = .returned (.tuple #[]) ∧ Fed w' base S b room { s with wat := upd s.wat k (putK OmapU.lt u 0 (s.wat k)) } ∧ Went w S w' S := by
 obtain ⟨p, g, Sk, h⟩ := h
 have HC := Lib.hid (client_yes hk)
 have HF := Lib.hid h
 have HG := Lib.hid (OmapU.withM u 0 (h.tree k hk) (Nat.le_refl _) (h.rise k hk) hl)
 have c0 : w.cell? ⟨b, k, none⟩ = some (.pointer (p k)) := (h.box.cell k).trans (by simpa using cellsF_wat p g hk)
 have hk1 : k ≤ 7 := by omega
 have lb := h.box.lt
 clear h
 go_enter Tryz.func79, Tryz.ntmps79
 go_wp2_with fail
 refine (HC.out w).mono ?_
 rintro e w' ⟨rfl, rfl⟩
 go_wp2_with fail
 have HF1 : Hid (FedV w.drew base S b room p g Sk s) := HF.out.touch (Law.Touch.drewN w 1 fun _ => False) (fun _ _ h => h) (Keeps.drewN _ w 1)
 have hbd : Below w.heap.size w w.drew := Law.below_drewN (Below.refl _ w) 1
 have HBD := Lib.hid hbd
 have HZ := Lib.hid (putK_rises OmapU.lt OmapU.tri (k := u) (v := (0 : Int)) (HF.out.rise k hk))
 clear hbd
 refine wp_region_held_drew (S := fun _ => True) (by kernel_rfl) trivial (fun hS0 => ?_)
 refine Go.Law.tk 0 ⟨some 8, .move (.tmp 0), _, _, _, _⟩ (v := .pointer (some ⟨b, 0, none⟩)) hS0 ?_ ?_
 ·intro w' hSw
  go_simp
 try simp only [Go.Law.pz]
 refine Go.Law.tk 1 ⟨some 9, .move (.tmp 1), _, _, _, _⟩ (v := .int .i64 (k : Int)) hS0 ?_ ?_
 ·intro w' hSw
  go_simp
 try simp only [Go.Law.pz]
 refine Go.Law.tk 2 ⟨some 10, .move (.tmp 0), _, _, _, _⟩ (v := .pointer (some ⟨b, 0, none⟩)) hS0 ?_ ?_
 ·intro w' hSw
  go_simp
 try simp only [Go.Law.pz]
 refine Go.Law.tk 3 ⟨some 11, .move (.tmp 1), _, _, _, _⟩ (v := .int .i64 (k : Int)) hS0 ?_ ?_
 ·intro w' hSw
  go_simp
 try simp only [Go.Law.pz]
 refine Go.Law.tk 4 ⟨some 12, .nilCheck (.tmp 10), _, _, _, _⟩ (v := .pointer (some ⟨b, 0, none⟩)) hS0 ?_ ?_
 ·intro w' hSw
  go_simp
 try simp only [Go.Law.pz]
 refine Go.Law.tk 5 ⟨some 13, .fieldAddr 121 (.tmp 12) 0, _, _, _, _⟩ (v := .pointer (some ⟨b, 0, none⟩)) hS0 ?_ ?_
 ·intro w' hSw
  go_simp
 try simp only [Go.Law.pz]
 refine Go.Law.tk 6 ⟨some 14, .indexAddr 117 (.tmp 13) (.tmp 11), _, _, _, _⟩ (v := .pointer (some ⟨b, k, none⟩)) hS0 ?_ ?_
 ·intro w' hSw
  go_simp; (try (intro h8; omega))
 try simp only [Go.Law.pz]
 refine Go.Law.tk 8 ⟨some 16, .move (.tmp 2), _, _, _, _⟩ (v := .string u) hS0 ?_ ?_
 ·intro w' hSw
  go_simp
 try simp only [Go.Law.pz]
 refine Go.Law.tk 9 ⟨some 17, .build 157 #[], _, _, _, _⟩ (v := .agg #[]) hS0 ?_ ?_
 ·intro w' hSw
  go_simp
 try simp only [Go.Law.pz]
 refine Go.Law.tk 11 ⟨some 19, .nilCheck (.tmp 8), _, _, _, _⟩ (v := .pointer (some ⟨b, 0, none⟩)) hS0 ?_ ?_
 ·intro w' hSw
  go_simp
 try simp only [Go.Law.pz]
 refine Go.Law.tk 12 ⟨some 20, .fieldAddr 121 (.tmp 19) 0, _, _, _, _⟩ (v := .pointer (some ⟨b, 0, none⟩)) hS0 ?_ ?_
 ·intro w' hSw
  go_simp
 try simp only [Go.Law.pz]
 refine wpAnyH_ready (rs := [7]) (by kernel_rfl) (by simp) ?_
 refine AllReadyH.cons (o := ⟨some 15, .load 116 (.tmp 14), _, _, _, _⟩) rfl (fun K hK => ?_) AllReadyH.nil
 go_simp
 refine hK.out _ _ trivial (fun hS1 => ?_)
 clear hK K
 try simp only [Go.Law.pz]
 refine wpAnyH_ready (rs := [10]) (by kernel_rfl) (by simp) ?_
 refine AllReadyH.cons (o := ⟨some 18, .call { callee := .value (.func 103), args := #[.tmp 15, .tmp 16, .tmp 17], argTypes := _ }, _, _, _, _⟩) rfl (fun K hK => ?_) AllReadyH.nil
 go_simp
 refine Calls.mono (OmapU.withM u 0 (HF1.out.tree k hk) (Nat.le_refl _) (HF1.out.rise k hk) hl) ?_
 rintro e w1 ⟨p1, rfl, t1, b1⟩
 have T1 := Lib.hid t1
 have B1 := Lib.hid b1
 clear t1 b1
 go_wp2_with fail
 refine hK.out _ _ trivial (fun hS2 => ?_)
 clear hK K
 try simp only [Go.Law.pz]
 refine Go.Law.tk 13 ⟨some 21, .indexAddr 117 (.tmp 20) (.tmp 9), _, _, _, _⟩ (v := .pointer (some ⟨b, k, none⟩)) hS2 ?_ ?_
 ·intro w' hSw
  go_simp; (try (intro h8; omega))
 try simp only [Go.Law.pz]
 have I1 := (HF1.out.below B1.out).box
 have c1 : w1.cell? ⟨b, k, none⟩ = some (.pointer (p k)) := (I1.cell k).trans (by simpa using cellsF_wat p g hk)
 have f1 := I1.frozen k
 have l1 := I1.lt
 clear I1
 refine wpAnyH_ready (rs := [14]) (by kernel_rfl) (by simp) ?_
 refine AllReadyH.cons (o := ⟨none, .store 116 (.tmp 21) (.tmp 18), _, _, _, _⟩) rfl (fun K hK => ?_) AllReadyH.nil
 go_simp
 refine hK.out _ _ trivial (fun hS3 => ?_)
 clear hK K
 try simp only [Go.Law.pz]
 refine wpAnyH_done (by kernel_rfl) ?_ _
 go_wp2_with fail
 go_end0
 exact ⟨rfl, ⟨_, _, _, HF1.out.watched hk B1.out T1.out HZ.out⟩, Went.trans (Went.of_below HBD.out) ⟨(Law.Touch.of_below B1.out S).trans (Law.Touch.store w1 ⟨b, k, none⟩ _ HF1.out.inn) (fun n hn => .inl hn), fun n hn => .inl hn, fun t ht _ _ => (Keeps.of_below B1.out).trans (Keeps.store (HF1.out.below B1.out).box ht (i := k) _)⟩⟩
end Feed
end Go.Proofs.YtohdlnefgieenaaGreat
namespace Go.Proofs.YtohdlnefgieenaaGreat
open Go.RowKit Go.Shelf
attribute [local go_sem] Oper.semAt_some
namespace Feed
open Go.Law
set_option maxRecDepth 100000 in
set_option maxHeartbeats 1000000 in
theorem unwatch {w : World} {base b room k : Nat} {S : Nat → Prop} {s : St} (h : Fed w base S b room s) (hk : k < 8) (u : ByteArray) (hl : (s.wat k).length ≤ 999) :
  Calls Tryz.prog 51 #[.pointer (some ⟨b, 0, none⟩), .int .i64 (k : Int), .string u] w fun e w' => e = .returned (.tuple #[]) ∧ Fed w' base S b room { s with wat := upd s.wat k (outK u (s.wat k)) } ∧ Went w S w' S := by
 obtain ⟨p, g, Sk, h⟩ := h
 have HC := Lib.hid (client_yes hk)
 have HF := Lib.hid h
 have HG := Lib.hid (OmapU.withoutM u (h.tree k hk) (Nat.le_refl _) (h.rise k hk) hl)
 have c0 : w.cell? ⟨b, k, none⟩ = some (.pointer (p k)) := (h.box.cell k).trans (by simpa using cellsF_wat p g hk)
 have hk1 : k ≤ 7 := by omega
 have lb := h.box.lt
 clear h
 go_enter Tryz.func51, Tryz.ntmps51
 go_wp2_with fail
 refine (HC.out w).mono ?_
 rintro e w' ⟨rfl, rfl⟩
 go_wp2_with fail
 have HF1 : Hid (FedV w.drew base S b room p g Sk s) := HF.out.touch (Law.Touch.drewN w 1 fun _ => False) (fun _ _ h => h) (Keeps.drewN _ w 1)
 have hbd : Below w.heap.size w w.drew := Law.below_drewN (Below.refl _ w) 1
 have HBD := Lib.hid hbd
 have HZ := Lib.hid (outK_rises OmapU.lt (k := u) (HF.out.rise k hk))
 clear hbd
 refine wp_region_held_drew (S := fun _ => True) (by kernel_rfl) trivial (fun hS0 => ?_)
 refine Go.Law.tk 0 ⟨some 8, .move (.tmp 0), _, _, _, _⟩ (v := .pointer (some ⟨b, 0, none⟩)) hS0 ?_ ?_
 ·intro w' hSw
  go_simp
 try simp only [Go.Law.pz]
 refine Go.Law.tk 1 ⟨some 9, .move (.tmp 1), _, _, _, _⟩ (v := .int .i64 (k : Int)) hS0 ?_ ?_
 ·intro w' hSw
  go_simp
 try simp only [Go.Law.pz]
 refine Go.Law.tk 2 ⟨some 10, .move (.tmp 0), _, _, _, _⟩ (v := .pointer (some ⟨b, 0, none⟩)) hS0 ?_ ?_
 ·intro w' hSw
  go_simp
 try simp only [Go.Law.pz]
 refine Go.Law.tk 3 ⟨some 11, .move (.tmp 1), _, _, _, _⟩ (v := .int .i64 (k : Int)) hS0 ?_ ?_
 ·intro w' hSw
  go_simp
 try simp only [Go.Law.pz]
 refine Go.Law.tk 4 ⟨some 12, .nilCheck (.tmp 10), _, _, _, _⟩ (v := .pointer (some ⟨b, 0, none⟩)) hS0 ?_ ?_
 ·intro w' hSw
  go_simp
 try simp only [Go.Law.pz]
 refine Go.Law.tk 5 ⟨some 13, .fieldAddr 121 (.tmp 12) 0, _, _, _, _⟩ (v := .pointer (some ⟨b, 0, none⟩)) hS0 ?_ ?_
 ·intro w' hSw
  go_simp
 try simp only [Go.Law.pz]
 refine Go.Law.tk 6 ⟨some 14, .indexAddr 117 (.tmp 13) (.tmp 11), _, _, _, _⟩ (v := .pointer (some ⟨b, k, none⟩)) hS0 ?_ ?_
 ·intro w' hSw
  go_simp; (try (intro h8; omega))
 try simp only [Go.Law.pz]
 refine Go.Law.tk 8 ⟨some 16, .move (.tmp 2), _, _, _, _⟩ (v := .string u) hS0 ?_ ?_
 ·intro w' hSw
  go_simp
 try simp only [Go.Law.pz]
 refine Go.Law.tk 10 ⟨some 18, .nilCheck (.tmp 8), _, _, _, _⟩ (v := .pointer (some ⟨b, 0, none⟩)) hS0 ?_ ?_
 ·intro w' hSw
  go_simp
 try simp only [Go.Law.pz]
 refine Go.Law.tk 11 ⟨some 19, .fieldAddr 121 (.tmp 18) 0, _, _, _, _⟩ (v := .pointer (some ⟨b, 0, none⟩)) hS0 ?_ ?_
 ·intro w' hSw
  go_simp
 try simp only [Go.Law.pz]
 refine wpAnyH_ready (rs := [7]) (by kernel_rfl) (by simp) ?_
 refine AllReadyH.cons (o := ⟨some 15, .load 116 (.tmp 14), _, _, _, _⟩) rfl (fun K hK => ?_) AllReadyH.nil
 go_simp
 refine hK.out _ _ trivial (fun hS1 => ?_)
 clear hK K
 try simp only [Go.Law.pz]
 refine wpAnyH_ready (rs := [9]) (by kernel_rfl) (by simp) ?_
 refine AllReadyH.cons (o := ⟨some 17, .call { callee := .value (.func 81), args := #[.tmp 15, .tmp 16], argTypes := _ }, _, _, _, _⟩) rfl (fun K hK => ?_) AllReadyH.nil
 go_simp
 refine Calls.mono (OmapU.withoutM u (HF1.out.tree k hk) (Nat.le_refl _) (HF1.out.rise k hk) hl) ?_
 rintro e w1 ⟨p1, rfl, t1, b1⟩
 have T1 := Lib.hid t1
 have B1 := Lib.hid b1
 clear t1 b1
 go_wp2_with fail
 refine hK.out _ _ trivial (fun hS2 => ?_)
 clear hK K
 try simp only [Go.Law.pz]
 refine Go.Law.tk 12 ⟨some 20, .indexAddr 117 (.tmp 19) (.tmp 9), _, _, _, _⟩ (v := .pointer (some ⟨b, k, none⟩)) hS2 ?_ ?_
 ·intro w' hSw
  go_simp; (try (intro h8; omega))
 try simp only [Go.Law.pz]
 have I1 := (HF1.out.below B1.out).box
 have c1 : w1.cell? ⟨b, k, none⟩ = some (.pointer (p k)) := (I1.cell k).trans (by simpa using cellsF_wat p g hk)
 have f1 := I1.frozen k
 have l1 := I1.lt
 clear I1
 refine wpAnyH_ready (rs := [13]) (by kernel_rfl) (by simp) ?_
 refine AllReadyH.cons (o := ⟨none, .store 116 (.tmp 20) (.tmp 17), _, _, _, _⟩) rfl (fun K hK => ?_) AllReadyH.nil
 go_simp
 refine hK.out _ _ trivial (fun hS3 => ?_)
 clear hK K
 try simp only [Go.Law.pz]
 refine wpAnyH_done (by kernel_rfl) ?_ _
 go_wp2_with fail
 go_end0
 exact ⟨rfl, ⟨_, _, _, HF1.out.watched hk B1.out T1.out HZ.out⟩, Went.trans (Went.of_below HBD.out) ⟨(Law.Touch.of_below B1.out S).trans (Law.Touch.store w1 ⟨b, k, none⟩ _ HF1.out.inn) (fun n hn => .inl hn), fun n hn => .inl hn, fun t ht _ _ => (Keeps.of_below B1.out).trans (Keeps.store (HF1.out.below B1.out).box ht (i := k) _)⟩⟩
def cellsN (N j : Nat) : Array Value := #[.pointer none, .pointer none, .pointer none, .pointer none, .pointer none, .pointer none, .pointer none, .pointer none,
 .pointer (if 0 < j then some ⟨N + 1 + 0, 0, none⟩ else none), .pointer (if 1 < j then some ⟨N + 1 + 1, 0, none⟩ else none), .pointer (if 2 < j then some ⟨N + 1 + 2, 0, none⟩ else none), .pointer (if 3 < j then some ⟨N + 1 + 3, 0, none⟩ else none),
 .pointer (if 4 < j then some ⟨N + 1 + 4, 0, none⟩ else none), .pointer (if 5 < j then some ⟨N + 1 + 5, 0, none⟩ else none), .pointer (if 6 < j then some ⟨N + 1 + 6, 0, none⟩ else none), .pointer (if 7 < j then some ⟨N + 1 + 7, 0, none⟩ else none)]
theorem cellsN_at (N : Nat) {j : Nat} (h : j < 8) : (cellsN N j)[8 + j]? = some (.pointer none) := by
 match j, h with
 | 0, _ | 1, _ | 2, _ | 3, _ | 4, _ | 5, _ | 6, _ | 7, _ => rfl
theorem cellsN_next (N : Nat) {j : Nat} (h : j < 8) : (cellsN N j).setIfInBounds (8 + j) (.pointer (some ⟨N + 1 + j, 0, none⟩)) = cellsN N (j + 1) := by
 match j, h with
 | 0, _ | 1, _ | 2, _ | 3, _ | 4, _ | 5, _ | 6, _ | 7, _ => rfl
def St.zero : St := ⟨fun _ => [], fun _ => [], fun _ => false⟩
set_option maxRecDepth 100000 in
set_option maxHeartbeats 2000000 in
theorem new (room : Int) (w : World) {base : Nat} (hbase : base ≤ w.heap.size) :
  Calls Tryz.prog 23 #[.int .i64 room] w fun e w' => e = .returned (.pointer (some ⟨w.heap.size, 0, none⟩)) ∧ Fed w' base (fun n => w.heap.size ≤ n ∧ n < w'.heap.size) w.heap.size room.toNat St.zero ∧ Below w.heap.size w w' := by
 go_enter Tryz.func23, Tryz.ntmps23
 go_wp2_with fail
 go_loopw [7] (fun i wr => ∃ j : Nat, j ≤ 8 ∧ i = .int .i64 j ∧ Is wr w.heap.size 121 (cellsN w.heap.size j) ∧ wr.heap.size = w.heap.size + 1 + j ∧ (∀ k, k < j → Is wr (w.heap.size + 1 + k) 159 #[.int .i64 (room.toNat : Int), .slice none 0 0, .bool false]) ∧ Below w.heap.size w wr) (fun i _ => 8 - (intOf i).toNat)
 case atStart => exact ⟨0, Nat.zero_le _, rfl, Is.new w _ _ rfl, by simp, fun k hk => by omega, (Below.refl _ w).alloc (Nat.le_refl _) _⟩
 case round =>
  obtain ⟨j, hj, rfl, hI, hs, hR, hB⟩ := hrel
  have HI := Lib.hid hI
  have HS := Lib.hid hs
  have HR := Lib.hid hR
  have HB := Lib.hid hB
  have hs1 : w.heap.size < wr.heap.size := by omega
  clear hI hs hR hB
  by_cases hlt : j < 8
  ·have c0 : wr.cell? ⟨w.heap.size, 8 + j, none⟩ = some (.pointer none) := (HI.out.cell _).trans (by simpa using cellsN_at w.heap.size hlt)
   have f0 := HI.out.frozen (8 + j)
   have hj7 : j ≤ 7 := by omega
   have d1 : decide ((j : Int) < 8) = true := by simp; omega
   go_wp2_with fail
   have HI1 : Hid (Is wr.drew w.heap.size 121 (cellsN w.heap.size j)) := HI.out.drewN 1
   have HB1 : Hid (Below w.heap.size w wr.drew) := Law.below_drewN HB.out 1
   have HS1 : Hid (wr.drew.heap.size = w.heap.size + 1 + j) := HS.out
   have HR1 : Hid (∀ k, k < j → Is wr.drew (w.heap.size + 1 + k) 159 #[.int .i64 (room.toNat : Int), .slice none 0 0, .bool false]) := fun k hk => (HR.out k hk).drewN 1
   have hs2 : w.heap.size < wr.drew.heap.size := hs1
   clear HI HB HS HR c0 f0 hs1
   refine wp_region_held_drew (S := fun _ => True) (by kernel_rfl) trivial (fun hS0 => ?_)
   refine Go.Law.tk 0 ⟨some 10, .move (.tmp 3), _, _, _, _⟩ (v := .pointer (some ⟨w.heap.size, 0, none⟩)) hS0 ?_ ?_
   ·intro w' hSw
    go_simp
   try simp only [Go.Law.pz]
   refine Go.Law.tk 1 ⟨some 11, .move (.tmp 4), _, _, _, _⟩ (v := .int .i64 (j : Int)) hS0 ?_ ?_
   ·intro w' hSw
    go_simp
   try simp only [Go.Law.pz]
   refine Go.Law.tk 2 ⟨some 12, .move (.tmp 0), _, _, _, _⟩ (v := .int .i64 room) hS0 ?_ ?_
   ·intro w' hSw
    go_simp
   try simp only [Go.Law.pz]
   refine Go.Law.tk 4 ⟨some 14, .nilCheck (.tmp 10), _, _, _, _⟩ (v := .pointer (some ⟨w.heap.size, 0, none⟩)) hS0 ?_ ?_
   ·intro w' hSw
    go_simp
   try simp only [Go.Law.pz]
   refine Go.Law.tk 5 ⟨some 15, .fieldAddr 121 (.tmp 14) 1, _, _, _, _⟩ (v := .pointer (some ⟨w.heap.size, 8, none⟩)) hS0 ?_ ?_
   ·intro w' hSw
    go_simp
   try simp only [Go.Law.pz]
   generalize wr.drew = wd at *
   refine wpAnyH_ready (rs := [3]) (by kernel_rfl) (by simp) ?_
   refine AllReadyH.cons (o := ⟨some 13, .call { callee := .value (.func 53), args := #[.tmp 12], argTypes := _ }, _, _, _, _⟩) rfl (fun K hK => ?_) AllReadyH.nil
   go_simp
   refine Calls.mono (RingE.new room _) ?_
   rintro e w1 ⟨rfl, hw1⟩
   have HW := Lib.hid hw1
   clear hw1
   go_wp2_with fail
   refine hK.out _ _ trivial (fun hS2 => ?_)
   clear hK K
   try simp only [Go.Law.pz]
   refine Go.Law.tk 6 ⟨some 16, .indexAddr 119 (.tmp 15) (.tmp 11), _, _, _, _⟩ (v := .pointer (some ⟨w.heap.size, 8 + j, none⟩)) hS2 ?_ ?_
   ·intro w' hSw
    go_simp; (try (intro h8; omega))
   try simp only [Go.Law.pz]
   have I1 : Is w1 w.heap.size 121 (cellsN w.heap.size j) := by rw [← HW.out]; exact HI1.out.alloc _
   have c1 : w1.cell? ⟨w.heap.size, 8 + j, none⟩ = some (.pointer none) := (I1.cell _).trans (by simpa using cellsN_at w.heap.size hlt)
   have f1 := I1.frozen (8 + j)
   have l1 := I1.lt
   have HI2 := Lib.hid I1
   clear I1
   refine wpAnyH_ready (rs := [7]) (by kernel_rfl) (by simp) ?_
   refine AllReadyH.cons (o := ⟨none, .store 118 (.tmp 16) (.tmp 13), _, _, _, _⟩) rfl (fun K hK => ?_) AllReadyH.nil
   go_simp
   refine hK.out _ _ trivial (fun hS3 => ?_)
   clear hK K
   try simp only [Go.Law.pz]
   refine wpAnyH_done (by kernel_rfl) ?_ _
   go_wp2_with fail
   go_roundw
   case rel =>
    have hw : w1 = wd.alloc _ := HW.out.symm
    have hsz : w1.heap.size = wd.heap.size + 1 := by rw [hw]; simp
    have hs := HS1.out
    refine ⟨j + 1, by omega, by go_num, HI2.out.set _ _ (by rw [hs]; exact cellsN_next w.heap.size hlt), by simp; omega, fun k hk => ?_, (HB1.out.trans ((show Below wd.heap.size wd w1 by rw [hw]; exact (Below.refl _ wd).alloc (Nat.le_refl _) _).mono (by omega))).setCell (Nat.le_refl _) _⟩
    refine Is.far (p := ⟨w.heap.size, 8 + j, none⟩) ?_ (by show w.heap.size + 1 + k ≠ w.heap.size; omega) _
    by_cases e : k = j
    ·subst e
     rw [hw]
     exact Is.new wd _ _ (by omega)
    ·rw [hw]
     exact (HR1.out k (by omega)).alloc _
   case measure => simp [intOf]; omega
  ·have e8 : j = 8 := by omega
   subst e8
   go_wp2_with fail
   go_ret
   refine ⟨rfl, ⟨fun _ => none, fun k => w.heap.size + 1 + k, fun k n => n = w.heap.size + 1 + k, ?_⟩, HB.out⟩
   have hs := HS.out
   refine ⟨HI.out, fun k hk => .nil, fun k hk => Rises.nil, fun k hk => ⟨.slice none 0 0, HR.out k hk, World.ownsRow_nil _ _ _ _, rfl, fun g h => by simp [Value.ownBlock] at h, fun n hn => by omega⟩, fun a b _ _ hne n hn hm => by omega, fun k hk h => by omega, by omega, fun k hk n hn => by omega, fun n hn => ⟨by omega, hn.2⟩⟩
end Feed
end Go.Proofs.YtohdlnefgieenaaGreat
namespace Go.Proofs.YtohdlnefgieenaaGreat
open Go.RowKit Go.Shelf
attribute [local go_sem] Oper.semAt_some
namespace Feed
open Go.Law
theorem FedV.queue {w w' : World} {base b room k : Nat} {S S' Sk' : Nat → Prop} {p : Nat → Option Addr} {g : Nat → Nat} {Sk : Nat → Nat → Prop} {s : St} (h : FedV w base S b room p g Sk s) (hk : k < 8) (ht : Law.Touch w w' (Sk k)) (hK : Keeps 200 w w')
  {zs : List Ev} {lost : Bool} (hr : RingE.At w' base Sk' (g k) room zs lost) (hn : ∀ n, Sk' n → Sk k n ∨ w.heap.size ≤ n) (h1 : ∀ n, S' n → S n ∨ Sk' n) (h2 : ∀ n, S n ∨ Sk' n → S' n) :
  FedV w' base S' b room p g (upd Sk k Sk') { s with que := upd s.que k zs, los := upd s.los k lost } := by
 have old : ∀ i, i < 8 → ∀ n, Sk i n → n < w.heap.size := fun i hi n hn => (h.ok n (h.sub i hi n hn)).2
 refine ⟨ht.is h.box (h.out k hk), fun i hi => ((h.tree i hi).keeps hK).wide ht.size, h.rise, ?_, ?_, ?_, h2 _ (.inl h.inn), ?_, ?_⟩
 ·intro i hi
  show RingE.At w' base (upd Sk k Sk' i) (g i) room (upd s.que k zs i) (upd s.los k lost i)
  by_cases e : i = k
  ·subst e
   rw [upd_same, upd_same, upd_same]
   exact hr
  ·rw [upd_other _ _ e, upd_other _ _ e, upd_other _ _ e]
   exact (h.ring i hi).touch ht (h.apart i k hi hk e)
 ·intro i j hi hj hne n h3 h4
  by_cases ei : i = k
  ·subst ei
   rw [upd_same] at h3
   rw [upd_other _ _ (Ne.symm hne)] at h4
   rcases hn n h3 with h5 | h5
   ·exact h.apart i j hi hj hne n h5 h4
   ·have := old j hj n h4; omega
  ·rw [upd_other _ _ ei] at h3
   by_cases ej : j = k
   ·subst ej
    rw [upd_same] at h4
    rcases hn n h4 with h5 | h5
    ·exact h.apart i j hi hj hne n h3 h5
    ·have := old i hi n h3; omega
   ·rw [upd_other _ _ ej] at h4
    exact h.apart i j hi hj hne n h3 h4
 ·intro i hi h3
  by_cases ei : i = k
  ·subst ei
   rw [upd_same] at h3
   rcases hn b h3 with h5 | h5
   ·exact h.out i hi h5
   ·have := h.box.lt; omega
  ·rw [upd_other _ _ ei] at h3
   exact h.out i hi h3
 ·intro i hi n h3
  by_cases ei : i = k
  ·subst ei
   rw [upd_same] at h3
   exact h2 n (.inr h3)
  ·rw [upd_other _ _ ei] at h3
   exact h2 n (.inl (h.sub i hi n h3))
 ·intro n h3
  rcases h1 n h3 with h4 | h4
  ·exact ⟨(h.ok n h4).1, Nat.lt_of_lt_of_le (h.ok n h4).2 ht.size⟩
  ·exact Ringz.ok hr n h4
end Feed
end Go.Proofs.YtohdlnefgieenaaGreat
