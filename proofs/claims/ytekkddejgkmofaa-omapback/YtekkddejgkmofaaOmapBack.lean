/-
  OmapBack: whatever the acts, the key and the value, the statement's function returns true, and the arguments read as before. No condition.
-/
import Derived.Test.YtekkddejgkmofaaOmap03
namespace Go.Law
section
variable {κ ν : Type} {lt : κ → κ → Prop} [DecidableRel lt] [DecidableEq κ]
theorem outK_put (ht : Tri lt) (k : κ) (v : ν) : ∀ {xs : List (κ × ν)}, Rises lt xs → outK k (putK lt k v xs) = outK k xs
  | [], _ => by simp [putK, outK]
  | p :: r, h => by
    have ih := outK_put ht k v h.tail
    unfold putK
    split
    · rename_i h1
      exact outK_same lt (xs := []) ht (List.pairwise_cons.2 ⟨fun q hq => by rcases List.mem_cons.1 hq with rfl | hq; exact h1; exact ht.tr h1 (h.head q hq), h⟩) |>.trans (by
        rw [List.nil_append]
        exact (outK_none fun q hq => by rcases List.mem_cons.1 hq with rfl | hq; exact (ht.ne h1).symm; exact (ht.ne (ht.tr h1 (h.head q hq))).symm).symm)
    · rename_i h1
      split
      · rename_i h2
        have e : p.1 ≠ k := ht.ne h2
        show outK k (p :: putK lt k v r) = outK k (p :: r)
        rw [outK, outK, List.filter_cons_of_pos (by simpa using e), List.filter_cons_of_pos (by simpa using e)]
        exact congrArg _ ih
      · rename_i h2
        have e : p.1 = k := by rcases ht.tri k p.1 with e | e | e; exact absurd e h1; exact e.symm; exact absurd e h2
        rw [outK, outK, List.filter_cons_of_neg (by simp), List.filter_cons_of_neg (by simp [e])]
theorem getK_put (ht : Tri lt) (k : κ) (v : ν) : ∀ {xs : List (κ × ν)}, Rises lt xs → getK k (putK lt k v xs) = some v
  | [], _ => by simp [putK, getK]
  | p :: r, h => by
    have ih := getK_put ht k v h.tail
    unfold putK
    split
    · simp [getK]
    · split
      · rename_i h2
        rw [getK, if_neg (ht.ne h2), ih]
      · simp [getK]
theorem outK_outK (k : κ) (xs : List (κ × ν)) : outK k (outK k xs) = outK k xs := by simp [outK]
theorem outK_ne {k : κ} {xs : List (κ × ν)} {q : κ × ν} (h : q ∈ outK k xs) : q.1 ≠ k := by simpa [outK] using (List.mem_filter.1 h).2
end
/-- a store into a cell that holds a pointer leaves a tree whose keys are none as it was -/
theorem Tree.farC {t : TypeId} {κ ν : Type} {ek : κ → Value} {ev : ν → Value} {w : World} {B : Nat} {p : Option Addr} {xs : List (κ × ν)} (h : Tree t ek ev w B p xs) {g : Nat} {q : Option Addr} (hg : w.cell? ⟨g, 0, none⟩ = some (.pointer q)) (hk : ∀ k, ek k ≠ .pointer q) (u : Value) : Tree t ek ev (w.setCell ⟨g, 0, none⟩ u) B p xs := by
  induction h with
  | nil => exact .nil
  | node hB hi _ _ ihl ihr =>
    refine .node hB (hi.far (p := ⟨g, 0, none⟩) ?_ u) ihl ihr
    intro e
    subst e
    have := (hi.cell 0).symm.trans hg
    exact hk _ (Option.some.inj this)
end Go.Law
namespace Go.Proofs.Ytekkddejgkmofaa.omapBack
open Go.ChangeShapes Go.WideShapes Go.ChangeAt Go.RowKit
open Omap

/-- all maps that are held: block ba a map with the key, bm without; pb, pc two that lost it -/
theorem str_ne (q : Option Addr) : ∀ k, Value.string k ≠ .pointer q := fun k h => by cases h
/-- behind a call, all that lay in w read as before: as rules of the walk -/
def Same (w w' : World) : Prop := (∀ b o, b < w.heap.size → w'.cell? ⟨b, o, none⟩ = w.cell? ⟨b, o, none⟩) ∧ (∀ b o, b < w.heap.size → w'.frozen? ⟨b, o, none⟩ = w.frozen? ⟨b, o, none⟩) ∧ ∀ b, b < w.heap.size → b < w'.heap.size
theorem same {w w' : World} (h : Below w.heap.size w w') : Same w w' := ⟨(Law.bcell h).1, (Law.bcell h).2, fun _ hb => Nat.lt_of_lt_of_le hb h.size⟩
theorem without_of (k : ByteArray) {W w : World} {p : Option Addr} {xs : List (ByteArray × Int)} (h : OmapS.At W W.heap.size p xs) (hr : Law.Rises OmapS.lt xs) (hx : xs.length ≤ 999) (K : Below W.heap.size W w) :
    Calls Try.prog 10 #[OmapS.M p, .string k] w fun e w' => ∃ q, e = .returned (OmapS.M q) ∧ Hid (OmapS.At w' w'.heap.size q (Law.outK k xs)) ∧ Hid (Below w.heap.size w w') ∧ Hid (Below W.heap.size W w') ∧ Same w w' :=
  (OmapS.withoutM k (h.under K) K.size hr hx).mono fun _ _ ⟨q, he, ht, hb⟩ => ⟨q, he, ht, hb, K.trans (hb.mono K.size), same hb⟩
theorem tAlloc {w : World} {B : Nat} {p : Option Addr} {xs : List (ByteArray × Int)} (h : OmapS.At w B p xs) (hB : B ≤ w.heap.size) (o : Obj) : OmapS.At (w.alloc o) B p xs := h.under ((Below.refl _ w).alloc hB o)
theorem tDrew {w : World} {B : Nat} {p : Option Addr} {xs : List (ByteArray × Int)} (h : OmapS.At w B p xs) : OmapS.At w.drew B p xs := h.drewN 1
theorem len_of {W w : World} {p : Option Addr} {xs : List (ByteArray × Int)} (h : OmapS.At W W.heap.size p xs) (K : Below W.heap.size W w) :
    Calls Try.prog 18 #[OmapS.M p] w fun e w' => e = .returned (.int .i64 (xs.length : Int)) ∧ w.alloc (.cells #[.pointer p] 27) = w' := OmapS.len (h.under K) K.size
theorem keys_of {W w : World} {p : Option Addr} {xs : List (ByteArray × Int)} (h : OmapS.At W W.heap.size p xs) (hx : xs.length ≤ 999) (K : Below W.heap.size W w) :
    Calls Try.prog 23 #[OmapS.M p] w (OmapS.KeysM w xs) := OmapS.keys (h.under K) K.size (by omega)
theorem get_of (k : ByteArray) {W w : World} {p : Option Addr} {xs : List (ByteArray × Int)} {v : Int} (h : OmapS.At W W.heap.size p xs) (hr : Law.Rises OmapS.lt xs) (hg : Law.getK k xs = some v) (K : Below W.heap.size W w) :
    Calls Try.prog 15 #[OmapS.M p, .string k] w fun e w' => e = .returned (.tuple #[.int .i64 v, .bool true]) ∧ Hid (Below W.heap.size W w') :=
  (OmapS.get k (h.under K) K.size hr).mono fun _ _ ⟨he, hb⟩ => ⟨by rw [he, hg]; rfl, K.trans (hb.mono K.size)⟩
/-- behind Keys: a slice of all keys, in a world in which all lies that lay in W -/
theorem keysK {W w : World} {p : Option Addr} {xs : List (ByteArray × Int)} (h : OmapS.At W W.heap.size p xs) (hx : xs.length ≤ 999) (K : Below W.heap.size W w) :
    Calls Try.prog 23 #[OmapS.M p] w fun e w' => ∃ A c, e = .returned (.slice A xs.length c) ∧ Hid (Law.Seq w' 0 w'.heap.size A (xs.map fun x => .string x.1)) ∧ Hid (Below W.heap.size W w') ∧ Hid (Below w.heap.size w w') :=
  (OmapS.keys (h.under K) K.size (by omega)).mono fun _ _ ⟨A, c, he, _, hs, hb⟩ => ⟨A, c, he, hs.from_ (Nat.zero_le _), K.trans (hb.mono K.size), hb⟩
theorem at_after {w1 W w2 : World} {p : Option Addr} {xs : List (ByteArray × Int)} (h : OmapS.At w1 w1.heap.size p xs) (K : Below w1.heap.size w1 W) (b : Below W.heap.size W w2) : OmapS.At w2 w2.heap.size p xs :=
  ((h.under K).under (b.mono K.size)).wide (Nat.le_trans K.size b.size)

set_option maxRecDepth 100000 in
set_option maxHeartbeats 400000 in
/-- what comes when there is more than is looked at -/
theorem more (l : List (Bool × ByteArray × Int)) (A : Option Addr) (c : Nat) (key : ByteArray) (val : Int) (w : World) (hs : Law.Acts w w.heap.size A l) (hl : l.length ≤ maxLen) (hz : ∀ q ∈ l, q.2.1.size ≤ maxLen) (hk : ¬ key.size ≤ 200) :
    Calls Try.prog 6 #[.slice A l.length c, .string key, .int .i64 val] w fun e w' => e = .returned (.bool true) ∧ Below w.heap.size w w' := by
  have HS := Lib.hid hs
  have HL := Lib.hid hl
  have HZ := Lib.hid hz
  have d1 : decide ((200 : Int) < (key.size : Int)) = true := by simp; omega
  clear hs hl hz hk
  go_enter Try.func6, Try.ntmps6
  go_wp2_with fail
  refine (awake _).mono ?_
  rintro e w1 ⟨rfl, b1⟩
  have HB := Lib.hid b1
  clear b1
  go_wp2_with fail
  refine (long l A c _ ((HS.out.below HB.out).wide HB.out.size) HL.out HZ.out).mono ?_
  rintro e w' ⟨b, rfl, hb, rfl⟩
  clear hb
  cases b <;>
  · go_wp2_with fail
    refine (awake _).mono ?_
    rintro e w2 ⟨rfl, b2⟩
    have B2 := Lib.hid (HB.out.trans (b2.mono HB.out.size))
    clear b2
    go_wp2_with fail
    go_ret
    exact ⟨rfl, B2.out⟩

set_option linter.unusedSimpArgs false in
set_option maxRecDepth 100000 in
set_option maxHeartbeats 8000000 in
theorem walk (l : List (Bool × ByteArray × Int)) (A : Option Addr) (c : Nat) (key : ByteArray) (val : Int) (w : World) (hs : Law.Acts w w.heap.size A l) (hl : l.length ≤ maxLen) (hz : ∀ q ∈ l, q.2.1.size ≤ maxLen) (hk : key.size ≤ 200) :
    Calls Try.prog 6 #[.slice A l.length c, .string key, .int .i64 val] w fun e w' => e = .returned (.bool true) ∧ Below w.heap.size w w' := by
  have HS := Lib.hid hs
  have HL := Lib.hid hl
  have HZ := Lib.hid hz
  have d1 : decide ((200 : Int) < (key.size : Int)) = false := by simp; omega
  clear hs hl hz hk
  go_enter Try.func6, Try.ntmps6
  go_wp2_with fail
  refine (awake _).mono ?_
  rintro e w1 ⟨rfl, b1⟩
  have HB := Lib.hid b1
  clear b1
  go_wp2_with fail
  refine (long l A c _ ((HS.out.below HB.out).wide HB.out.size) HL.out HZ.out).mono ?_
  rintro e w' ⟨b, rfl, hb, rfl⟩
  cases b with
  | true =>
    go_wp2_with fail
    refine (awake _).mono ?_
    rintro e w2 ⟨rfl, b2⟩
    have B2 := Lib.hid (HB.out.trans (b2.mono HB.out.size))
    clear b2
    go_wp2_with fail
    go_ret
    exact ⟨rfl, B2.out⟩
  | false =>
    have hl := hb rfl
    clear hb
    have sw := HB.out.size
    have V0 : Hid (Var (w1.alloc (.cells #[.pointer none] 27)) w1.heap.size [] ∧ Below w.heap.size w (w1.alloc (.cells #[.pointer none] 27))) := ⟨Var.new w1 rfl, HB.out.alloc sw _⟩
    go_wp2_with fail
    generalize w1.alloc (.cells #[.pointer none] 27) = w2 at *
    go_loopw [8] (fun i wr => ∃ k : Nat, k ≤ l.length ∧ i = .int .i64 k ∧ ∃ xs, xs.length ≤ k ∧ Var wr w1.heap.size xs ∧ Below w.heap.size w wr) (fun i _ => l.length - (intOf i).toNat)
    case atStart => exact ⟨0, Nat.zero_le _, rfl, [], Nat.le_refl _, V0.out⟩
    case round =>
      obtain ⟨k, hk, rfl, xs, hx, hV, hB⟩ := hrel
      clear V0
      have lV := hV.lt
      obtain ⟨p, hi, ht, hr⟩ := hV
      have c0 : wr.cell? ⟨w1.heap.size, 0, none⟩ = some (.pointer p) := hi.cell' rfl
      have HT := Lib.hid ht
      have HR := Lib.hid hr
      have HV := Lib.hid hi
      have HB' := Lib.hid hB
      clear ht hr hi hB
      by_cases hlt : k < l.length
      · obtain ⟨b, off, rfl, hb, _, q1, q2⟩ := (HS.out.below HB'.out).at hlt
        generalize l[k].2.1 = ky at *
        generalize l[k].2.2 = vl at *
        go_wp2_with fail
        go_still_tail 11, (by kernel_rfl)
        change wpList _ _ _ _ _ wr.drew
        have HT' : Hid (OmapS.At wr.drew wr.drew.heap.size p xs) := HT.out.drewN 1
        have HV' : Hid (Law.Is wr.drew w1.heap.size 27 #[.pointer p]) := HV.out.drewN 1
        have HB2 : Hid (Below w.heap.size w wr.drew) := Law.below_drewN HB'.out 1
        clear HT HV HB' c0 q1 q2 lV
        generalize wr.drew = wd at *
        go_wp2_with fail
        refine (OmapS.withM ky vl HT'.out (Nat.le_refl _) HR.out (by omega)).mono ?_
        rintro e w3 ⟨p3, rfl, t3, b3⟩
        have i3 := HV'.out.below b3 HV'.out.lt
        have c3 : w3.cell? ⟨w1.heap.size, 0, none⟩ = some (.pointer p) := i3.cell' rfl
        have f3 := i3.frozen 0
        have l3 := i3.lt
        have H3 : Hid (Var (w3.setCell ⟨w1.heap.size, 0, none⟩ (.pointer p3)) w1.heap.size (Law.putK OmapS.lt ky vl xs) ∧ Below w.heap.size w (w3.setCell ⟨w1.heap.size, 0, none⟩ (.pointer p3))) :=
          ⟨Var.of i3 t3 (Law.putK_rises OmapS.lt OmapS.tri HR.out), (HB2.out.trans (b3.mono HB2.out.size)).setCell (p := ⟨w1.heap.size, 0, none⟩) sw _⟩
        have hp := Law.putK_length OmapS.lt ky vl xs
        clear i3 t3 b3 HT' HV' HB2
        go_wp2_with fail
        go_roundw
        case rel => exact ⟨k + 1, by omega, by go_num, Law.putK OmapS.lt ky vl xs, by omega, H3.out⟩
        case measure => simp [intOf]; omega
      · have hxl : xs.length ≤ 200 := by omega
        have B9 := HB'.out.size
        have hpx := Law.putK_length OmapS.lt key val xs
        have HRA := Lib.hid (Law.putK_rises OmapS.lt OmapS.tri HR.out (k := key) (v := val))
        have hga : Hid (Law.getK key (Law.putK OmapS.lt key val xs) = some val) := Law.getK_put OmapS.tri key val HR.out
        have hob : Hid (Law.outK key (Law.putK OmapS.lt key val xs) = Law.outK key xs) := Law.outK_put OmapS.tri key val HR.out
        go_wp2_with fail
        refine (OmapS.withM key val HT.out (Nat.le_refl _) HR.out (by omega)).mono ?_
        rintro e w3 ⟨pa, rfl, t3, b3⟩
        have M3 := (HV.out.below b3 HV.out.lt).alloc (.cells #[.pointer pa] 27)
        have A3 : Law.Is (w3.alloc (.cells #[.pointer pa] 27)) w3.heap.size 27 #[.pointer pa] := Law.Is.new _ _ _ rfl
        have K3 : Below w3.heap.size w3 (w3.alloc (.cells #[.pointer pa] 27)) := (Below.refl _ w3).alloc (Nat.le_refl _) _
        have TA := Lib.hid ((t3.under K3).wide K3.size)
        have TM := Lib.hid ((HT.out.under (b3.trans (K3.mono b3.size))).wide (Nat.le_trans b3.size K3.size))
        have HB3 := Lib.hid (HB'.out.trans ((b3.trans (K3.mono b3.size)).mono B9))
        clear t3 b3 K3 HT HV HB' c0 lV
        generalize Law.putK OmapS.lt key val xs = az at *
        have hal : az.length ≤ 999 := by omega
        have hxl' : xs.length ≤ 999 := by omega
        go_upto_region 9 with (fail)
        generalize hba : w3.heap.size = ba at *
        generalize w3.alloc (.cells #[.pointer pa] 27) = W0 at *
        have ca : W0.cell? ⟨ba, 0, none⟩ = some (.pointer pa) := A3.cell' rfl
        have cm : W0.cell? ⟨w1.heap.size, 0, none⟩ = some (.pointer p) := M3.cell' rfl
        have la := A3.lt
        have lm := M3.lt
        clear A3 M3
        go_cut [10, 11] (fun v10 v11 wx => ∃ gb gc pb pc, v10 = .pointer (some ⟨gb, 0, none⟩) ∧ v11 = .pointer (some ⟨gc, 0, none⟩) ∧ wx.cell? ⟨gb, 0, none⟩ = some (.pointer pb) ∧ wx.cell? ⟨gc, 0, none⟩ = some (.pointer pc) ∧
          OmapS.At wx wx.heap.size pb (Law.outK key az) ∧ OmapS.At wx wx.heap.size pc (Law.outK key xs) ∧ Below W0.heap.size W0 wx)
        case first =>
          have nn : ∀ n : Nat, n < n + 1 + 1 := fun n => by omega
          go_region_held3 (fun w' => w'.cell? ⟨ba, 0, none⟩ = some (.pointer pa) ∧ w'.cell? ⟨w1.heap.size, 0, none⟩ = some (.pointer p)) (first | (go_simp; done) | (go_keep; done)) (first
            | (go_at_call_of 10 (Value.agg #[Value.pointer pa]); refine (without_of key TA.out HRA.out hal ?_).mono ?_; (focus (repeat (first | with_reducible exact Below.refl _ _ | with_reducible refine Below.drew ?_ | ((with_reducible refine Below.alloc ?_ ?_ _); rotate_left 1; (first | exact Nat.le_refl _ | exact Nat.le_succ _ | ((try simp only [World.size_alloc]); omega) | (focus (simp; done)) | (focus (simp; omega)))) | ((with_reducible refine Below.setCell ?_ ?_ _); rotate_left 1; (first | exact Nat.le_refl _ | exact Nat.le_succ _ | ((try simp only [World.size_alloc]); omega) | (focus (simp; done)) | (focus (simp; omega))))))); rintro e v1 ⟨p1, rfl, T1, b1, k1, s1, s2, s3⟩; (try simp only [World.drew_is_drewN, World.heap_drewN, World.size_alloc, World.cell?_drewN, World.frozen?_drewN] at s1 s2 s3); have a1 := (k1.out.cell (p := ⟨ba, 0, none⟩) la).trans ca; have m1 := (k1.out.cell (p := ⟨w1.heap.size, 0, none⟩) lm).trans cm; have z1 := k1.out.size; have la1 := Nat.lt_of_lt_of_le la k1.out.size; have lm1 := Nat.lt_of_lt_of_le lm k1.out.size; have y1 := s3 (W0.heap.size); (try simp [nn] at y1); have x1 := s1 (W0.heap.size) 0; (try simp [nn] at x1); have f1 := s2 (W0.heap.size) 0; (try simp [nn] at f1); have y2 := s3 (W0.heap.size + 1); (try simp [nn] at y2); have x2 := s1 (W0.heap.size + 1) 0; (try simp [nn] at x2); have f2 := s2 (W0.heap.size + 1) 0; (try simp [nn] at f2); clear s1 s2 s3)
            | (go_at_call_of 10 (Value.agg #[Value.pointer p]); refine (without_of key TM.out HR.out hxl' ?_).mono ?_; (focus (repeat (first | with_reducible exact Below.refl _ _ | with_reducible exact k1.out | with_reducible refine Below.drew ?_ | ((with_reducible refine Below.alloc ?_ ?_ _); rotate_left 1; (first | exact Nat.le_refl _ | exact Nat.le_succ _ | ((try simp only [World.size_alloc]); omega) | (focus (simp; done)) | (focus (simp; omega)))) | ((with_reducible refine Below.setCell ?_ ?_ _); rotate_left 1; (first | exact Nat.le_refl _ | exact Nat.le_succ _ | ((try simp only [World.size_alloc]); omega) | (focus (simp; done)) | (focus (simp; omega))))))); rintro e v2 ⟨p2, rfl, T2, b2, k2, s4, s5, s6⟩; (try simp only [World.drew_is_drewN, World.heap_drewN, World.size_alloc, World.cell?_drewN, World.frozen?_drewN] at s4 s5 s6); have a2 := (k2.out.cell (p := ⟨ba, 0, none⟩) la).trans ca; have m2 := (k2.out.cell (p := ⟨w1.heap.size, 0, none⟩) lm).trans cm; have z2 := k2.out.size; have la2 := Nat.lt_of_lt_of_le la k2.out.size; have lm2 := Nat.lt_of_lt_of_le lm k2.out.size; have y3 := s6 (W0.heap.size); (try simp [nn, y1, Law.lt_more y1, Law.lt_more2 y1] at y3); have x3 := s4 (W0.heap.size) 0; (try simp [nn, y1, Law.lt_more y1, Law.lt_more2 y1, x1] at x3); have f3 := s5 (W0.heap.size) 0; (try simp [nn, y1, Law.lt_more y1, Law.lt_more2 y1, f1] at f3); have y4 := s6 (W0.heap.size + 1); (try simp [nn, y2, Law.lt_more y2, Law.lt_more2 y2] at y4); have x4 := s4 (W0.heap.size + 1) 0; (try simp [nn, y2, Law.lt_more y2, Law.lt_more2 y2, x2] at x4); have f4 := s5 (W0.heap.size + 1) 0; (try simp [nn, y2, Law.lt_more y2, Law.lt_more2 y2, f2] at f4); have y5 := s6 (v1.heap.size); (try simp [nn] at y5); have x5 := s4 (v1.heap.size) 0; (try simp [nn] at x5); have f5 := s5 (v1.heap.size) 0; (try simp [nn] at f5); have y6 := s6 (v1.heap.size + 1); (try simp [nn] at y6); have x6 := s4 (v1.heap.size + 1) 0; (try simp [nn] at x6); have f6 := s5 (v1.heap.size + 1) 0; (try simp [nn] at f6); clear s4 s5 s6; have T1' : Hid (OmapS.At v2 v2.heap.size p1 (Law.outK key az)) := (at_after T1.out (by repeat (first | with_reducible exact Below.refl _ _ | with_reducible refine Below.drew ?_ | ((with_reducible refine Below.alloc ?_ ?_ _); rotate_left 1; (first | exact Nat.le_refl _ | exact Nat.le_succ _ | ((try simp only [World.size_alloc]); omega) | (focus (simp; done)) | (focus (simp; omega)))) | ((with_reducible refine Below.setCell ?_ ?_ _); rotate_left 1; (first | exact Nat.le_refl _ | exact Nat.le_succ _ | ((try simp only [World.size_alloc]); omega) | (focus (simp; done)) | (focus (simp; omega)))))) b2.out)))
          all_goals
            go_wp2_with fail
            go_meet
            refine ⟨_, _, p1, p2, rfl, rfl, ?_, ?_, ?_, ?_, ?_⟩
            · (go_simp; done)
            · (go_simp; done)
            · (refine Law.Tree.wide (B := v2.heap.size) ?_ ?_; (focus (repeat (first | with_reducible exact T1'.out | with_reducible exact T2.out | with_reducible refine tDrew ?_ | ((with_reducible refine tAlloc ?_ ?_ _); rotate_left 1; (first | exact Nat.le_refl _ | exact Nat.le_succ _ | ((try simp only [World.size_alloc]); omega) | (focus (simp; done)) | (focus (simp; omega)))) | ((with_reducible refine Law.Tree.farC (q := none) ?_ ?_ (str_ne _) _); rotate_left 1; (focus (go_simp; done)))))); (first | exact Nat.le_refl _ | exact Nat.le_succ _ | ((try simp only [World.size_alloc]); omega) | (focus (simp; done)) | (focus (simp; omega))))
            · (refine Law.Tree.wide (B := v2.heap.size) ?_ ?_; (focus (repeat (first | with_reducible exact T1'.out | with_reducible exact T2.out | with_reducible refine tDrew ?_ | ((with_reducible refine tAlloc ?_ ?_ _); rotate_left 1; (first | exact Nat.le_refl _ | exact Nat.le_succ _ | ((try simp only [World.size_alloc]); omega) | (focus (simp; done)) | (focus (simp; omega)))) | ((with_reducible refine Law.Tree.farC (q := none) ?_ ?_ (str_ne _) _); rotate_left 1; (focus (go_simp; done)))))); (first | exact Nat.le_refl _ | exact Nat.le_succ _ | ((try simp only [World.size_alloc]); omega) | (focus (simp; done)) | (focus (simp; omega))))
            · (repeat (first | with_reducible exact k2.out | with_reducible refine Below.drew ?_ | ((with_reducible refine Below.alloc ?_ ?_ _); rotate_left 1; (first | exact Nat.le_refl _ | exact Nat.le_succ _ | ((try simp only [World.size_alloc]); omega) | (focus (simp; done)) | (focus (simp; omega)))) | ((with_reducible refine Below.setCell ?_ ?_ _); rotate_left 1; (first | exact Nat.le_refl _ | exact Nat.le_succ _ | ((try simp only [World.size_alloc]); omega) | (focus (simp; done)) | (focus (simp; omega))))))
        case rest =>
          obtain ⟨gb, gc, pb, pc, rfl, rfl, cb, cc, tb, tc, bw⟩ := hcut
          rw [hob.out] at tb
          have HOO := Lib.hid (Law.outK_outK key xs)
          have HNE := Lib.hid (fun q (h : q ∈ Law.outK key xs) => Law.outK_ne h)
          have HRY := Lib.hid (Law.outK_rises OmapS.lt (k := key) HR.out)
          have hyl := Law.outK_length key xs
          generalize Law.outK key xs = ys at *
          have hy9 : ys.length ≤ 900 := by omega
          have ca' := (bw.cell (p := ⟨ba, 0, none⟩) la).trans ca
          have la' := Nat.lt_of_lt_of_le la bw.size
          have TA' := Lib.hid ((TA.out.under bw).wide bw.size)
          have TB := Lib.hid tb
          have TC := Lib.hid tc
          have HW := Lib.hid (HB3.out.trans (bw.mono HB3.out.size))
          have lb : gb < wc.heap.size := World.block_lt_of_cell? wc _ cb
          have lc : gc < wc.heap.size := World.block_lt_of_cell? wc _ cc
          clear tb tc bw TA TM HB3 ca cm la lm HR hob
          go_upto_region 10 with (fail)
          go_region_held3 (fun w' => w'.cell? ⟨gb, 0, none⟩ = some (.pointer pb) ∧ w'.cell? ⟨gc, 0, none⟩ = some (.pointer pc)) (first | (go_simp; done) | (exact ⟨by assumption, by assumption⟩)) (first
            | (go_at_call_of 23 (Value.agg #[Value.pointer pb]); refine (keysK TB.out (by omega) (Below.refl _ wc).drew).mono ?_; rintro e v1 ⟨X, cx, rfl, SX, KX, _⟩; have cb1 := (KX.out.cell (p := ⟨gb, 0, none⟩) lb).trans cb; have cc1 := (KX.out.cell (p := ⟨gc, 0, none⟩) lc).trans cc)
            | (go_at_call_of 23 (Value.agg #[Value.pointer pc]); refine (keysK TC.out (by omega) KX.out).mono ?_; rintro e v2 ⟨Y, cy, rfl, SY, KY, K12⟩; have cb2 := (KY.out.cell (p := ⟨gb, 0, none⟩) lb).trans cb; have cc2 := (KY.out.cell (p := ⟨gc, 0, none⟩) lc).trans cc))
          have SX2 := Lib.hid ((SX.out.below K12.out).more K12.out.size)
          have ca2 := (KY.out.cell (p := ⟨ba, 0, none⟩) la').trans ca'
          have la2 := Nat.lt_of_lt_of_le la' KY.out.size
          have lb2 := Nat.lt_of_lt_of_le lb KY.out.size
          have lc2 := Nat.lt_of_lt_of_le lc KY.out.size
          have TA2 := Lib.hid ((TA'.out.under KY.out).wide KY.out.size)
          have TB2 := Lib.hid ((TB.out.under KY.out).wide KY.out.size)
          have TC2 := Lib.hid ((TC.out.under KY.out).wide KY.out.size)
          have HW2 := Lib.hid (HW.out.trans (KY.out.mono HW.out.size))
          clear SX KX KY K12 TA' TB TC HW ca' cb cc la' lb lc cb1 cc1
          go_upto_region 11 with (fail)
          go_region_held3 (fun w' => w'.cell? ⟨gb, 0, none⟩ = some (.pointer pb) ∧ w'.cell? ⟨gc, 0, none⟩ = some (.pointer pc)) (first | (go_simp; done) | (exact ⟨by assumption, by assumption⟩)) (first
            | (go_at_call_of 18 (Value.agg #[Value.pointer pb]); refine (len_of TB2.out (Below.refl _ v2).drew).mono ?_; rintro e v3 ⟨rfl, rfl⟩)
            | (go_at_call_of 18 (Value.agg #[Value.pointer pc]); refine (len_of TC2.out ?_).mono ?_; (focus (repeat (first | with_reducible exact Below.refl _ _ | with_reducible refine Below.drew ?_ | ((with_reducible refine Below.alloc ?_ ?_ _); rotate_left 1; exact Nat.le_refl _)))); rintro e v4 ⟨rfl, rfl⟩))
          go_wp2_with fail
          go_loopw [14] (fun i wr => ∃ j : Nat, j ≤ ys.length ∧ i = .int .i64 j ∧ Below v2.heap.size v2 wr) (fun i _ => ys.length - (intOf i).toNat)
          case atStart => exact ⟨0, Nat.zero_le _, rfl, by repeat (first | with_reducible exact Below.refl _ _ | with_reducible refine Below.drew ?_ | ((with_reducible refine Below.alloc ?_ ?_ _); rotate_left 1; (first | exact Nat.le_refl _ | exact Nat.le_succ _ | ((try simp only [World.size_alloc]); omega) | (focus (simp; done)) | (focus (simp; omega)))))⟩
          case round =>
            obtain ⟨j, hj, rfl, hB3⟩ := hrel
            have B3 := Lib.hid hB3
            have cb3 := (hB3.cell (p := ⟨gb, 0, none⟩) lb2).trans cb2
            have cc3 := (hB3.cell (p := ⟨gc, 0, none⟩) lc2).trans cc2
            have lb3 := Nat.lt_of_lt_of_le lb2 hB3.size
            have lc3 := Nat.lt_of_lt_of_le lc2 hB3.size
            have TB3 := Lib.hid ((TB2.out.under hB3).wide hB3.size)
            have TC3 := Lib.hid ((TC2.out.under hB3).wide hB3.size)
            clear hB3
            by_cases hlt : j < ys.length
            · obtain ⟨bx, ox, rfl, _, hbx, kx⟩ := (SX2.out.below B3.out).at (i := j) (by simpa using hlt)
              obtain ⟨by_, oy, rfl, _, hby, ky⟩ := (SY.out.below B3.out).at (i := j) (by simpa using hlt)
              simp only [List.getElem_map] at kx ky
              have HG := Lib.hid (Law.getK_mem OmapS.tri HRY.out (k := ys[j].1) (v := ys[j].2) (List.getElem_mem hlt))
              have hne := HNE.out _ (List.getElem_mem hlt)
              generalize ys[j].1 = kj at *
              generalize ys[j].2 = vj at *
              have dk : (kj.toList == key.toList) = false := by simpa using fun e => hne (OmapS.ext e)
              have lx := World.block_lt_of_cell? wr _ kx
              have ly := World.block_lt_of_cell? wr _ ky
              simp only at lx ly
              clear hne
              go_upto_region 16 with (fail)
              go_region_held3 (fun w' => w'.cell? ⟨gb, 0, none⟩ = some (.pointer pb) ∧ w'.cell? ⟨bx, ox + j, none⟩ = some (.string kj)) (first | (go_simp; done) | (exact ⟨by assumption, by assumption⟩)) (first
                | (go_at_call 15; refine (get_of kj TB3.out HRY.out HG.out (Below.refl _ wr).drew).mono ?_; rintro e w5 ⟨rfl, K5⟩; have cb5 := (K5.out.cell (p := ⟨gb, 0, none⟩) lb3).trans cb3; have kx5 := (K5.out.cell (p := ⟨bx, ox + j, none⟩) lx).trans kx; have ky5 := (K5.out.cell (p := ⟨by_, oy + j, none⟩) ly).trans ky; have cc5 := (K5.out.cell (p := ⟨gc, 0, none⟩) lc3).trans cc3; have T5 := Lib.hid ((TC3.out.under K5.out).wide K5.out.size); have l5 := Nat.lt_of_lt_of_le lc3 K5.out.size; have lx5 := Nat.lt_of_lt_of_le lx K5.out.size; have ly5 := Nat.lt_of_lt_of_le ly K5.out.size))
              go_upto_region 17 with (fail)
              go_region_held3 (fun w' => w'.cell? ⟨gc, 0, none⟩ = some (.pointer pc) ∧ w'.cell? ⟨bx, ox + j, none⟩ = some (.string kj)) (first | (go_simp; done) | (exact ⟨by assumption, by assumption⟩)) (first
                | (go_at_call 15; refine (get_of kj T5.out HRY.out HG.out (Below.refl _ w5).drew).mono ?_; rintro e w6 ⟨rfl, K6⟩; have cc6 := (K6.out.cell (p := ⟨gc, 0, none⟩) l5).trans cc5; have kx6 := (K6.out.cell (p := ⟨bx, ox + j, none⟩) lx5).trans kx5; have ky6 := (K6.out.cell (p := ⟨by_, oy + j, none⟩) ly5).trans ky5))
              go_wp2_with fail
              go_quiet (fail)
              go_wp2_with fail
              go_roundw
              case rel => exact ⟨j + 1, by omega, by go_num, Law.below_drewN (B3.out.trans ((K5.out.trans (K6.out.mono K5.out.size)).mono B3.out.size)) _⟩
              case measure => simp [intOf]; omega
            · have ca3 := (B3.out.cell (p := ⟨ba, 0, none⟩) la2).trans ca2
              have TA3 := Lib.hid ((TA2.out.under B3.out).wide B3.out.size)
              have HW3 := Lib.hid (HW2.out.trans (B3.out.mono HW2.out.size))
              clear B3 TB3 TA2 TB2 TC2 HW2 ca2 cb2 cc2 SX2 SY cb3 lb3
              go_wp2_with fail
              refine (get_of key TA3.out HRA.out hga.out (Below.refl _ wr)).mono ?_
              rintro e w5 ⟨rfl, K5⟩
              have cc5 := (K5.out.cell (p := ⟨gc, 0, none⟩) lc3).trans cc3
              have l5 := Nat.lt_of_lt_of_le lc3 K5.out.size
              have TC5 := Lib.hid ((TC3.out.under K5.out).wide K5.out.size)
              have HW5 := Lib.hid (HW3.out.trans (K5.out.mono HW3.out.size))
              clear K5 TC3 TA3 HW3 ca3 cc3 lc3
              go_wp2_with fail
              refine (without_of key TC5.out HRY.out (by omega) (Below.refl _ w5)).mono ?_
              rintro e w6 ⟨p6, rfl, T6, _, K6, _⟩
              have t6 := T6.out
              rw [HOO.out] at t6
              have T6' := Lib.hid t6
              have cc6 := (K6.out.cell (p := ⟨gc, 0, none⟩) l5).trans cc5
              have l6 := Nat.lt_of_lt_of_le l5 K6.out.size
              have TC6 := Lib.hid ((TC5.out.under K6.out).wide K6.out.size)
              have HW6 := Lib.hid (HW5.out.trans (K6.out.mono HW5.out.size))
              clear t6 T6 K6 TC5 HW5 cc5 l5
              go_upto_region 22 with (fail)
              have I7 : Law.Is (w6.alloc (.cells #[.pointer p6] 27)) w6.heap.size 27 #[.pointer p6] := Law.Is.new _ _ _ rfl
              have K7 : Below w6.heap.size w6 (w6.alloc (.cells #[.pointer p6] 27)) := (Below.refl _ w6).alloc (Nat.le_refl _) _
              have c7 : (w6.alloc (.cells #[.pointer p6] 27)).cell? ⟨w6.heap.size, 0, none⟩ = some (.pointer p6) := I7.cell' rfl
              have l7 := I7.lt
              have cc7 := (K7.cell (p := ⟨gc, 0, none⟩) l6).trans cc6
              have lc7 := Nat.lt_of_lt_of_le l6 K7.size
              have T7 := Lib.hid ((T6'.out.under K7).wide K7.size)
              have TC7 := Lib.hid ((TC6.out.under K7).wide K7.size)
              have HW7 := Lib.hid (HW6.out.trans (K7.mono HW6.out.size))
              clear I7 K7 cc6 l6 T6' TC6 HW6
              generalize w6.alloc (.cells #[.pointer p6] 27) = w7 at *
              generalize w6.heap.size = bd at *
              go_region_held3 (fun w' => w'.cell? ⟨bd, 0, none⟩ = some (.pointer p6) ∧ w'.cell? ⟨gc, 0, none⟩ = some (.pointer pc)) (first | (go_simp; done) | (exact ⟨by assumption, by assumption⟩)) (first
                | (go_at_call_of 18 (Value.agg #[Value.pointer p6]); refine (len_of T7.out (Below.refl _ w7).drew).mono ?_; rintro e v3 ⟨rfl, rfl⟩)
                | (go_at_call_of 18 (Value.agg #[Value.pointer pc]); refine (len_of TC7.out ?_).mono ?_; (focus (repeat (first | with_reducible exact Below.refl _ _ | with_reducible refine Below.drew ?_ | ((with_reducible refine Below.alloc ?_ ?_ _); rotate_left 1; (first | exact Nat.le_refl _ | exact Nat.le_succ _ | ((try simp only [World.size_alloc]); omega) | (focus (simp; done)) | (focus (simp; omega))))))); rintro e v4 ⟨rfl, rfl⟩))
              go_wp2_with fail
              go_ret
              refine ⟨rfl, HW7.out.trans (Below.mono ?_ HW7.out.size)⟩
              repeat (first | with_reducible exact Below.refl _ _ | with_reducible refine Below.drew ?_ | ((with_reducible refine Below.alloc ?_ ?_ _); rotate_left 1; (first | exact Nat.le_refl _ | exact Nat.le_succ _ | ((try simp only [World.size_alloc]); omega) | (focus (simp; done)) | (focus (simp; omega)))))

theorem walk0 (l : List (Bool × ByteArray × Int)) (A : Option Addr) (c : Nat) (key : ByteArray) (val : Int) (w : World) (hs : Law.Acts w w.heap.size A l) (hl : l.length ≤ maxLen) (hz : ∀ q ∈ l, q.2.1.size ≤ maxLen) :
    Calls Try.prog 6 #[.slice A l.length c, .string key, .int .i64 val] w fun e w' => e = .returned (.bool true) ∧ Below w.heap.size w w' := by
  by_cases h : key.size ≤ 200
  · exact walk l A c key val w hs hl hz h
  · exact more l A c key val w hs hl hz h

set_option maxRecDepth 100000 in
theorem lifted (os : Os) (started : os.Started) (H : Type) (enc : TypeId × Value → H) :
    ReturnsInHanded {} Try.checked os 6 .any (Rows.omapBackSpec.pre6 enc Try.prog Try.f6 Rows.omapBackRow.domain false) (Rows.omapBackSpec.post enc Try.prog Try.f6 false true false false) := by
  refine returnsInHanded_of_change (C := Try.checked) own started (by kernel_rfl) Try.func6
    (ChangeSpec.witness6 (enc := enc) (C := Try.checked) false ⟨#[], #[.slice none 0 0, .string ⟨#[]⟩, .int .i64 0], []⟩ 8 (by kernel_rfl) (by kernel_rfl) (by kernel_rfl) (by kernel_rfl)) ?_
  intro W base args ds gs before hval0 hW hcnd _
  have hval : ∀ (j : Nat) t v, Try.f6.params[j]? = some t → args[j]? = some v → Value.okWide Try.prog W .any base t v := hval0
  have hW' := hW
  obtain ⟨p, q, hA0, hV, rfl, hfz, hnd⟩ := hW
  have hA : DataW.TrodAll enc Try.prog W 0 (fun _ => true) true Try.f6.params.toList args.toList ds p := hA0
  rw [Try.params6] at hA hval
  obtain ⟨v0, vs0, d0, ds0, p0, q0, hargs, rfl, rfl, h0, r0⟩ := trodAll_cons hA
  obtain ⟨v1, vs1, d1, ds1, p1, q1, rfl, rfl, rfl, h1, r1⟩ := trodAll_cons r0
  obtain ⟨v2, vs2, d2, ds2, p2, q2, rfl, rfl, rfl, h2, r2⟩ := trodAll_cons r1
  obtain ⟨rfl, rfl, rfl⟩ := trodAll_nil r2
  obtain rfl : args = #[v0, v1, v2] := by cases args; simp_all
  obtain ⟨A, c, l, rfl, hs, hl, hz⟩ := Law.open_acts Try.underlying22 Try.underlying30 (by kernel_rfl) rfl rfl rfl (by kernel_rfl) (by kernel_rfl) (by kernel_rfl) (by kernel_rfl) (by kernel_rfl) (by kernel_rfl) (hval 0 22 v0 rfl rfl) h0
  obtain ⟨a1, rfl, rfl, rfl, w1⟩ := Go.ChangeMaps.open_string Try.underlying9 (hval 1 9 v1 rfl rfl) h1
  obtain ⟨a2, rfl, rfl, rfl, w2⟩ := open_int Try.underlying3 (hval 2 3 v2 rfl rfl) h2
  refine (walk0 l A c a1 a2 W hs hl hz).mono fun e W' ⟨he, bel⟩ => ?_
  subst he
  exact ⟨_, rfl, Law.post_law laidOut (by kernel_rfl) (by kernel_rfl) Try.underlying4 rfl (fun ds h => by match ds, h with | [_, _, _], _ => rfl) hW' bel⟩

theorem proved : Rows.OmapBackSaid :=
  OpenClaim.holds_of_wide 6 Try.f6 rfl rfl rfl rfl rfl rfl rfl ⟨rfl, rfl, rfl, rfl, rfl⟩ rfl rfl rfl rfl rfl (by kernel_rfl) Try.func6 (by kernel_rfl)
    (of_decide_eq_true (by kernel_rfl)) (by unfold Func.isWrapper; rw [if_neg (by decide +kernel)]; exact ⟨rfl, rfl⟩)
    (fun os started H enc _ => lifted os started H enc)
#print axioms proved
end Go.Proofs.Ytekkddejgkmofaa.omapBack
