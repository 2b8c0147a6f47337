/-
  What each call of layer 5 (cell), the reference's calls, and the statements' example come to.
-/
import Derived.Test.YtkfhkipilldhoaaBase
import Derived.WalkSpells
import Derived.WalkLawsBesides
import Derived.Lib.Hide
import Derived.OwnWalk
namespace Go.Proofs.Ytkfhkipilldhoaa
open Go.RowKit
namespace Cell
open Door

/-- an even bound -/
def ev (a : Int) : Int := a - a % 2
theorem ev_U {a : Int} (h : U a) : U (ev a) := by unfold U ev at *; omega
theorem ev_mod (a : Int) : ev a % 2 = 0 := by unfold ev; omega
theorem ev_le (a : Int) : ev a ≤ a := by unfold ev; omega
theorem tmod2 {a : Int} (h : U a) : a.tmod 2 = a % 2 := Int.tmod_eq_emod_of_nonneg h.1
theorem wrapE {a : Int} (h : U a) : IntKind.u64.wrap (a - a.tmod 2) = ev a := by
  rw [tmod2 h, IntKind.wrap_u64]; unfold ev; unfold U top at h; omega
theorem ret_u64 {a b : Int} (h : a = b) : Ending.returned (.int .u64 a) = .returned (.int .u64 b) := by rw [h]
theorem ret_bool {a b : Bool} (h : a = b) : Ending.returned (.bool a) = .returned (.bool b) := by rw [h]
/-- an epoch v may be, up to the bound B -/
structure Ok (v B : Int) : Prop where
  lo : 0 ≤ v
  le : v ≤ B
  top : B ≤ top
  mod : B % 2 = 0
theorem Ok.U {v B : Int} (h : Ok v B) : U v := by have := h.lo; have := h.le; have := h.top; unfold Door.U; omega
theorem Ok.new {b : Int} (h : Door.U b) : Ok 0 (ev b) := ⟨by omega, (ev_U h).1, (ev_U h).2, ev_mod b⟩
/-- what Begin makes of an epoch -/
def beg (v B : Int) : Int := if v % 2 = 0 ∧ v ≠ B then v + 1 else v
/-- what End makes of an epoch -/
def fin (v : Int) : Int := if v % 2 = 1 then v + 1 else v
theorem beg_ok {v B : Int} (h : Ok v B) : Ok (beg v B) B := by
  obtain ⟨h1, h2, h3, h4⟩ := h
  unfold beg
  split
  · exact ⟨by omega, by omega, h3, h4⟩
  · exact ⟨h1, h2, h3, h4⟩
theorem fin_ok {v B : Int} (h : Ok v B) : Ok (fin v) B := by
  obtain ⟨h1, h2, h3, h4⟩ := h
  unfold fin
  split
  · exact ⟨by omega, by omega, h3, h4⟩
  · exact ⟨h1, h2, h3, h4⟩
/-- an epoch, as a value -/
abbrev K (v B : Int) : Value := .agg #[.int .u64 v, .int .u64 B]
/-- its cells -/
abbrev cs (v B : Int) : Array Value := #[.int .u64 v, .int .u64 B]

set_option maxHeartbeats 400000 in
theorem odd (a : Int) (ha : U a) (w : World) :
    Calls Try.prog 20 #[.int .u64 a] w fun e w' => e = .returned (.bool (a % 2 == 1)) ∧ w = w' := by
  go_enter Try.func20, Try.ntmps20
  go_wp2
  go_ret
  exact ⟨ret_bool (by rw [tmod2 ha]), rfl⟩
set_option maxHeartbeats 400000 in
theorem even (a : Int) (ha : U a) (w : World) :
    Calls Try.prog 19 #[.int .u64 a] w fun e w' => e = .returned (.int .u64 (ev a)) ∧ w = w' := by
  go_enter Try.func19, Try.ntmps19
  go_wp2
  go_ret
  exact ⟨ret_u64 (wrapE ha), rfl⟩
set_option maxHeartbeats 400000 in
theorem refBound (a : Int) (ha : U a) (w : World) :
    Calls Try.prog 16 #[.int .u64 a] w fun e w' => e = .returned (.int .u64 (ev a)) ∧ w = w' := by
  go_enter Try.func16, Try.ntmps16
  go_wp2
  go_ret
  exact ⟨ret_u64 (wrapE ha), rfl⟩
/-- one new block -/
theorem one (w : World) (o : Obj) : Below w.heap.size w (w.alloc o) := (Below.refl _ _).alloc (Nat.le_refl _) _
set_option maxHeartbeats 400000 in
theorem new (a : Int) (ha : U a) (w : World) :
    Calls Try.prog 9 #[.int .u64 a] w fun e w' => e = .returned (K 0 (ev a)) ∧ Below w.heap.size w w' := by
  go_enter Try.func9, Try.ntmps9
  go_wp2_with (go_at_call 19; refine (even _ ha _).mono ?_; rintro e w' ⟨rfl, rfl⟩)
  exact bodyPost_ret (v := K 0 (ev a)) (by simp [results, Try.results9, go_sem]) rfl ⟨rfl, one _ _⟩
/-- its cells, as a block -/
abbrev C (v B : Int) : Obj := .cells #[.int .u64 v, .int .u64 B] 26
set_option maxHeartbeats 400000 in
theorem value (v B : Int) (w : World) :
    Calls Try.prog 14 #[K v B] w fun e w' => e = .returned (.int .u64 v) ∧ Below w.heap.size w w' := by
  go_enter Try.func14, Try.ntmps14
  go_wp2
  go_ret
  exact ⟨rfl, one _ _⟩
set_option maxHeartbeats 400000 in
theorem spentX (v B : Int) (w : World) :
    Calls Try.prog 15 #[K v B] w fun e w' => e = .returned (.bool (v == B)) ∧ w.alloc (C v B) = w' := by
  go_enter Try.func15, Try.ntmps15
  go_wp2
  go_ret
  exact ⟨rfl, rfl⟩
theorem spent (v B : Int) (w : World) :
    Calls Try.prog 15 #[K v B] w fun e w' => e = .returned (.bool (v == B)) ∧ Below w.heap.size w w' :=
  (spentX v B w).mono fun _ _ ⟨h, e⟩ => ⟨h, e ▸ one _ _⟩
set_option maxHeartbeats 400000 in
theorem writingX (v B : Int) (h : U v) (w : World) :
    Calls Try.prog 17 #[K v B] w fun e w' => e = .returned (.bool (v % 2 == 1)) ∧ w.alloc (C v B) = w' := by
  go_enter Try.func17, Try.ntmps17
  go_wp2_with (go_at_call 20; refine (odd _ h _).mono ?_; rintro e w' ⟨rfl, rfl⟩)
  go_ret
  exact ⟨rfl, rfl⟩
theorem writing (v B : Int) (h : U v) (w : World) :
    Calls Try.prog 17 #[K v B] w fun e w' => e = .returned (.bool (v % 2 == 1)) ∧ Below w.heap.size w w' :=
  (writingX v B h w).mono fun _ _ ⟨h, e⟩ => ⟨h, e ▸ one _ _⟩
/-- what Valid tells -/
def val (a b c : Int) : Bool := a == b && !(a % 2 == 1) && decide (a < ev c)
set_option maxHeartbeats 800000 in
theorem valid (a b c : Int) (ha : U a) (hc : U c) (w : World) :
    Calls Try.prog 18 #[.int .u64 a, .int .u64 b, .int .u64 c] w fun e w' => e = .returned (.bool (val a b c)) ∧ w = w' := by
  have HV : Hid (val a b c = (a == b && !(a % 2 == 1) && decide (a < ev c))) := rfl
  generalize val a b c = r at *
  cases d1 : (a == b) with
  | false =>
    go_enter Try.func18, Try.ntmps18
    go_wp2_with fail
    go_ret
    exact ⟨ret_bool (by rw [HV.out, d1]; rfl), rfl⟩
  | true =>
    cases d2 : (a % 2 == 1) with
    | true =>
      go_enter Try.func18, Try.ntmps18
      go_wp2_with fail
      refine (odd _ ha _).mono ?_
      rintro e w' ⟨rfl, rfl⟩
      go_wp2_with fail
      go_ret
      exact ⟨ret_bool (by rw [HV.out, d1, d2]; rfl), rfl⟩
    | false =>
      go_enter Try.func18, Try.ntmps18
      go_wp2_with fail
      refine (odd _ ha _).mono ?_
      rintro e w' ⟨rfl, rfl⟩
      go_wp2_with fail
      refine (even _ hc _).mono ?_
      rintro e w' ⟨rfl, rfl⟩
      go_wp2_with fail
      go_ret
      exact ⟨ret_bool (by rw [HV.out, d1, d2]; rfl), rfl⟩
theorem up {v : Int} (h : 0 ≤ v) (ht : v < top) : IntKind.u64.wrap (v + 1) = v + 1 := by rw [IntKind.wrap_u64]; unfold top at ht; omega
set_option maxHeartbeats 800000 in
theorem refEnd (v B : Int) (h : Ok v B) (w : World) :
    Calls Try.prog 13 #[.int .u64 v] w fun e w' => e = .returned (.int .u64 (fin v)) ∧ w = w' := by
  have HF : Hid (fin v = if v % 2 = 1 then v + 1 else v) := rfl
  generalize fin v = r at *
  have ht := tmod2 h.U
  by_cases hm : v % 2 = 1
  · have HU := Lib.hid (up h.lo (by have := h.le; have := h.top; have := h.mod; omega))
    have HM := Lib.hid hm
    have d1 : (v.tmod 2 == 1) = true := by rw [ht, hm]; rfl
    clear ht hm
    go_enter Try.func13, Try.ntmps13
    go_wp2_with fail
    go_ret
    exact ⟨ret_u64 (by rw [HF.out, if_pos HM.out]; exact HU.out), rfl⟩
  · have HM := Lib.hid hm
    have d1 : (v.tmod 2 == 1) = false := by rw [ht]; simpa using hm
    clear ht hm
    go_enter Try.func13, Try.ntmps13
    go_wp2_with fail
    go_ret
    exact ⟨ret_u64 (by rw [HF.out, if_neg HM.out]), rfl⟩
set_option maxHeartbeats 800000 in
theorem refBegin (v b : Int) (hb : U b) (h : Ok v (ev b)) (w : World) :
    Calls Try.prog 11 #[.int .u64 v, .int .u64 b] w fun e w' => e = .returned (.int .u64 (beg v (ev b))) ∧ w = w' := by
  have HF : Hid (beg v (ev b) = if v % 2 = 0 ∧ v ≠ ev b then v + 1 else v) := rfl
  generalize beg v (ev b) = r at *
  have ht := tmod2 h.U
  by_cases hm : v % 2 = 0
  · have HM := Lib.hid hm
    have d1 : (v.tmod 2 == 0) = true := by rw [ht, hm]; rfl
    clear ht hm
    by_cases hs : v = ev b
    · have HS := Lib.hid hs
      have d2 : decide (v < ev b) = false := by rw [← hs]; simp
      clear hs
      go_enter Try.func11, Try.ntmps11
      go_wp2_with fail
      refine (refBound _ hb _).mono ?_
      rintro e w' ⟨rfl, rfl⟩
      go_wp2_with fail
      go_ret
      exact ⟨ret_u64 (by rw [HF.out, if_neg (fun x => x.2 HS.out)]), rfl⟩
    · have HS := Lib.hid hs
      have d2 : decide (v < ev b) = true := by have := h.le; simp; omega
      have HU := Lib.hid (up h.lo (by have := h.le; have := h.top; omega))
      clear hs
      go_enter Try.func11, Try.ntmps11
      go_wp2_with fail
      refine (refBound _ hb _).mono ?_
      rintro e w' ⟨rfl, rfl⟩
      go_wp2_with fail
      go_ret
      exact ⟨ret_u64 (by rw [HF.out, if_pos ⟨HM.out, HS.out⟩]; exact HU.out), rfl⟩
  · have HM := Lib.hid hm
    have d1 : (v.tmod 2 == 0) = false := by rw [ht]; simpa using hm
    clear ht hm
    go_enter Try.func11, Try.ntmps11
    go_wp2_with fail
    go_ret
    exact ⟨ret_u64 (by rw [HF.out, if_neg (fun x => HM.out x.1)]), rfl⟩
theorem ret_K {a b B : Int} (h : a = b) : Ending.returned (K a B) = .returned (K b B) := by rw [h]
set_option maxHeartbeats 800000 in
theorem end_ (v B : Int) (h : Ok v B) (w : World) :
    Calls Try.prog 12 #[K v B] w fun e w' => e = .returned (K (fin v) B) ∧ Below w.heap.size w w' := by
  have HF : Hid (fin v = if v % 2 = 1 then v + 1 else v) := rfl
  generalize fin v = r at *
  have hU := h.U
  by_cases hm : v % 2 = 1
  · have hu := up h.lo (by have := h.le; have := h.top; have := h.mod; omega)
    have d1 : (v % 2 == 1) = true := by rw [hm]; rfl
    have HM := Lib.hid hm
    clear hm h
    go_enter Try.func12, Try.ntmps12
    go_wp2_with (go_at_call 17; refine (writingX _ _ hU _).mono ?_; rintro e w' ⟨rfl, rfl⟩)
    exact bodyPost_ret (v := K (v + 1) B) (by simp [results, Try.results12, go_sem]) rfl ⟨ret_K (by rw [HF.out, if_pos HM.out]), by repeat (first | exact Below.refl _ _ | refine Below.alloc ?_ (by first | exact Nat.le_refl _ | (simp only [World.size_alloc]; omega)) _)⟩
  · have d1 : (v % 2 == 1) = false := by simpa using hm
    have HM := Lib.hid hm
    clear hm h
    go_enter Try.func12, Try.ntmps12
    go_wp2_with (go_at_call 17; refine (writingX _ _ hU _).mono ?_; rintro e w' ⟨rfl, rfl⟩)
    exact bodyPost_ret (v := K v B) (by simp [results, Try.results12, go_sem]) rfl ⟨ret_K (by rw [HF.out, if_neg HM.out]), by repeat (first | exact Below.refl _ _ | refine Below.alloc ?_ (by first | exact Nat.le_refl _ | (simp only [World.size_alloc]; omega)) _)⟩
set_option maxHeartbeats 800000 in
theorem begin_ (v B : Int) (h : Ok v B) (w : World) :
    Calls Try.prog 10 #[K v B] w fun e w' => e = .returned (K (beg v B) B) ∧ Below w.heap.size w w' := by
  have HF : Hid (beg v B = if v % 2 = 0 ∧ v ≠ B then v + 1 else v) := rfl
  generalize beg v B = r at *
  have hU := h.U
  by_cases hs : v = B
  · have d1 : (v == B) = true := by rw [hs]; simp
    have HS := Lib.hid hs
    clear hs h
    go_enter Try.func10, Try.ntmps10
    go_wp2_with (first
      | (go_at_call 15; refine (spentX _ _ _).mono ?_; rintro e w' ⟨rfl, rfl⟩)
      | (go_at_call 17; refine (writingX _ _ hU _).mono ?_; rintro e w' ⟨rfl, rfl⟩))
    exact bodyPost_ret (v := K v B) (by simp [results, Try.results10, go_sem]) rfl ⟨ret_K (by rw [HF.out, if_neg (fun x => x.2 HS.out)]), by repeat (first | exact Below.refl _ _ | refine Below.alloc ?_ (by first | exact Nat.le_refl _ | (simp only [World.size_alloc]; omega)) _)⟩
  · have d1 : (v == B) = false := by simpa using hs
    have HS := Lib.hid hs
    by_cases hm : v % 2 = 1
    · have d2 : (v % 2 == 1) = true := by rw [hm]; rfl
      have HM := Lib.hid hm
      clear hs h hm
      go_enter Try.func10, Try.ntmps10
      go_wp2_with (first
        | (go_at_call 15; refine (spentX _ _ _).mono ?_; rintro e w' ⟨rfl, rfl⟩)
        | (go_at_call 17; refine (writingX _ _ hU _).mono ?_; rintro e w' ⟨rfl, rfl⟩))
      exact bodyPost_ret (v := K v B) (by simp [results, Try.results10, go_sem]) rfl ⟨ret_K (by rw [HF.out, if_neg (fun x => by have := HM.out; omega)]), by repeat (first | exact Below.refl _ _ | refine Below.alloc ?_ (by first | exact Nat.le_refl _ | (simp only [World.size_alloc]; omega)) _)⟩
    · have d2 : (v % 2 == 1) = false := by simpa using hm
      have hu := up h.lo (by have := h.le; have := h.top; omega)
      have HM := Lib.hid hm
      clear hs h hm
      go_enter Try.func10, Try.ntmps10
      go_wp2_with (first
        | (go_at_call 15; refine (spentX _ _ _).mono ?_; rintro e w' ⟨rfl, rfl⟩)
        | (go_at_call 17; refine (writingX _ _ hU _).mono ?_; rintro e w' ⟨rfl, rfl⟩))
      exact bodyPost_ret (v := K (v + 1) B) (by simp [results, Try.results10, go_sem]) rfl ⟨ret_K (by rw [HF.out, if_pos ⟨by have := HM.out; omega, HS.out⟩]), by repeat (first | exact Below.refl _ _ | refine Below.alloc ?_ (by first | exact Nat.le_refl _ | (simp only [World.size_alloc]; omega)) _)⟩
end Cell
end Go.Proofs.Ytkfhkipilldhoaa
