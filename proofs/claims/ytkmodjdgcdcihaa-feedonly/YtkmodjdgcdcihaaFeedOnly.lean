/-
  A client is told just what befalls whom it watches, while it does, in order; with room enough nothing is lost. For all acts and clients, no condition.
-/
import Derived.Test.YtkmodjdgcdcihaaFeed11
import Derived.Test.YtkmodjdgcdcihaaFeed09
namespace Go.Proofs.Ytkmodjdgcdcihaa.feedOnly
open Go.RowKit Go.ChangeShapes Go.WideShapes Go.ChangeAt
open Feed Go.Law
theorem elemT : ∃ i, Law.Elem Try.prog 56 9 i (.string ⟨#[]⟩) 1 16 := Law.Elem.of Try.underlying56 (by kernel_rfl) rfl (by decide)
theorem own_is {w : World} {base : Nat} {e : TypeId} {size n : Nat} {v : Value} {xs : List Value} (h : w.ownsRow base e size v n xs) {g : Nat} (hg : v.ownBlock = some g) : ∃ cs, Is w g e cs := by
  rcases h.2 with ⟨rfl, _⟩ | ⟨g', cap, cur, rfl, _, hh, _⟩
  · simp [Value.ownBlock] at hg
  · have : g' = g := by simpa [Value.ownBlock] using hg
    subst this
    exact ⟨cur, hh⟩
/-- two rows of elements of two types lie in two blocks -/
theorem own_apart {w : World} {base base' : Nat} {e e' : TypeId} {size n size' n' : Nat} {v v' : Value} {xs xs' : List Value} (h : w.ownsRow base e size v n xs) (h' : w.ownsRow base' e' size' v' n' xs') (he : e ≠ e') {g : Nat} (hg : v.ownBlock = some g) : ¬ v'.ownBlock = some g := fun hg' => by
  obtain ⟨cs, hi⟩ := own_is h' hg'
  exact own_ne h hi he hg
/-- a feed, what should be told, who is watched -/
structure Oly (w wr : World) (S : Nat → Prop) (b : Nat) (s : St) (vt : Value) (wt : List Ev) (vw : Value) (wd : List ByteArray) : Prop where
  fed : Fed wr w.heap.size S b 201 s
  want : wr.ownsRow w.heap.size 58 8 vt wt.length (flatE wt)
  wat : wr.ownsRow w.heap.size 9 1 vw wd.length (wd.map .string)
  offT : Off S vt
  offW : Off S vw
  bel : Below w.heap.size w wr
section
variable {w wr w' : World} {S S' : Nat → Prop} {b : Nat} {s s' : St} {vt vt' vw vw' : Value} {wt : List Ev} {wd : List ByteArray}
theorem Oly.below (h : Oly w wr S b s vt wt vw wd) (hb : Below wr.heap.size wr w') : Oly w w' S b s vt wt vw wd :=
  ⟨h.fed.below hb, own_below h.want hb, own_below h.wat hb, h.offT, h.offW, h.bel.trans (hb.mono h.bel.size)⟩
theorem Oly.went (h : Oly w wr S b s vt wt vw wd) (hF : Fed w' w.heap.size S' b 201 s') (hW : Went wr S w' S') : Oly w w' S' b s' vt wt vw wd :=
  ⟨hF, own_went hW h.want h.offT, own_went hW h.wat h.offW, Off.went hW h.want h.offT, Off.went hW h.wat h.offW, hW.below (fun n hn => (h.fed.ok n hn).1) h.bel h.bel.size⟩
theorem Oly.growT (h : Oly w wr S b s vt wt vw wd) {o : Obj} {q : Ev} (ho : w'.ownsRow w.heap.size 58 8 vt' (wt.length + 1) (flatE wt ++ cellsE q)) (hg : (wr.alloc o).grownBy w' vt.ownBlock) (hv : vt'.ownBlock = vt.ownBlock ∨ vt'.ownBlock = some (wr.alloc o).heap.size) : Oly w w' S b s vt' (wt ++ [q]) vw wd := by
  have h1 := h.below ((Below.refl _ wr).alloc (Nat.le_refl _) o)
  refine ⟨h1.fed.grown h1.want hg h1.offT (by decide), by rw [flatE_snoc, List.length_append]; exact ho, ?_, Off.grown h1.fed h1.offT hv, h1.offW, h1.bel.grown hg h1.bel.size (fun g hg => (h1.want.lt g hg).1)⟩
  exact (Law.Touch.grown (T := fun k => vt.ownBlock = some k) hg (fun _ hk => hk)).own h1.wat (fun g hg => own_apart h1.wat h1.want (by decide) hg)
theorem Oly.growW (h : Oly w wr S b s vt wt vw wd) {o : Obj} {u : ByteArray} (ho : w'.ownsRow w.heap.size 9 1 vw' (wd.length + 1) (wd.map .string ++ [.string u])) (hg : (wr.alloc o).grownBy w' vw.ownBlock) (hv : vw'.ownBlock = vw.ownBlock ∨ vw'.ownBlock = some (wr.alloc o).heap.size) : Oly w w' S b s vt wt vw' (wd ++ [u]) := by
  have h1 := h.below ((Below.refl _ wr).alloc (Nat.le_refl _) o)
  refine ⟨h1.fed.grown h1.wat hg h1.offW (by decide), ?_, by rw [List.map_append, List.length_append]; exact ho, h1.offT, Off.grown h1.fed h1.offW hv, h1.bel.grown hg h1.bel.size (fun g hg => (h1.wat.lt g hg).1)⟩
  exact (Law.Touch.grown (T := fun k => vw.ownBlock = some k) hg (fun _ hk => hk)).own h1.want (fun g hg => own_apart h1.want h1.wat (by decide) hg)
theorem Oly.rest (h : Oly w wr S b s vt wt vw wd) {N : Nat} {ys : List ByteArray} (ho : wr.ownsRow N 9 1 vw' ys.length (ys.map .string)) (hN : ∀ n, S n → n < N) (hw : w.heap.size ≤ N) : Oly w wr S b s vt wt vw' ys := by
  refine ⟨h.fed, h.want, ⟨ho.1, ?_⟩, h.offT, fun g hg hs => by have h1 := (ho.lt g hg).1; have h2 := hN g hs; omega, h.bel⟩
  rcases ho.2 with hn | ⟨g, cap, cur, rfl, hb, rest⟩
  · exact .inl hn
  · exact .inr ⟨g, cap, cur, rfl, by omega, rest⟩
end
/-- behind j acts -/
structure Inv (k j : Nat) (s : St) (wt : List Ev) (wd : List ByteArray) : Prop where
  perm : (keys (s.wat k)).Perm wd
  que : s.que k = wt
  los : s.los k = false
  lw : ∀ c, c < 8 → (s.wat c).length ≤ j
  lq : ∀ c, c < 8 → (s.que c).length ≤ j
section
variable {k j : Nat} {s : St} {wt : List Ev} {wd : List ByteArray}
theorem Inv.has (h : Inv k j s wt wd) (u : ByteArray) : s.has k u = true ↔ u ∈ wd := (getK_keys u (s.wat k)).trans h.perm.mem_iff
theorem Inv.next (h : Inv k j s wt wd) : Inv k (j + 1) s wt wd := ⟨h.perm, h.que, h.los, fun c hc => Nat.le_succ_of_le (h.lw c hc), fun c hc => Nat.le_succ_of_le (h.lq c hc)⟩
theorem Inv.len (h : Inv k j s wt wd) : (s.wat k).length = wd.length := by have := h.perm.length_eq; simpa [keys] using this
theorem Inv.put (h : Inv k j s wt wd) {c : Nat} {zs : List (ByteArray × Int)} {wd' : List ByteArray} (hp : c = k → (keys zs).Perm wd') (hn : c ≠ k → wd' = wd) (hz : zs.length ≤ (s.wat c).length + 1) (hc8 : c < 8) : Inv k (j + 1) { s with wat := upd s.wat c zs } wt wd' := by
  refine ⟨?_, h.que, h.los, fun i hi => ?_, fun i hi => Nat.le_succ_of_le (h.lq i hi)⟩
  · show (keys (upd s.wat c zs k)).Perm wd'
    by_cases e : k = c
    · subst e; rw [upd_same]; exact hp rfl
    · rw [upd_other _ _ e, hn (fun e' => e e'.symm)]; exact h.perm
  · show (upd s.wat c zs i).length ≤ j + 1
    by_cases e : i = c
    · subst e; rw [upd_same]; have := h.lw i hi; omega
    · rw [upd_other _ _ e]; have := h.lw i hi; omega
theorem Inv.tell (h : Inv k j s wt wd) (hk : k < 8) (hj : j ≤ 200) (cg : Cg) (sq : Int) {wt' : List Ev} (hy : cg.us ∈ wd → wt' = wt ++ [cg.ev sq]) (hn : cg.us ∉ wd → wt' = wt) : Inv k (j + 1) (s.tell 201 [cg] sq) wt' wd := by
  have e : s.tell 201 [cg] sq = s.upto 201 (cg.ev sq) 8 := by simp only [St.tell, List.foldl_cons, List.foldl_nil]
  rw [e]
  have hq := h.lq k hk
  refine ⟨by rw [upto_wat]; exact h.perm, ?_, ?_, fun c hc => by rw [upto_wat]; exact Nat.le_succ_of_le (h.lw c hc), fun c hc => Nat.le_trans (upto_le ..) (by have := h.lq c hc; omega)⟩
  · rw [upto_que]
    by_cases hu : cg.us ∈ wd
    · rw [if_pos ⟨hk, (h.has _).2 hu⟩, hy hu, ← h.que, putL_yes (by omega)]
    · rw [if_neg (fun h' => hu ((h.has _).1 h'.2)), hn hu, h.que]
  · rw [upto_los]
    split
    · rw [h.los]; simp; omega
    · exact h.los
end
theorem Fed.rise {w : World} {base b room k : Nat} {S : Nat → Prop} {s : St} (h : Fed w base S b room s) (hk : k < 8) : Rises OmapU.lt (s.wat k) := by obtain ⟨_, _, _, h⟩ := h; exact h.rise k hk
set_option maxRecDepth 100000 in
set_option maxHeartbeats 8000000 in
theorem walk (l : List Ac) (A : Option Addr) (c who : Nat) (hw : who ≤ 255) (w : World) (hs : Seq w 0 w.heap.size A (l.flatMap cellsAc)) (hm : l.length ≤ maxLen) (hq : ∀ q ∈ l, q.Good) (hno : longA l = false) :
    Calls Try.prog 5 #[.slice A l.length c, .int .u8 (who : Int)] w fun e w' => e = .returned (.bool true) ∧ Below w.heap.size w w' := by
  obtain ⟨hl, hus⟩ := longA_no hno
  have HS := Lib.hid hs
  have HQ := Lib.hid hq
  have HU := Lib.hid hus
  obtain ⟨k, hk⟩ : ∃ k : Nat, who % 8 = k := ⟨_, rfl⟩
  have K1 : Hid ((who : Int) % 8 = (k : Int)) := by show _ = _; omega
  have k2 : k < 8 := by omega
  obtain ⟨i0, hE⟩ := RingE.elem
  obtain ⟨i1, hE1⟩ := elemT
  have HE := Lib.hid hE
  have HE1 := Lib.hid hE1
  have HNO := Lib.hid hno
  have HM := Lib.hid hm
  clear hs hq hus hk hE hE1 hno hm
  go_enter Try.func5, Try.ntmps5
  go_wp2_with fail
  refine (awake w).mono ?_
  rintro e w1 ⟨rfl, hB⟩
  have HB := Lib.hid hB
  have sb := hB.size
  clear hB
  go_wp2_with fail
  refine (long_ l A c w1 ((HS.out.below HB.out).more sb) HM.out HQ.out HNO.out).mono ?_
  rintro e w1' ⟨rfl, rfl⟩
  go_wp2_with fail
  refine (new 201 w1 sb).mono ?_
  rintro e w2 ⟨rfl, hF, hb⟩
  have HF : Hid (Fed w2 w.heap.size (fun n => w1.heap.size ≤ n ∧ n < w2.heap.size) w1.heap.size 201 St.zero) := hF
  have HB2 := Lib.hid (HB.out.trans (hb.mono sb))
  clear hF hb HB
  generalize w1.heap.size = b at *
  go_wp2_with fail
  rw [K1.out]
  go_loopw [7, 8, 9] (fun vt vw vi wr => ∃ (j : Nat) (S : Nat → Prop) (s : St) (wt : List Ev) (wd : List ByteArray), j ≤ l.length ∧ vi = .int .i64 j ∧ Oly w wr S b s vt wt vw wd ∧ Inv k j s wt wd) (fun _ _ vi _ => l.length - (intOf vi).toNat)
  case atStart => exact ⟨0, _, St.zero, [], [], Nat.zero_le _, rfl, ⟨HF.out, World.ownsRow_nil _ _ _ _, World.ownsRow_nil _ _ _ _, Off.nil _, Off.nil _, HB2.out⟩, ⟨List.Perm.refl _, rfl, rfl, fun _ _ => Nat.le_refl _, fun _ _ => Nat.le_refl _⟩⟩
  case round =>
    clear HF HB2
    obtain ⟨j, S, s, wt, wd, hj, rfl, hO, hI⟩ := hrel
    have HO := Lib.hid hO
    have HI := Lib.hid hI
    have sz := hO.bel.size
    obtain ⟨Dt, ct, rfl, hct⟩ := own_shape hO.want
    obtain ⟨Dw, cw, rfl, hcw⟩ := own_shape hO.wat
    have hwl := hI.len
    have hwl2 := hI.lw k k2
    have hwt : wt.length ≤ 200 := by have := hI.lq k k2; rw [hI.que] at this; omega
    have hwd : wd.length ≤ 200 := by omega
    clear hO hI hwl hwl2
    by_cases hlt : j < l.length
    · obtain ⟨ba, oa, rfl, _, hba, c0, c1, c2, c3, c4⟩ := (HS.out.below HO.out.bel).ac hlt
      have hd := bounds_u8 (HQ.out _ (List.getElem_mem hlt)).do_
      have hlb := Nat.lt_of_lt_of_le hba sz
      generalize l[j] = q at *
      obtain ⟨dI, qw, u, ql, qs⟩ := q
      simp only at c0 c1 c2 c3 c4 hd
      obtain ⟨d, rfl⟩ := Int.eq_ofNat_of_zero_le hd.1
      have hd2 : d < 256 := by omega
      obtain ⟨q, hq⟩ : ∃ q : Ac, q = ⟨(d : Int), qw, u, ql, qs⟩ := ⟨_, rfl⟩
      have bb := (Below.refl wr.heap.size wr).alloc (Nat.le_refl _) (.cells #[.int .u8 (d : Int), .int .i64 qw, .string u, .int .i64 ql, .int .u64 qs] 36)
      have HO1 := Lib.hid (HO.out.below bb)
      have I1 : Hid (Is (wr.alloc (.cells #[.int .u8 (d : Int), .int .i64 qw, .string u, .int .i64 ql, .int .u64 qs] 36)) wr.heap.size 36 #[.int .u8 (d : Int), .int .i64 qw, .string u, .int .i64 ql, .int .u64 qs]) := Is.new wr _ _ rfl
      have N1 : Hid (¬ S wr.heap.size) := fun h => by have := (HO.out.fed.ok _ h).2; omega
      have hsz1 : wr.heap.size < (wr.alloc (.cells #[.int .u8 (d : Int), .int .i64 qw, .string u, .int .i64 ql, .int .u64 qs] 36)).heap.size := by simp
      clear bb hq hd hba
      go_wp2_with fail
      generalize hW1 : wr.alloc (.cells #[.int .u8 (d : Int), .int .i64 qw, .string u, .int .i64 ql, .int .u64 qs] 36) = W1 at *
      generalize wr.heap.size = Bx at *
      clear hW1 HO c0 c1 c2 c3 c4
      go_loopw [11, 12] (fun vs vn wx => ∃ (n : Nat) (is : Bool), n ≤ wd.length ∧ vn = .int .i64 n ∧ vs = .bool is ∧ (is = true ↔ u ∈ wd.take n) ∧ Oly w wx S b s (.slice Dt wt.length ct) wt (.slice Dw wd.length cw) wd ∧ Is wx Bx 36 #[.int .u8 (d : Int), .int .i64 qw, .string u, .int .i64 ql, .int .u64 qs]) (fun _ vn _ => wd.length - (intOf vn).toNat)
      case atStart => exact ⟨0, false, Nat.zero_le _, rfl, rfl, by simp, HO1.out, I1.out⟩
      case round =>
        clear HO1 I1
        obtain ⟨n, is, hn, rfl, rfl, his, hO, hIx⟩ := hrel
        have HO := Lib.hid hO
        have HIx := Lib.hid hIx
        have HIS := Lib.hid his
        have lx := hIx.lt
        have x0 : World.cell? _ ⟨Bx, 0, none⟩ = some (.int .u8 (d : Int)) := hIx.cell' rfl
        have x1 : World.cell? _ ⟨Bx, 1, none⟩ = some (.int .i64 qw) := hIx.cell' rfl
        have x2 : World.cell? _ ⟨Bx, 2, none⟩ = some (.string u) := hIx.cell' rfl
        have x3 : World.cell? _ ⟨Bx, 3, none⟩ = some (.int .i64 ql) := hIx.cell' rfl
        have x4 : World.cell? _ ⟨Bx, 4, none⟩ = some (.int .u64 qs) := hIx.cell' rfl
        clear hO hIx his
        by_cases hnl : n < wd.length
        · have d1 : decide ((n : Int) < (wd.length : Int)) = true := by simp; omega
          obtain ⟨g, o, hg, _, hgl, cn⟩ := (Seq.own HO.out.wat).str (i := n) hnl
          subst hg
          have HTK := Lib.hid (List.take_succ_eq_append_getElem hnl)
          generalize wd[n] = y at *
          cases is with
          | true =>
            have HNX : Hid (u ∈ wd.take (n + 1)) := by show _ ∈ _; rw [HTK.out]; exact List.mem_append_left _ (HIS.out.1 rfl)
            go_wp2_with fail
            go_quiet (fail)
            go_wp2_with fail
            go_roundw
            case rel => exact ⟨n + 1, true, by omega, by go_num, rfl, ⟨fun _ => HNX.out, fun _ => rfl⟩, HO.out.below (Law.below_drewN (Below.refl _ _) nq), HIx.out.drewN nq⟩
            case measure => simp [intOf]; omega
          | false =>
            have hnt : u ∉ wd.take n := fun h => by have := HIS.out.2 h; cases this
            by_cases hy : y = u
            · subst hy
              have e1 : (y.toList == y.toList) = true := by simp
              have HNX : Hid (y ∈ wd.take (n + 1)) := by show _ ∈ _; rw [HTK.out]; simp
              go_wp2_with fail
              go_quiet (fail)
              go_wp2_with fail
              go_roundw
              case rel => exact ⟨n + 1, true, by omega, by go_num, rfl, ⟨fun _ => HNX.out, fun _ => rfl⟩, HO.out.below (Law.below_drewN (Below.refl _ _) nq), HIx.out.drewN nq⟩
              case measure => simp [intOf]; omega
            · have e1 : (y.toList == u.toList) = false := by simpa using fun e => hy (OmapU.ext e)
              have HNX : Hid (u ∉ wd.take (n + 1)) := by show ¬ _; rw [HTK.out]; simp [hnt]; exact fun e => hy e.symm
              go_wp2_with fail
              go_quiet (fail)
              go_wp2_with fail
              go_roundw
              case rel => exact ⟨n + 1, false, by omega, by go_num, rfl, ⟨fun h => (Bool.noConfusion h), fun h => absurd h HNX.out⟩, HO.out.below (Law.below_drewN (Below.refl _ _) nq), HIx.out.drewN nq⟩
              case measure => simp [intOf]; omega
        · obtain rfl : n = wd.length := by omega
          have d1 : decide ((wd.length : Int) < (wd.length : Int)) = false := by simp
          rw [List.take_of_length_le (Nat.le_refl _)] at HIS
          by_cases h0 : d % 4 = 0
          · skip
            have hE0 : ((d : Int) % 4 == 0) = true := by simp; omega
            by_cases hcl : 0 ≤ qw ∧ qw < 8
            · obtain ⟨a, rfl⟩ := Int.eq_ofNat_of_zero_le hcl.1
              have ha : a < 8 := by omega
              have hla := HI.out.lw a ha
              have HRI := Lib.hid (Fed.rise HO.out.fed ha)
              go_wp2_with fail
              refine (watchE (k := a) HO.out.fed rfl ha u (by omega) rfl).mono ?_
              rintro e w3 ⟨rfl, hF, hW⟩
              have HO2 := Lib.hid (HO.out.went hF hW)
              have I2 := Lib.hid (hW.is HIx.out N1.out)
              have sz3 := HO2.out.bel.size
              clear hF hW x0 x1 x2 x3 x4 HO
              have x0 : World.cell? _ ⟨Bx, 0, none⟩ = some (.int .u8 (d : Int)) := I2.out.cell' rfl
              have x1 : World.cell? _ ⟨Bx, 1, none⟩ = some (.int .i64 (a : Int)) := I2.out.cell' rfl
              have x2 : World.cell? _ ⟨Bx, 2, none⟩ = some (.string u) := I2.out.cell' rfl
              have x3 : World.cell? _ ⟨Bx, 3, none⟩ = some (.int .i64 ql) := I2.out.cell' rfl
              have x4 : World.cell? _ ⟨Bx, 4, none⟩ = some (.int .u64 qs) := I2.out.cell' rfl
              by_cases hak : a = k
              · subst hak
                have e2 : ((a : Int) == (a : Int)) = true := by simp
                cases is with
                | true =>
                  have hin := HIS.out.1 rfl
                  have HIN := Lib.hid (HI.out.put (c := a) (zs := putK OmapU.lt u 0 (s.wat a)) (wd' := wd) (fun _ => by rw [putK_old OmapU.tri u 0 _ HRI.out (HI.out.perm.mem_iff.2 hin)]; exact HI.out.perm) (fun h => absurd rfl h) (putK_length OmapU.lt u 0 _).1 ha)
                  go_wp2_with fail
                  go_roundw
                  case rel => exact ⟨j + 1, S, _, wt, wd, by omega, by go_num, HO2.out, HIN.out⟩
                  case measure => simp [intOf]; omega
                | false =>
                  have hin : u ∉ wd := fun h => by have := HIS.out.2 h; cases this
                  have HIN := Lib.hid (HI.out.put (c := a) (zs := putK OmapU.lt u 0 (s.wat a)) (wd' := wd ++ [u]) (fun _ => ((putK_new OmapU.tri u 0 _ (fun h => hin (HI.out.perm.mem_iff.1 h))).trans (List.Perm.cons u HI.out.perm)).trans (List.perm_append_comm (l₁ := [u]) (l₂ := wd))) (fun h => absurd rfl h) (putK_length OmapU.lt u 0 _).1 ha)
                  go_wp2_with (at_builtin; refine wpList_append_own_at _ rfl _ _ 56 rfl w.heap.size 9 i1 (.string ⟨#[]⟩) 1 16 HE1.out.ut HE1.out.info HE1.out.zero HE1.out.sz HE1.out.by_ HE1.out.cells HE1.out.pos _ _ _ rfl (HO2.out.wat.alloc _) ⟨w3.heap.size, 0, none⟩ 1 1 [.string u] rfl rfl (Law.new_one _ _ _) (Law.one_str _) (by unfold maxLen; omega) (by omega) (by simp; omega) ?_; intro v' w4 hown hg _ hv'; have HO4 := Lib.hid (HO2.out.growW (u := u) hown hg hv'); obtain ⟨g', cap', rfl⟩ := ownsRow_succ hown; clear hown hg hv')
                  go_roundw
                  case rel => exact ⟨j + 1, S, _, wt, wd ++ [u], by omega, by go_num, HO4.out, HIN.out⟩
                  case measure => simp [intOf]; omega
              · have e2 : ((a : Int) == (k : Int)) = false := by simp; omega
                have HIN := Lib.hid (HI.out.put (c := a) (zs := putK OmapU.lt u 0 (s.wat a)) (wd' := wd) (fun h => absurd h hak) (fun _ => rfl) (putK_length OmapU.lt u 0 _).1 ha)
                go_wp2_with fail
                go_roundw
                case rel => exact ⟨j + 1, S, _, wt, wd, by omega, by go_num, HO2.out, HIN.out⟩
                case measure => simp [intOf]; omega
            · have e2 : (qw == (k : Int)) = false := by simp; omega
              go_wp2_with fail
              refine (watch_no hcl b u _).mono ?_
              rintro e w3 ⟨rfl, rfl⟩
              go_wp2_with fail
              go_roundw
              case rel => exact ⟨j + 1, S, s, wt, wd, by omega, by go_num, HO.out, HI.out.next⟩
              case measure => simp [intOf]; omega
          · by_cases h1 : d % 4 = 1
            · skip
              have hE0 : ((d : Int) % 4 == 0) = false := by simp; omega
              have hE1 : ((d : Int) % 4 == 1) = true := by simp; omega
              by_cases hcl : 0 ≤ qw ∧ qw < 8
              · obtain ⟨a, rfl⟩ := Int.eq_ofNat_of_zero_le hcl.1
                have ha : a < 8 := by omega
                have hla := HI.out.lw a ha
                go_wp2_with fail
                refine (unwatchE (k := a) HO.out.fed rfl ha u (by omega) rfl).mono ?_
                rintro e w3 ⟨rfl, hF, hW⟩
                have HO2 := Lib.hid (HO.out.went hF hW)
                have I2 := Lib.hid (hW.is HIx.out N1.out)
                have sz3 := HO2.out.bel.size
                clear hF hW x0 x1 x2 x3 x4 HO
                have x0 : World.cell? _ ⟨Bx, 0, none⟩ = some (.int .u8 (d : Int)) := I2.out.cell' rfl
                have x1 : World.cell? _ ⟨Bx, 1, none⟩ = some (.int .i64 (a : Int)) := I2.out.cell' rfl
                have x2 : World.cell? _ ⟨Bx, 2, none⟩ = some (.string u) := I2.out.cell' rfl
                have x3 : World.cell? _ ⟨Bx, 3, none⟩ = some (.int .i64 ql) := I2.out.cell' rfl
                have x4 : World.cell? _ ⟨Bx, 4, none⟩ = some (.int .u64 qs) := I2.out.cell' rfl
                have hol : (outK u (s.wat a)).length ≤ (s.wat a).length + 1 := Nat.le_succ_of_le (outK_length u _)
                by_cases hak : a = k
                · subst hak
                  have e2 : ((a : Int) == (a : Int)) = true := by simp
                  have HIN := Lib.hid (HI.out.put (c := a) (zs := outK u (s.wat a)) (wd' := wd.filter fun y => decide (y ≠ u)) (fun _ => by rw [outK_keys]; exact HI.out.perm.filter _) (fun h => absurd rfl h) hol ha)
                  go_wp2_with fail
                  go_loopw [13, 14] (fun vr vn wx => ∃ n : Nat, n ≤ wd.length ∧ vn = .int .i64 n ∧ wx.ownsRow w3.heap.size 9 1 vr ((wd.take n).filter fun y => decide (y ≠ u)).length (((wd.take n).filter fun y => decide (y ≠ u)).map .string) ∧ Below w3.heap.size w3 wx) (fun _ vn _ => wd.length - (intOf vn).toNat)
                  case atStart => exact ⟨0, Nat.zero_le _, rfl, World.ownsRow_nil _ _ _ _, Below.refl _ _⟩
                  case round =>
                    obtain ⟨n, hn, rfl, hR, hBx⟩ := hrel
                    have HR := Lib.hid hR
                    have HBx := Lib.hid hBx
                    have szx := hBx.size
                    have hfl : ((wd.take n).filter fun y => decide (y ≠ u)).length ≤ 200 := Nat.le_trans (List.length_filter_le ..) (by simp; omega)
                    have z2 := (hBx.cell (p := ⟨Bx, 2, none⟩) I2.out.lt).trans x2
                    have lz := Nat.lt_of_lt_of_le I2.out.lt szx
                    clear hR hBx
                    by_cases hnl : n < wd.length
                    · have d1 : decide ((n : Int) < (wd.length : Int)) = true := by simp; omega
                      obtain ⟨g, o, hgD, _, hgl, cn⟩ := (Seq.own HO2.out.wat).str (i := n) hnl
                      subst hgD
                      have cn2 := (HBx.out.cell (p := ⟨g, o + n, none⟩) hgl).trans cn
                      have lg2 := Nat.lt_of_lt_of_le hgl szx
                      have HTK := Lib.hid (List.take_succ_eq_append_getElem hnl)
                      generalize wd[n] = y at *
                      clear cn
                      by_cases hy : y = u
                      · have e1 : (y.toList != u.toList) = false := by subst hy; simp
                        have e3 : (y.toList == u.toList) = true := by subst hy; simp
                        have HFL : Hid (((wd.take (n + 1)).filter fun y => decide (y ≠ u)) = (wd.take n).filter fun y => decide (y ≠ u)) := by show _ = _; rw [HTK.out, List.filter_append, List.filter_cons_of_neg (by simpa using hy)]; simp
                        generalize ((wd.take n).filter fun y => decide (y ≠ u)) = fs at *
                        obtain ⟨Dr, cr, rfl, hcr⟩ := own_shape HR.out
                        go_wp2_with fail
                        go_quiet (fail)
                        go_wp2_with fail
                        go_roundw
                        case rel => exact ⟨n + 1, by omega, by go_num, by rw [HFL.out]; exact own_below HR.out (Law.below_drewN (Below.refl _ _) nq), Law.below_drewN HBx.out nq⟩
                        case measure => simp [intOf]; omega
                      · have e1 : (y.toList != u.toList) = true := by simpa using fun e => hy (OmapU.ext e)
                        have e3 : (y.toList == u.toList) = false := by simpa using fun e => hy (OmapU.ext e)
                        have HFL : Hid (((wd.take (n + 1)).filter fun y => decide (y ≠ u)) = ((wd.take n).filter fun y => decide (y ≠ u)) ++ [y]) := by show _ = _; rw [HTK.out, List.filter_append, List.filter_cons_of_pos (by simpa using hy)]; simp
                        generalize ((wd.take n).filter fun y => decide (y ≠ u)) = fs at *
                        obtain ⟨Dr, cr, rfl, hcr⟩ := own_shape HR.out
                        go_wp2_with fail
                        go_quiet (fail)
                        have HR3 := Lib.hid (own_below HR.out (Law.below_drewN (Below.refl _ wr) nq))
                        have HB3 := Lib.hid (Law.below_drewN HBx.out nq)
                        have cn3 : (wr.drewN nq).cell? ⟨g, o + n, none⟩ = some (.string y) := cn2
                        have lg3 : g < (wr.drewN nq).heap.size := lg2
                        have sz5 : w3.heap.size ≤ (wr.drewN nq).heap.size := szx
                        clear HR HBx cn2 z2 szx lg2 lz
                        generalize wr.drewN nq = W5 at *
                        go_wp2_with (at_builtin; refine wpList_append_own _ rfl _ _ 56 rfl w3.heap.size 9 i1 (.string ⟨#[]⟩) 1 16 HE1.out.ut HE1.out.info HE1.out.zero HE1.out.sz HE1.out.by_ HE1.out.cells HE1.out.pos _ _ _ rfl (HR3.out.alloc _) ⟨W5.heap.size, 0, none⟩ 1 1 [.string y] rfl rfl (Law.new_one _ _ _) (Law.one_str _) (by unfold maxLen; omega) (by omega) (by simp; omega) ?_; intro v' w6 hown hg _; have HR6 := Lib.hid hown; have HB6 := Lib.hid ((HB3.out.alloc sz5 _).grown hg (by simp; omega) (fun g hg => (HR3.out.lt g hg).1)); obtain ⟨g', cap', rfl⟩ := ownsRow_succ hown; clear hown hg)
                        go_roundw
                        case rel => exact ⟨n + 1, by omega, by go_num, by rw [HFL.out, List.map_append, List.length_append]; exact HR6.out, HB6.out⟩
                        case measure => simp [intOf]; omega
                    · obtain rfl : n = wd.length := by omega
                      have d1 : decide ((wd.length : Int) < (wd.length : Int)) = false := by simp
                      rw [List.take_of_length_le (Nat.le_refl _)] at HR
                      have HO4 : Hid (Oly w wr S b _ (.slice Dt wt.length ct) wt _ (wd.filter fun y => decide (y ≠ u))) := (HO2.out.below HBx.out).rest HR.out (fun n hn => (HO2.out.fed.ok n hn).2) sz3
                      clear HR HBx
                      go_wp2_with fail
                      go_roundw
                      case rel => exact ⟨j + 1, S, _, wt, _, by omega, by go_num, HO4.out, HIN.out⟩
                      case measure => simp [intOf]; omega
                · have e2 : ((a : Int) == (k : Int)) = false := by simp; omega
                  have HIN := Lib.hid (HI.out.put (c := a) (zs := outK u (s.wat a)) (wd' := wd) (fun h => absurd h hak) (fun _ => rfl) hol ha)
                  go_wp2_with fail
                  go_roundw
                  case rel => exact ⟨j + 1, S, _, wt, wd, by omega, by go_num, HO2.out, HIN.out⟩
                  case measure => simp [intOf]; omega
              · have e2 : (qw == (k : Int)) = false := by simp; omega
                go_wp2_with fail
                refine (unwatch_no hcl b u _).mono ?_
                rintro e w3 ⟨rfl, rfl⟩
                go_wp2_with fail
                go_roundw
                case rel => exact ⟨j + 1, S, s, wt, wd, by omega, by go_num, HO.out, HI.out.next⟩
                case measure => simp [intOf]; omega
            · skip
              have hE0 : ((d : Int) % 4 == 0) = false := by simp; omega
              have hE1 : ((d : Int) % 4 == 1) = false := by simp; omega
              have hlq := Lib.hid HI.out.lq
              go_wp2_with fail
              refine (tellLit HO.out.fed HO.out.bel.size [⟨u, 0, 0, 0, 0, 0, ql⟩] qs rfl rfl (fun i hi => by have := hlq.out i hi; simp; omega) rfl).mono ?_
              rintro e w3 ⟨rfl, S3, hF, hW, _⟩
              have HO2 := Lib.hid (HO.out.went hF hW)
              have I2 := Lib.hid (hW.is HIx.out N1.out)
              have sz3 := HO2.out.bel.size
              clear hF hW x0 x1 x2 x3 x4 HO
              have x0 : World.cell? _ ⟨Bx, 0, none⟩ = some (.int .u8 (d : Int)) := I2.out.cell' rfl
              have x1 : World.cell? _ ⟨Bx, 1, none⟩ = some (.int .i64 qw) := I2.out.cell' rfl
              have x2 : World.cell? _ ⟨Bx, 2, none⟩ = some (.string u) := I2.out.cell' rfl
              have x3 : World.cell? _ ⟨Bx, 3, none⟩ = some (.int .i64 ql) := I2.out.cell' rfl
              have x4 : World.cell? _ ⟨Bx, 4, none⟩ = some (.int .u64 qs) := I2.out.cell' rfl
              cases is with
              | true =>
                have hin := HIS.out.1 rfl
                have HIN := Lib.hid (HI.out.tell k2 (by omega) ⟨u, 0, 0, 0, 0, 0, ql⟩ qs (wt' := wt ++ [⟨u, 0, 0, 0, 0, 0, ql, qs⟩]) (fun _ => rfl) (fun h => absurd hin h))
                go_wp2_with (at_builtin; refine wpList_append_own_at _ rfl _ _ 29 rfl w.heap.size 58 i0 (.agg #[.string ⟨#[]⟩, .int .i64 0, .int .i64 0, .int .i64 0, .int .i64 0, .int .i64 0, .int .i64 0, .int .u64 0]) 8 72 HE.out.ut HE.out.info HE.out.zero HE.out.sz HE.out.by_ HE.out.cells HE.out.pos _ _ _ rfl (HO2.out.want.alloc _) ⟨w3.heap.size, 0, none⟩ 1 1 (cellsE ⟨u, 0, 0, 0, 0, 0, ql, qs⟩) rfl rfl (new_E w3 ⟨u, 0, 0, 0, 0, 0, ql, qs⟩ _ rfl) (one_E _) (by unfold maxLen; omega) (by omega) (by simp; omega) ?_; intro v' w4 hown hg _ hv'; have HO4 := Lib.hid (HO2.out.growT (q := ⟨u, 0, 0, 0, 0, 0, ql, qs⟩) hown hg hv'); obtain ⟨g', cap', rfl⟩ := ownsRow_succ hown; clear hown hg hv')
                go_roundw
                case rel => exact ⟨j + 1, S3, _, _, wd, by omega, by go_num, HO4.out, HIN.out⟩
                case measure => simp [intOf]; omega
              | false =>
                have hin : u ∉ wd := fun h => by have := HIS.out.2 h; cases this
                have HIN := Lib.hid (HI.out.tell k2 (by omega) ⟨u, 0, 0, 0, 0, 0, ql⟩ qs (wt' := wt) (fun h => absurd h hin) (fun _ => rfl))
                go_wp2_with fail
                go_roundw
                case rel => exact ⟨j + 1, S3, _, wt, wd, by omega, by go_num, HO2.out, HIN.out⟩
                case measure => simp [intOf]; omega
    · skip
      have e1 : j = l.length := by omega
      have d1 : decide ((j : Int) < (l.length : Int)) = false := by simp; omega
      have HQU := Lib.hid HI.out.que
      have HLS := Lib.hid HI.out.los
      have HLN := Lib.hid HI.out.len
      go_wp2_with fail
      refine (drainE (k := k) HO.out.fed rfl k2 HQU.out (m := wt.length) rfl HLS.out (by omega) rfl).mono ?_
      rintro e w3 ⟨A3, c3, rfl, hs, hF, hW⟩
      have HO2 := Lib.hid (HO.out.went hF hW)
      have HS3 := Lib.hid (hs.from_ (Nat.zero_le _))
      have sz3 := HO2.out.bel.size
      clear hF hW hs HO
      go_wp2_with fail
      refine (refSame wt A3 Dt c3 ct w3 HS3.out ((Seq.own HO2.out.want).from_ (Nat.zero_le _)) (by omega)).mono ?_
      rintro e w4 ⟨rfl, hb⟩
      have HO4 := Lib.hid (HO2.out.below hb)
      clear hb HO2
      go_wp2_with fail
      refine (countE (k := k) HO4.out.fed rfl k2 (n := (wd.length : Int)) (by have := HLN.out; show ((s.wat k).length : Int) = _; omega)).mono ?_
      rintro e w5 ⟨rfl, hb⟩
      have HB5 := Lib.hid (HO4.out.bel.trans (hb.mono HO4.out.bel.size))
      clear hb
      have e5 : ((wd.length : Int) == (wd.length : Int)) = true := by simp
      go_wp2_with fail
      go_ret
      exact ⟨rfl, HB5.out⟩
set_option maxHeartbeats 1000000 in
theorem walkLong (l : List Ac) (A : Option Addr) (c : Nat) (who : Int) (w : World) (hs : Seq w 0 w.heap.size A (l.flatMap cellsAc)) (hm : l.length ≤ maxLen) (hq : ∀ q ∈ l, q.Good) (hno : longA l = true) :
    Calls Try.prog 5 #[.slice A l.length c, .int .u8 who] w fun e w' => e = .returned (.bool true) ∧ Below w.heap.size w w' := by
  have HS := Lib.hid hs
  have HM := Lib.hid hm
  have HQ := Lib.hid hq
  have HNO := Lib.hid hno
  clear hs hm hq hno
  go_enter Try.func5, Try.ntmps5
  go_wp2_with fail
  refine (awake w).mono ?_
  rintro e w1 ⟨rfl, hB⟩
  have HB := Lib.hid hB
  have sb := hB.size
  clear hB
  go_wp2_with fail
  refine (long_ l A c w1 ((HS.out.below HB.out).more sb) HM.out HQ.out HNO.out).mono ?_
  rintro e w1' ⟨rfl, rfl⟩
  go_wp2_with fail
  refine (awake w1).mono ?_
  rintro e w2 ⟨rfl, hB⟩
  have HB2 := Lib.hid (HB.out.trans (hB.mono sb))
  clear hB HB
  go_wp2_with fail
  go_ret
  exact ⟨rfl, HB2.out⟩
theorem walk0 (l : List Ac) (A : Option Addr) (c : Nat) (who : Int) (hw : (Lit.int .u8 who).wf = true) (w : World) (hs : Seq w 0 w.heap.size A (l.flatMap cellsAc)) (hm : l.length ≤ maxLen) (hq : ∀ q ∈ l, q.Good) :
    Calls Try.prog 5 #[.slice A l.length c, .int .u8 who] w fun e w' => e = .returned (.bool true) ∧ Below w.heap.size w w' := by
  have h1 := bounds_u8 hw
  obtain ⟨a, rfl⟩ := Int.eq_ofNat_of_zero_le h1.1
  cases h : longA l with
  | true => exact walkLong l A c _ w hs hm hq h
  | false => exact walk l A c a (by omega) w hs hm hq h

set_option maxRecDepth 100000 in
theorem lifted (os : Os) (started : os.Started) (H : Type) (enc : TypeId × Value → H) :
    ReturnsInHanded {} Try.checked os 5 .any (Rows.feedOnlySpec.pre6 enc Try.prog Try.f5 Rows.feedOnlyRow.domain false) (Rows.feedOnlySpec.post enc Try.prog Try.f5 false true false false) := by
  refine returnsInHanded_of_change (C := Try.checked) own started (by kernel_rfl) Try.func5
    (ChangeSpec.witness6 (enc := enc) (C := Try.checked) false ⟨#[], #[.slice none 0 0, .int .u8 0], []⟩ 8 (by kernel_rfl) (by kernel_rfl) (by kernel_rfl) (by kernel_rfl)) ?_
  intro W base args ds gs before hval0 hW hcnd _
  have hval : ∀ (j : Nat) t v, Try.f5.params[j]? = some t → args[j]? = some v → Value.okWide Try.prog W .any base t v := hval0
  have hW' := hW
  obtain ⟨p, q, hA0, hV, rfl, hfz, hnd⟩ := hW
  have hA : DataW.TrodAll enc Try.prog W 0 (fun _ => true) true Try.f5.params.toList args.toList ds p := hA0
  rw [Try.params5] at hA hval
  obtain ⟨v0, vs0, d0, ds0, p0, q0, hargs, rfl, rfl, h0, r0⟩ := trodAll_cons hA
  obtain ⟨v1, vs1, d1, ds1, p1, q1, rfl, rfl, rfl, h1, r1⟩ := trodAll_cons r0
  obtain ⟨rfl, rfl, rfl⟩ := trodAll_nil r1
  obtain rfl : args = #[v0, v1] := by cases args; simp_all
  obtain ⟨A, c, l, rfl, hs, hm, hq⟩ := open_acts (hval 0 22 v0 rfl rfl) h0
  obtain ⟨a1, rfl, rfl, rfl, w1⟩ := open_int Try.underlying5 (hval 1 5 v1 rfl rfl) h1
  refine (walk0 l A c a1 w1 W hs hm hq).mono fun e W' ⟨he, bel⟩ => ?_
  subst he
  exact ⟨_, rfl, Law.post_law laidOut (by kernel_rfl) (by kernel_rfl) Try.underlying4 rfl (fun ds h => by match ds, h with | [_, _], _ => rfl) hW' bel⟩

theorem proved : Rows.FeedOnlySaid :=
  OpenClaim.holds_of_wide 5 Try.f5 rfl rfl rfl rfl rfl rfl rfl ⟨rfl, rfl, rfl, rfl, rfl⟩ rfl rfl rfl rfl rfl (by kernel_rfl) Try.func5 (by kernel_rfl)
    (of_decide_eq_true (by kernel_rfl)) (by unfold Func.isWrapper; rw [if_neg (by decide +kernel)]; exact ⟨rfl, rfl⟩)
    (fun os started H enc _ => lifted os started H enc)
#print axioms proved
end Go.Proofs.Ytkmodjdgcdcihaa.feedOnly
