/-
  A reply's words (layer 11).
-/
import Derived.Test.YtdfonlbbohnfhaaDoorOpPre
import Derived.Test.YtdfonlbbohnfhaaDoorFeedL
namespace Go.Proofs.YtdfonlbbohnfhaaDoor
open Go.RowKit Go.Shelf Go.Lib
attribute [local go_sem] Oper.semAt_some
namespace Opx
open Go.Law
abbrev P3 := Int × Int × Int
def cellsP3 (q : P3) : List Value := [.int .i64 q.1, .int .i64 q.2.1, .int .i64 q.2.2]
def flatP3 (l : List P3) : List Value := l.flatMap cellsP3
theorem Seq.p3 {w : World} {lo B : Nat} {A : Option Addr} {l : List P3} {i : Nat} (h : Seq w lo B A (flatP3 l)) (hi : i < l.length) : ∃ b off, A = some ⟨b, off, none⟩ ∧ lo ≤ b ∧ b < B ∧ w.cell? ⟨b, off + i * 3, none⟩ = some (.int .i64 l[i].1) ∧ w.cell? ⟨b, off + i * 3 + 1, none⟩ = some (.int .i64 l[i].2.1) ∧ w.cell? ⟨b, off + i * 3 + 2, none⟩ = some (.int .i64 l[i].2.2) := by
  obtain ⟨b, off, hA, h1, h2, hc⟩ := Seq.row (cells := cellsP3) (fun _ => rfl) (by decide : 0 < 3) h hi
  exact ⟨b, off, hA, h1, h2, by simpa using hc 0 _ rfl, hc 1 _ rfl, hc 2 _ rfl⟩
/-- a reply as it is handed in -/
structure RepW where
  err : Int
  A : Option Addr
  cA : Nat
  vs : List P3
  E : Option Addr
  cE : Nat
  es : List Ev
  lost : Bool
abbrev RepW.box (q : RepW) : Array Value := #[.int .i64 q.err, .slice q.A q.vs.length q.cA, .slice q.E q.es.length q.cE, .bool q.lost]
def okP (q : P3) : Prop := I64 q.1 ∧ I64 q.2.1 ∧ I64 q.2.2
def okE (q : Ev) : Prop := q.us.size ≤ 100 ∧ I64 q.o1 ∧ I64 q.o2 ∧ I64 q.o3 ∧ I64 q.n1 ∧ I64 q.n2 ∧ I64 q.n3 ∧ 0 ≤ q.sq ∧ q.sq < 18446744073709551616
def pB (q : P3) : ByteArray := presB q.1 q.2.1 q.2.2
def eB (q : Ev) : ByteArray := eventB q.us q.o1 q.o2 q.o3 q.n1 q.n2 q.n3 q.sq.toNat
structure RepW.In (q : RepW) (w : World) : Prop where
  vs : Seq w 0 w.heap.size q.A (flatP3 q.vs)
  es : Seq w 0 w.heap.size q.E (flatE q.es)
  pv : ∀ p ∈ q.vs, okP p
  ev : ∀ p ∈ q.es, okE p
  err : I64 q.err
  lv : q.vs.length ≤ 400
  le : q.es.length ≤ 400
def toldB (q : RepW) : List ByteArray := ((intB q.err :: q.vs.map pB) ++ q.es.map eB) ++ (if q.lost then [⟨#[108, 111, 115, 116]⟩] else [])
theorem p3_one (q : P3) (w : World) (t : TypeId) : ∀ (j : Nat) (u : Value), (cellsP3 q)[j]? = some u → (w.alloc (.cells #[.int .i64 q.1, .int .i64 q.2.1, .int .i64 q.2.2] t)).cell? ((⟨w.heap.size, 0, none⟩ : Addr).add j) = some u := by
  intro j u hj
  match j, hj with
  | 0, hj => simp [cellsP3] at hj; subst hj; simp [Addr.add]
  | 1, hj => simp [cellsP3] at hj; subst hj; simp [Addr.add]
  | 2, hj => simp [cellsP3] at hj; subst hj; simp [Addr.add]
theorem words_own (qs : List ByteArray) (n : Nat) (D : Option Addr) (cap base : Nat) (w : World) (hn : n = qs.length) (hp : 0 < n) (hO : w.ownsRow base 9 1 (.slice D n cap) n (qs.map .string)) (h1 : ∀ x ∈ qs, x.size ≤ 1300) (hle : n ≤ 1000) :
    Calls Tryd.prog 13 #[.slice D n cap] w fun e w' => e = .returned (.string (joinB qs)) ∧ Below w.heap.size w w' := by
  subst hn
  obtain ⟨g, hD, hgl⟩ : ∃ g, D = some ⟨g, 0, none⟩ ∧ g < w.heap.size := by
    rcases hO.2 with ⟨e, h2⟩ | ⟨g, cap', cur, h1, _, h2, _⟩
    · injection e with e1 e2 e3; omega
    · refine ⟨g, by cases h1; rfl, ?_⟩
      exact (Array.getElem?_eq_some_iff.1 h2).1
  subst hD
  have hc : qs.length ≤ cap := by obtain ⟨_, _, h1, h2⟩ := own_shape hO; cases h1; exact h2
  have hcell : ∀ (j : Nat) x, qs[j]? = some x → w.cell? ⟨g, 0 + j, none⟩ = some (.string x) := fun j x hj => by
    have h1 := hO.cells (g := g) (by simp [Value.ownBlock]) j (.string x) (by rw [List.getElem?_map, hj]; rfl)
    by_cases hj0 : j = 0 <;> simpa [Addr.add, hj0] using h1
  have hsz : (joinB qs).size ≤ 140737488355328 := by
    refine Nat.le_trans (join_le _ 1300 h1) ?_
    have := Nat.mul_le_mul_right (1300 + 1) hle
    omega
  exact words qs g 0 cap w hcell hgl (by omega) hc hsz
set_option maxRecDepth 100000 in
set_option maxHeartbeats 2000000 in
theorem reply (q : RepW) (w : World) (hq : q.In w) (hT : Tabs w) :
    Calls Tryd.prog 9 #[.agg q.box] w fun e w' => e = .returned (.string (joinB (toldB q))) ∧ Below w.heap.size w w' := by
  obtain ⟨err, A, cA, vs, E, cE, es, lost⟩ := q
  have HV := Lib.hid hq.vs
  have HE := Lib.hid hq.es
  have HPV := Lib.hid hq.pv
  have HPE := Lib.hid hq.ev
  have lv := hq.lv
  have le := hq.le
  have herr := hq.err
  simp only at lv le herr
  have HT := Lib.hid hT
  have HX := Lib.hid (Is.new w 30 (RepW.box ⟨err, A, cA, vs, E, cE, es, lost⟩) rfl)
  have bb := (Below.refl w.heap.size w).alloc (Nat.le_refl _) (.cells (RepW.box ⟨err, A, cA, vs, E, cE, es, lost⟩) 30)
  have HB := Lib.hid bb
  obtain ⟨i1, hE1⟩ := elemS
  have HE1 := Lib.hid hE1
  clear hq hT bb hE1
  go_enter Tryd.func9, Tryd.ntmps9
  go_wp2_with fail
  -- WALK
  generalize (w.alloc (.cells (RepW.box ⟨err, A, cA, vs, E, cE, es, lost⟩) 30)) = w1 at *
  refine (digE err herr.1 herr.2 w1 (HT.out.below HB.out)).mono ?_
  rintro e w2 ⟨rfl, b2⟩
  have HX2 := Lib.hid (HX.out.below b2 HX.out.lt)
  have HB2 := Lib.hid (HB.out.trans (b2.mono HB.out.size))
  clear b2 HX HB
  have x1 : w2.cell? ⟨w.heap.size, 1, none⟩ = some (.slice A vs.length cA) := HX2.out.cell' rfl
  have HO := Lib.hid (own_one w2 (base := w.heap.size) 9 (.string (intB err)) HB2.out.size)
  have ba := (Below.refl w2.heap.size w2).alloc (Nat.le_refl _) (.cells #[.string (intB err)] 9)
  have HX3 := Lib.hid (HX2.out.below ba HX2.out.lt)
  have HB3 := Lib.hid (HB2.out.trans (ba.mono HB2.out.size))
  have y1 : (w2.alloc (.cells #[.string (intB err)] 9)).cell? ⟨w.heap.size, 1, none⟩ = some (.slice A vs.length cA) := HX3.out.cell' rfl
  clear ba HX2 HB2
  go_wp2_with fail
  clear x1 y1
  generalize w2.alloc (.cells #[.string (intB err)] 9) = w3 at *
  go_loopw [3, 15] (fun vt vi wr => ∃ (j : Nat) (D : Option Addr) (cap : Nat), j ≤ vs.length ∧ vi = .int .i64 j ∧ vt = .slice D (j + 1) cap ∧ wr.ownsRow w.heap.size 9 1 (.slice D (j + 1) cap) (j + 1) ((intB err :: (vs.take j).map pB).map .string) ∧ Is wr w.heap.size 30 (RepW.box ⟨err, A, cA, vs, E, cE, es, lost⟩) ∧ Below w.heap.size w wr) (fun _ vi _ => vs.length - (RowKit.intOf vi).toNat)
  case atStart => exact ⟨0, _, _, Nat.zero_le _, rfl, rfl, HO.out, HX3.out, HB3.out⟩
  case round =>
    clear HO HB3 HX3
    obtain ⟨j, D, cap, hj, rfl, rfl, hO, hX, hB⟩ := hrel
    have HO := Lib.hid hO
    have HX := Lib.hid hX
    have HB := Lib.hid hB
    have sz := hB.size
    clear hO hX hB
    by_cases hlt : j < vs.length
    · have d1 : decide ((j : Int) < (vs.length : Int)) = true := by simp; omega
      obtain ⟨b, off, rfl, _, hb, c0, c1, c2⟩ := Seq.p3 (HV.out.below HB.out) hlt
      have hok := HPV.out _ (List.getElem_mem hlt)
      have HTK := Lib.hid (List.take_succ_eq_append_getElem hlt)
      generalize vs[j] = u at *
      go_wp2_with fail
      have ba := (Below.refl wr.heap.size wr).alloc (Nat.le_refl _) (.cells #[.int .i64 u.1, .int .i64 u.2.1, .int .i64 u.2.2] 36)
      have HB1 := Lib.hid (HB.out.trans (ba.mono sz))
      have HX1 := Lib.hid (HX.out.below ba HX.out.lt)
      have HO1 := Lib.hid (own_below HO.out ba)
      clear ba HB HX HO c0 c1 c2
      generalize wr.alloc (.cells #[.int .i64 u.1, .int .i64 u.2.1, .int .i64 u.2.2] 36) = w4 at *
      refine (presence u.1 u.2.1 u.2.2 hok.1 hok.2.1 hok.2.2 w4 (HT.out.below HB1.out)).mono ?_
      rintro e w5 ⟨rfl, b2⟩
      have HB2 := Lib.hid (HB1.out.trans (b2.mono HB1.out.size))
      have HX2 := Lib.hid (HX1.out.below b2 HX1.out.lt)
      have HO2 := Lib.hid (own_below HO1.out b2)
      have sz2 := HB2.out.size
      have HX4 := Lib.hid (HX2.out.below ((Below.refl w5.heap.size w5).alloc (Nat.le_refl _) (.cells #[.string (pB u)] 9)) HX2.out.lt)
      have hgx := own_ne (HO2.out.alloc (.cells #[.string (pB u)] 9)) HX4.out (by decide)
      have HG := Lib.hid hgx
      clear b2 HB1 HX1 HO1 hgx
      go_wp2_with (at_builtin; refine wpList_append_own _ rfl _ _ 23 rfl w.heap.size 9 i1 (.string ⟨#[]⟩) 1 16 HE1.out.ut HE1.out.info HE1.out.zero HE1.out.sz HE1.out.by_ HE1.out.cells HE1.out.pos _ _ _ rfl (HO2.out.alloc _) ⟨w5.heap.size, 0, none⟩ 1 1 [.string (pB u)] rfl rfl (Law.new_one _ _ _) (one_strv _) (by unfold maxLen; omega) (by omega) (by simp; omega) ?_; intro v' w6 hown hg _; have HR3 := Lib.hid hown; have HX5 := Lib.hid (HX4.out.grown hg HG.out); have HB3 := Lib.hid ((HB2.out.alloc sz2 _).grown hg (by simp; omega) (fun g hg => (HO2.out.lt g hg).1)); obtain ⟨D', cap', rfl, _⟩ := own_shape hown; clear hown hg)
      go_roundw
      case rel => exact ⟨j + 1, _, _, by omega, by go_num, rfl, by rw [HTK.out]; simpa using HR3.out, HX5.out, HB3.out⟩
      case measure => simp [RowKit.intOf]; omega
    · obtain rfl : j = vs.length := by omega
      have d1 : decide ((vs.length : Int) < (vs.length : Int)) = false := by simp
      rw [List.take_of_length_le (Nat.le_refl _)] at HO
      have x2 : wr.cell? ⟨w.heap.size, 2, none⟩ = some (.slice E es.length cE) := HX.out.cell' rfl
      go_wp2_with fail
      clear x2 HV
      generalize hP : intB err :: vs.map pB = pre at *
      have hpl : pre.length = vs.length + 1 := by rw [← hP]; simp
      go_loopw [3, 28] (fun vt vi wr => ∃ (k : Nat) (D : Option Addr) (cap : Nat), k ≤ es.length ∧ vi = .int .i64 k ∧ vt = .slice D (vs.length + 1 + k) cap ∧ wr.ownsRow w.heap.size 9 1 (.slice D (vs.length + 1 + k) cap) (vs.length + 1 + k) ((pre ++ (es.take k).map eB).map .string) ∧ Is wr w.heap.size 30 (RepW.box ⟨err, A, cA, vs, E, cE, es, lost⟩) ∧ Below w.heap.size w wr) (fun _ vi _ => es.length - (RowKit.intOf vi).toNat)
      case atStart => exact ⟨0, _, _, Nat.zero_le _, rfl, rfl, by simpa using HO.out, HX.out, HB.out⟩
      case round =>
        clear HO HB HX
        clear sz
        obtain ⟨k, D, cap, hk, rfl, rfl, hO, hX, hB⟩ := hrel
        have HO := Lib.hid hO
        have HX := Lib.hid hX
        have HB := Lib.hid hB
        have sz := hB.size
        clear hO hX hB
        by_cases hlt : k < es.length
        · have d1 : decide ((k : Int) < (es.length : Int)) = true := by simp; omega
          obtain ⟨b, off, rfl, _, hb, c0⟩ := Seq.ev (HE.out.below HB.out) hlt
          obtain ⟨c0, c1, c2, c3, c4, c5, c6, c7⟩ := c0
          have hok := HPE.out _ (List.getElem_mem hlt)
          have HTK := Lib.hid (List.take_succ_eq_append_getElem hlt)
          generalize es[k] = u at *
          obtain ⟨uu, p1, p2, p3, p4, p5, p6, sq⟩ := u
          obtain ⟨h0, h1, h2, h3, h4, h5, h6, h7, h8⟩ := hok
          obtain ⟨sn, hsn⟩ := Int.eq_ofNat_of_zero_le h7
          simp only at hsn h0 h1 h2 h3 h4 h5 h6 h8 c0 c1 c2 c3 c4 c5 c6 c7
          subst hsn
          go_wp2_with fail
          have ba := (Below.refl wr.heap.size wr).alloc (Nat.le_refl _) (.cells #[.string uu, .int .i64 p1, .int .i64 p2, .int .i64 p3, .int .i64 p4, .int .i64 p5, .int .i64 p6, .int .u64 (sn : Int)] 38)
          have HB1 := Lib.hid (HB.out.trans (ba.mono sz))
          have HX1 := Lib.hid (HX.out.below ba HX.out.lt)
          have HO1 := Lib.hid (own_below HO.out ba)
          clear ba HB HX HO c0 c1 c2 c3 c4 c5 c6 c7
          generalize wr.alloc (.cells #[.string uu, .int .i64 p1, .int .i64 p2, .int .i64 p3, .int .i64 p4, .int .i64 p5, .int .i64 p6, .int .u64 (sn : Int)] 38) = w4 at *
          refine (event uu h0 p1 p2 p3 p4 p5 p6 h1 h2 h3 h4 h5 h6 sn (by omega) w4 (HT.out.below HB1.out)).mono ?_
          rintro e w5 ⟨rfl, b2⟩
          have HB2 := Lib.hid (HB1.out.trans (b2.mono HB1.out.size))
          have HX2 := Lib.hid (HX1.out.below b2 HX1.out.lt)
          have HO2 := Lib.hid (own_below HO1.out b2)
          have sz2 := HB2.out.size
          have HX4 := Lib.hid (HX2.out.below ((Below.refl w5.heap.size w5).alloc (Nat.le_refl _) (.cells #[.string (eventB uu p1 p2 p3 p4 p5 p6 sn)] 9)) HX2.out.lt)
          have hgx := own_ne (HO2.out.alloc (.cells #[.string (eventB uu p1 p2 p3 p4 p5 p6 sn)] 9)) HX4.out (by decide)
          have HG := Lib.hid hgx
          clear b2 HB1 HX1 HO1 hgx
          go_wp2_with (at_builtin; refine wpList_append_own _ rfl _ _ 23 rfl w.heap.size 9 i1 (.string ⟨#[]⟩) 1 16 HE1.out.ut HE1.out.info HE1.out.zero HE1.out.sz HE1.out.by_ HE1.out.cells HE1.out.pos _ _ _ rfl (HO2.out.alloc _) ⟨w5.heap.size, 0, none⟩ 1 1 [.string (eventB uu p1 p2 p3 p4 p5 p6 sn)] rfl rfl (Law.new_one _ _ _) (one_strv _) (by unfold maxLen; omega) (by omega) (by simp; omega) ?_; intro v' w6 hown hg _; have HR3 := Lib.hid hown; have HX5 := Lib.hid (HX4.out.grown hg HG.out); have HB3 := Lib.hid ((HB2.out.alloc sz2 _).grown hg (by simp; omega) (fun g hg => (HO2.out.lt g hg).1)); obtain ⟨D', cap', rfl, _⟩ := own_shape hown; clear hown hg)
          go_roundw
          case rel => exact ⟨k + 1, _, _, by omega, by go_num, rfl, by rw [HTK.out, show vs.length + 1 + (k + 1) = vs.length + 1 + k + 1 by omega]; simpa [eB, List.append_assoc] using HR3.out, HX5.out, HB3.out⟩
          case measure => simp [RowKit.intOf]; omega
        · obtain rfl : k = es.length := by omega
          have d1 : decide ((es.length : Int) < (es.length : Int)) = false := by simp
          rw [List.take_of_length_le (Nat.le_refl _)] at HO
          have x3 : wr.cell? ⟨w.heap.size, 3, none⟩ = some (.bool lost) := HX.out.cell' rfl
          have HTo : Hid (toldB ⟨err, A, cA, vs, E, cE, es, lost⟩ = (pre ++ es.map eB) ++ (if lost then [⟨#[108, 111, 115, 116]⟩] else [])) := Lib.hid (by unfold toldB; rw [← hP])
          generalize hQ : pre ++ es.map eB = qs at *
          have hql : qs.length = vs.length + 1 + es.length := by rw [← hQ]; simp [hpl]
          have hq1 : ∀ x ∈ qs, x.size ≤ 1300 := by
            intro x hx
            rw [← hQ, ← hP] at hx
            rcases List.mem_append.1 hx with hx | hx
            · rcases List.mem_cons.1 hx with rfl | hx
              · have := intB_size err herr; omega
              · obtain ⟨p, hp, rfl⟩ := List.mem_map.1 hx
                have h := HPV.out p hp
                have := presB_size p.1 p.2.1 p.2.2 h.1 h.2.1 h.2.2
                show (presB _ _ _).size ≤ 1300
                omega
            · obtain ⟨p, hp, rfl⟩ := List.mem_map.1 hx
              obtain ⟨h0, h1, h2, h3, h4, h5, h6, h7, h8⟩ := HPE.out p hp
              have i0 := quoteB_size p.us
              have i1 := presB_size p.o1 p.o2 p.o3 h1 h2 h3
              have i2 := presB_size p.n1 p.n2 p.n3 h4 h5 h6
              have i3 := decB_size p.sq.toNat (by omega)
              have e1 : (⟨#[58]⟩ : ByteArray).size = 1 := rfl
              have e2 : (⟨#[62]⟩ : ByteArray).size = 1 := rfl
              have e3 : (⟨#[64]⟩ : ByteArray).size = 1 := rfl
              show (eventB _ _ _ _ _ _ _ _).size ≤ 1300
              unfold eventB
              simp only [ByteArray.size_append, e1, e2, e3]
              omega
          cases lost
          · simp only [Bool.false_eq_true, if_false, List.append_nil] at HTo
            go_wp2_with fail
            refine (words_own qs _ D cap _ wr hql.symm (by omega) HO.out hq1 (by omega)).mono ?_
            rintro e w7 ⟨rfl, b2⟩
            have HB2 := Lib.hid (HB.out.trans (b2.mono sz))
            clear b2
            go_wp2_with fail
            go_ret
            exact ⟨by rw [HTo.out]; rfl, HB2.out⟩
          · simp only [if_true] at HTo
            go_wp2_with (at_builtin; refine wpList_append_own _ rfl _ _ 23 rfl w.heap.size 9 i1 (.string ⟨#[]⟩) 1 16 HE1.out.ut HE1.out.info HE1.out.zero HE1.out.sz HE1.out.by_ HE1.out.cells HE1.out.pos _ _ _ rfl (HO.out.alloc _) ⟨wr.heap.size, 0, none⟩ 1 1 [.string ⟨#[108, 111, 115, 116]⟩] rfl rfl (Law.new_one _ _ _) (one_strv _) (by unfold maxLen; omega) (by omega) (by simp; omega) ?_; intro v' w6 hown hg _; have HR3 := Lib.hid hown; have HB3 := Lib.hid ((HB.out.alloc sz _).grown hg (by simp; omega) (fun g hg => (HO.out.lt g hg).1)); obtain ⟨D', cap', rfl, _⟩ := own_shape hown; clear hown hg)
            refine (words_own (qs ++ [⟨#[108, 111, 115, 116]⟩]) _ D' cap' _ w6 (by simp; omega) (by simp) (by simpa using HR3.out) (fun x hx => by rcases List.mem_append.1 hx with hx | hx; exact hq1 x hx; obtain rfl := List.mem_singleton.1 hx; decide) (by simp; omega)).mono ?_
            rintro e w7 ⟨rfl, b2⟩
            have HB4 := Lib.hid (HB3.out.trans (b2.mono HB3.out.size))
            clear b2
            go_wp2_with fail
            go_ret
            exact ⟨by rw [HTo.out]; rfl, HB4.out⟩
end Opx
end Go.Proofs.YtdfonlbbohnfhaaDoor
