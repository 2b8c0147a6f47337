/-
  What the table's (layer 10) presences, Users and poll come to.
-/
import Derived.Test.YtohdlnefgieenaaGreatJ20
import Derived.Test.YtohdlnefgieenaaGreatJ21
import Derived.Deep.OwnRows
namespace Go.Law
open Go.RowKit
def cellsPr (q : Pr) : List Value := [.int .i64 q.1, .int .i64 q.2.1, .int .i64 q.2.2]
def flatPr (l : List Pr) : List Value := l.flatMap cellsPr
theorem flatPr_snoc (zs : List Pr) (q : Pr) : flatPr (zs ++ [q]) = flatPr zs ++ cellsPr q := by unfold flatPr; rw [List.flatMap_append]; simp
theorem one_Pr (q : Pr) : ∀ u ∈ cellsPr q, u.oneCell' = true := by
 intro u hu
 simp [cellsPr] at hu
 rcases hu with rfl | rfl | rfl <;> rfl
theorem new_Pr (w : World) (q : Pr) (t : TypeId) {g : Nat} (hg : g = w.heap.size) : ∀ (j : Nat) (u : Value), (cellsPr q)[j]? = some u → (w.alloc (.cells #[.int .i64 q.1, .int .i64 q.2.1, .int .i64 q.2.2] t)).cell? ((⟨g, 0, none⟩ : Addr).add j) = some u := by
 subst hg
 intro j u hj
 match j, hj with
 | 0, hj => simp [cellsPr] at hj; subst hj; simp [Addr.add]
 | 1, hj => simp [cellsPr] at hj; subst hj; simp [Addr.add]
 | 2, hj => simp [cellsPr] at hj; subst hj; simp [Addr.add]
 | j + 3, hj => simp [cellsPr] at hj
end Go.Law
namespace Go.Proofs.YtohdlnefgieenaaGreat
open Go.RowKit Go.Shelf
attribute [local go_sem] Oper.semAt_some
namespace Mod
open Go.Law Feed Bk
theorem elemPr : ∃ i, Law.Elem Tryz.prog 40 57 i (.agg #[.int .i64 0, .int .i64 0, .int .i64 0]) 3 24 := Law.Elem.of Tryz.underlying40 (by kernel_rfl) rfl (by decide)
section
variable {w w' : World} {base m t c b : Nat} {S S' : Nat → Prop} {arr : Array Value} {p : Nat → Option Addr} {g : Nat → Nat} {Sk : Nat → Nat → Prop} {a : Mo}
def Prs (w : World) (zs : List Pr) (e : Ending) (w' : World) : Prop := ∃ A c, e = .returned (.slice A zs.length c) ∧ Seq w' w.heap.size w'.heap.size A (flatPr zs) ∧ Below w.heap.size w w'
set_option maxRecDepth 100000 in
set_option maxHeartbeats 1000000 in
theorem presences (h : Tab w base S m a) (ho : a.Ok b) (hb : b ≤ 380) (us : List ByteArray) (A : Option Addr) (cc : Nat) (hs : Seq w 0 w.heap.size A (us.map .string)) (hl : us.length ≤ 1000) (hz : ∀ u ∈ us, u.size ≤ maxLen) :
  Calls Tryz.prog 48 #[.pointer (some ⟨m, 0, none⟩), .slice A us.length cc] w (Prs w (us.map a.pres)) := by
 obtain ⟨i0, hE⟩ := elemPr
 have HE := Lib.hid hE
 have H := Lib.hid h
 have HO := Lib.hid ho
 have HS := Lib.hid hs
 have HZ := Lib.hid hz
 clear h ho hs hz hE
 go_enter Tryz.func48, Tryz.ntmps48
 go_wp2_with fail
 go_loopw [5, 10] (fun vv vi wr => ∃ j : Nat, j ≤ us.length ∧ vi = .int .i64 j ∧ wr.ownsRow w.heap.size 57 3 vv j (flatPr ((us.take j).map a.pres)) ∧ Below w.heap.size w wr) (fun _ vi _ => us.length - (intOf vi).toNat)
 case atStart => exact ⟨0, Nat.zero_le _, rfl, World.ownsRow_nil _ _ _ _, Below.refl _ _⟩
 case round =>
  obtain ⟨j, hj, rfl, hR, hB⟩ := hrel
  have HR := Lib.hid hR
  have HB := Lib.hid hB
  have H1 := Lib.hid (H.out.below hB)
  have sz := hB.size
  obtain ⟨Dv, cv, rfl, hcv⟩ := own_shape hR
  clear hB hR
  by_cases hlt : j < us.length
  ·have d1 : decide ((j : Int) < (us.length : Int)) = true := by simp; omega
   obtain ⟨ga, oa, rfl, _, hga, c0⟩ := (HS.out.below HB.out).str hlt
   have HTK : Hid ((us.take (j + 1)).map a.pres = (us.take j).map a.pres ++ [a.pres us[j]]) := by show _ = _; rw [List.take_succ_eq_append_getElem hlt, List.map_append]; rfl
   have HZ1 := Lib.hid (HZ.out _ (List.getElem_mem hlt))
   generalize us[j] = u at *
   obtain ⟨s0, s1, s2, hp⟩ : ∃ s0 s1 s2, a.pres u = (s0, s1, s2) := ⟨_, _, _, rfl⟩
   rw [hp] at HTK
   have HP := Lib.hid hp
   clear hp
   go_wp2_with fail
   refine (presence H1.out HO.out hb u HZ1.out HP.out).mono ?_
   rintro e w5 ⟨rfl, b5⟩
   have HR5 := Lib.hid (own_below HR.out b5)
   have HB5 := Lib.hid (HB.out.trans (b5.mono sz))
   have sz5 := HB5.out.size
   clear b5 HR HB H1
   generalize (us.take j).map a.pres = fs at *
   go_wp2_with (at_builtin; refine wpList_append_own _ rfl _ _ 40 rfl w.heap.size 57 i0 (.agg #[.int .i64 0, .int .i64 0, .int .i64 0]) 3 24 HE.out.ut HE.out.info HE.out.zero HE.out.sz HE.out.by_ HE.out.cells HE.out.pos _ _ _ rfl (HR5.out.alloc _) ⟨w5.heap.size, 0, none⟩ 1 1 (cellsPr (s0, s1, s2)) rfl rfl (new_Pr w5 (s0, s1, s2) _ rfl) (one_Pr _) (by unfold maxLen; omega) (by omega) (by simp; omega) ?_; intro v' w6 hown hg _; have HR6 := Lib.hid hown; have HB6 := Lib.hid ((HB5.out.alloc sz5 _).grown hg (by simp; omega) (fun g hg => (HR5.out.lt g hg).1)); obtain ⟨g', cap', rfl⟩ := ownsRow_succ hown; clear hown hg)
   go_roundw
   case rel => exact ⟨j + 1, by omega, by go_num, by rw [HTK.out, flatPr_snoc]; exact HR6.out, HB6.out⟩
   case measure => simp [intOf]; omega
  ·obtain rfl : j = us.length := by omega
   have d1 : decide ((us.length : Int) < (us.length : Int)) = false := by simp
   have HR2 := HR.out
   rw [List.take_of_length_le (Nat.le_refl _)] at HR2
   have HSQ := Lib.hid (Seq.own HR2)
   go_wp2_with fail
   go_ret
   exact ⟨Dv, cv, by simp, HSQ.out, HB.out⟩
set_option maxRecDepth 100000 in
set_option maxHeartbeats 2000000 in
theorem drainC {w : World} {base b room k : Nat} {S : Nat → Prop} {s : St} (h : Fed w base S b room s) (hk : k < 8) (hl : (s.que k).length ≤ 1000) :
  Calls Tryz.prog 74 #[.pointer (some ⟨b, 0, none⟩), .int .i64 (k : Int)] w fun e w' => ∃ A c, e = .returned (.tuple #[.slice A (s.que k).length c, .bool (s.los k)]) ∧ (s.que k).length ≤ c ∧ Seq w' w.heap.size w'.heap.size A (flatE (s.que k)) ∧ Fed w' base S b room (drained k s) ∧ Went w S w' S := by
 obtain ⟨p, g, Sk, h⟩ := h
 have HC := Lib.hid (client_yes hk)
 have HF := Lib.hid h
 have HG := Lib.hid (RingE.drain (h.ring k hk) hl)
 have c0 : w.cell? ⟨b, 8 + k, none⟩ = some (.pointer (some ⟨g k, 0, none⟩)) := (h.box.cell _).trans (by simpa using cellsF_que p g hk)
 have hk1 : k ≤ 7 := by omega
 have lb := h.box.lt
 clear h
 go_enter Tryz.func74, Tryz.ntmps74
 go_wp2_with fail
 refine (HC.out w).mono ?_
 rintro e w' ⟨rfl, rfl⟩
 go_wp2_with fail
 refine HG.out.mono ?_
 rintro e w' ⟨A, c, rfl, hc, hs, hr, ht⟩
 have HCC := Lib.hid hc
 have HS := Lib.hid hs
 have HR := Lib.hid hr
 have HT := Lib.hid ht
 clear hs hr ht hc
 go_wp2_with fail
 go_ret2
 have hin := Ringz.inn (HF.out.ring k hk)
 obtain ⟨v, hv⟩ := HF.out.ring k hk
 exact ⟨A, c, rfl, HCC.out, HS.out, ⟨p, g, _, HF.out.queue (S' := S) hk (HT.out.mono (fun n e => e ▸ hin)) (Keeps.touch1 HT.out hv.box (by decide)) HR.out (fun n hn => .inl hn) (fun n hn => .inl hn) (fun n hn => hn.elim id (HF.out.sub k hk n))⟩, HT.out.mono (fun n e => e ▸ HF.out.sub k hk _ hin), fun n hn => .inl hn, fun t _ ht _ => Keeps.touch1 HT.out hv.box ht⟩
theorem TabV.keep {s' : St} {k : Nat} (h : TabV w base S m t c arr p g Sk a) (hk : k < a.n) (hF : Fed w' base (Sk k) (g k) a.room s') (hW : Went w (Sk k) w' (Sk k)) :
  TabV w' base S m t c arr p g Sk { a with fd := upd a.fd k s' } ∧ Gone w S w' S := by
 have h1 := h.tell hk hF hW
 have e1 : (fun x => S x ∨ Sk k x) = S := funext fun x => propext ⟨fun h' => h'.elim id (h.sub k hk x), .inl⟩
 have e2 : upd Sk k (Sk k) = Sk := by
  funext i
  by_cases e : i = k
  ·subst e; rw [upd_same]
  ·rw [upd_other _ _ e]
 rw [e1, e2] at h1
 exact h1
theorem upto_next (a : Mo) (who j : Nat) : a.upto who (j + 1) = { a.upto who j with fd := upd (a.upto who j).fd j (drained who (a.fd j)) } := by
 unfold Mo.upto
 congr 1
 funext k
 by_cases e : k = j
 ·subst e; rw [upd_same, if_pos (by omega)]
 ·rw [upd_other _ _ e]
  show _ = if k < j then drained who (a.fd k) else a.fd k
  by_cases h : k < j
  ·rw [if_pos (by omega), if_pos h]
  ·rw [if_neg (by omega), if_neg h]
theorem upto_at (a : Mo) (who j : Nat) : (a.upto who j).fd j = a.fd j := by unfold Mo.upto; simp
theorem told_next (a : Mo) (who j : Nat) : a.told who (j + 1) = a.told who j ++ [(a.fd j).que who] := by unfold Mo.told; rw [List.range_succ, List.map_append]; rfl
theorem lost_next (a : Mo) (who j : Nat) : a.lost who (j + 1) = (a.lost who j || (a.fd j).los who) := by unfold Mo.lost; rw [List.range_succ, List.any_append]; simp
structure PollI (w wr : World) (base : Nat) (S : Nat → Prop) (m t c : Nat) (arr : Array Value) (p : Nat → Option Addr) (g : Nat → Nat) (Sk : Nat → Nat → Prop) (a : Mo) (who j : Nat) (l : List (RowV Ev)) (cs : Array Value) : Prop where
 tab : TabV wr base S m t c arr p g Sk (a.upto who j)
 gone : Gone w S wr S
 res : Is wr w.heap.size 43 #[.int .i64 0, .slice none 0 0, .slice none 0 0, .bool false]
 told : Is wr (w.heap.size + 1) 41 cs
 size : cs.size = a.n
 at_ : ∀ (i : Nat) (u : Value), (l.flatMap cellsR)[i]? = some u → cs[i]? = some u
 len : l.length = j
 evs : Feed.evs l = a.told who j
 rows : ∀ q ∈ l, Seq wr (w.heap.size + 2) wr.heap.size q.A (flatE q.xs)
 cap : ∀ q ∈ l, q.xs.length ≤ q.c
theorem PollI.next {wr w2 : World} {who j : Nat} {l : List (RowV Ev)} {cs : Array Value} (h : PollI w wr base S m t c arr p g Sk a who j l cs) (hj : j < a.n) (hS : ∀ x, S x → x < w.heap.size) (hF : Fed w2 base (Sk j) (g j) a.room (drained who (a.fd j))) (hW : Went wr (Sk j) w2 (Sk j)) {A : Option Addr} {cc : Nat} (hs : Seq w2 wr.heap.size w2.heap.size A (flatE ((a.fd j).que who))) (hc : ((a.fd j).que who).length ≤ cc) :
  PollI w (w2.setCell ⟨w.heap.size + 1, j, none⟩ (.slice A ((a.fd j).que who).length cc)) base S m t c arr p g Sk a who (j + 1) (l ++ [⟨A, cc, (a.fd j).que who⟩]) (cs.setIfInBounds j (.slice A ((a.fd j).que who).length cc)) := by
 have h1 := h.tab.keep hj hF hW
 rw [← upto_next] at h1
 have hg := h.gone.touch.size
 have hts := Law.Touch.store (T := fun n => n = w.heap.size + 1) w2 ⟨w.heap.size + 1, j, none⟩ (.slice A ((a.fd j).que who).length cc) rfl
 have hS1 : ¬ S (w.heap.size + 1) := fun hx => by have := hS _ hx; omega
 have hS0 : ¬ S w.heap.size := fun hx => by have := hS _ hx; omega
 have hT2 := h1.2.is h.told hS1
 have hst : Still w2 (w2.setCell ⟨w.heap.size + 1, j, none⟩ (.slice A ((a.fd j).que who).length cc)) := Still.store hT2 (by decide) (by decide) (by decide) _
 have far : ∀ {lo : Nat} {B : Option Addr} {xs : List Value}, w.heap.size + 2 ≤ lo → Seq w2 lo w2.heap.size B xs → Seq (w2.setCell ⟨w.heap.size + 1, j, none⟩ (.slice A ((a.fd j).que who).length cc)) (w.heap.size + 2) (w2.setCell ⟨w.heap.size + 1, j, none⟩ (.slice A ((a.fd j).que who).length cc)).heap.size B xs := by
  intro lo B xs hlo hq hn
  obtain ⟨g', off, hB, h2, h3, h4⟩ := hq hn
  exact ⟨g', off, hB, by omega, by simpa using h3, fun i u hu => (World.cell?_of_block (hts.block g' h3 (by omega))).trans (h4 i u hu)⟩
 refine ⟨h1.1.touch hts (fun x hx e => hS1 (e ▸ hx)) hst, ⟨(h.gone.touch.trans h1.2.touch (fun _ hk => .inl hk)).trans hts (fun k hk => .inr (by omega)), fun _ hx => .inl hx, h.gone.still.trans (h1.2.still.trans hst)⟩, hts.is (h1.2.is h.res hS0) (by omega), hT2.set j _ rfl, by simpa using h.size, fun i u hu => ?_, by simp [h.len], ?_, fun q hq => ?_, fun q hq => ?_⟩
 ·have hl := h.len
  rw [List.flatMap_append] at hu
  have hrl := rows_len l
  by_cases hi : i < j
  ·rw [List.getElem?_append_left (by omega)] at hu
   exact set_at _ _ _ (by omega) (h.at_ i u hu)
  ·rw [List.getElem?_append_right (by omega)] at hu
   have h0 : i - (l.flatMap cellsR).length < 1 := by have := (List.getElem?_eq_some_iff.1 hu).1; simpa [cellsR] using this
   obtain rfl : i = j := by omega
   rw [show i - (l.flatMap cellsR).length = 0 by omega] at hu
   obtain rfl : Value.slice A ((a.fd i).que who).length cc = u := by simpa [cellsR] using hu
   rw [Array.getElem?_setIfInBounds_self_of_lt (by rw [h.size]; exact hj)]
 ·have := h.evs
  unfold Feed.evs at *
  rw [told_next, List.map_append, this]
  rfl
 ·rcases List.mem_append.1 hq with hq | hq
  ·exact far (Nat.le_refl _) ((h1.2.seq (h.rows q hq) (Nat.le_refl _) (fun x hx => .inl (by have := hS x hx; omega))).more h1.2.touch.size)
  ·obtain rfl := List.mem_singleton.1 hq
   exact far (by have := h.told.lt; omega) hs
 ·rcases List.mem_append.1 hq with hq | hq
  ·exact h.cap q hq
  ·obtain rfl := List.mem_singleton.1 hq
   exact hc
theorem Gone.far {w3 : World} {g0 i : Nat} {t' : TypeId} {cs : Array Value} (h : Gone w S w3 S') (hg : w.heap.size ≤ g0) (hi : Is w3 g0 t' cs) (h1 : 168 ≠ t') (h2 : 138 ≠ t') (h3 : 200 ≠ t') (u : Value) (h4 : UT ≠ some t' := by decide) : Gone w S (w3.setCell ⟨g0, i, none⟩ u) S' :=
 ⟨h.touch.trans (Law.Touch.store (T := fun n => n = g0) w3 ⟨g0, i, none⟩ u rfl) (fun k hk => .inr (by omega)), h.new, h.still.trans (Still.store hi h1 h2 h3 u h4)⟩
theorem TabV.far {g0 i : Nat} {t' : TypeId} {cs : Array Value} (h : TabV w base S m t c arr p g Sk a) (hg : ¬ S g0) (hi : Is w g0 t' cs) (h1 : 168 ≠ t') (h2 : 138 ≠ t') (h3 : 200 ≠ t') (u : Value) (h4 : UT ≠ some t' := by decide) : TabV (w.setCell ⟨g0, i, none⟩ u) base S m t c arr p g Sk a :=
 h.touch (Law.Touch.store (T := fun n => n = g0) w ⟨g0, i, none⟩ u rfl) (fun _ hx e => hg (e ▸ hx)) (Still.store hi h1 h2 h3 u h4)
theorem Tab.far {g0 i : Nat} {t' : TypeId} {cs : Array Value} (h : Tab w base S m a) (hg : ¬ S g0) (hi : Is w g0 t' cs) (h1 : 168 ≠ t') (h2 : 138 ≠ t') (h3 : 200 ≠ t') (u : Value) (h4 : UT ≠ some t' := by decide) : Tab (w.setCell ⟨g0, i, none⟩ u) base S m a := by
 obtain ⟨t, c, arr, p, g, Sk, h⟩ := h
 exact ⟨t, c, arr, p, g, Sk, h.far hg hi h1 h2 h3 u h4⟩
structure Wrap (w w3 w4 : World) (base : Nat) (S S' : Nat → Prop) (m g0 : Nat) (a : Mo) (v0 v1 v2 v3 : Value) : Prop where
 box : Is w4 g0 43 #[v0, v1, v2, v3]
 tab : Tab w4 base S' m a
 gone : Gone w S w4 S'
 size : w4.heap.size = w3.heap.size
 seq : ∀ {lo : Nat} {A : Option Addr} {xs : List Value}, g0 < lo → Seq w3 lo w3.heap.size A xs → Seq w4 lo w4.heap.size A xs
theorem wrap {w3 : World} {g0 : Nat} {y0 y1 y2 y3 : Value} (hi : Is w3 g0 43 #[y0, y1, y2, y3]) (hT : Tab w3 base S' m a) (hG : Gone w S w3 S') (hg : w.heap.size ≤ g0) (hs : ¬ S' g0) (v0 v1 v2 v3 : Value) :
  Wrap w w3 ((((w3.setCell ⟨g0, 0, none⟩ v0).setCell ⟨g0, 1, none⟩ v1).setCell ⟨g0, 2, none⟩ v2).setCell ⟨g0, 3, none⟩ v3) base S S' m g0 a v0 v1 v2 v3 := by
 have i1 : Is (w3.setCell ⟨g0, 0, none⟩ v0) g0 43 #[v0, y1, y2, y3] := hi.set 0 v0 rfl
 have i2 : Is ((w3.setCell ⟨g0, 0, none⟩ v0).setCell ⟨g0, 1, none⟩ v1) g0 43 #[v0, v1, y2, y3] := i1.set 1 v1 rfl
 have i3 : Is (((w3.setCell ⟨g0, 0, none⟩ v0).setCell ⟨g0, 1, none⟩ v1).setCell ⟨g0, 2, none⟩ v2) g0 43 #[v0, v1, v2, y3] := i2.set 2 v2 rfl
 refine ⟨i3.set 3 v3 rfl, ?_, ?_, by simp, fun hlo hq => ?_⟩
 ·exact (((hT.far hs hi (by decide) (by decide) (by decide) v0).far hs i1 (by decide) (by decide) (by decide) v1).far hs i2 (by decide) (by decide) (by decide) v2).far hs i3 (by decide) (by decide) (by decide) v3
 ·exact (((hG.far hg hi (by decide) (by decide) (by decide) v0).far hg i1 (by decide) (by decide) (by decide) v1).far hg i2 (by decide) (by decide) (by decide) v2).far hg i3 (by decide) (by decide) (by decide) v3
 ·exact ((((hq.store (p := ⟨g0, 0, none⟩) (.inl hlo) v0).store (p := ⟨g0, 1, none⟩) (.inl hlo) v1).store (p := ⟨g0, 2, none⟩) (.inl hlo) v2).store (p := ⟨g0, 3, none⟩) (.inl hlo) v3).more (by simp)
theorem upto_zero (a : Mo) (who : Nat) : a.upto who 0 = a := by unfold Mo.upto; simp
theorem told_total (ho : a.Ok b) {who : Nat} (hw : who < 8) : ∀ {j : Nat}, j ≤ a.n → total (a.told who j) ≤ j * 16
 | 0, _ => by simp [Mo.told, total]
 | j + 1, hj => by
   have h1 := told_total ho hw (j := j) (by omega)
   have h2 := ho.que j (by omega) who hw
   rw [told_next, total_app, total_cons]
   have : total ([] : List (List Ev)) = 0 := rfl
   omega
def Polled (w : World) (base : Nat) (S : Nat → Prop) (m : Nat) (a' : Mo) (r : Rep) (e : Ending) (w' : World) : Prop :=
 ∃ A c A2 c2, e = .returned (.agg #[.int .i64 r.err, .slice A r.vals.length c, .slice A2 r.evs.length c2, .bool r.lost]) ∧ Seq w' w.heap.size w'.heap.size A (flatPr r.vals) ∧ Seq w' w.heap.size w'.heap.size A2 (flatE r.evs) ∧ ∃ S', Tab w' base S' m a' ∧ Gone w S w' S'
set_option maxRecDepth 100000 in
set_option maxHeartbeats 2000000 in
theorem poll (h : Tab w base S m a) (ho : a.Ok b) {who : Nat} (hw : who < 8) :
  Calls Tryz.prog 47 #[.pointer (some ⟨m, 0, none⟩), .int .i64 (who : Int)] w (Polled w base S m (a.poll who).1 (a.poll who).2) := by
 have HOK := Lib.hid h.ok
 have HO := Lib.hid ho
 have hn8 := ho.n8
 obtain ⟨t, c, arr, p, g, Sk, h⟩ := h
 have c5 : w.cell? ⟨m, 5, none⟩ = some (.slice (some ⟨t, 0, none⟩) a.n c) := h.box.cell' rfl
 have l1 := h.box.lt
 have hmk := fun W => Go.run_make_row' (P := Tryz.prog) 89 41 (.slice none 0 0) 24 Tryz.underlying89 (by kernel_rfl) rfl .i64 .i64 a.n (by omega) (by omega) W
 have bb := ((Below.refl w.heap.size w).alloc (Nat.le_refl _) (.cells #[.int .i64 0, .slice none 0 0, .slice none 0 0, .bool false] 43)).alloc (by simp) (.cells (madeCells #[.slice none 0 0] a.n) 41)
 have H0 : Hid (PollI w ((w.alloc (.cells #[.int .i64 0, .slice none 0 0, .slice none 0 0, .bool false] 43)).alloc (.cells (madeCells #[.slice none 0 0] a.n) 41)) base S m t c arr p g Sk a who 0 [] (madeCells #[.slice none 0 0] a.n)) := by
  refine ⟨by rw [upto_zero]; exact h.below bb, Gone.of_below bb, (Is.new w _ _ rfl).alloc _, Is.new _ _ _ (by simp), size_madeCells _ _, fun i u hu => (by simp at hu), rfl, rfl, fun _ h => (by cases h), fun _ h => (by cases h)⟩
 have hwS : Hid (∀ x, S x → x < w.heap.size) := fun x hx => (h.ok x hx).2
 clear h ho bb
 go_enter Tryz.func47, Tryz.ntmps47
 go_wp2_with fail
 generalize ((w.alloc (.cells #[.int .i64 0, .slice none 0 0, .slice none 0 0, .bool false] 43)).alloc (.cells (madeCells #[.slice none 0 0] a.n) 41)) = w1 at *
 go_loopw [6, 21] (fun vl vi wr => ∃ (j : Nat) (l : List (RowV Ev)) (cs : Array Value), j ≤ a.n ∧ vi = .int .i64 j ∧ vl = .bool (a.lost who j) ∧ PollI w wr base S m t c arr p g Sk a who j l cs) (fun _ vi _ => a.n - (intOf vi).toNat)
 case atStart => exact ⟨0, [], _, Nat.zero_le _, rfl, rfl, H0.out⟩
 case round =>
  clear H0
  obtain ⟨j, l, cs, hj, rfl, rfl, hP⟩ := hrel
  have HP := Lib.hid hP
  have sz := hP.gone.touch.size
  clear hP
  by_cases hlt : j < a.n
  ·have d1 : decide ((j : Int) < (a.n : Int)) = true := by simp; omega
   have e5 : World.cell? _ ⟨m, 5, none⟩ = some (.slice (some ⟨t, 0, none⟩) a.n c) := HP.out.tab.box.cell' rfl
   have e1 : World.cell? _ ⟨t, j * 2 + 1, none⟩ = some (.pointer (some ⟨g j, 0, none⟩)) := (HP.out.tab.row.cell _).trans (HP.out.tab.fdc j hlt)
   have lm := HP.out.tab.box.lt
   have lt_ := HP.out.tab.row.lt
   have hql := HO.out.que j hlt who hw
   have HF : Hid (Fed wr base (Sk j) (g j) a.room (a.fd j)) := by have := HP.out.tab.feed j hlt; rw [upto_at] at this; exact this
   have HLN := Lib.hid (lost_next a who j)
   go_wp2_with fail
   refine (drainC HF.out hw (by omega)).mono ?_
   rintro e w2 ⟨A2, c2, rfl, hc2, hs2, hF2, hW2⟩
   have HN := Lib.hid (HP.out.next hlt hwS.out hF2 hW2 hs2 hc2)
   have HT2 := Lib.hid (hW2.is HP.out.told (fun hx => by have := hwS.out _ (HP.out.tab.sub j hlt _ hx); omega))
   have lt2 := HT2.out.lt
   have ft2 := HT2.out.frozen j
   have ct2 := (HT2.out.cell j).trans (Array.getElem?_eq_getElem (by rw [HP.out.size]; exact hlt))
   have hcs := HP.out.size
   clear hc2 hs2 hF2 hW2 HF e1 e5 lm lt_
   cases hlo : a.lost who j with
   | true =>
     go_wp2_with fail
     go_roundw
     case rel => exact ⟨j + 1, _, _, by omega, by go_num, by rw [HLN.out, hlo]; rfl, HN.out⟩
     case measure => simp [intOf]; omega
   | false =>
     go_wp2_with fail
     go_roundw
     case rel => exact ⟨j + 1, _, _, by omega, by go_num, by rw [HLN.out, hlo]; rfl, HN.out⟩
     case measure => simp [intOf]; omega
  ·obtain rfl : j = a.n := by omega
   have d1 : decide ((a.n : Int) < (a.n : Int)) = false := by simp
   have HM := mergeAll l.length l (some ⟨w.heap.size + 1, 0, none⟩) a.n wr (Nat.le_refl _) ⟨fun _ => ⟨w.heap.size + 1, 0, rfl, Nat.zero_le _, HP.out.told.lt, fun i u hu => by rw [Nat.zero_add]; exact (HP.out.told.cell i).trans (HP.out.at_ i u hu)⟩, fun q hq => (HP.out.rows q hq).from_ (Nat.zero_le _), HP.out.cap⟩ (Nat.le_of_eq HP.out.len) (by rw [HP.out.evs]; have := told_total HO.out hw (j := a.n) (Nat.le_refl _); omega) (by rw [HP.out.len]; omega)
   rw [HP.out.len, HP.out.evs] at HM
   have HM2 := Lib.hid HM
   have HE : Hid ((a.poll who).2.evs = all (a.told who a.n)) := rfl
   clear HM
   generalize hz : all (a.told who a.n) = zs at *
   go_wp2_with fail
   refine HM2.out.mono ?_
   rintro e w3 ⟨A3, c3, rfl, hc3, hs3, b3⟩
   have HI3 := Lib.hid (HP.out.res.below b3 HP.out.res.lt)
   have HT3 := Lib.hid (HP.out.tab.below b3)
   have HG3 := Lib.hid (HP.out.gone.trans (Gone.of_below b3))
   have HS3 := Lib.hid hs3
   have sz3 := b3.size
   have l3 := HI3.out.lt
   have f0 := HI3.out.frozen 0
   have f1 := HI3.out.frozen 1
   have f2 := HI3.out.frozen 2
   have f3 := HI3.out.frozen 3
   have x0 := HI3.out.cell' (i := 0) rfl
   have x1 := HI3.out.cell' (i := 1) rfl
   have x2 := HI3.out.cell' (i := 2) rfl
   have x3 := HI3.out.cell' (i := 3) rfl
   have lw3 : w.heap.size + 2 ≤ wr.heap.size := by have := HP.out.told.lt; omega
   clear hs3 b3 hc3 HM2 HP
   go_wp2_with fail
   have HW := wrap HI3.out ⟨_, _, _, _, _, _, HT3.out⟩ HG3.out (Nat.le_refl _) (fun hx => by have := hwS.out _ hx; omega) (.int .i64 0) (.slice none 0 0) (.slice A3 zs.length c3) (.bool (a.lost who a.n))
   generalize (((w3.setCell ⟨w.heap.size, 0, none⟩ (.int .i64 0)).setCell ⟨w.heap.size, 1, none⟩ (.slice none 0 0)).setCell ⟨w.heap.size, 2, none⟩ (.slice A3 zs.length c3)).setCell ⟨w.heap.size, 3, none⟩ (.bool (a.lost who a.n)) = w4 at *
   have n0 := HW.box.cell' (i := 0) rfl
   have n1 := HW.box.cell' (i := 1) rfl
   have n2 := HW.box.cell' (i := 2) rfl
   have n3 := HW.box.cell' (i := 3) rfl
   have hq := HW.seq (by omega) HS3.out
   refine bodyPost_ret (v := .agg #[.int .i64 0, .slice none 0 0, .slice A3 zs.length c3, .bool (a.lost who a.n)]) (by simp [results, Tryz.results47, go_sem, n0, n1, n2, n3]) rfl ?_
   exact ⟨none, 0, A3, c3, by rw [HE.out]; rfl, fun h => absurd rfl h, by rw [HE.out]; exact hq.from_ (by omega), S, HW.tab, HW.gone⟩
end
end Mod
end Go.Proofs.YtohdlnefgieenaaGreat
namespace Go.Proofs.YtohdlnefgieenaaGreat
open Go.RowKit Go.Shelf
attribute [local go_sem] Oper.semAt_some
namespace Mod
open Go.Law Feed Bk
theorem elemT : ∃ i, Law.Elem Tryz.prog 35 9 i (.string ⟨#[]⟩) 1 16 := Law.Elem.of Tryz.underlying35 (by kernel_rfl) rfl (by decide)
@[go_sem] theorem run_nilT (n c : Nat) (w : World) : Sem.run Tryz.prog (binOp .eql 35 (.slice none n c) (.slice none 0 0)) w = .ok (.bool true) w := by kernel_rfl
@[go_sem] theorem run_not_nilT (a : Addr) (n c : Nat) (w : World) : Sem.run Tryz.prog (binOp .eql 35 (.slice (some a) n c) (.slice none 0 0)) w = .ok (.bool false) w := by kernel_rfl
theorem own_emptyT (w : World) {base : Nat} (e : TypeId) (hb : base ≤ w.heap.size) : (w.alloc (.cells #[] e)).ownsRow base e 1 (.slice (some ⟨w.heap.size, 0, none⟩) 0 0) 0 [] :=
 ⟨rfl, .inr ⟨w.heap.size, 0, #[], rfl, hb, heap_alloc_new w _, Nat.le_refl _, Nat.zero_le _, rfl, rfl⟩⟩
def Names (w : World) (us : List ByteArray) (e : Ending) (w' : World) : Prop := ∃ A c, e = .returned (.slice A us.length c) ∧ Seq w' w.heap.size w'.heap.size A (us.map .string) ∧ Below w.heap.size w w'
set_option maxHeartbeats 1000000 in
theorem cloneT (us : List ByteArray) (A : Option Addr) (c : Nat) (w : World) (hs : Seq w 0 w.heap.size A (us.map .string)) (hl : us.length ≤ 1000) :
  Calls Tryz.prog 76 #[.slice A us.length c] w (Names w us) := by
 obtain ⟨i0, hE⟩ := elemT
 have HE := Lib.hid hE
 have HS := Lib.hid hs
 clear hs hE
 cases A with
 | none =>
   have hz : us = [] := by
    cases us with
    | nil => rfl
    | cons x r => obtain ⟨_, _, h, _⟩ := HS.out (by simp); cases h
   subst hz
   go_enter Tryz.func76, Tryz.ntmps76
   go_wp2_with fail
   go_ret
   exact ⟨none, 0, rfl, fun h => absurd rfl h, Below.refl _ _⟩
 | some a =>
   have HO := Lib.hid (own_emptyT w 9 (base := w.heap.size) (Nat.le_refl _))
   have HS1 := Lib.hid (HS.out.alloc (Nat.le_refl _) (.cells #[] 9))
   go_enter Tryz.func76, Tryz.ntmps76
   go_wp2_with (at_builtin; refine Law.wpList_append_seq _ w.heap.size 35 rfl _ _ rfl HE.out _ 0 [] rfl HO.out 0 w.heap.size (some a) us.length c (us.map .string) rfl (by simp) HS1.out (str_one _) (by unfold maxLen; omega) (by omega) (by simp) ?_)
   intro v1 w1 hown hgrow
   have B1 : Below w.heap.size w w1 := ((Below.refl _ w).alloc (Nat.le_refl _) (.cells #[] 9)).grown hgrow (by simp) (fun k hk => by have h9 : w.heap.size = k := Option.some.inj hk; omega)
   have OW : w1.ownsRow w.heap.size 9 1 v1 us.length (us.map .string) := by simpa using hown
   obtain ⟨A1, c1, rfl, hc1⟩ := own_shape OW
   have HB := Lib.hid B1
   have HW := Lib.hid OW
   clear hown hgrow B1 OW HO HS1
   go_wp2_with fail
   go_ret
   exact ⟨A1, c1, rfl, Seq.own HW.out, HB.out⟩
set_option maxHeartbeats 1000000 in
theorem users4 (user : ByteArray) (id st pr ttl : Int) (us : Value) (w : World) :
  Calls Tryz.prog 49 #[.agg #[.int .i64 4, .string user, .int .i64 id, .int .i64 st, .int .i64 pr, .int .u64 ttl, us]] w (Names w [user]) := by
 have bb := ((Below.refl w.heap.size w).alloc (Nat.le_refl _) (.cells #[.int .i64 4, .string user, .int .i64 id, .int .i64 st, .int .i64 pr, .int .u64 ttl, us] 37)).alloc (by simp) (.cells #[.string user] 9)
 have hs : Seq ((w.alloc (.cells #[.int .i64 4, .string user, .int .i64 id, .int .i64 st, .int .i64 pr, .int .u64 ttl, us] 37)).alloc (.cells #[.string user] 9)) w.heap.size ((w.alloc (.cells #[.int .i64 4, .string user, .int .i64 id, .int .i64 st, .int .i64 pr, .int .u64 ttl, us] 37)).alloc (.cells #[.string user] 9)).heap.size (some ⟨w.heap.size + 1, 0, none⟩) ([user].map .string) := fun _ =>
  ⟨w.heap.size + 1, 0, rfl, by omega, by simp, fun i u hu => by
   have hi : i = 0 := by have := (List.getElem?_eq_some_iff.1 hu).1; simp at this; omega
   subst hi
   obtain rfl : Value.string user = u := by simpa using hu
   simp⟩
 have HB := Lib.hid bb
 have HS := Lib.hid hs
 clear bb hs
 go_enter Tryz.func49, Tryz.ntmps49
 go_wp2_with fail
 go_ret
 exact ⟨_, 1, rfl, HS.out, HB.out⟩
set_option maxHeartbeats 1000000 in
theorem users5 (user : ByteArray) (id st pr ttl : Int) (us : List ByteArray) (A : Option Addr) (c : Nat) (w : World) (hs : Seq w 0 w.heap.size A (us.map .string)) (hl : us.length ≤ 1000) :
  Calls Tryz.prog 49 #[.agg #[.int .i64 5, .string user, .int .i64 id, .int .i64 st, .int .i64 pr, .int .u64 ttl, .slice A us.length c]] w (Names w us) := by
 have bb := (Below.refl w.heap.size w).alloc (Nat.le_refl _) (.cells #[.int .i64 5, .string user, .int .i64 id, .int .i64 st, .int .i64 pr, .int .u64 ttl, .slice A us.length c] 37)
 have HB := Lib.hid bb
 have HC := Lib.hid (cloneT us A c _ ((hs.below bb).more bb.size) hl)
 clear bb hs
 go_enter Tryz.func49, Tryz.ntmps49
 go_wp2_with fail
 refine HC.out.mono ?_
 rintro e w2 ⟨A2, c2, rfl, hs2, b2⟩
 have HS2 := Lib.hid (hs2.from_ HB.out.size)
 have HB2 := Lib.hid (HB.out.trans (b2.mono HB.out.size))
 clear hs2 b2
 go_wp2_with fail
 go_ret
 exact ⟨A2, c2, rfl, HS2.out, HB2.out⟩
end Mod
end Go.Proofs.YtohdlnefgieenaaGreat
namespace Go.Proofs.YtohdlnefgieenaaGreat
open Go.RowKit Go.Shelf
attribute [local go_sem] Oper.semAt_some
namespace Mod
open Go.Law Feed Bk
structure Cf where
 st : Int
 se : Int
 qu : Int
 wa : Int
 re : Int
 ep : Int
 sta : Int
abbrev Cf.val (q : Cf) : Value := .agg #[.int .i64 q.st, .int .i64 q.se, .int .i64 q.qu, .int .i64 q.wa, .int .i64 q.re, .int .u64 q.ep, .int .u64 q.sta]
def Cf.right (q : Cf) : Bool := (decide (1 ≤ q.st) && decide (q.st ≤ 8)) && ((decide (1 ≤ q.se) && decide (q.se ≤ 8)) && ((decide (1 ≤ q.qu) && decide (q.qu ≤ 16)) && ((decide (1 ≤ q.wa) && decide (q.wa ≤ 8)) && (decide (0 ≤ q.re) && decide (q.re ≤ 4)))))
def Mo.new (q : Cf) : Mo := ⟨q.se, q.wa, q.sta, 0, false, q.st.toNat, q.qu.toNat, fun _ => [], fun _ => St.zero⟩
theorem new_ok (q : Cf) (h : q.right = true) (hs : Door.U q.sta) : (Mo.new q).Ok 0 := by
 simp only [Cf.right, Bool.and_eq_true, decide_eq_true_eq] at h
 exact ⟨by show 1 ≤ q.st.toNat; omega, by show q.st.toNat ≤ 8; omega, by show q.qu.toNat ≤ 16; omega, hs, (⟨by decide, by decide⟩ : Door.U 0), fun _ _ => Fit.nil 0, fun _ _ _ _ => Nat.le_refl _, fun _ _ _ _ => Nat.zero_le _⟩
set_option maxRecDepth 100000 in
set_option maxHeartbeats 2000000 in
theorem right (q : Cf) (w : World) {r : Bool} (hr : q.right = r) : Calls Tryz.prog 8 #[q.val] w fun e w' => e = .returned (.bool r) ∧ Below w.heap.size w w' := by
 obtain ⟨st, se, qu, wa, re, ep, sta⟩ := q
 subst hr
 have bb := (Below.refl w.heap.size w).alloc (Nat.le_refl _) (.cells #[.int .i64 st, .int .i64 se, .int .i64 qu, .int .i64 wa, .int .i64 re, .int .u64 ep, .int .u64 sta] 24)
 have HB := Lib.hid bb
 clear bb
 unfold Cf.right
 simp only
 cases h0 : (decide ((1 : Int) ≤ st) && decide (st ≤ 8)) with
 | false =>
   go_enter Tryz.func8, Tryz.ntmps8
   go_wp2_with fail
   refine (within st 1 8 false h0 _).mono ?_
   rintro e w1 ⟨rfl, rfl⟩
   go_wp2_with fail
   go_ret
   exact ⟨rfl, HB.out⟩
 | true =>
   cases h1 : (decide ((1 : Int) ≤ se) && decide (se ≤ 8)) with
   | false =>
     go_enter Tryz.func8, Tryz.ntmps8
     go_wp2_with fail
     refine (within st 1 8 true h0 _).mono ?_
     rintro e w1 ⟨rfl, rfl⟩
     go_wp2_with fail
     refine (within se 1 8 false h1 _).mono ?_
     rintro e w2 ⟨rfl, rfl⟩
     go_wp2_with fail
     go_ret
     exact ⟨rfl, HB.out⟩
   | true =>
     cases h2 : (decide ((1 : Int) ≤ qu) && decide (qu ≤ 16)) with
     | false =>
       go_enter Tryz.func8, Tryz.ntmps8
       go_wp2_with fail
       refine (within st 1 8 true h0 _).mono ?_
       rintro e w1 ⟨rfl, rfl⟩
       go_wp2_with fail
       refine (within se 1 8 true h1 _).mono ?_
       rintro e w2 ⟨rfl, rfl⟩
       go_wp2_with fail
       refine (within qu 1 16 false h2 _).mono ?_
       rintro e w3 ⟨rfl, rfl⟩
       go_wp2_with fail
       go_ret
       exact ⟨rfl, HB.out⟩
     | true =>
       cases h3 : (decide ((1 : Int) ≤ wa) && decide (wa ≤ 8)) with
       | false =>
         go_enter Tryz.func8, Tryz.ntmps8
         go_wp2_with fail
         refine (within st 1 8 true h0 _).mono ?_
         rintro e w1 ⟨rfl, rfl⟩
         go_wp2_with fail
         refine (within se 1 8 true h1 _).mono ?_
         rintro e w2 ⟨rfl, rfl⟩
         go_wp2_with fail
         refine (within qu 1 16 true h2 _).mono ?_
         rintro e w3 ⟨rfl, rfl⟩
         go_wp2_with fail
         refine (within wa 1 8 false h3 _).mono ?_
         rintro e w4 ⟨rfl, rfl⟩
         go_wp2_with fail
         go_ret
         exact ⟨rfl, HB.out⟩
       | true =>
         cases h4 : (decide ((0 : Int) ≤ re) && decide (re ≤ 4)) with
         | false =>
           go_enter Tryz.func8, Tryz.ntmps8
           go_wp2_with fail
           refine (within st 1 8 true h0 _).mono ?_
           rintro e w1 ⟨rfl, rfl⟩
           go_wp2_with fail
           refine (within se 1 8 true h1 _).mono ?_
           rintro e w2 ⟨rfl, rfl⟩
           go_wp2_with fail
           refine (within qu 1 16 true h2 _).mono ?_
           rintro e w3 ⟨rfl, rfl⟩
           go_wp2_with fail
           refine (within wa 1 8 true h3 _).mono ?_
           rintro e w4 ⟨rfl, rfl⟩
           go_wp2_with fail
           refine (within re 0 4 false h4 _).mono ?_
           rintro e w5 ⟨rfl, rfl⟩
           go_wp2_with fail
           go_ret
           exact ⟨rfl, HB.out⟩
         | true =>
           go_enter Tryz.func8, Tryz.ntmps8
           go_wp2_with fail
           refine (within st 1 8 true h0 _).mono ?_
           rintro e w1 ⟨rfl, rfl⟩
           go_wp2_with fail
           refine (within se 1 8 true h1 _).mono ?_
           rintro e w2 ⟨rfl, rfl⟩
           go_wp2_with fail
           refine (within qu 1 16 true h2 _).mono ?_
           rintro e w3 ⟨rfl, rfl⟩
           go_wp2_with fail
           refine (within wa 1 8 true h3 _).mono ?_
           rintro e w4 ⟨rfl, rfl⟩
           go_wp2_with fail
           refine (within re 0 4 true h4 _).mono ?_
           rintro e w5 ⟨rfl, rfl⟩
           go_wp2_with fail
           go_ret
           exact ⟨rfl, HB.out⟩
set_option maxRecDepth 100000 in
set_option maxHeartbeats 1000000 in
theorem new_no (q : Cf) (w : World) (hr : q.right = false) : Calls Tryz.prog 6 #[q.val] w fun e w' => e = .returned (.tuple #[.pointer none, .int .i64 1]) ∧ Below w.heap.size w w' := by
 have bb := (Below.refl w.heap.size w).alloc (Nat.le_refl _) (.cells #[.int .i64 q.st, .int .i64 q.se, .int .i64 q.qu, .int .i64 q.wa, .int .i64 q.re, .int .u64 q.ep, .int .u64 q.sta] 24)
 have HB := Lib.hid bb
 clear bb
 go_enter Tryz.func6, Tryz.ntmps6
 go_wp2_with fail
 refine (right q _ hr).mono ?_
 rintro e w2 ⟨rfl, b2⟩
 have HB2 := Lib.hid (HB.out.trans (b2.mono HB.out.size))
 clear b2
 go_wp2_with fail
 go_ret2
 exact ⟨rfl, HB2.out⟩
theorem run_make_two {P : Program} (t e : TypeId) (z : Value) (ht : P.underlying t = some (.slice e)) (hinfo : (P.info? e).map (fun i => (i.zero, i.size, i.bytes)) = some (some z, 2, 16)) (n : Nat) (hn : n ≤ 1000) (w : World) :
  (Instr.makeSlice t (.int .i64 (n : Int)) (.int .i64 (n : Int))).run P w = .ok (.slice (some ⟨w.heap.size, 0, none⟩) n n) (w.alloc (.cells (madeCells z.cells (n * 2)) e)) := by
 obtain ⟨i, hi, hzz⟩ := Option.map_eq_some_iff.1 hinfo
 simp only [Prod.mk.injEq] at hzz
 obtain ⟨hz, hs, hb⟩ := hzz
 have hr := run_make (P := P) w t e i z ht hi hz .i64 .i64 n n (by omega) (Int.le_refl _) (by rw [hb]; omega) (by omega)
 simp only [Int.toNat_natCast, hs] at hr
 exact hr
theorem made_at (n k : Nat) (hk : k < n * 2) : (madeCells #[.pointer none, .pointer none] (n * 2))[k]? = some (.pointer none) := by
 rw [Array.getElem?_eq_getElem (by rw [size_madeCells]; exact hk)]
 simp only [madeCells, Array.getElem_map, Array.getElem_range]
 rcases Nat.mod_two_eq_zero_or_one k with h | h
 ·show some (#[Value.pointer none, .pointer none][k % 2]!) = _
  rw [h]; rfl
 ·show some (#[Value.pointer none, .pointer none][k % 2]!) = _
  rw [h]; rfl
structure NewI (w wr : World) (base : Nat) (bx bm bt : Nat) (q : Cf) (n j : Nat) (arr : Array Value) (g : Nat → Nat) (Sk : Nat → Nat → Prop) : Prop where
 cfg : Is wr bx 24 #[.int .i64 q.st, .int .i64 q.se, .int .i64 q.qu, .int .i64 q.wa, .int .i64 q.re, .int .u64 q.ep, .int .u64 q.sta]
 box : Is wr bm 67 #[.int .i64 q.se, .int .i64 q.wa, .int .u64 q.sta, .int .u64 0, .bool false, .slice (some ⟨bt, 0, none⟩) n n]
 row : Is wr bt 74 arr
 size : arr.size = n * 2
 bk : ∀ k, k < n → arr[k * 2]? = some (.pointer none)
 fd : ∀ k, k < j → arr[k * 2 + 1]? = some (.pointer (some ⟨g k, 0, none⟩))
 feed : ∀ k, k < j → Fed wr base (Sk k) (g k) q.qu.toNat St.zero
 apart : ∀ i k, i < j → k < j → i ≠ k → ∀ x, Sk i x → ¬ Sk k x
 off : ∀ k, k < j → ∀ x, Sk k x → x ≠ bm ∧ x ≠ bt ∧ w.heap.size ≤ x
 lo : w.heap.size ≤ bm ∧ w.heap.size ≤ bt
 bel : Below w.heap.size w wr
theorem NewI.next {w wr w3 : World} {base bx bm bt n j : Nat} {q : Cf} {arr : Array Value} {g : Nat → Nat} {Sk : Nat → Nat → Prop} (h : NewI w wr base bx bm bt q n j arr g Sk) (hj : j < n) (hx : bx ≠ bt) (hm : bm ≠ bt)
  (hF : Fed w3 base (fun x => wr.heap.size ≤ x ∧ x < w3.heap.size) wr.heap.size q.qu.toNat St.zero) (hb : Below wr.heap.size wr w3) :
  NewI w (w3.setCell ⟨bt, j * 2 + 1, none⟩ (.pointer (some ⟨wr.heap.size, 0, none⟩))) base bx bm bt q n (j + 1) (arr.setIfInBounds (j * 2 + 1) (.pointer (some ⟨wr.heap.size, 0, none⟩))) (upd g j wr.heap.size) (upd Sk j (fun x => wr.heap.size ≤ x ∧ x < w3.heap.size)) := by
 have hts := Law.Touch.store (T := fun k => k = bt) w3 ⟨bt, j * 2 + 1, none⟩ (.pointer (some ⟨wr.heap.size, 0, none⟩)) rfl
 have r3 := h.row.below hb h.row.lt
 have hk : Keeps 200 w3 (w3.setCell ⟨bt, j * 2 + 1, none⟩ (.pointer (some ⟨wr.heap.size, 0, none⟩))) := Keeps.store r3 (by decide) _
 have hlt := h.row.lt
 have hlm := h.box.lt
 refine ⟨hts.is (h.cfg.below hb h.cfg.lt) hx, hts.is (h.box.below hb h.box.lt) hm, r3.set _ _ rfl, by simpa using h.size, fun k hk => set_at _ _ _ (by omega) (h.bk k hk), fun k hk' => ?_, fun k hk' => ?_, fun i k hi hk' hne x => ?_, fun k hk' x => ?_, h.lo, ?_⟩
 ·by_cases e : k = j
  ·subst e
   rw [upd_same, Array.getElem?_setIfInBounds_self_of_lt (by rw [h.size]; omega)]
  ·rw [upd_other _ _ e]
   exact set_at _ _ _ (by omega) (h.fd k (by omega))
 ·by_cases e : k = j
  ·subst e
   rw [upd_same, upd_same]
   exact hF.touch hts (fun x hx e => by have := hx.1; omega) hk
  ·rw [upd_other _ _ e, upd_other _ _ e]
   exact ((h.feed k (by omega)).below hb).touch hts (fun x hx e => (h.off k (by omega) x hx).2.1 e) hk
 ·by_cases e : i = j
  ·subst e
   rw [upd_same, upd_other _ _ (Ne.symm hne)]
   exact fun hx hk2 => by have := ((h.feed k (by omega)).ok x hk2).2; have := hx.1; omega
  ·rw [upd_other _ _ e]
   by_cases e' : k = j
   ·subst e'
    rw [upd_same]
    exact fun hx hk2 => by have := ((h.feed i (by omega)).ok x hx).2; have := hk2.1; omega
   ·rw [upd_other _ _ e']
    exact h.apart i k (by omega) (by omega) hne x
 ·by_cases e : k = j
  ·subst e
   rw [upd_same]
   exact fun hx => ⟨by have := hx.1; omega, by have := hx.1; omega, by have := hx.1; have := h.bel.size; omega⟩
  ·rw [upd_other _ _ e]
   exact h.off k (by omega) x
 ·exact (h.bel.trans (hb.mono h.bel.size)).setCell h.lo.2 _
theorem NewI.tab {w wr : World} {base bx bm bt n : Nat} {q : Cf} {arr : Array Value} {g : Nat → Nat} {Sk : Nat → Nat → Prop} (h : NewI w wr base bx bm bt q n n arr g Sk) (hb : base ≤ w.heap.size) (hn : q.st = (n : Int)) :
  ∃ S, Tab wr base S bm (Mo.new q) ∧ ∀ x, S x → w.heap.size ≤ x := by
 have hn' : (Mo.new q).n = n := by show q.st.toNat = n; omega
 have ho : ∀ x, (x = bm ∨ x = bt ∨ ∃ k, k < n ∧ Sk k x) → w.heap.size ≤ x ∧ x < wr.heap.size := fun x hx => by
  rcases hx with rfl | rfl | ⟨k, hk, hx⟩
  ·exact ⟨h.lo.1, h.box.lt⟩
  ·exact ⟨h.lo.2, h.row.lt⟩
  ·exact ⟨(h.off k hk x hx).2.2, ((h.feed k hk).ok x hx).2⟩
 refine ⟨fun x => x = bm ∨ x = bt ∨ ∃ k, k < n ∧ Sk k x, ⟨bt, n, arr, fun _ => none, g, Sk, ?_⟩, fun x hx => (ho x hx).1⟩
 refine ⟨?_, h.row, ?_, ?_, fun _ _ => Booked.nil wr, ?_, ?_, ?_, ?_, .inl rfl, .inr (.inl rfl), ?_, fun x hx => ⟨Nat.le_trans hb (ho x hx).1, (ho x hx).2⟩⟩
 ·have : (Mo.new q).cells bt n = #[.int .i64 q.se, .int .i64 q.wa, .int .u64 q.sta, .int .u64 0, .bool false, .slice (some ⟨bt, 0, none⟩) n n] := by unfold Mo.cells; rw [hn']; rfl
  rw [this]; exact h.box
 ·rw [hn']; exact h.bk
 ·rw [hn']; exact h.fd
 ·rw [hn']; exact h.feed
 ·rw [hn']; exact h.apart
 ·rw [hn']; exact fun k hk hx => (h.off k hk _ hx).1 rfl
 ·rw [hn']; exact fun k hk hx => (h.off k hk _ hx).2.1 rfl
 ·rw [hn']; exact fun k hk x hx => .inr (.inr ⟨k, hk, hx⟩)
def Made (w : World) (base : Nat) (a : Mo) (e : Ending) (w' : World) : Prop := ∃ m S, e = .returned (.tuple #[.pointer (some ⟨m, 0, none⟩), .int .i64 0]) ∧ Tab w' base S m a ∧ (∀ x, S x → w.heap.size ≤ x) ∧ Below w.heap.size w w'
set_option maxRecDepth 100000 in
set_option maxHeartbeats 2000000 in
theorem new_yes (q : Cf) (w : World) {base : Nat} (hbase : base ≤ w.heap.size) (hr : q.right = true) : Calls Tryz.prog 6 #[q.val] w (Made w base (Mo.new q)) := by
 obtain ⟨st, se, qu, wa, re, ep, sta⟩ := q
 have hst := hr
 simp only [Cf.right, Bool.and_eq_true, decide_eq_true_eq] at hst
 obtain ⟨n, rfl⟩ := Int.eq_ofNat_of_zero_le (show 0 ≤ st by omega)
 have bb := (Below.refl w.heap.size w).alloc (Nat.le_refl _) (.cells #[.int .i64 (n : Int), .int .i64 se, .int .i64 qu, .int .i64 wa, .int .i64 re, .int .u64 ep, .int .u64 sta] 24)
 have HB := Lib.hid bb
 have HX := Lib.hid (Is.new w 24 #[.int .i64 (n : Int), .int .i64 se, .int .i64 qu, .int .i64 wa, .int .i64 re, .int .u64 ep, .int .u64 sta] rfl)
 clear bb
 go_enter Tryz.func6, Tryz.ntmps6
 go_wp2_with fail
 generalize (w.alloc (.cells #[.int .i64 (n : Int), .int .i64 se, .int .i64 qu, .int .i64 wa, .int .i64 re, .int .u64 ep, .int .u64 sta] 24)) = w1 at *
 refine (right _ _ hr).mono ?_
 rintro e w2 ⟨rfl, b2⟩
 have bd := Law.below_drewN b2 1
 have HB2 : Hid (Below w.heap.size w w2.drew) := HB.out.trans (bd.mono HB.out.size)
 have HX2 : Hid (Is w2.drew w.heap.size 24 #[.int .i64 (n : Int), .int .i64 se, .int .i64 qu, .int .i64 wa, .int .i64 re, .int .u64 ep, .int .u64 sta]) := HX.out.below bd HX.out.lt
 have HKS : Hid (∀ W, Below w2.drew.heap.size w2.drew W → (W.cell? ⟨w.heap.size, 0, none⟩ = some (.int .i64 (n : Int)) ∧ W.cell? ⟨w.heap.size, 1, none⟩ = some (.int .i64 se) ∧ W.cell? ⟨w.heap.size, 3, none⟩ = some (.int .i64 wa) ∧ w.heap.size < W.heap.size)) := fun W K =>
  ⟨(K.cell (p := ⟨w.heap.size, 0, none⟩) HX2.out.lt).trans (HX2.out.cell' rfl), (K.cell (p := ⟨w.heap.size, 1, none⟩) HX2.out.lt).trans (HX2.out.cell' rfl), (K.cell (p := ⟨w.heap.size, 3, none⟩) HX2.out.lt).trans (HX2.out.cell' rfl), Nat.lt_of_lt_of_le HX2.out.lt K.size⟩
 have lx := HX2.out.lt
 have hmk := fun W => run_make_two (P := Tryz.prog) 65 74 (.agg #[.pointer none, .pointer none]) Tryz.underlying65 (by kernel_rfl) n (by omega) W
 clear b2 HB HX bd
 go_upto_region 3 with (fail)
 refine wp_region_held_drew (S := fun W => W.cell? ⟨w.heap.size, 0, none⟩ = some (.int .i64 (n : Int)) ∧ W.cell? ⟨w.heap.size, 1, none⟩ = some (.int .i64 se) ∧ W.cell? ⟨w.heap.size, 3, none⟩ = some (.int .i64 wa) ∧ w.heap.size < W.heap.size) (by kernel_rfl) (HKS.out _ (Below.refl _ _)) (fun hS0 => ?_)
 refine Go.Law.tk 0 ⟨some 9, .fieldAddr 24 (.tmp 1) 1, _, _, _, _⟩ (v := .pointer (some ⟨w.heap.size, 1, none⟩)) hS0 ?_ ?_
 ·intro w' hSw
  go_simp
 try simp only [Go.Law.pz]
 refine Go.Law.tk 1 ⟨some 10, .load 3 (.tmp 9), _, _, _, _⟩ (v := .int .i64 se) hS0 ?_ ?_
 ·intro w' hSw
  obtain ⟨s1, s2, s3, s4⟩ := hSw
  go_simp
 try simp only [Go.Law.pz]
 refine Go.Law.tk 2 ⟨some 11, .fieldAddr 24 (.tmp 1) 3, _, _, _, _⟩ (v := .pointer (some ⟨w.heap.size, 3, none⟩)) hS0 ?_ ?_
 ·intro w' hSw
  go_simp
 try simp only [Go.Law.pz]
 refine Go.Law.tk 3 ⟨some 12, .load 3 (.tmp 11), _, _, _, _⟩ (v := .int .i64 wa) hS0 ?_ ?_
 ·intro w' hSw
  obtain ⟨s1, s2, s3, s4⟩ := hSw
  go_simp
 try simp only [Go.Law.pz]
 refine Go.Law.tk 4 ⟨some 13, .fieldAddr 24 (.tmp 1) 0, _, _, _, _⟩ (v := .pointer (some ⟨w.heap.size, 0, none⟩)) hS0 ?_ ?_
 ·intro w' hSw
  go_simp
 try simp only [Go.Law.pz]
 refine Go.Law.tk 5 ⟨some 14, .load 3 (.tmp 13), _, _, _, _⟩ (v := .int .i64 (n : Int)) hS0 ?_ ?_
 ·intro w' hSw
  obtain ⟨s1, s2, s3, s4⟩ := hSw
  go_simp
 try simp only [Go.Law.pz]
 generalize w2.drew = w3 at *
 have b4 := (Below.refl w3.heap.size w3).alloc (Nat.le_refl _) (.cells (madeCells #[.pointer none, .pointer none] (n * 2)) 74)
 refine wpAnyH_ready (rs := [6]) (by kernel_rfl) (by simp) ?_
 refine AllReadyH.cons (o := ⟨some 15, .makeSlice 65 (.tmp 14) (.tmp 14), _, _, _, _⟩) rfl (fun K hK => ?_) AllReadyH.nil
 go_simp
 refine hK.out _ _ (HKS.out _ b4) (fun hS1 => ?_)
 clear hK K
 try simp only [Go.Law.pz]
 refine Go.Law.tk 7 ⟨some 16, .build 67 #[(0, .tmp 10), (1, .tmp 12), (3, .tmp 15)], _, _, _, _⟩ (v := .agg #[.int .i64 se, .int .i64 wa, .int .u64 0, .int .u64 0, .bool false, .slice (some ⟨w3.heap.size, 0, none⟩) n n]) hS1 ?_ ?_
 ·intro w' hSw
  go_simp
 try simp only [Go.Law.pz]
 have b5 := b4.alloc (by simp) (.cells #[.int .i64 se, .int .i64 wa, .int .u64 0, .int .u64 0, .bool false, .slice (some ⟨w3.heap.size, 0, none⟩) n n] 67)
 refine wpAnyH_ready (rs := [8]) (by kernel_rfl) (by simp) ?_
 refine AllReadyH.cons (o := ⟨some 17, .box 67 (.tmp 16), _, _, _, _⟩) rfl (fun K hK => ?_) AllReadyH.nil
 go_simp
 refine hK.out _ _ (HKS.out _ b5) (fun hS2 => ?_)
 clear hK K
 try simp only [Go.Law.pz]
 refine Go.Law.tk 9 ⟨some 4, .assign (.tmp 17), _, _, _, _⟩ (v := .pointer (some ⟨w3.heap.size + 1, 0, none⟩)) hS2 ?_ ?_
 ·intro w' hSw
  go_simp
 try simp only [Go.Law.pz]
 refine wpAnyH_done (by kernel_rfl) ?_ _
 have r0 := (Is.new w3 74 (madeCells #[.pointer none, .pointer none] (n * 2)) rfl).alloc (.cells #[.int .i64 se, .int .i64 wa, .int .u64 0, .int .u64 0, .bool false, .slice (some ⟨w3.heap.size, 0, none⟩) n n] 67)
 have i0 := Is.new (w3.alloc (.cells (madeCells #[.pointer none, .pointer none] (n * 2)) 74)) 67 #[.int .i64 se, .int .i64 wa, .int .u64 0, .int .u64 0, .bool false, .slice (some ⟨w3.heap.size, 0, none⟩) n n] (g := w3.heap.size + 1) (by simp)
 have c0 := HX2.out.below b5 HX2.out.lt
 have s3 := HB2.out.size
 have HB5 := Lib.hid (HB2.out.trans (b5.mono s3))
 have HX6 := HX2
 have HB6 := HB2
 clear HX2 HKS b4 b5 HB2 hS2 hS1 hmk HB5
 have y6 : World.cell? _ ⟨w.heap.size, 6, none⟩ = some (.int .u64 sta) := c0.cell' rfl
 have ly := c0.lt
 have z2 : World.cell? _ ⟨w3.heap.size + 1, 2, none⟩ = some (.int .u64 0) := i0.cell' rfl
 have lz := i0.lt
 have fz := i0.frozen 2
 go_wp2_with fail
 have hbs : w.heap.size < w3.heap.size := hS0.2.2.2
 have H0 : Hid (NewI w ((w3.alloc (.cells (madeCells #[.pointer none, .pointer none] (n * 2)) 74)).alloc (.cells #[.int .i64 se, .int .i64 wa, .int .u64 sta, .int .u64 0, .bool false, .slice (some ⟨w3.heap.size, 0, none⟩) n n] 67)) base w.heap.size (w3.heap.size + 1) w3.heap.size ⟨(n : Int), se, qu, wa, re, ep, sta⟩ n 0 (madeCells #[.pointer none, .pointer none] (n * 2)) (fun _ => 0) (fun _ _ => False)) := by
  have b6 := ((Below.refl w3.heap.size w3).alloc (Nat.le_refl _) (.cells (madeCells #[.pointer none, .pointer none] (n * 2)) 74)).alloc (by simp) (.cells #[.int .i64 se, .int .i64 wa, .int .u64 sta, .int .u64 0, .bool false, .slice (some ⟨w3.heap.size, 0, none⟩) n n] 67)
  exact ⟨HX6.out.below b6 HX6.out.lt, Is.new _ _ _ (by simp), (Is.new w3 _ _ rfl).alloc _, size_madeCells _ _, fun k hk => made_at n _ (by omega), fun k hk => by omega, fun k hk => by omega, fun i k hi => by omega, fun k hk => by omega, ⟨by omega, by omega⟩, HB6.out.trans (b6.mono (by omega))⟩
 generalize ((w3.alloc (.cells (madeCells #[.pointer none, .pointer none] (n * 2)) 74)).alloc (.cells #[.int .i64 se, .int .i64 wa, .int .u64 sta, .int .u64 0, .bool false, .slice (some ⟨w3.heap.size, 0, none⟩) n n] 67)) = w4 at *
 have hbx : w.heap.size ≠ w3.heap.size := by omega
 generalize w3.heap.size = bt at *
 clear HX6 HB6 hS0
 go_loopw [29] (fun vi wr => ∃ (j : Nat) (arr : Array Value) (g : Nat → Nat) (Sk : Nat → Nat → Prop), j ≤ n ∧ vi = .int .i64 j ∧ NewI w wr base w.heap.size (bt + 1) bt ⟨(n : Int), se, qu, wa, re, ep, sta⟩ n j arr g Sk) (fun vi _ => n - (intOf vi).toNat)
 case atStart => exact ⟨0, _, _, _, Nat.zero_le _, rfl, H0.out⟩
 case round =>
  clear H0
  obtain ⟨j, arr, g, Sk, hj, rfl, hN⟩ := hrel
  have HN := Lib.hid hN
  clear hN
  by_cases hlt : j < n
  ·have d1 : decide ((j : Int) < (n : Int)) = true := by simp; omega
   have lm := HN.out.box.lt
   have lx2 := HN.out.cfg.lt
   have bd : Below wr.heap.size wr wr.drew := Law.below_drewN (Below.refl _ wr) 1
   have HS : Hid (∀ W, Below wr.heap.size wr W → (W.cell? ⟨bt + 1, 5, none⟩ = some (.slice (some ⟨bt, 0, none⟩) n n) ∧ W.cell? ⟨w.heap.size, 2, none⟩ = some (.int .i64 qu) ∧ bt + 1 < W.heap.size ∧ w.heap.size < W.heap.size)) := fun W K =>
    ⟨(K.cell (p := ⟨bt + 1, 5, none⟩) lm).trans (HN.out.box.cell' rfl), (K.cell (p := ⟨w.heap.size, 2, none⟩) lx2).trans (HN.out.cfg.cell' rfl), Nat.lt_of_lt_of_le lm K.size, Nat.lt_of_lt_of_le lx2 K.size⟩
   have sb := HN.out.bel.size
   have lsz : j * 2 + 1 < arr.size := by rw [HN.out.size]; omega
   go_upto_region 8 with (fail)
   refine wp_region_held_drew (S := fun W => W.cell? ⟨bt + 1, 5, none⟩ = some (.slice (some ⟨bt, 0, none⟩) n n) ∧ W.cell? ⟨w.heap.size, 2, none⟩ = some (.int .i64 qu) ∧ bt + 1 < W.heap.size ∧ w.heap.size < W.heap.size) (by kernel_rfl) (HS.out _ bd) (fun hS0 => ?_)
   refine Go.Law.tk 0 ⟨some 32, .move (.tmp 4), _, _, _, _⟩ (v := .pointer (some ⟨bt + 1, 0, none⟩)) hS0 ?_ ?_
   ·intro w' hSw
    go_simp
   try simp only [Go.Law.pz]
   refine Go.Law.tk 1 ⟨some 33, .nilCheck (.tmp 32), _, _, _, _⟩ (v := .pointer (some ⟨bt + 1, 0, none⟩)) hS0 ?_ ?_
   ·intro w' hSw
    go_simp
   try simp only [Go.Law.pz]
   refine Go.Law.tk 2 ⟨some 34, .fieldAddr 67 (.tmp 33) 3, _, _, _, _⟩ (v := .pointer (some ⟨bt + 1, 5, none⟩)) hS0 ?_ ?_
   ·intro w' hSw
    go_simp
   try simp only [Go.Law.pz]
   refine Go.Law.tk 3 ⟨some 35, .load 65 (.tmp 34), _, _, _, _⟩ (v := .slice (some ⟨bt, 0, none⟩) n n) hS0 ?_ ?_
   ·intro w' hSw
    obtain ⟨s1, s2, s3, s4⟩ := hSw
    go_simp
   try simp only [Go.Law.pz]
   refine Go.Law.tk 4 ⟨some 36, .move (.tmp 5), _, _, _, _⟩ (v := .int .i64 (j : Int)) hS0 ?_ ?_
   ·intro w' hSw
    go_simp
   try simp only [Go.Law.pz]
   refine Go.Law.tk 5 ⟨some 37, .fieldAddr 24 (.tmp 1) 2, _, _, _, _⟩ (v := .pointer (some ⟨w.heap.size, 2, none⟩)) hS0 ?_ ?_
   ·intro w' hSw
    go_simp
   try simp only [Go.Law.pz]
   refine Go.Law.tk 6 ⟨some 38, .load 3 (.tmp 37), _, _, _, _⟩ (v := .int .i64 qu) hS0 ?_ ?_
   ·intro w' hSw
    obtain ⟨s1, s2, s3, s4⟩ := hSw
    go_simp
   try simp only [Go.Law.pz]
   refine wpAnyH_ready (rs := [7]) (by kernel_rfl) (by simp) ?_
   refine AllReadyH.cons (o := ⟨some 39, .call { callee := .value (.func 23), args := #[.tmp 38], argTypes := _ }, _, _, _, _⟩) rfl (fun K hK => ?_) AllReadyH.nil
   go_simp
   refine Calls.mono (new qu wr.drew (base := base) (Nat.le_trans hbase sb)) ?_
   rintro e w5 ⟨rfl, hF, b5⟩
   have b6 : Below wr.heap.size wr w5 := bd.trans (b5.mono (Nat.le_refl _))
   have HNX : Hid (NewI w (w5.setCell ⟨bt, j * 2 + 1, none⟩ (.pointer (some ⟨wr.heap.size, 0, none⟩))) base w.heap.size (bt + 1) bt ⟨(n : Int), se, qu, wa, re, ep, sta⟩ n (j + 1) _ _ _) := HN.out.next hlt hbx (by omega) hF b6
   have HR5 := Lib.hid (HN.out.row.below b6 HN.out.row.lt)
   go_wp2_with fail
   refine hK.out _ _ (HS.out _ (bd.trans (b5.mono (Nat.le_refl _)))) (fun hS1 => ?_)
   clear hK K
   try simp only [Go.Law.pz]
   clear hF b5
   refine Go.Law.tk 8 ⟨some 40, .indexAddr 65 (.tmp 35) (.tmp 36), _, _, _, _⟩ (v := .pointer (some ⟨bt, j * 2, none⟩)) hS1 ?_ ?_
   ·intro w' hSw
    go_simp; (try (intro h8; omega))
   try simp only [Go.Law.pz]
   refine Go.Law.tk 9 ⟨some 41, .fieldAddr 74 (.tmp 40) 1, _, _, _, _⟩ (v := .pointer (some ⟨bt, j * 2 + 1, none⟩)) hS1 ?_ ?_
   ·intro w' hSw
    go_simp
   try simp only [Go.Law.pz]
   have z1 := (HR5.out.cell (j * 2 + 1)).trans (Array.getElem?_eq_getElem lsz)
   have zf := HR5.out.frozen (j * 2 + 1)
   have zl := HR5.out.lt
   refine wpAnyH_ready (rs := [10]) (by kernel_rfl) (by simp) ?_
   refine AllReadyH.cons (o := ⟨none, .store 68 (.tmp 41) (.tmp 39), _, _, _, _⟩) rfl (fun K hK => ?_) AllReadyH.nil
   go_simp
   refine hK.out _ _ ⟨HNX.out.box.cell' rfl, HNX.out.cfg.cell' rfl, HNX.out.box.lt, HNX.out.cfg.lt⟩ (fun hS2 => ?_)
   clear hK K
   try simp only [Go.Law.pz]
   refine wpAnyH_done (by kernel_rfl) ?_ _
   go_wp2_with fail
   go_roundw
   case rel => exact ⟨j + 1, _, _, _, by omega, by go_num, HNX.out⟩
   case measure => simp [intOf]; omega
  ·obtain rfl : j = n := by omega
   have d1 : decide ((j : Int) < (j : Int)) = false := by simp
   obtain ⟨S, hT, hS⟩ := HN.out.tab hbase rfl
   have HT := Lib.hid hT
   have HS := Lib.hid hS
   clear hT hS
   go_wp2_with fail
   go_ret2
   exact ⟨bt + 1, S, rfl, HT.out, HS.out, HN.out.bel⟩
end Mod
end Go.Proofs.YtohdlnefgieenaaGreat
