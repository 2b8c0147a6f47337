/-
  Calls of a feed with what they answer as equations; layer 9's own example (awake).
-/
import Derived.Test.YtdkjcheannehhaaGreatFeed04
namespace Go.Proofs.YtdkjcheannehhaaGreat
open Go.RowKit Go.Shelf
attribute [local go_sem] Oper.semAt_some
namespace Feed
open Go.Law
section
variable {w : World} {base b room k : Nat} {S : Nat → Prop} {s : St}
/-- Tell of a list that was just written down -/
theorem tellLit (h : Fed w base S b room s) (hb : base ≤ w.heap.size) (l : List Cg) (seq : Int) {cs : Array Value} {m c : Nat} (hcs : cs.toList = flatG l) (hm : l.length = m) (hl : ∀ k, k < 8 → (s.que k).length + l.length ≤ 1000) {s' : St} (hs' : s.tell room l seq = s') :
    Calls Tryz.prog 88 #[.pointer (some ⟨b, 0, none⟩), .slice (some ⟨w.heap.size, 0, none⟩) m c, .int .u64 seq] (w.alloc (.cells cs 181)) (Told w base S b room s') := by
  subst hm hs'
  have bb := (Below.refl w.heap.size w).alloc (Nat.le_refl _) (.cells cs 181)
  refine (tell (h.below bb) (Nat.le_trans hb bb.size) l seq (Lain.is (Is.new w _ _ rfl) hcs) hl).mono ?_
  rintro e w' ⟨rfl, S', hF, hW, hK⟩
  exact ⟨rfl, S', hF, (Went.of_below (S := S) bb).trans hW, fun t h1 h2 => (Keeps.of_below bb).trans (hK t h1 h2)⟩
theorem watchE (h : Fed w base S b room s) {who : Int} (hw : who = (k : Int)) (hk : k < 8) (u : ByteArray) (hl : (s.wat k).length ≤ 999) {s' : St} (hs' : { s with wat := upd s.wat k (putK OmapU.lt u 0 (s.wat k)) } = s') :
    Calls Tryz.prog 94 #[.pointer (some ⟨b, 0, none⟩), .int .i64 who, .string u] w fun e w' => e = .returned (.tuple #[]) ∧ Fed w' base S b room s' ∧ Went w S w' S := by
  subst hw hs'; exact watch h hk u hl
theorem unwatchE (h : Fed w base S b room s) {who : Int} (hw : who = (k : Int)) (hk : k < 8) (u : ByteArray) (hl : (s.wat k).length ≤ 999) {s' : St} (hs' : { s with wat := upd s.wat k (outK u (s.wat k)) } = s') :
    Calls Tryz.prog 64 #[.pointer (some ⟨b, 0, none⟩), .int .i64 who, .string u] w fun e w' => e = .returned (.tuple #[]) ∧ Fed w' base S b room s' ∧ Went w S w' S := by
  subst hw hs'; exact unwatch h hk u hl
theorem countE (h : Fed w base S b room s) {who : Int} (hw : who = (k : Int)) (hk : k < 8) {n : Int} (hn : ((s.wat k).length : Int) = n) :
    Calls Tryz.prog 115 #[.pointer (some ⟨b, 0, none⟩), .int .i64 who] w fun e w' => e = .returned (.int .i64 n) ∧ Below w.heap.size w w' := by
  subst hw hn; exact count h hk
theorem watchingE (h : Fed w base S b room s) {who : Int} (hw : who = (k : Int)) (hk : k < 8) (u : ByteArray) {r : Bool} (hr : s.has k u = r) :
    Calls Tryz.prog 92 #[.pointer (some ⟨b, 0, none⟩), .int .i64 who, .string u] w fun e w' => e = .returned (.bool r) ∧ Below w.heap.size w w' := by
  subst hw hr; exact watching h hk u
/-- behind a Drain -/
def DrainedE (w : World) (base : Nat) (S : Nat → Prop) (b room : Nat) (zs : List Ev) (m : Nat) (lost : Bool) (s' : St) (e : Ending) (w' : World) : Prop :=
  ∃ A c, e = .returned (.tuple #[.slice A m c, .bool lost]) ∧ Seq w' w.heap.size w'.heap.size A (flatE zs) ∧ Fed w' base S b room s' ∧ Went w S w' S
theorem drainE (h : Fed w base S b room s) {who : Int} (hw : who = (k : Int)) (hk : k < 8) {zs : List Ev} {m : Nat} {lost : Bool} (hz : s.que k = zs) (hm : zs.length = m) (ho : s.los k = lost) (hl : zs.length ≤ 1000) {s' : St} (hs' : { s with que := upd s.que k [], los := upd s.los k false } = s') :
    Calls Tryz.prog 90 #[.pointer (some ⟨b, 0, none⟩), .int .i64 who] w (DrainedE w base S b room zs m lost s') := by
  subst hw hs' hz hm ho; exact drain h hk hl
end
section
variable {w w' : World} {base B b room : Nat} {S S' : Nat → Prop} {s : St}
theorem Went.below (h : Went w S w' S') (hS : ∀ n, S n → B ≤ n) {w0 : World} (hb : Below B w0 w) (hB : B ≤ w.heap.size) : Below B w0 w' := h.touch.below hb hS hB
end
/-- the example's two changes, and whoever watches -/
def ann : ByteArray := ⟨#[97, 110, 110]⟩
def exS : St := { St.zero with wat := upd St.zero.wat 2 (putK OmapU.lt ann 0 (St.zero.wat 2)) }
def exL : List Cg := [⟨ann, 0, 0, 0, 0, 0, 1⟩, ⟨ann, 0, 0, 1, 0, 0, 0⟩]
theorem ex_que : (exS.tell 1 exL 7).que 2 = [⟨ann, 0, 0, 0, 0, 0, 1, 7⟩] := by rfl
theorem ex_los : (exS.tell 1 exL 7).los 2 = true := by rfl
theorem ex_wat : ((exS.tell 1 exL 7).wat 2).length = 1 := by rfl
end Feed
end Go.Proofs.YtdkjcheannehhaaGreat
