/- Package cron: spans and items. -/
import Derived.Test.YtbgioclbjbmicaaDoorXCut
import Derived.Deep.MidRow
namespace Go.Proofs.YtbgioclbjbmicaaDoor
open Go.RowKit

def SpanIs (s : ByteArray) (lo hi a b : Nat) (single ok : Bool) : Prop := if ok then X.spanM s.data.toList lo hi = some (a, b, single) else X.spanM s.data.toList lo hi = none
def SpanEnd (s : ByteArray) (lo hi : Nat) (e : Ending) : Prop := ∃ (a b : Nat) (single ok : Bool), e = .returned (.tuple #[.agg #[.int .i64 a, .int .i64 b], .bool single, .bool ok]) ∧ SpanIs s lo hi a b single ok
theorem res_span {fn : Func} {p u v : Tmp} (h : fn.results = #[.cell p 54, .tmp u, .tmp v]) (tmps : Array Value) (w : World) (g : Nat) (a b : Value)
    (hp : tmps.getD p undef = .pointer (some ⟨g, 0, none⟩)) (h0 : w.cell? ⟨g, 0, none⟩ = some a) (h1 : w.cell? ⟨g, 1, none⟩ = some b) :
    (results fn tmps).run Tryd.prog w = .ok (.tuple #[.agg #[a, b], tmps.getD u undef, tmps.getD v undef]) w := by
  have hr : w.rangeAt g 0 [a, b] := by
    intro j x hx
    match j, hx with
    | 0, hx => simp at hx; subst hx; simpa using h0
    | 1, hx => simp at hx; subst hx; simpa using h1
    | j + 2, hx => simp at hx
  have hl := run_loadVar_mid (P := Tryd.prog) w g 0 54 [a, b] _ hr Tryd.underlying54 rfl (by kernel_rfl)
  have hp' : tmps[p]?.getD undef = .pointer (some ⟨g, 0, none⟩) := by simpa using hp
  simp [results, h, hp', asAddr, hl]
/-- What a span's walk holds: its bounds, and the cells of what it answers. -/
structure SpAt (w0 : World) (lo hi : Nat) (w : World) : Prop where
  b0 : w.cell? ⟨w0.heap.size, 0, none⟩ = some (.int .i64 lo)
  b1 : w.cell? ⟨w0.heap.size, 1, none⟩ = some (.int .i64 hi)
  r0 : w.cell? ⟨w0.heap.size + 1, 0, none⟩ = some (.int .i64 0)
  r1 : w.cell? ⟨w0.heap.size + 1, 1, none⟩ = some (.int .i64 0)
  fr : ∀ j, w.frozen? ⟨w0.heap.size + 1, j, none⟩ = false
  env : Env w
  bel : Below w0.heap.size w0 w
theorem SpAt.keep {w0 w w' : World} {lo hi : Nat} (h : SpAt w0 lo hi w) (b : Below w.heap.size w w') : SpAt w0 lo hi w' :=
  ⟨by rw [b.cell (p := ⟨w0.heap.size, 0, none⟩) (World.block_lt_of_cell? _ _ h.b0)]; exact h.b0, by rw [b.cell (p := ⟨w0.heap.size, 1, none⟩) (World.block_lt_of_cell? _ _ h.b1)]; exact h.b1,
   by rw [b.cell (p := ⟨w0.heap.size + 1, 0, none⟩) (World.block_lt_of_cell? _ _ h.r0)]; exact h.r0, by rw [b.cell (p := ⟨w0.heap.size + 1, 1, none⟩) (World.block_lt_of_cell? _ _ h.r1)]; exact h.r1,
   fun j => by rw [b.frozen (p := ⟨w0.heap.size + 1, j, none⟩) (show w0.heap.size + 1 < w.heap.size from World.block_lt_of_cell? _ ⟨w0.heap.size + 1, 0, none⟩ h.r0)]; exact h.fr j, h.env.keep b, h.bel.trans (b.mono h.bel.size)⟩
theorem SpAt.new {w : World} (hE : Env w) (lo hi : Nat) : SpAt w lo hi ((w.alloc (.cells #[.int .i64 lo, .int .i64 hi] 54)).alloc (.cells #[.int .i64 0, .int .i64 0] 54)) := by
  have h1 := heap_alloc2_new w (.cells #[.int .i64 lo, .int .i64 hi] 54) (.cells #[.int .i64 0, .int .i64 0] 54)
  have h2 := heap_alloc2_old w (.cells #[.int .i64 lo, .int .i64 hi] 54) (.cells #[.int .i64 0, .int .i64 0] 54)
  refine ⟨?_, ?_, ?_, ?_, fun j => by unfold World.frozen?; rw [h1]; simp, (hE.alloc _).alloc _, Below.put (Below.put (Below.refl _ _) _) _⟩
  · rw [cell_of_row _ _ _ _ _ _ h2]; rfl
  · rw [cell_of_row _ _ _ _ _ _ h2]; rfl
  · rw [cell_of_row _ _ _ _ _ _ h1]; rfl
  · rw [cell_of_row _ _ _ _ _ _ h1]; rfl
theorem set2_0 {w : World} {g : Nat} {v a b : Value} (h : w.cell? ⟨g, 0, none⟩ = some v) : ((w.setCell ⟨g, 0, none⟩ a).setCell ⟨g, 1, none⟩ b).cell? ⟨g, 0, none⟩ = some a := by
  rw [World.cell?_setCell_other _ _ _ _ (by simp)]; exact World.cell?_setCell_same _ _ _ h
theorem set2_1 {w : World} {g : Nat} {v a b : Value} (h : w.cell? ⟨g, 1, none⟩ = some v) : ((w.setCell ⟨g, 0, none⟩ a).setCell ⟨g, 1, none⟩ b).cell? ⟨g, 1, none⟩ = some b := by
  exact World.cell?_setCell_same _ _ _ (by rw [World.cell?_setCell_other _ _ _ _ (by simp)]; exact h)
theorem drewB (w : World) (n : Nat) : Below w.heap.size w (w.drewN n) := ⟨rfl, rfl, rfl, Nat.le_refl _, fun _ _ => rfl⟩
theorem below_set {B : Nat} {a w : World} (h : Below B a w) {p : Addr} (hp : B ≤ p.block) (u : Value) : Below B a (w.setCell p u) := h.setCell hp u

set_option maxHeartbeats 1000000 in
theorem spanOf_any (s : ByteArray) (hs : s.size ≤ 1024) (lo hi : Nat) (hh : hi ≤ 59) (w : World) (hE : Env w) :
    Calls Tryd.prog 68 #[.string s, .agg #[.int .i64 lo, .int .i64 hi]] w fun e w' => SpanEnd s lo hi e ∧ Below w.heap.size w w' := by
  by_cases hst : s.data.toList = [42]
  · have he : (s.toList == [42]) = true := by rw [Lib.toList_data, hst]; rfl
    have hm : X.spanM s.data.toList lo hi = some (lo, hi, false) := by unfold X.spanM; rw [if_pos hst]
    go_enter Tryd.func68, Tryd.ntmps68
    go_wp2_with fail
    have h1 := heap_alloc2_new w (.cells #[.int .i64 lo, .int .i64 hi] 54) (.cells #[.int .i64 lo, .int .i64 hi] 54)
    refine bodyPost_ret (res_span rfl _ _ (w.heap.size + 1) (.int .i64 lo) (.int .i64 hi) rfl (by rw [cell_of_row _ _ _ _ _ _ h1]; rfl) (by rw [cell_of_row _ _ _ _ _ _ h1]; rfl)) rfl ⟨⟨lo, hi, false, true, rfl, hm⟩, Below.put (Below.put (Below.refl _ _) _) _⟩
  · have he : (s.toList == [42]) = false := by rw [Lib.toList_data]; simpa using hst
    have hle := cutAt_le 45 s.data.toList
    have hsz : s.data.toList.length = s.size := by simp
    obtain ⟨f, l, rg, hcut⟩ : ∃ f l rg, X.cutAt 45 s.data.toList = (f, l, rg) := ⟨_, _, _, rfl⟩
    rw [hcut] at hle
    simp only at hle
    have hm : X.spanM s.data.toList lo hi = match X.num f lo hi with
      | none => none
      | some a => if rg = false then some (a, a, true) else match X.num l a hi with
        | none => none
        | some b => some (a, b, false) := by unfold X.spanM; rw [if_neg hst, hcut]; rfl
    have HC : Hid (∀ w, _) := fun w => cut_any s hs 45 w
    rw [hcut] at HC
    have HM := hide hm
    have hS0 := SpAt.new hE lo hi
    clear hm hcut hst
    go_enter Tryd.func68, Tryd.ntmps68
    go_wp2_with fail
    generalize ((w.alloc (.cells #[.int .i64 lo, .int .i64 hi] 54)).alloc (.cells #[.int .i64 0, .int .i64 0] 54)) = W0 at *
    go_at_call 67
    refine (HC.out _).mono ?_
    rintro e w1 ⟨rfl, n1, rfl⟩
    have hS1 := hS0.keep (drewB W0 n1)
    clear hS0 HC hE
    generalize W0.drewN n1 = W1 at *
    have c0 := hS1.b0
    have c1 := hS1.b1
    go_wp2_with fail
    go_at_call 69
    refine (number_any ⟨f.toArray⟩ (by show f.toArray.size ≤ 1024; simp; omega) lo hi hh _).mono ?_
    rintro e w2 ⟨⟨a, ok, rfl, ha, hnum⟩, hb2⟩
    have hS2 := hS1.keep hb2
    clear hS1 c0 c1 hb2
    obtain ⟨c0, c1, r0, r1, fr, env, bel⟩ := hS2
    have fr0 := fr 0
    have fr1 := fr 1
    have hb1 : w.heap.size ≤ w.heap.size + 1 := by omega
    have hE2 := hide env
    have HB := hide bel
    have HN := hide hnum
    clear env bel hnum
    cases ok
    · have hm := HM.out
      rw [show X.num f lo hi = none from HN.out] at hm
      go_wp2_with fail
      exact bodyPost_ret (res_span rfl _ _ (w.heap.size + 1) (.int .i64 a) (.int .i64 a) rfl (set2_0 r0) (set2_1 r1)) rfl ⟨⟨a, a, true, false, rfl, hm⟩, below_set (below_set HB.out hb1 _) hb1 _⟩
    · have hm := HM.out
      rw [show X.num f lo hi = some a from HN.out] at hm
      simp only at hm
      cases rg
      · go_wp2_with fail
        exact bodyPost_ret (res_span rfl _ _ (w.heap.size + 1) (.int .i64 a) (.int .i64 a) rfl (set2_0 r0) (set2_1 r1)) rfl ⟨⟨a, a, true, true, rfl, hm⟩, below_set (below_set HB.out hb1 _) hb1 _⟩
      · go_wp2_with fail
        go_at_call 69
        refine (number_any ⟨l.toArray⟩ (by show l.toArray.size ≤ 1024; simp; omega) a hi hh _).mono ?_
        rintro e w3 ⟨⟨b, ok, rfl, hb, hnum⟩, hb3⟩
        have hS3 := SpAt.keep ⟨c0, c1, r0, r1, fr, hE2.out, HB.out⟩ hb3
        clear c0 c1 r0 r1 fr fr0 fr1 HB hE2 hb3
        obtain ⟨c0, c1, r0, r1, fr, env, bel⟩ := hS3
        have fr0 := fr 0
        have fr1 := fr 1
        have HB := hide bel
        have HN2 := hide hnum
        clear env bel hnum fr
        have HM2 := hide hm
        clear hm
        cases ok
        · go_wp2_with fail
          refine bodyPost_ret (res_span rfl _ _ (w.heap.size + 1) (.int .i64 a) (.int .i64 b) rfl (set2_0 r0) (set2_1 r1)) rfl ⟨⟨a, b, false, false, rfl, ?_⟩, below_set (below_set HB.out hb1 _) hb1 _⟩
          show _ = _
          rw [HM2.out, show X.num l a hi = none from HN2.out]; rfl
        · go_wp2_with fail
          refine bodyPost_ret (res_span rfl _ _ (w.heap.size + 1) (.int .i64 a) (.int .i64 b) rfl (set2_0 r0) (set2_1 r1)) rfl ⟨⟨a, b, false, true, rfl, ?_⟩, below_set (below_set HB.out hb1 _) hb1 _⟩
          show _ = _
          rw [HM2.out, show X.num l a hi = some b from HN2.out]; rfl
end Go.Proofs.YtbgioclbjbmicaaDoor
