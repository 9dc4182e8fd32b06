/- DiskOwns: behind the two loops: three disks in one state, the four rows. -/
import Derived.Test.YtmaeaibphggceaaDO5
import Derived.Test.YtmaeaibphggceaaDOfo
import Derived.Test.YtmaeaibphggceaaDBeg
import Derived.Test.YtmaeaibphggceaaDAlk
namespace Go.Proofs.Ytmaeaibphggceaa
open Go.RowKit Go.Lib

/-- what all answers, in a block of its own -/
def AllNw (w : World) (n : Nat) (e : Ending) (w' : World) : Prop :=
  ∃ (a : Option Addr) (c : Nat), e = .returned (.slice a n c) ∧ Rz w' a n (List.replicate n 1099511627776) ∧ Keep (fun _ => False) w w' ∧ ∀ g off, a = some ⟨g, off, none⟩ → w.heap.size ≤ g ∧ g < w'.heap.size
set_option maxRecDepth 100000 in
set_option maxHeartbeats 4000000 in
theorem all_new (w : World) (n : Nat) (hn : n ≤ 1466015503701) : Calls Try.prog 10 #[.int .i64 (n : Nat)] w (AllNw w n) := by
  obtain ⟨i0, hi, hz0, hz1, hz2⟩ := info_parts info_i64
  go_enter Try.func10, Try.ntmps10
  go_wp2
  go_loopw [3, 4] (fun v iv wr => ∃ (q : Nat), q ≤ n ∧ iv = .int .i64 (q : Nat) ∧ wr.ownsRow w.heap.size 3 1 v q ((List.replicate q 1099511627776).map (Value.int .i64)) ∧ Hid (Keep (fun _ => False) w wr)) (fun _ iv _ => n - (intOf iv).toNat)
  case atStart => exact ⟨0, Nat.zero_le _, rfl, World.ownsRow_nil _ _ _ _, Keep.refl _ _⟩
  case round =>
    obtain ⟨q, hqm, rfl, hrow, HK⟩ := hrel
    by_cases hq : q < n
    · have hq0 : (q : Int) < n := by omega
      have hw : wrap64 ((q : Int) + 1) = ((q + 1 : Nat) : Int) := wr' (by omega) (by omega) (by omega)
      have HQ := hide (show q + 1 ≤ n by omega)
      have hsz := HK.out.size
      go_wp2_with (first
        | (at_builtin; refine wpList_append_own_at _ rfl _ _ 27 rfl w.heap.size 3 i0 (.int .i64 0) 1 8 Try.underlying27 hi hz0 hz1 hz2 rfl (by decide) _ _ _ rfl (hrow.alloc _) ⟨wr.heap.size, 0, none⟩ 1 1 [.int .i64 1099511627776] rfl rfl ?c1 ?c2 ?c3 ?c4 ?c5 ?_)
        | go_in)
      case c1 =>
        intro j u hj
        match j, hj with
        | 0, hj => simp at hj; subst hj; simp [Addr.add]
      case c2 => intro u hu; simp at hu; subst hu; rfl
      case c3 => have := HQ.out; unfold maxLen; omega
      case c4 => have := HQ.out; omega
      case c5 => simp; omega
      · intro v' w4 hown' hgrow _ hloc
        have HK4 : Hid (Keep (fun _ => False) w w4) := (HK.out.more (Keep.alloc _ _ _)).grownNew hgrow fun k e => .inr ((hrow.alloc (.cells #[.int .i64 1099511627776] 3)).lt k e).1
        have hown4 : w4.ownsRow w.heap.size 3 1 v' (q + 1) ((List.replicate (q + 1) 1099511627776).map (Value.int .i64)) := by
          rw [List.replicate_succ', List.map_append, List.map_replicate]; exact hown'
        clear hown' hgrow hloc hrow HK
        go_wp2
        go_roundw
        case rel => exact ⟨q + 1, HQ.out, rfl, hown4, HK4⟩
        case measure => show n - (((q + 1 : Nat) : Int)).toNat < n - ((q : Int)).toNat; have := HQ.out; omega
    · obtain rfl : q = n := by omega
      have hqq : ¬ (q : Int) < q := by omega
      obtain ⟨av, cv, hv⟩ := ownsRow_shape hrow
      subst hv
      have HE : Hid (AllNw w q (.returned (.slice av q cv)) wr) := by
        refine ⟨av, cv, rfl, ⟨by simp, by omega, fun x hx => by rw [List.eq_of_mem_replicate hx]; decide, ?_⟩, HK.out, fun g off e => ?_⟩
        · by_cases h0 : q = 0
          · exact .inl h0
          · right
            obtain ⟨g, e, _, _⟩ := ownsRow_ints hrow 0 (by simp; omega)
            refine ⟨g, 0, e, fun i hi => ?_⟩
            obtain ⟨g', e', _, hc⟩ := ownsRow_ints hrow i (by simp; exact hi)
            rw [e] at e'
            injection e' with e'
            injection e' with e' _
            subst e'
            rw [Nat.zero_add, hc]
            simp [List.getD, hi]
        · exact hrow.lt g (by rw [e]; rfl)
      clear hrow hq
      go_wp2
      go_ret
      exact HE.out

/-- three disks in one state -/
structure Three (w : World) (p pc p2 : Nat) (t : St) : Prop where
  d : ∃ S, Dk S w p t
  c : ∃ S, Dk S w pc t
  e : ∃ S, Dk S w p2 t
theorem Three.keep {w w' : World} {p pc p2 : Nat} {t : St} (h : Three w p pc p2 t) {B : Nat} (hB : w.heap.size ≤ B) (k : Keep (fun b => B ≤ b) w w') : Three w' p pc p2 t := by
  obtain ⟨⟨S, hS⟩, ⟨C, hC⟩, ⟨E, hE⟩⟩ := h
  refine ⟨⟨S, hS.stay k fun i hi hT => ?_⟩, ⟨C, hC.stay k fun i hi hT => ?_⟩, ⟨E, hE.stay k fun i hi hT => ?_⟩⟩
  · have := hS.lt i hi
    omega
  · have := hC.lt i hi
    omega
  · have := hE.lt i hi
    omega
/-- what is said of a disk's numbers -/
def KeyOk (t : St) (ks : List Int) : Prop := ks.Pairwise (· < ·) ∧ (∀ k, k ∈ ks ↔ t.there k ≠ none) ∧ ks.length ≤ 1099511627776 ∧ ∀ x ∈ ks, 1 ≤ x ∧ x ≤ 1099511627776
theorem KeyOk.of {t : St} {ks : List Int} (ok : Ok t) (h1 : ks.Pairwise (· < ·)) (h2 : ∀ k, k ∈ ks ↔ t.there k ≠ none) : KeyOk t ks := by
  have hb : ∀ x ∈ ks, 1 ≤ x ∧ x ≤ 1099511627776 := fun x hx => ok.seg x (by
    have := (h2 x).1 hx
    unfold St.held
    cases h : t.there x with
    | none => exact absurd h this
    | some l => simp)
  refine ⟨h1, h2, ?_, hb⟩
  have := rise_len (lo := 0) (m := 1099511627776) h1 (fun x hx => by have := hb x hx; omega) (by decide)
  omega
theorem KeyOk.uniq {t : St} {ks ls : List Int} (h : KeyOk t ks) (g : KeyOk t ls) : ks = ls := rise_uniq h.1 g.1 fun x => (h.2.1 x).trans (g.2.1 x).symm
/-- between two rounds of the loop over the disks -/
structure Loo (w8 : World) (i : Nat) (u1 u2 u3 u4 : Value) (c : Nat → Nat) (L : List (List Int)) (R : List (List Nat)) (N : Nat) (w : World) : Prop where
  f : Four w8.heap.size w8 w c u1 u2 u3 u4 L L R R
  l : L.length = i
  r : R.length ≤ N
  lb : ∀ l ∈ L, l.length ≤ 1099511627776 ∧ ∀ x ∈ l, -9223372036854775808 ≤ x ∧ x ≤ 9223372036854775807
  rb : ∀ b ∈ R, b.length ≤ 67108864 ∧ ∀ d ∈ b, d < 256
theorem Loo.begin_ (w8 : World) : Loo w8 0 (.slice none 0 0) (.slice none 0 0) (.slice none 0 0) (.slice none 0 0) (fun _ => 0) [] [] 0 w8 :=
  ⟨⟨⟨[], Fo.nil _ _ _ _ _ _ _⟩, ⟨[], Fo.nil _ _ _ _ _ _ _⟩, ⟨[], Fo.nil _ _ _ _ _ _ _⟩, ⟨[], Fo.nil _ _ _ _ _ _ _⟩, Keep.refl _ _⟩, rfl, Nat.le_refl _, (fun l hl => by cases hl), fun l hl => by cases hl⟩
end Go.Proofs.Ytmaeaibphggceaa
