/- Package pack: Words. -/
import Derived.Test.YtoelgcagahmndaaGreatPOneM
namespace Go.Proofs.YtoelgcagahmndaaGreat
open Go.RowKit

/-- a word's byte -/
def wbyte (X j : Nat) : Nat := X / 256 ^ j % 256
/-- the array, when k bytes are laid -/
def wcell (X k j : Nat) : Value := .int .u8 ((if j < k then wbyte X j else 0 : Nat) : Int)
def wcells (X k : Nat) : Array Value := #[wcell X k 0, wcell X k 1, wcell X k 2, wcell X k 3, wcell X k 4, wcell X k 5, wcell X k 6, wcell X k 7]

def word (X : Nat) : List Nat := (List.range 8).map (wbyte X)
def wordW (X : Nat) (s : K.WS) : K.WS := s.lay (word X)

theorem wb (X k : Nat) : (X : Int) / ((256 ^ k : Nat) : Int) % 256 = ((wbyte X k : Nat) : Int) := by
  unfold wbyte
  omega

theorem wstep (X k : Nat) (hk : k < 8) : (wcells X k).setIfInBounds k (.int .u8 ((wbyte X k : Nat) : Int)) = wcells X (k + 1) := by
  obtain rfl | rfl | rfl | rfl | rfl | rfl | rfl | rfl : k = 0 ∨ k = 1 ∨ k = 2 ∨ k = 3 ∨ k = 4 ∨ k = 5 ∨ k = 6 ∨ k = 7 := by omega
  all_goals simp [wcells, wcell]

theorem wround (X k B : Nat) (T : TypeId) (w wr : World) (hk : k < 8) (v : Int) (hv : v = ((wbyte X k : Nat) : Int)) (hb : wr.heap[B]? = some (.cells (wcells X k) T (0, 0))) (hB : w.heap.size ≤ B) (hl : Below w.heap.size w wr) :
    ∃ k' : Nat, k' ≤ 8 ∧ Value.int .i64 ((k + 1 : Nat) : Int) = Value.int .i64 (k' : Nat) ∧ (wr.setCell ⟨B, k, none⟩ (.int .u8 v)).heap[B]? = some (.cells (wcells X k') T (0, 0)) ∧ Below w.heap.size w (wr.setCell ⟨B, k, none⟩ (.int .u8 v)) := by
  refine ⟨k + 1, by omega, rfl, ?_, hl.setCell hB _⟩
  rw [heap_setCell_same wr B k _ _ _ hb, hv, wstep X k hk]

theorem wbyte_lt (X j : Nat) : wbyte X j < 256 := by unfold wbyte; omega
theorem word_len (X : Nat) : (word X).length = 8 := rfl
theorem word_lt (X : Nat) : ∀ d ∈ word X, d < 256 := fun d hd => by
  simp only [word, List.mem_map] at hd
  obtain ⟨j, _, rfl⟩ := hd
  exact wbyte_lt X j

theorem rd_word (X B : Nat) (T : TypeId) (w : World) (hb : w.heap[B]? = some (.cells (wcells X 8) T (0, 0))) : Rd w (some ⟨B, 0, none⟩) 8 (word X) := by
  refine ⟨rfl, by decide, word_lt X, .inr ⟨B, 0, rfl, fun i hi => ?_⟩⟩
  obtain rfl | rfl | rfl | rfl | rfl | rfl | rfl | rfl : i = 0 ∨ i = 1 ∨ i = 2 ∨ i = 3 ∨ i = 4 ∨ i = 5 ∨ i = 6 ∨ i = 7 := by omega
  all_goals
    rw [cell_of_row _ _ _ _ _ _ hb]
    rfl

set_option maxRecDepth 10000 in
theorem putWord (S : Nat → Prop) (w0 : World) (p : Nat) (X : Nat) (hX : X < 18446744073709551616) (s : K.WS) (w : World) (h : WAt S w0 p s w) :
    Calls Tryz.prog 128 #[.pointer (some ⟨p, 0, none⟩), .int .u64 (X : Nat)] w fun en w' => en = .returned (.tuple #[]) ∧ WAt S w0 p (wordW X s) w' := by
  have HH := hide h
  clear h
  go_enter Tryz.func128, Tryz.ntmps128
  go_wp2_with fail
  go_loopw [5, 6] (fun _ i wx => ∃ k : Nat, k ≤ 8 ∧ i = .int .i64 (k : Nat) ∧ wx.heap[w.heap.size]? = some (.cells (wcells X k) 171 (0, 0)) ∧ Below w.heap.size w wx) (fun _ i _ => 8 - (intOf i).toNat)
  case atStart => exact ⟨0, by omega, rfl, heap_alloc_new w _, (Below.refl _ _).alloc (Nat.le_refl _) _⟩
  case round =>
    obtain ⟨k, hk, rfl, hb, hbel⟩ := hrel
    have HB := hide hb
    have HL := hide hbel
    by_cases hlt : k < 8
    · obtain rfl | rfl | rfl | rfl | rfl | rfl | rfl | rfl : k = 0 ∨ k = 1 ∨ k = 2 ∨ k = 3 ∨ k = 4 ∨ k = 5 ∨ k = 6 ∨ k = 7 := by omega
      all_goals
        have c0 := cell_of_row _ _ 0 _ _ _ hb
        have c1 := cell_of_row _ _ 1 _ _ _ hb
        have c2 := cell_of_row _ _ 2 _ _ _ hb
        have c3 := cell_of_row _ _ 3 _ _ _ hb
        have c4 := cell_of_row _ _ 4 _ _ _ hb
        have c5 := cell_of_row _ _ 5 _ _ _ hb
        have c6 := cell_of_row _ _ 6 _ _ _ hb
        have c7 := cell_of_row _ _ 7 _ _ _ hb
        have z := fun i => frozen_of_row _ _ i _ _ hb
        clear hb hbel hk hlt
        go_wp2_with fail
      · exact ⟨wround X 0 _ _ w wr (by omega) _ (by have := wb X 0; simpa using this) HB.out (Nat.le_refl _) HL.out, by simp [intOf]⟩
      · exact ⟨wround X 1 _ _ w wr (by omega) _ (by have := wb X 1; simpa using this) HB.out (Nat.le_refl _) HL.out, by simp [intOf]⟩
      · exact ⟨wround X 2 _ _ w wr (by omega) _ (by have := wb X 2; simpa using this) HB.out (Nat.le_refl _) HL.out, by simp [intOf]⟩
      · exact ⟨wround X 3 _ _ w wr (by omega) _ (by have := wb X 3; simpa using this) HB.out (Nat.le_refl _) HL.out, by simp [intOf]⟩
      · exact ⟨wround X 4 _ _ w wr (by omega) _ (by have := wb X 4; simpa using this) HB.out (Nat.le_refl _) HL.out, by simp [intOf]⟩
      · exact ⟨wround X 5 _ _ w wr (by omega) _ (by have := wb X 5; simpa using this) HB.out (Nat.le_refl _) HL.out, by simp [intOf]⟩
      · exact ⟨wround X 6 _ _ w wr (by omega) _ (by have := wb X 6; simpa using this) HB.out (Nat.le_refl _) HL.out, by simp [intOf]⟩
      · exact ⟨wround X 7 _ _ w wr (by omega) _ (by have := wb X 7; simp at this; omega) HB.out (Nat.le_refl _) HL.out, by simp [intOf]⟩
    · have hk8 : k = 8 := by omega
      subst hk8
      have HR := hide (rd_word X _ _ _ hb)
      have HH1 := hide (HH.out.below hbel)
      clear hb hbel hk hlt
      go_wp2_with fail
      refine (lay_any S w0 p s _ 8 8 (word X) _ HH1.out HR.out (fun e => by cases e)).mono ?_
      rintro e w2 ⟨rfl, h2⟩
      go_wp2
      go_end0
      exact ⟨rfl, h2⟩

theorem ent_putWord (args : Array Value) (w : World) : (callFunc 128 args).run Tryz.prog w = .ok (.enter 128 args) w :=
  callFunc_enter Tryz.func128 (by kernel_rfl) (by kernel_rfl) args w
theorem ent_takeWord (args : Array Value) (w : World) : (callFunc 129 args).run Tryz.prog w = .ok (.enter 129 args) w :=
  callFunc_enter Tryz.func129 (by kernel_rfl) (by kernel_rfl) args w

theorem putsWord (D : Nat → Prop) (w : World) (X : Nat) (hX : X < 18446744073709551616) : PutsG D w 128 #[] (.int .u64 (X : Nat)) (wordW X) :=
  fun p S w1 _ _ w2 s h _ => putWord S w1 p X hX s w2 h

end Go.Proofs.YtoelgcagahmndaaGreat
