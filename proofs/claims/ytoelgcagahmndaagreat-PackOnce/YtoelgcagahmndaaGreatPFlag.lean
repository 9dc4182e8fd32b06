/- Package pack: Flags. -/
import Derived.Test.YtoelgcagahmndaaGreatPOneM
namespace Go.Proofs.YtoelgcagahmndaaGreat
open Go.RowKit

def flagW (b : Bool) (s : K.WS) : K.WS := s.lay [if b then 1 else 0]
def flagR (s : K.RS) : K.RS := match rest s with
  | [] => s.fail 21
  | b :: _ => if 1 < b then s.fail 22 else s.go 1
def flagV (s : K.RS) : Bool := match rest s with
  | [] => false
  | b :: _ => b == 1

theorem rw_flag : RW flagR (fun s => flagW (flagV s)) := by
  intro s hb hz ht hg
  have hfv : ∀ b l, rest s = b :: l → flagV s = (b == 1) := fun b l h => by unfold flagV; rw [h]
  unfold flagR at hg ⊢
  cases hp : rest s with
  | nil => rw [hp] at hg; exact (fail_fault (by decide) hg hz).elim
  | cons b l =>
    rw [hp] at hg
    by_cases h1 : 1 < b
    · simp only [if_pos h1] at hg
      exact (fail_fault (by decide) hg hz).elim
    · simp only [if_neg h1]
      refine ⟨1, Nat.le_refl _, by simp, rfl, fun s0 h0 hr => ?_⟩
      show flagW (flagV s) s0 = _
      rw [hfv b l hp]
      unfold flagW
      have e : [if (b == 1) = true then 1 else 0] = (b :: l).take 1 := by
        rcases (show b = 0 ∨ b = 1 by omega) with rfl | rfl <;> simp
      rw [e]
      exact lay_fits (by simpa using hr)

theorem putFlag (S : Nat → Prop) (w0 : World) (p : Nat) (x : Bool) (s : K.WS) (w : World) (h : WAt S w0 p s w) :
    Calls Tryz.prog 133 #[.pointer (some ⟨p, 0, none⟩), .bool x] w fun en w' => en = .returned (.tuple #[]) ∧ WAt S w0 p (flagW x s) w' := by
  have HH := hide h
  clear h
  cases x with
  | true =>
    have HR := hide (rd_one w 1 (by decide))
    have HH1 := hide (HH.out.below ((Below.refl w.heap.size w).alloc (Nat.le_refl _) (.cells #[.int .u8 ((1 : Nat) : Int)] 5)))
    go_enter Tryz.func133, Tryz.ntmps133
    go_wp2_with fail
    refine (lay_any S w0 p s _ 1 1 [1] _ HH1.out HR.out (fun e => by cases e)).mono ?_
    rintro e w2 ⟨rfl, h2⟩
    go_wp2
    go_end0
    exact ⟨rfl, h2⟩
  | false =>
    have HR := hide (rd_one w 0 (by decide))
    have HH1 := hide (HH.out.below ((Below.refl w.heap.size w).alloc (Nat.le_refl _) (.cells #[.int .u8 ((0 : Nat) : Int)] 5)))
    go_enter Tryz.func133, Tryz.ntmps133
    go_wp2_with fail
    refine (lay_any S w0 p s _ 1 1 [0] _ HH1.out HR.out (fun e => by cases e)).mono ?_
    rintro e w2 ⟨rfl, h2⟩
    go_wp2
    go_end0
    exact ⟨rfl, h2⟩

theorem ent_putFlag (args : Array Value) (w : World) : (callFunc 133 args).run Tryz.prog w = .ok (.enter 133 args) w :=
  callFunc_enter Tryz.func133 (by kernel_rfl) (by kernel_rfl) args w
theorem ent_takeFlag (args : Array Value) (w : World) : (callFunc 134 args).run Tryz.prog w = .ok (.enter 134 args) w :=
  callFunc_enter Tryz.func134 (by kernel_rfl) (by kernel_rfl) args w

theorem putsFlag (D : Nat → Prop) (w : World) (x : Bool) : PutsG D w 133 #[] (.bool x) (flagW x) :=
  fun p S w1 _ _ w2 s h _ => putFlag S w1 p x s w2 h

set_option maxRecDepth 10000 in
theorem takeFlag (q : Nat) (s : K.RS) (w : World) (h : Rr w q s) (hz : s.fault = 0) :
    Takes w q 134 #[] (flagR s) (fun _ v => v = .bool (flagV s)) := by
  have HH := hide h
  have HZ := hide hz
  have htp := h.top
  have htk := h.tak
  have hby := h.byt
  unfold Takes
  show Calls Tryz.prog 134 #[.pointer (some ⟨q, 0, none⟩)] w _
  generalize hs' : flagR s = s'
  generalize hx : flagV s = x
  have HS := hide hs'
  have HX := hide hx
  clear hs' hx h hz
  cases hp : rest s with
  | nil =>
    have HP := hide hp
    have HS' : Hid (s.fail 21 = s') := by show _ = _; rw [← HS.out]; unfold flagR; rw [hp]
    clear hp
    go_enter Tryz.func134, Tryz.ntmps134
    go_wp2_with fail
    refine (peek_no q 1 s _ HH.out (by rw [HP.out]; simp)).mono ?_
    rintro en w1 ⟨rfl, hb⟩
    exact ⟨rfl, Keep.ofBelow hb (Nat.le_refl _), .inr ⟨by rw [← HS'.out]; exact fail_ne HZ.out (by decide), 21, s, rfl, HH.out.below hb, HS'.out⟩⟩
  | cons b l =>
    have hb8 : b < 256 := hby b (by rw [hp]; simp)
    have HP := hide hp
    have hlen : 1 ≤ (rest s).length := by rw [hp]; simp
    have hlen2 : s.taken + 1 ≤ s.data.length := by rw [rest_len] at hlen; omega
    have HLEN := hide hlen
    have HX' : Hid ((b == 1) = x) := by show _ = _; rw [← HX.out]; unfold flagV; rw [hp]
    clear hp hby hlen
    by_cases h1 : 1 < b
    · have HS' : Hid (s.fail 22 = s') := by show _ = _; rw [← HS.out]; unfold flagR; rw [HP.out]; exact (if_pos h1).symm
      go_enter Tryz.func134, Tryz.ntmps134
      go_wp2_with fail
      refine (peek_yes q 1 s _ HH.out HLEN.out).mono ?_
      rintro en w1 ⟨a, c, rfl, hr, h0, hc, hb⟩
      obtain ⟨bl, off, rfl, hcell⟩ : ∃ bl off, a = some ⟨bl, off, none⟩ ∧ w1.cell? ⟨bl, off, none⟩ = some (.int .u8 (b : Int)) := by
        rcases hr.2.2.2 with h' | ⟨bl, off, rfl, hrow⟩
        · omega
        · refine ⟨bl, off, rfl, ?_⟩
          have := hrow 0 (by omega)
          rw [HP.out] at this
          exact this
      have HB := hide hb
      clear hr h0 hb
      go_wp2
      exact ⟨rfl, Keep.ofBelow HB.out (Nat.le_refl _), .inr ⟨by rw [← HS'.out]; exact fail_ne HZ.out (by decide), 22, s, rfl, HH.out.below HB.out, HS'.out⟩⟩
    · have HS' : Hid (s.go 1 = s') := by show _ = _; rw [← HS.out]; unfold flagR; rw [HP.out]; exact (if_neg h1).symm
      go_enter Tryz.func134, Tryz.ntmps134
      go_wp2_with fail
      refine (peek_yes q 1 s _ HH.out HLEN.out).mono ?_
      rintro en w1 ⟨a, c, rfl, hr, h0, hc, hb⟩
      obtain ⟨bl, off, rfl, hcell⟩ : ∃ bl off, a = some ⟨bl, off, none⟩ ∧ w1.cell? ⟨bl, off, none⟩ = some (.int .u8 (b : Int)) := by
        rcases hr.2.2.2 with h' | ⟨bl, off, rfl, hrow⟩
        · omega
        · refine ⟨bl, off, rfl, ?_⟩
          have := hrow 0 (by omega)
          rw [HP.out] at this
          exact this
      have HB := hide hb
      have HR1 := hide (HH.out.below hb)
      obtain ⟨_, _, _, c1, _, hf⟩ := HR1.out.see
      have hf1 := hf 1
      have HSET := hide (HR1.out.set1 (s.taken + 1) hlen2)
      have HKS : Hid (Keep (fun k => k = q) w1 (w1.setCell ⟨q, 1, none⟩ (.int .i64 ((s.taken + 1 : Nat) : Int)))) := Keep.setCell (S := fun k => k = q) w1 (p := ⟨q, 1, none⟩) rfl _
      clear hr h0 hb hf
      go_wp2
      go_ret
      refine ⟨(Keep.ofBelow HB.out (Nat.le_refl _)).more HKS.out, .inl ⟨by rw [← HS'.out]; exact HZ.out, _, rfl, ?_, ?_⟩⟩
      · rw [← HS'.out]; exact HSET.out
      · rw [← HX'.out]
        rcases (show b = 0 ∨ b = 1 by omega) with rfl | rfl <;> rfl

theorem takesFlag (D : Nat → Prop) (w : World) : TakesG D w 134 #[] flagR (fun s _ v => v = .bool (flagV s)) :=
  fun q s w1 _ _ h hz => takeFlag q s w1 h hz

theorem Flags_any (w : World) :
    Calls Tryz.prog 75 #[] w fun en w' => en = .returned (.agg #[.func (.func 133) #[] #[], .func (.func 134) #[] #[]]) ∧ Below w.heap.size w w' := by
  have hmf : ∀ (fn : Fn) (first cap : Array Value) (w : World), (Instr.makeFunc fn first cap).run Tryz.prog w = .ok (.func fn first cap) w := fun _ _ _ _ => rfl
  go_enter Tryz.func75, Tryz.ntmps75
  go_wp2_with fail
  refine (MakeF _ _ _ _ _).mono ?_
  rintro e w1 ⟨rfl, hb1⟩
  have b1 := (Keep.ofBelow (S := fun _ => False) hb1 (Nat.le_refl _)).blk (heap_alloc_new w _) (fun h => h)
  have f0 := cell_of_row _ _ 0 _ _ _ b1
  have f1 := cell_of_row _ _ 1 _ _ _ b1
  have z0 := frozen_of_row w1 _ 0 _ _ b1
  have z1 := frozen_of_row w1 _ 1 _ _ b1
  have HB := hide (((Below.refl w.heap.size w).alloc (Nat.le_refl _) (.cells #[.nilFunc, .nilFunc] 129)).trans (hb1.mono (by simp)))
  clear hb1 b1
  go_wp2
  exact ⟨rfl, .agg #[.func (.func 133) #[] #[], .func (.func 134) #[] #[]], by simp [results, Tryz.results75, go_sem, f0, f1], rfl, (HB.out.setCell (by show _ ≤ _; simp) _).setCell (by show _ ≤ _; simp) _⟩

end Go.Proofs.YtoelgcagahmndaaGreat
