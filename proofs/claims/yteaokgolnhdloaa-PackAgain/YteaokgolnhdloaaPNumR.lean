/- Package pack: the take of Numbers. -/
import Derived.Test.YteaokgolnhdloaaPReadAt
namespace Go.Proofs.Yteaokgolnhdloaa
open Go.RowKit

/-- the bytes that are left -/
def rest (s : K.RS) : List Nat := s.data.drop s.taken

/-- a reader that has taken z bytes more -/
def K.RS.go (s : K.RS) (z : Nat) : K.RS := { s with taken := s.taken + z }

def numR (least most : Int) (s : K.RS) : K.RS := match K.pk (rest s) with
  | .ok (n, z) => if (n : Int) < least ∨ most < (n : Int) then s.fail 22 else s.go z
  | .error e => s.fail e
def numV (s : K.RS) : Nat := match K.pk (rest s) with
  | .ok (n, _) => n
  | .error _ => 0

theorem Rr.byt {w : World} {q : Nat} {s : K.RS} (h : Rr w q s) : ∀ d ∈ rest s, d < 256 := by
  obtain ⟨a, c, hb, hr, _⟩ := h.ex
  exact fun d hd => hr.2.2.1 d (List.mem_of_mem_drop hd)

theorem fail_ne {s : K.RS} {e : Nat} (h : s.fault = 0) (he : e ≠ 0) : (s.fail e).fault ≠ 0 := by unfold K.RS.fail; rw [if_pos h]; exact he
theorem rest_len (s : K.RS) : (rest s).length = s.data.length - s.taken := by simp [rest]

theorem pk_err {l : List Nat} {e : Nat} (h : K.pk l = .error e) : e = 21 ∨ e = 22 := by
  have : ∀ k i m l, K.pkGo k i m l = .error e → e = 21 ∨ e = 22 := by
    intro k
    induction k with
    | zero => intro i m l h; simp [K.pkGo] at h; exact .inr h.symm
    | succ k ih =>
      intro i m l h
      cases l with
      | nil => simp [K.pkGo] at h; exact .inl h.symm
      | cons b l =>
        simp only [K.pkGo] at h
        split at h
        · exact ih _ _ _ h
        · split at h
          · injection h with h; exact .inr h.symm
          · cases h
  exact this _ _ _ _ h

set_option maxRecDepth 10000 in
theorem takeNum (q l m : Nat) (least most : Int) (s : K.RS) (w : World) (h : Rr w q s) (hz : s.fault = 0) (hl : w.cell? ⟨l, 0, none⟩ = some (.int .i64 least)) (hm : w.cell? ⟨m, 0, none⟩ = some (.int .i64 most)) :
    Takes w q 74 #[.pointer (some ⟨l, 0, none⟩), .pointer (some ⟨m, 0, none⟩)] (numR least most s) (fun _ v => v = .int .i64 (numV s : Nat)) := by
  have HH := hide h
  have HZ := hide hz
  have htp := h.top
  have htk := h.tak
  have HB := hide h.byt
  unfold Takes
  show Calls Try.prog 74 #[.pointer (some ⟨q, 0, none⟩), .pointer (some ⟨l, 0, none⟩), .pointer (some ⟨m, 0, none⟩)] w _
  generalize hs' : numR least most s = s'
  generalize hx : numV s = x
  have HS := hide hs'
  have HX := hide hx
  clear hs' hx
  cases hp : K.pk (rest s) with
  | error e =>
    have HP := hide hp
    have HS' : Hid (s.fail e = s') := by show _ = _; rw [← HS.out]; unfold numR; rw [hp]
    clear h hz hp
    go_enter Try.func74, Try.ntmps74
    go_wp2_with fail
    refine (peekNumber_any q s _ HH.out).mono ?_
    rintro en w1 ⟨ho, hb⟩
    have hp := HP.out
    unfold rest at hp
    rw [hp] at ho
    have hen : en = gaveUp e := ho
    subst hen
    refine ⟨rfl, Keep.ofBelow hb (Nat.le_refl _), .inr ⟨by rw [← HS'.out]; exact fail_ne HZ.out (by have := pk_err hp; omega), e, s, rfl, HH.out.below hb, HS'.out⟩⟩
  | ok r =>
    obtain ⟨n, z⟩ := r
    have hok := K.pk_ok h.byt hp
    rw [rest_len] at hok
    obtain ⟨k1, k2, k3, k4, k5⟩ := hok
    have HP := hide hp
    have HX' : Hid (n = x) := by show _ = _; rw [← HX.out]; unfold numV; rw [hp]
    clear h hz hp k4
    by_cases hb1 : (n : Int) < least
    · have HS' : Hid (s.fail 22 = s') := by show _ = _; rw [← HS.out]; unfold numR; rw [HP.out]; exact (if_pos (.inl hb1)).symm
      go_enter Try.func74, Try.ntmps74
      go_wp2_with fail
      refine (peekNumber_any q s _ HH.out).mono ?_
      rintro en w1 ⟨ho, hb⟩
      have hp := HP.out
      unfold rest at hp
      rw [hp] at ho
      have hen : en = .returned (.tuple #[.int .i64 (n : Nat), .int .i64 (z : Nat)]) := ho
      subst hen
      have hl1 : w1.cell? ⟨l, 0, none⟩ = some (.int .i64 least) := (Keep.ofBelow (S := fun _ => False) hb (Nat.le_refl _)).cell hl (fun h => h)
      have hm1 : w1.cell? ⟨m, 0, none⟩ = some (.int .i64 most) := (Keep.ofBelow (S := fun _ => False) hb (Nat.le_refl _)).cell hm (fun h => h)
      have HR1 := hide (HH.out.below hb)
      have HK := hide (Keep.ofBelow (S := fun k => k = q) hb (Nat.le_refl _))
      obtain ⟨_, _, _, c1, _, hf⟩ := HR1.out.see
      have hf1 := hf 1
      clear ho hb hp hl hm hf
      go_wp2
      exact ⟨rfl, HK.out, .inr ⟨by rw [← HS'.out]; exact fail_ne HZ.out (by decide), 22, s, rfl, HR1.out, HS'.out⟩⟩
    · by_cases hb2 : most < (n : Int)
      · have HS' : Hid (s.fail 22 = s') := by show _ = _; rw [← HS.out]; unfold numR; rw [HP.out]; exact (if_pos (.inr hb2)).symm
        go_enter Try.func74, Try.ntmps74
        go_wp2_with fail
        refine (peekNumber_any q s _ HH.out).mono ?_
        rintro en w1 ⟨ho, hb⟩
        have hp := HP.out
        unfold rest at hp
        rw [hp] at ho
        have hen : en = .returned (.tuple #[.int .i64 (n : Nat), .int .i64 (z : Nat)]) := ho
        subst hen
        have hl1 : w1.cell? ⟨l, 0, none⟩ = some (.int .i64 least) := (Keep.ofBelow (S := fun _ => False) hb (Nat.le_refl _)).cell hl (fun h => h)
        have hm1 : w1.cell? ⟨m, 0, none⟩ = some (.int .i64 most) := (Keep.ofBelow (S := fun _ => False) hb (Nat.le_refl _)).cell hm (fun h => h)
        have HR1 := hide (HH.out.below hb)
        have HK := hide (Keep.ofBelow (S := fun k => k = q) hb (Nat.le_refl _))
        obtain ⟨_, _, _, c1, _, hf⟩ := HR1.out.see
        have hf1 := hf 1
        clear ho hb hp hl hm hf
        go_wp2
        exact ⟨rfl, HK.out, .inr ⟨by rw [← HS'.out]; exact fail_ne HZ.out (by decide), 22, s, rfl, HR1.out, HS'.out⟩⟩
      · have HS' : Hid (s.go z = s') := by show _ = _; rw [← HS.out]; unfold numR; rw [HP.out]; exact (if_neg (by omega)).symm
        go_enter Try.func74, Try.ntmps74
        go_wp2_with fail
        refine (peekNumber_any q s _ HH.out).mono ?_
        rintro en w1 ⟨ho, hb⟩
        have hp := HP.out
        unfold rest at hp
        rw [hp] at ho
        have hen : en = .returned (.tuple #[.int .i64 (n : Nat), .int .i64 (z : Nat)]) := ho
        subst hen
        have hl1 : w1.cell? ⟨l, 0, none⟩ = some (.int .i64 least) := (Keep.ofBelow (S := fun _ => False) hb (Nat.le_refl _)).cell hl (fun h => h)
        have hm1 : w1.cell? ⟨m, 0, none⟩ = some (.int .i64 most) := (Keep.ofBelow (S := fun _ => False) hb (Nat.le_refl _)).cell hm (fun h => h)
        have HR1 := hide (HH.out.below hb)
        have HK := hide (Keep.ofBelow (S := fun k => k = q) hb (Nat.le_refl _))
        obtain ⟨_, _, _, c1, _, hf⟩ := HR1.out.see
        have hf1 := hf 1
        clear ho hb hp hl hm hf
        go_wp2
        go_ret
        have hs := HR1.out.set1 (s.taken + z) (by omega)
        refine ⟨HK.out.more (Keep.setCell (S := fun k => k = q) w1 (p := ⟨q, 1, none⟩) rfl _), .inl ⟨by rw [← HS'.out]; exact HZ.out, _, rfl, ?_, by rw [← HX'.out]; rfl⟩⟩
        rw [← HS'.out]
        exact hs

theorem ent_takeNum (args : Array Value) (w : World) : (callFunc 74 args).run Try.prog w = .ok (.enter 74 args) w :=
  callFunc_enter Try.func74 (by kernel_rfl) (by kernel_rfl) args w

theorem takesNum (D : Nat → Prop) (w : World) (l m : Nat) (least most : Int) (hl : w.cell? ⟨l, 0, none⟩ = some (.int .i64 least)) (hm : w.cell? ⟨m, 0, none⟩ = some (.int .i64 most)) (dl : D l) (dm : D m) :
    TakesG D w 74 #[.pointer (some ⟨l, 0, none⟩), .pointer (some ⟨m, 0, none⟩)] (numR least most) (fun s _ v => v = .int .i64 (numV s : Nat)) :=
  fun q s w1 ha _ h hz => takeNum q l m least most s w1 h hz (ha.cell hl dl) (ha.cell hm dm)

end Go.Proofs.Yteaokgolnhdloaa
