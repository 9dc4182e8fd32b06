import Derived.Test.YtbjcckfhfbjchaaGreatPTake
/- Package pack: NewReader, End, Read; the take of Numbers. -/
namespace Go.Proofs.YtbjcckfhfbjchaaGreat
open Go.RowKit

/-- a new reader over bytes -/
def newR (l : List Nat) : K.RS := if l.length ≤ 16777216 then ⟨l, 0, 0⟩ else ⟨[], 0, 20⟩

/-- what End tells -/
def endR (s : K.RS) : Nat := if s.fault = 0 ∧ s.taken < s.data.length then 23 else s.fault

theorem NewReader_any (a : Option Addr) (n c : Nat) (l : List Nat) (w : World) (h : Rd w a n l) (h0 : a = none → c = 0) :
    Calls Tryz.prog 65 #[.slice a n c] w fun en w' => ∃ q, en = .returned (.pointer (some ⟨q, 0, none⟩)) ∧ Rr w' q (newR l) ∧ w.heap.size ≤ q ∧ Below w.heap.size w w' := by
  have HR := hide h
  have H0 := hide h0
  have hl := h.1
  have hn := h.2.1
  have HL := hide hl
  clear h h0 hl
  unfold newR
  by_cases hlt : n ≤ 16777216
  · rw [if_pos (by have := HL.out; omega)]
    go_enter Tryz.func65, Tryz.ntmps65
    go_wp2_with fail
    refine (clone_any a n c l _ HR.out H0.out (by omega)).mono ?_
    rintro e w1 ⟨v, rfl, ho, hb⟩
    obtain ⟨a', c', rfl, hr, h0', hc', _⟩ := ownsRow_rd ho HR.out.2.2.1 (by have := HL.out; omega)
    have HR' := hide hr
    have H0' := hide h0'
    have HB := hide hb
    have HC := hide hc'
    have HO := hide ho
    clear ho hr h0' hb hc'
    go_wp2
    go_ret
    refine ⟨w1.heap.size, rfl, ⟨⟨a', c', heap_alloc_new w1 _, HR'.out.keep ((Below.refl _ _).alloc (Nat.le_refl _) _), H0'.out, HC.out, ?_⟩, Nat.zero_le _, by have := HL.out; show l.length ≤ _; omega⟩, HB.out.size, HB.out.alloc HB.out.size _⟩
    intro b off e
    exact (HO.out.lt b (by rw [e]; rfl)).2
  · rw [if_neg (by have := HL.out; omega)]
    go_enter Tryz.func65, Tryz.ntmps65
    go_wp2
    go_ret
    exact ⟨w.heap.size, rfl, ⟨⟨none, 0, heap_alloc_new w _, ⟨rfl, by decide, (fun d hd => by cases hd), .inl rfl⟩, (fun _ => rfl), Nat.le_refl _, (fun b off e => by cases e)⟩, Nat.zero_le _, Nat.zero_le _⟩, Nat.le_refl _, (Below.refl _ _).alloc (Nat.le_refl _) _⟩

theorem End_any (q : Nat) (s : K.RS) (w : World) (h : Rr w q s) :
    Calls Tryz.prog 67 #[.pointer (some ⟨q, 0, none⟩)] w fun en w' => en = .returned (.int .i64 (endR s : Nat)) ∧ Below w.heap.size w w' := by
  have HR := hide h
  obtain ⟨a, c, _, _, c2, _⟩ := h.see
  have htk := h.tak
  have htp := h.top
  clear h
  unfold endR
  by_cases hz : s.fault = 0
  · have HZ := hide hz
    have c2' : w.cell? ⟨q, 2, none⟩ = some (.int .i64 0) := by rw [c2, hz]; rfl
    rw [hz]
    clear hz c2
    by_cases hlt : s.taken < s.data.length
    · rw [if_pos ⟨rfl, hlt⟩]
      go_enter Tryz.func67, Tryz.ntmps67
      go_wp2_with fail
      refine (left_any q s _ HR.out).mono ?_
      rintro e w1 ⟨a', c', rfl, hr, h0', hc', hb⟩
      clear hr h0'
      go_wp2
      go_ret
      exact ⟨rfl, hb⟩
    · rw [if_neg (by omega)]
      go_enter Tryz.func67, Tryz.ntmps67
      go_wp2_with fail
      refine (left_any q s _ HR.out).mono ?_
      rintro e w1 ⟨a', c', rfl, hr, h0', hc', hb⟩
      obtain ⟨_, _, _, _, d2, _⟩ := (HR.out.below hb).see
      have d2' : w1.cell? ⟨q, 2, none⟩ = some (.int .i64 0) := by rw [d2, HZ.out]; rfl
      clear hr h0' d2 c2'
      go_wp2
      go_ret
      exact ⟨rfl, hb⟩
  · rw [if_neg (by omega)]
    have hzz : (((s.fault : Nat) : Int) == 0) = false := by simpa using hz
    clear hz
    go_enter Tryz.func67, Tryz.ntmps67
    go_wp2
    go_ret
    exact ⟨rfl, Below.refl _ _⟩

/-- what a take does, in whatever world in which the blocks of D read as in w -/
def TakesG (D : Nat → Prop) (w : World) (fn : FuncId) (cap : Array Value) (g : K.RS → K.RS) (V : K.RS → World → Value → Prop) : Prop :=
  ∀ q s w1, Agree D w w1 → ¬ D q → Rr w1 q s → s.fault = 0 → Takes w1 q fn cap (g s) (V s)

theorem TakesG.mono {D E : Nat → Prop} {w w2 : World} {fn : FuncId} {cap : Array Value} {g : K.RS → K.RS} {V : K.RS → World → Value → Prop} (h : TakesG D w fn cap g V) (hE : ∀ k, D k → E k) (ha : Agree D w w2) : TakesG E w2 fn cap g V :=
  fun q s w1 h1 h2 h3 h4 => h q s w1 (ha.trans (h1.mono hE)) (fun hd => h2 (hE q hd)) h3 h4

/-- Take: nothing behind a fault -/
def takeR (g : K.RS → K.RS) (s : K.RS) : K.RS := if s.fault = 0 then g s else s

theorem endR_ok {s : K.RS} (h : endR s = 0) : s.fault = 0 := by
  unfold endR at h
  split at h
  · cases h
  · exact h

end Go.Proofs.YtbjcckfhfbjchaaGreat

/- Package pack: the take of Numbers. -/
namespace Go.Proofs.YtbjcckfhfbjchaaGreat
open Go.RowKit

/-- the bytes that are left -/
def rest (s : K.RS) : List Nat := s.data.drop s.taken

/-- a reader that has taken z bytes more -/
def K.RS.go (s : K.RS) (z : Nat) : K.RS := { s with taken := s.taken + z }

def numR (least most : Int) (s : K.RS) : K.RS := match K.pk (rest s) with
  | .ok (n, z) => if (n : Int) < least ∨ most < (n : Int) then s.fail 22 else s.go z
  | .error e => s.fail e
def numV (s : K.RS) : Nat := match K.pk (rest s) with
  | .ok (n, _) => n
  | .error _ => 0

theorem Rr.byt {w : World} {q : Nat} {s : K.RS} (h : Rr w q s) : ∀ d ∈ rest s, d < 256 := by
  obtain ⟨a, c, hb, hr, _⟩ := h.ex
  exact fun d hd => hr.2.2.1 d (List.mem_of_mem_drop hd)

theorem fail_ne {s : K.RS} {e : Nat} (h : s.fault = 0) (he : e ≠ 0) : (s.fail e).fault ≠ 0 := by unfold K.RS.fail; rw [if_pos h]; exact he
theorem rest_len (s : K.RS) : (rest s).length = s.data.length - s.taken := by simp [rest]

theorem pk_err {l : List Nat} {e : Nat} (h : K.pk l = .error e) : e = 21 ∨ e = 22 := by
  have : ∀ k i m l, K.pkGo k i m l = .error e → e = 21 ∨ e = 22 := by
    intro k
    induction k with
    | zero => intro i m l h; simp [K.pkGo] at h; exact .inr h.symm
    | succ k ih =>
      intro i m l h
      cases l with
      | nil => simp [K.pkGo] at h; exact .inl h.symm
      | cons b l =>
        simp only [K.pkGo] at h
        split at h
        · exact ih _ _ _ h
        · split at h
          · injection h with h; exact .inr h.symm
          · cases h
  exact this _ _ _ _ h

set_option maxRecDepth 10000 in
theorem takeNum (q l m : Nat) (least most : Int) (s : K.RS) (w : World) (h : Rr w q s) (hz : s.fault = 0) (hl : w.cell? ⟨l, 0, none⟩ = some (.int .i64 least)) (hm : w.cell? ⟨m, 0, none⟩ = some (.int .i64 most)) :
    Takes w q 81 #[.pointer (some ⟨l, 0, none⟩), .pointer (some ⟨m, 0, none⟩)] (numR least most s) (fun _ v => v = .int .i64 (numV s : Nat)) := by
  have HH := hide h
  have HZ := hide hz
  have htp := h.top
  have htk := h.tak
  have HB := hide h.byt
  unfold Takes
  show Calls Tryz.prog 81 #[.pointer (some ⟨q, 0, none⟩), .pointer (some ⟨l, 0, none⟩), .pointer (some ⟨m, 0, none⟩)] w _
  generalize hs' : numR least most s = s'
  generalize hx : numV s = x
  have HS := hide hs'
  have HX := hide hx
  clear hs' hx
  cases hp : K.pk (rest s) with
  | error e =>
    have HP := hide hp
    have HS' : Hid (s.fail e = s') := by show _ = _; rw [← HS.out]; unfold numR; rw [hp]
    clear h hz hp
    go_enter Tryz.func81, Tryz.ntmps81
    go_wp2_with fail
    refine (peekNumber_any q s _ HH.out).mono ?_
    rintro en w1 ⟨ho, hb⟩
    have hp := HP.out
    unfold rest at hp
    rw [hp] at ho
    have hen : en = gaveUp e := ho
    subst hen
    refine ⟨rfl, Keep.ofBelow hb (Nat.le_refl _), .inr ⟨by rw [← HS'.out]; exact fail_ne HZ.out (by have := pk_err hp; omega), e, s, rfl, HH.out.below hb, HS'.out⟩⟩
  | ok r =>
    obtain ⟨n, z⟩ := r
    have hok := K.pk_ok h.byt hp
    rw [rest_len] at hok
    obtain ⟨k1, k2, k3, k4, k5⟩ := hok
    have HP := hide hp
    have HX' : Hid (n = x) := by show _ = _; rw [← HX.out]; unfold numV; rw [hp]
    clear h hz hp k4
    by_cases hb1 : (n : Int) < least
    · have HS' : Hid (s.fail 22 = s') := by show _ = _; rw [← HS.out]; unfold numR; rw [HP.out]; exact (if_pos (.inl hb1)).symm
      go_enter Tryz.func81, Tryz.ntmps81
      go_wp2_with fail
      refine (peekNumber_any q s _ HH.out).mono ?_
      rintro en w1 ⟨ho, hb⟩
      have hp := HP.out
      unfold rest at hp
      rw [hp] at ho
      have hen : en = .returned (.tuple #[.int .i64 (n : Nat), .int .i64 (z : Nat)]) := ho
      subst hen
      have hl1 : w1.cell? ⟨l, 0, none⟩ = some (.int .i64 least) := (Keep.ofBelow (S := fun _ => False) hb (Nat.le_refl _)).cell hl (fun h => h)
      have hm1 : w1.cell? ⟨m, 0, none⟩ = some (.int .i64 most) := (Keep.ofBelow (S := fun _ => False) hb (Nat.le_refl _)).cell hm (fun h => h)
      have HR1 := hide (HH.out.below hb)
      have HK := hide (Keep.ofBelow (S := fun k => k = q) hb (Nat.le_refl _))
      obtain ⟨_, _, _, c1, _, hf⟩ := HR1.out.see
      have hf1 := hf 1
      clear ho hb hp hl hm hf
      go_wp2
      exact ⟨rfl, HK.out, .inr ⟨by rw [← HS'.out]; exact fail_ne HZ.out (by decide), 22, s, rfl, HR1.out, HS'.out⟩⟩
    · by_cases hb2 : most < (n : Int)
      · have HS' : Hid (s.fail 22 = s') := by show _ = _; rw [← HS.out]; unfold numR; rw [HP.out]; exact (if_pos (.inr hb2)).symm
        go_enter Tryz.func81, Tryz.ntmps81
        go_wp2_with fail
        refine (peekNumber_any q s _ HH.out).mono ?_
        rintro en w1 ⟨ho, hb⟩
        have hp := HP.out
        unfold rest at hp
        rw [hp] at ho
        have hen : en = .returned (.tuple #[.int .i64 (n : Nat), .int .i64 (z : Nat)]) := ho
        subst hen
        have hl1 : w1.cell? ⟨l, 0, none⟩ = some (.int .i64 least) := (Keep.ofBelow (S := fun _ => False) hb (Nat.le_refl _)).cell hl (fun h => h)
        have hm1 : w1.cell? ⟨m, 0, none⟩ = some (.int .i64 most) := (Keep.ofBelow (S := fun _ => False) hb (Nat.le_refl _)).cell hm (fun h => h)
        have HR1 := hide (HH.out.below hb)
        have HK := hide (Keep.ofBelow (S := fun k => k = q) hb (Nat.le_refl _))
        obtain ⟨_, _, _, c1, _, hf⟩ := HR1.out.see
        have hf1 := hf 1
        clear ho hb hp hl hm hf
        go_wp2
        exact ⟨rfl, HK.out, .inr ⟨by rw [← HS'.out]; exact fail_ne HZ.out (by decide), 22, s, rfl, HR1.out, HS'.out⟩⟩
      · have HS' : Hid (s.go z = s') := by show _ = _; rw [← HS.out]; unfold numR; rw [HP.out]; exact (if_neg (by omega)).symm
        go_enter Tryz.func81, Tryz.ntmps81
        go_wp2_with fail
        refine (peekNumber_any q s _ HH.out).mono ?_
        rintro en w1 ⟨ho, hb⟩
        have hp := HP.out
        unfold rest at hp
        rw [hp] at ho
        have hen : en = .returned (.tuple #[.int .i64 (n : Nat), .int .i64 (z : Nat)]) := ho
        subst hen
        have hl1 : w1.cell? ⟨l, 0, none⟩ = some (.int .i64 least) := (Keep.ofBelow (S := fun _ => False) hb (Nat.le_refl _)).cell hl (fun h => h)
        have hm1 : w1.cell? ⟨m, 0, none⟩ = some (.int .i64 most) := (Keep.ofBelow (S := fun _ => False) hb (Nat.le_refl _)).cell hm (fun h => h)
        have HR1 := hide (HH.out.below hb)
        have HK := hide (Keep.ofBelow (S := fun k => k = q) hb (Nat.le_refl _))
        obtain ⟨_, _, _, c1, _, hf⟩ := HR1.out.see
        have hf1 := hf 1
        clear ho hb hp hl hm hf
        go_wp2
        go_ret
        have hs := HR1.out.set1 (s.taken + z) (by omega)
        refine ⟨HK.out.more (Keep.setCell (S := fun k => k = q) w1 (p := ⟨q, 1, none⟩) rfl _), .inl ⟨by rw [← HS'.out]; exact HZ.out, _, rfl, ?_, by rw [← HX'.out]; rfl⟩⟩
        rw [← HS'.out]
        exact hs

theorem ent_takeNum (args : Array Value) (w : World) : (callFunc 81 args).run Tryz.prog w = .ok (.enter 81 args) w :=
  callFunc_enter Tryz.func81 (by kernel_rfl) (by kernel_rfl) args w

theorem takesNum (D : Nat → Prop) (w : World) (l m : Nat) (least most : Int) (hl : w.cell? ⟨l, 0, none⟩ = some (.int .i64 least)) (hm : w.cell? ⟨m, 0, none⟩ = some (.int .i64 most)) (dl : D l) (dm : D m) :
    TakesG D w 81 #[.pointer (some ⟨l, 0, none⟩), .pointer (some ⟨m, 0, none⟩)] (numR least most) (fun s _ v => v = .int .i64 (numV s : Nat)) :=
  fun q s w1 ha _ h hz => takeNum q l m least most s w1 h hz (ha.cell hl dl) (ha.cell hm dm)

end Go.Proofs.YtbjcckfhfbjchaaGreat
