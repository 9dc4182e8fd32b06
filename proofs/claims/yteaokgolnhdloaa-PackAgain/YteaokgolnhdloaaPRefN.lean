/- The document's answer: NewReader, Number, End of the reader. -/
import Derived.Test.YteaokgolnhdloaaPRefR
namespace Go.Proofs.Yteaokgolnhdloaa
open Go.RowKit

theorem RNewReader_any (a : Option Addr) (n c : Nat) (l : List Nat) (w : World) (h : Rd w a n l) (h0 : a = none → c = 0) :
    Calls Try.prog 11 #[.slice a n c] w fun en w' => ∃ q, en = .returned (.pointer (some ⟨q, 0, none⟩)) ∧ Qr w' q (newR l) ∧ w.heap.size ≤ q ∧ Below w.heap.size w w' := by
  have hba := (Below.refl w.heap.size w).alloc (Nat.le_refl _) (.cells #[] 5)
  have HR := hide (h.keep hba)
  have H0 := hide h0
  have hl := h.1
  have hn := h.2.1
  have HL := hide hl
  have HBY := hide h.2.2.1
  have HOE := hide (ownsRow_empty w)
  clear h h0 hl hba
  unfold newR
  by_cases hlt : n ≤ 16777216
  · rw [if_pos (by have := HL.out; omega)]
    go_enter Try.func11, Try.ntmps11
    go_wp2_with (at_builtin; refine wpList_append_rd rfl _ _ rfl _ [] w.heap.size rfl HOE.out a n c l rfl HR.out H0.out (by show 0 + _ ≤ _; omega) (by simp) ?_; intro v' w2 ho2 hg hnb; rw [List.nil_append] at ho2; obtain ⟨a', c', hv', hr, h0', hc', _⟩ := ownsRow_rd ho2 HBY.out (by have := HL.out; omega); subst hv'; have HO2 := hide ho2; have HG := hide hg; have HR' := hide hr; have H0' := hide h0'; have HC := hide hc'; clear ho2 hg hnb hr h0' hc')
    go_ret
    have hb := below_grown (Below.refl _ _) _ HG.out fun k hk => (HOE.out.lt k hk).1
    refine ⟨w2.heap.size, rfl, ⟨⟨a', c', heap_alloc_new w2 _, HR'.out.keep ((Below.refl _ _).alloc (Nat.le_refl _) _), H0'.out, HC.out, ?_⟩, Nat.zero_le _, by have := HL.out; show l.length ≤ _; omega⟩, hb.size, hb.alloc hb.size _⟩
    intro b off e
    exact (HO2.out.lt b (by rw [e]; rfl)).2
  · rw [if_neg (by have := HL.out; omega)]
    go_enter Try.func11, Try.ntmps11
    go_wp2
    go_ret
    exact ⟨w.heap.size, rfl, ⟨⟨none, 0, heap_alloc_new w _, ⟨rfl, by decide, (fun d hd => by cases hd), .inl rfl⟩, (fun _ => rfl), Nat.le_refl _, (fun b off e => by cases e)⟩, Nat.zero_le _, Nat.zero_le _⟩, Nat.le_refl _, (Below.refl _ _).alloc (Nat.le_refl _) _⟩

theorem went_any (q : Nat) (s : K.RS) (t e : Nat) (ht : t ≤ s.data.length) (w : World) (h : Qr w q s) :
    Calls Try.prog 54 #[.pointer (some ⟨q, 0, none⟩), .int .i64 (t : Nat), .int .i64 (e : Nat)] w fun en w' => en = .returned (.tuple #[]) ∧ Qr w' q { s with taken := t, fault := e } ∧ Keep (fun k => k = q) w w' := by
  obtain ⟨a, c, h0, h1, h2, hf⟩ := h.see
  have hf1 := hf 1
  have hf2 := hf 2
  have HH := hide h
  clear h hf
  go_enter Try.func54, Try.ntmps54
  go_wp2
  go_end0
  exact ⟨rfl, (HH.out.set1 t ht).set2 e, (Keep.setCell (S := fun k => k = q) w (p := ⟨q, 1, none⟩) rfl _).more (Keep.setCell (S := fun k => k = q) _ (p := ⟨q, 2, none⟩) rfl _)⟩

theorem Qr.byt {w : World} {q : Nat} {s : K.RS} (h : Qr w q s) : ∀ d ∈ rest s, d < 256 := by
  obtain ⟨a, c, hb, hr, _⟩ := h.ex
  exact fun d hd => hr.2.2.1 d (List.mem_of_mem_drop hd)

theorem tn_num {w : World} {q : Nat} {s : K.RS} {least most : Int} (h : Qr w q s) (hz : s.fault = 0) :
    numR least most s = { s with taken := (tn least most s.data s.taken).2.1, fault := (tn least most s.data s.taken).2.2 } ∧ ((numR least most s).fault = 0 → (tn least most s.data s.taken).1 = numV s) ∧ (tn least most s.data s.taken).2.1 ≤ s.data.length := by
  have hb := h.byt
  have ht := h.tak
  have hl := rest_len s
  unfold numR numV tn
  change _ ∧ _ ∧ _
  have hrw : s.data.drop s.taken = rest s := rfl
  rw [hrw]
  cases hp : K.pk (rest s) with
  | error e =>
    have he := pk_err hp
    refine ⟨?_, ?_, ht⟩
    · show s.fail e = _
      unfold K.RS.fail
      rw [if_pos hz]
    · intro h0
      exact absurd h0 (fail_ne hz (by omega))
  | ok r =>
    obtain ⟨n, z⟩ := r
    obtain ⟨k1, k2, k3, _, _⟩ := K.pk_ok hb hp
    by_cases hbd : (n : Int) < least ∨ most < (n : Int)
    · simp only [if_pos hbd]
      refine ⟨?_, ?_, ht⟩
      · unfold K.RS.fail
        rw [if_pos hz]
      · intro h0
        exact absurd h0 (fail_ne hz (by decide))
    · simp only [if_neg hbd]
      refine ⟨?_, fun _ => trivial, by omega⟩
      unfold K.RS.go
      rw [← hz]

end Go.Proofs.Yteaokgolnhdloaa
