/- Package crew: Work; the law's few. -/
import Derived.Test.YtchefanneampfaaKByt
import Derived.Deep.QuietTactic
import Derived.BigQuiet
namespace Go.Proofs.Ytchefanneampfaa
namespace Cw
open Go.RowKit Go.Deep

/-- lists of bytes in memory -/
def Ins (w : World) (a : Option Addr) (n : Nat) (ls : List (List Nat)) : Prop :=
  n = ls.length ∧ n < 281474976710656 ∧ (n = 0 ∨ ∃ b off, a = some ⟨b, off, none⟩ ∧ ∀ i l, ls[i]? = some l → ∃ a' c', w.cell? ⟨b, off + i, none⟩ = some (.slice a' l.length c') ∧ Rd w a' l.length l ∧ (a' = none → c' = 0))
theorem Ins.keep {w w' : World} {a : Option Addr} {n : Nat} {ls : List (List Nat)} (h : Ins w a n ls) (hb : Below w.heap.size w w') : Ins w' a n ls := by
  refine ⟨h.1, h.2.1, ?_⟩
  rcases h.2.2 with h0 | ⟨b, off, e, hc⟩
  · exact .inl h0
  · refine .inr ⟨b, off, e, fun i l hl => ?_⟩
    obtain ⟨a', c', h1, h2, h3⟩ := hc i l hl
    exact ⟨a', c', by rw [hb.cell (p := ⟨b, off + i, none⟩) (block_lt_of_cell h1)]; exact h1, h2.keep hb, h3⟩
/-- what is summed -/
def txt (ls : List (List Nat)) : List Nat := ls.flatMap fun l => l.length % 256 :: l
def tot (ls : List (List Nat)) : Nat := (ls.map List.length).sum
theorem txt_len (ls : List (List Nat)) : (txt ls).length = tot ls + ls.length := by
  induction ls with
  | nil => rfl
  | cons l ls ih => simp only [txt, tot, List.flatMap_cons, List.length_append, List.length_cons, List.map_cons, List.sum_cons] at *; omega
theorem tot_take_le (ls : List (List Nat)) (i : Nat) : tot (ls.take i) ≤ tot ls := by
  induction ls generalizing i with
  | nil => simp [tot]
  | cons l ls ih =>
    cases i with
    | zero => simp [tot]
    | succ i =>
      have := ih i
      simp only [tot, List.take_succ_cons, List.map_cons, List.sum_cons] at *
      omega
theorem take_at {α : Type} {ls : List α} {i : Nat} {l : α} (h : ls[i]? = some l) : ls.take (i + 1) = ls.take i ++ [l] := by
  rw [List.take_add_one, h]; rfl
theorem tot_snoc (ls : List (List Nat)) (l : List Nat) : tot (ls ++ [l]) = tot ls + l.length := by simp [tot]
theorem txt_snoc (ls : List (List Nat)) (l : List Nat) : txt (ls ++ [l]) = txt ls ++ [l.length % 256] ++ l := by simp [txt]
theorem txt_lt {ls : List (List Nat)} (h : ∀ l ∈ ls, ∀ d ∈ l, d < 256) : ∀ d ∈ txt ls, d < 256 := fun d hd => by
  simp only [txt, List.mem_flatMap] at hd
  obtain ⟨l, hl, hd⟩ := hd
  rcases List.mem_cons.1 hd with rfl | hd
  · exact Nat.mod_lt _ (by decide)
  · exact h l hl d hd
theorem Ins.lt {w : World} {a : Option Addr} {n : Nat} {ls : List (List Nat)} (h : Ins w a n ls) : ∀ l ∈ ls, ∀ d ∈ l, d < 256 := fun l hl => by
  obtain ⟨i, hi, e⟩ := List.getElem_of_mem hl
  rcases h.2.2 with h0 | ⟨b, off, _, hc⟩
  · have := h.1; omega
  · obtain ⟨a', c', _, h2, _⟩ := hc i l (by rw [List.getElem?_eq_getElem hi, e])
    exact h2.2.2.1
def fewB (ls : List (List Nat)) (n : Nat) : Bool := decide (tot ls ≤ 1048576 ∧ n ≤ 20000)
set_option maxRecDepth 10000 in
/-- the law's few -/
theorem few_any (a : Option Addr) (n c : Nat) (ls : List (List Nat)) (w : World) (h : Ins w a n ls) (hlen : ∀ l ∈ ls, l.length ≤ 140737488351232) :
    Calls Try.prog 6 #[.slice a n c] w fun en w' => en = .returned (.bool (fewB ls n)) ∧ w' = w := by
  have hn := h.2.1
  have HH := hide h
  have HLen := hide hlen
  obtain ⟨B, hB⟩ : ∃ B, fewB ls n = B := ⟨_, rfl⟩
  rw [hB]
  have HB := hide hB
  clear h hlen hB
  go_enter Try.func6, Try.ntmps6
  go_wp2
  go_loop [3, 4] (fun s i => ∃ k : Nat, k ≤ n ∧ i = .int .i64 k ∧ s = .int .i64 (tot (ls.take k) : Nat) ∧ tot (ls.take k) ≤ 140737500000000) (fun _ i => n - (intOf i).toNat)
  case atStart => exact ⟨0, Nat.zero_le _, rfl, rfl, by simp [tot]⟩
  case round =>
    obtain ⟨k, hk, rfl, rfl, ht⟩ := hrel
    by_cases hlt : k < n
    · by_cases hle : tot (ls.take k) ≤ 1048576
      · obtain ⟨l, hl⟩ : ∃ l, ls[k]? = some l := ⟨_, List.getElem?_eq_getElem (by have := HH.out.1; omega)⟩
        obtain ⟨b, off, rfl, hc⟩ := HH.out.2.2.resolve_left (by omega)
        obtain ⟨a', c', h1, h2, h3⟩ := hc k l hl
        have hll := HLen.out l (List.mem_of_getElem? hl)
        have HT : Hid (tot (ls.take (k + 1)) = tot (ls.take k) + l.length) := by show _ = _; rw [take_at hl, tot_snoc]
        clear h2 h3 hc hl
        generalize tot (ls.take k) = T at *
        generalize l.length = m at *
        go_wp2
        refine ⟨⟨k + 1, by omega, by go_num, ?_, ?_⟩, by simp [intOf]; omega⟩
        · rw [HT.out]; go_num
        · rw [HT.out]; omega
      · have hf : B = false := by
          have := tot_take_le ls k
          rw [← HB.out]
          simp only [fewB, decide_eq_false_iff_not]
          omega
        subst hf
        generalize tot (ls.take k) = T at *
        go_wp2
        go_ret
        exact ⟨rfl, rfl⟩
    · obtain rfl : k = n := by omega
      have HE : Hid (ls.take k = ls) := by show _ = _; rw [List.take_of_length_le (by have := HH.out.1; omega)]
      rw [HE.out] at ht ⊢
      have hf : B = decide (tot ls ≤ 1048576 ∧ k ≤ 20000) := by rw [← HB.out]; rfl
      generalize tot ls = T at *
      by_cases hle : T ≤ 1048576
      · by_cases hle2 : k ≤ 20000
        · have hf' : B = true := by rw [hf]; simp [hle, hle2]
          clear hf
          subst hf'
          go_wp2
          go_ret
          exact ⟨congrArg (fun b => Ending.returned (.bool b)) (show decide ((k : Int) ≤ 20000) = true by simp only [decide_eq_true_eq]; omega), rfl⟩
        · have hf' : B = false := by rw [hf]; simp [hle2]
          clear hf
          subst hf'
          go_wp2
          go_ret
          exact ⟨congrArg (fun b => Ending.returned (.bool b)) (show decide ((k : Int) ≤ 20000) = false by simp only [decide_eq_false_iff_not]; omega), rfl⟩
      · have hf' : B = false := by rw [hf]; simp [hle]
        clear hf
        subst hf'
        go_wp2
        go_ret
        exact ⟨rfl, rfl⟩
end Cw
end Go.Proofs.Ytchefanneampfaa
