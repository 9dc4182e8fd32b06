/- fill: a row of bytes written full. -/
import Derived.Test.YteaokgolnhdloaaPOwM
namespace Go.Proofs.Yteaokgolnhdloaa
namespace Ow
open Go.RowKit

set_option maxRecDepth 10000 in
theorem fill_any (a : Option Addr) (n c : Nat) (X : List Value) (d : Int) (w : World) (ho : w.ownsRow 0 5 1 (.slice a n c) n X) (hn : n ≤ 140737488355328) :
    Calls Try.prog 10 #[.slice a n c, .int .u8 d] w fun e w' => e = .returned (.tuple #[]) ∧ w'.ownsRow 0 5 1 (.slice a n c) n (List.replicate n (.int .u8 d)) ∧ Keep (fun k => (Value.slice a n c).ownBlock = some k) w w' := by
  have HO := hide ho
  clear ho
  go_enter Try.func10, Try.ntmps10
  go_wp2_with fail
  go_loopw [4] (fun kv wr => ∃ k : Nat, kv = .int .i64 (k : Nat) ∧ k ≤ n ∧ Hid (∃ Y, wr.ownsRow 0 5 1 (.slice a n c) n Y ∧ (∀ t, t < k → Y[t]? = some (.int .u8 d)) ∧ Keep (fun k => (Value.slice a n c).ownBlock = some k) w wr)) (fun kv _ => n - (intOf kv).toNat)
  case atStart => exact ⟨0, rfl, Nat.zero_le _, X, HO.out, fun t ht => absurd ht (Nat.not_lt_zero _), Keep.refl _ _⟩
  case round => as_aux_lemma =>
    clear HO
    obtain ⟨k, rfl, hk, HD⟩ := hrel
    obtain ⟨Y, h1, h2, h3⟩ := HD.out
    by_cases hkn : k < n
    · have hkn' : (k : Int) < (n : Int) := by omega
      obtain ⟨g, cap, e⟩ := own_form h1 (by omega)
      injection e with eA _ eC
      subst eA
      subst eC
      obtain ⟨y, hy⟩ : ∃ y, Y[k]? = some y := ⟨_, List.getElem?_eq_getElem (by have := h1.1; omega)⟩
      have cc := h1.cellAt k (by omega)
      rw [hy] at cc
      have fz := h1.frozenAt k
      have N1 : Hid (∃ Y, (wr.setCell ⟨g, k, none⟩ (.int .u8 d)).ownsRow 0 5 1 (.slice (some ⟨g, 0, none⟩) n c) n Y ∧ (∀ t, t < k + 1 → Y[t]? = some (.int .u8 d)) ∧ Keep (fun k => (Value.slice (some ⟨g, 0, none⟩) n c).ownBlock = some k) w (wr.setCell ⟨g, k, none⟩ (.int .u8 d))) := by
        refine ⟨_, (h1.stored k (.int .u8 d)).1, fun t ht => ?_, h3.more (Keep.setCell (S := fun k => (Value.slice (some ⟨g, 0, none⟩) n c).ownBlock = some k) wr (p := ⟨g, k, none⟩) rfl _)⟩
        rw [List.getElem?_set]
        split
        · rename_i e
          subst e
          rw [if_pos (List.getElem?_eq_some_iff.1 hy).1]
        · exact h2 t (by omega)
      clear h1 h2 h3 hy HD
      go_wp2_with fail
      go_roundw
      · exact ⟨k + 1, rfl, by omega, N1.out⟩
      · show n - ((k : Int) + 1).toNat < n - (k : Int).toNat
        omega
    · have hkn' : ¬ ((k : Int) < (n : Int)) := by omega
      have N1 : Hid (wr.ownsRow 0 5 1 (.slice a n c) n (List.replicate n (.int .u8 d)) ∧ Keep (fun k => (Value.slice a n c).ownBlock = some k) w wr) := by
        refine ⟨?_, h3⟩
        have e : Y = List.replicate n (.int .u8 d) := by
          apply List.ext_getElem?
          intro t
          rw [List.getElem?_replicate]
          split
          · rename_i ht
            exact h2 t (by omega)
          · rename_i ht
            exact List.getElem?_eq_none (by have := h1.1; omega)
        rw [← e]
        exact h1
      clear h1 h2 h3 HD
      go_wp2_with fail
      go_end0
      exact ⟨rfl, N1.out⟩

end Ow
end Go.Proofs.Yteaokgolnhdloaa
