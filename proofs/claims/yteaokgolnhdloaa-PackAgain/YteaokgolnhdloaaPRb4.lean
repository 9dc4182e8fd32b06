/- PackReaderOwns: a reader over new memory; lists of lists of bytes that can be read. -/
import Derived.Test.YteaokgolnhdloaaPRb3
import Derived.Test.YteaokgolnhdloaaPRom
import Derived.Deep.QuietTactic
import Derived.BigQuiet
namespace Go.Proofs.Yteaokgolnhdloaa
namespace Wm
open Go.RowKit Go.Deep

theorem drewN_addB (w : World) (a b : Nat) : (w.drewN a).drewN b = w.drewN (a + b) := by unfold World.drewN; simp only [Nat.add_assoc]
theorem drewN_belowB (w : World) (k : Nat) : Below w.heap.size w (w.drewN k) := ⟨rfl, rfl, rfl, Nat.le_refl _, fun _ _ => rfl⟩
/-- a reader whose bytes are new memory: it stays where only elder blocks are written -/
theorem NewReaderY (a : Option Addr) (n c : Nat) (l : List Nat) (w : World) (h : Rd w a n l) (h0 : a = none → c = 0) :
    Calls Try.prog 9 #[.slice a n c] w fun en w' => ∃ q, en = .returned (.pointer (some ⟨q, 0, none⟩)) ∧ Rr w' q (newR l) ∧ (∀ S w2, Keep S w' w2 → (∀ k, S k → k < w.heap.size) → Rr w2 q (newR l)) ∧ w.heap.size ≤ q ∧ Below w.heap.size w w' := by
  have key : ∀ (W : World) (q : Nat) (a' : Option Addr) (c' : Nat) (s : K.RS), W.heap[q]? = some (.cells #[.slice a' s.data.length c', .int .i64 (s.taken : Nat), .int .i64 (s.fault : Nat)] 95 (0, 0)) → Rd W a' s.data.length s.data → (a' = none → c' = 0) → s.data.length ≤ c' → (∀ b off, a' = some ⟨b, off, none⟩ → b < q) → s.taken ≤ s.data.length → s.data.length ≤ 16777216 → w.heap.size ≤ q → (∀ b off, a' = some ⟨b, off, none⟩ → w.heap.size ≤ b) → Rr W q s ∧ ∀ S w2, Keep S W w2 → (∀ k, S k → k < w.heap.size) → Rr w2 q s := by
    intro W q a' c' s h1 h2 h3 h4 h5 h6 h7 hq hb
    refine ⟨⟨⟨a', c', h1, h2, h3, h4, h5⟩, h6, h7⟩, fun S w2 hk hS => ⟨⟨a', c', hk.blk h1 (fun e => by have := hS _ e; omega), h2.stay hk (fun b off e hs => by have := hS _ hs; have := hb b off e; omega), h3, h4, h5⟩, h6, h7⟩⟩
  have HR := hide h
  have H0 := hide h0
  have hl := h.1
  have hn := h.2.1
  have HL := hide hl
  have HKey := hide key
  clear h h0 hl key
  unfold newR
  by_cases hlt : n ≤ 16777216
  · rw [if_pos (by have := HL.out; omega)]
    go_enter Try.func9, Try.ntmps9
    go_wp2_with fail
    refine (clone_any a n c l _ HR.out H0.out (by omega)).mono ?_
    rintro e w1 ⟨v, rfl, ho, hb⟩
    obtain ⟨a', c', rfl, hr, h0', hc', _⟩ := ownsRow_rd ho HR.out.2.2.1 (by have := HL.out; omega)
    have HR' := hide hr
    have H0' := hide h0'
    have HB := hide hb
    have HC := hide hc'
    have HO := hide ho
    clear ho hr h0' hb hc'
    go_wp2
    go_ret
    obtain ⟨k1, k2⟩ := HKey.out (w1.alloc (.cells #[.slice a' l.length c', .int .i64 0, .int .i64 0] 95)) w1.heap.size a' c' ⟨l, 0, 0⟩ (heap_alloc_new w1 _) (HR'.out.keep ((Below.refl _ _).alloc (Nat.le_refl _) _)) H0'.out HC.out (fun b off e => (HO.out.lt b (by rw [e]; rfl)).2) (Nat.zero_le _) (by have := HL.out; show l.length ≤ _; omega) HB.out.size (fun b off e => (HO.out.lt b (by rw [e]; rfl)).1)
    exact ⟨w1.heap.size, rfl, k1, k2, HB.out.size, HB.out.alloc HB.out.size _⟩
  · rw [if_neg (by have := HL.out; omega)]
    go_enter Try.func9, Try.ntmps9
    go_wp2
    go_ret
    obtain ⟨k1, k2⟩ := HKey.out (w.alloc (.cells #[.slice none 0 0, .int .i64 0, .int .i64 20] 95)) w.heap.size none 0 ⟨[], 0, 20⟩ (heap_alloc_new w _) ⟨rfl, by decide, (fun d hd => by cases hd), .inl rfl⟩ (fun _ => rfl) (Nat.le_refl _) (fun b off e => by cases e) (Nat.zero_le _) (Nat.zero_le _) (Nat.le_refl _) (fun b off e => by cases e)
    exact ⟨w.heap.size, rfl, k1, k2, Nat.le_refl _, (Below.refl _ _).alloc (Nat.le_refl _) _⟩
/-- lists of bytes that can be read -/
def RdL (w : World) (a : Option Addr) (n : Nat) (Ls : List (List Nat)) : Prop :=
  n = Ls.length ∧ n ≤ 140737488351232 ∧ (n = 0 ∨ ∃ b off, a = some ⟨b, off, none⟩ ∧ ∀ i l, Ls[i]? = some l → ∃ a' c', w.cell? ⟨b, off + i, none⟩ = some (.slice a' l.length c') ∧ Rd w a' l.length l)
theorem RdL.drewN {w : World} {a : Option Addr} {n : Nat} {Ls : List (List Nat)} (h : RdL w a n Ls) (k : Nat) : RdL (w.drewN k) a n Ls := h
set_option maxRecDepth 10000 in
theorem blobs_same (a b : Option Addr) (n c d : Nat) (Ls : List (List Nat)) (w : World) (h1 : RdL w a n Ls) (h2 : RdL w b n Ls) :
    Calls Try.prog 15 #[.slice a n c, .slice b n d] w fun en w' => en = .returned (.bool true) ∧ ∃ m, w' = w.drewN m := by
  have HA := hide h1
  have HB := hide h2
  have hn := h1.2.1
  clear h1 h2
  go_enter Try.func15, Try.ntmps15
  go_wp2
  go_loopw [5] (fun i wx => ∃ k m : Nat, k ≤ n ∧ i = .int .i64 (k : Nat) ∧ wx = w.drewN m) (fun i _ => n - (intOf i).toNat)
  case atStart => exact ⟨0, 0, Nat.zero_le _, rfl, rfl⟩
  case round =>
    obtain ⟨k, m, hk, rfl, hwm⟩ := hrel
    by_cases hlt : k < n
    · obtain ⟨x, hx⟩ : ∃ x, Ls[k]? = some x := ⟨_, List.getElem?_eq_getElem (by have h := HA.out.1; omega)⟩
      obtain ⟨b1, o1, a1, c1, rfl, e1, r1⟩ : ∃ b1 o1 a1 c1, a = some ⟨b1, o1, none⟩ ∧ w.cell? ⟨b1, o1 + k, none⟩ = some (.slice a1 x.length c1) ∧ Rd w a1 x.length x := by
        rcases HA.out.2.2 with h0 | ⟨b1, o1, rfl, hr⟩
        · omega
        · obtain ⟨a1, c1, h1, h2⟩ := hr k x hx; exact ⟨b1, o1, a1, c1, rfl, h1, h2⟩
      obtain ⟨b2, o2, a2, c2, rfl, e2, r2⟩ : ∃ b2 o2 a2 c2, b = some ⟨b2, o2, none⟩ ∧ w.cell? ⟨b2, o2 + k, none⟩ = some (.slice a2 x.length c2) ∧ Rd w a2 x.length x := by
        rcases HB.out.2.2 with h0 | ⟨b2, o2, rfl, hr⟩
        · omega
        · obtain ⟨a2, c2, h1, h2⟩ := hr k x hx; exact ⟨b2, o2, a2, c2, rfl, h1, h2⟩
      have k1 : ∀ j, (convert 22 9 (.slice a1 x.length c1)).run Try.prog (wr.drewN j) = .ok (.string (str x)) (wr.drewN j) := fun j => by rw [hwm]; exact conv_rd (r1.keep (by rw [drewN_addB]; exact drewN_belowB _ _)) c1
      have k2 : ∀ j, (convert 22 9 (.slice a2 x.length c2)).run Try.prog (wr.drewN j) = .ok (.string (str x)) (wr.drewN j) := fun j => by rw [hwm]; exact conv_rd (r2.keep (by rw [drewN_addB]; exact drewN_belowB _ _)) c2
      have f1 : wr.cell? ⟨b1, o1 + k, none⟩ = some (.slice a1 x.length c1) := by rw [hwm]; exact e1
      have f2 : wr.cell? ⟨b2, o2 + k, none⟩ = some (.slice a2 x.length c2) := by rw [hwm]; exact e2
      have HWM := hide hwm
      clear hx e1 e2 r1 r2 hwm
      generalize str x = S at *
      generalize x.length = xl at *
      go_upto_region 6 with fail
      go_quiet (fail)
      go_wp2_with fail
      go_roundw
      case rel => exact ⟨k + 1, m + nq, by omega, by go_num, by rw [HWM.out, drewN_addB]⟩
      case measure => simp [intOf]; omega
    · subst hwm
      go_wp2
      go_ret
      exact ⟨rfl, m, rfl⟩
theorem own_rdL {B C : Nat} {w : World} {v : Value} {vs : List Value} {Ls : List (List Nat)} (h : w.ownsRow B 22 1 v Ls.length vs) (hb : Bl C w vs Ls) (hby : ∀ l ∈ Ls, ∀ d ∈ l, d < 256) (hl : ∀ l ∈ Ls, l.length ≤ 16777216) (hn : Ls.length ≤ 16777216) : ∃ a c, v = .slice a Ls.length c ∧ RdL w a Ls.length Ls := by
  rcases h.2 with ⟨rfl, h0⟩ | ⟨g, cap, cur, rfl, e2, e3, e4, e5, e6, e7⟩
  · exact ⟨none, 0, by rw [h0], rfl, by omega, .inl h0⟩
  · refine ⟨_, _, rfl, rfl, by omega, .inr ⟨g, 0, rfl, fun i l hil => ?_⟩⟩
    have hil' : i < Ls.length := (List.getElem?_eq_some_iff.1 hil).1
    obtain ⟨u, hu⟩ : ∃ u, vs[i]? = some u := ⟨_, List.getElem?_eq_getElem (by rw [hb.len]; exact hil')⟩
    have ho := hb.own i u l hu hil
    obtain ⟨a', c', e, hr, _⟩ := ownsRow_rd ho (hby l (List.mem_of_getElem? hil)) (by have := hl l (List.mem_of_getElem? hil); omega)
    subst e
    refine ⟨a', c', ?_, hr⟩
    have : (List.take (Ls.length * 1) cur.toList)[i]? = some (.slice a' l.length c') := by rw [e7]; exact hu
    rw [List.getElem?_take] at this
    split at this
    · rw [Nat.zero_add, cell_of_row _ _ _ _ _ _ e3]; simpa using this
    · cases this
end Wm
end Go.Proofs.Yteaokgolnhdloaa
