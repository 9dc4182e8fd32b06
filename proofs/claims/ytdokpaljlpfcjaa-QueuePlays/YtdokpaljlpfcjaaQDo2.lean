/- Chapter 8's laws: the document's queue: appends of rows; Front, Pop. -/
import Derived.Test.YtdokpaljlpfcjaaQDoc
import Derived.Maps.AppendAt
import Derived.Laws.OwnMore
import Derived.Lib.AppendZeros
namespace Go.Proofs.Ytdokpaljlpfcjaa
namespace Qu
open Go.RowKit

/-- things that can be read, wherever they lie -/
def Src (w : World) (src : Value) (m : Nat) (ys : List Value) : Prop :=
  (src = .slice none 0 0 ∧ m = 0 ∧ ys = []) ∨ ∃ g off c, src = .slice (some ⟨g, off, none⟩) m c ∧ ys.length = m * 2 ∧ ∀ j u, ys[j]? = some u → w.cell? ⟨g, off + j, none⟩ = some u
theorem Src.keep {w w' : World} {src : Value} {m : Nat} {ys : List Value} (h : Src w src m ys) {T : Nat → Prop} (k : Keep T w w') (hT : ∀ b, src.ownBlock = some b → ¬ T b) : Src w' src m ys := by
  rcases h with h | ⟨g, off, c, rfl, hl, hc⟩
  · exact .inl h
  · exact .inr ⟨g, off, c, rfl, hl, fun j u hu => k.cell (hc j u hu) (hT g rfl)⟩
theorem Src.row {w : World} {B : Nat} {v : Value} {n : Nat} {xs : List Value} (h : w.ownsRow B 76 2 v n xs) : Src w v n xs := by
  rcases h.2 with ⟨rfl, rfl⟩ | ⟨g, cap, cur, rfl, _⟩
  · exact .inl ⟨rfl, rfl, List.eq_nil_of_length_eq_zero (by have := h.1; omega)⟩
  · refine .inr ⟨g, 0, cap, rfl, h.1, fun j u hu => ?_⟩
    have := h.cells (g := g) rfl j u hu
    rw [Addr.add_mid] at this
    exact this
/-- the end of a row, from the thing i on -/
theorem Src.tail {w : World} {B g cap n : Nat} {r : List (Nat × Int)} (h : w.ownsRow B 76 2 (.slice (some ⟨g, 0, none⟩) n cap) n (itm r)) (hn : n = r.length) (i c : Nat) (hi : i ≤ n) : Src w (.slice (some ⟨g, i * 2, none⟩) (n - i) c) (n - i) (itm (r.drop i)) := by
  refine .inr ⟨g, i * 2, c, rfl, by rw [itm_len, List.length_drop, hn], fun j u hu => ?_⟩
  have e : itm r = itm (r.take i) ++ itm (r.drop i) := by rw [← itm_append, List.take_append_drop]
  have hj : (itm r)[i * 2 + j]? = some u := by
    rw [e, List.getElem?_append_right (by rw [itm_len, List.length_take]; omega), itm_len, List.length_take, show i * 2 + j - min i r.length * 2 = j by omega]
    exact hu
  have := h.cells (g := g) rfl (i * 2 + j) u hj
  rw [Addr.add_mid, Nat.zero_add] at this
  exact this
/-- the beginning of a row -/
theorem Src.head {w : World} {B g cap n : Nat} {r : List (Nat × Int)} (h : w.ownsRow B 76 2 (.slice (some ⟨g, 0, none⟩) n cap) n (itm r)) (hn : n = r.length) (i c : Nat) (hi : i ≤ n) : Src w (.slice (some ⟨g, 0, none⟩) i c) i (itm (r.take i)) := by
  refine .inr ⟨g, 0, c, rfl, by rw [itm_len, List.length_take]; omega, fun j u hu => ?_⟩
  have e : itm r = itm (r.take i) ++ itm (r.drop i) := by rw [← itm_append, List.take_append_drop]
  have hj : (itm r)[j]? = some u := by
    rw [e, List.getElem?_append_left (List.getElem?_eq_some_iff.1 hu).1]
    exact hu
  have := h.cells (g := g) rfl j u hj
  rw [Addr.add_mid] at this
  exact this
/-- things behind a row of the call's own -/
theorem app_run {w : World} {v : Value} {n : Nat} {xs : List Value} (h : w.ownsRow 0 76 2 v n xs) {src : Value} {m : Nat} {ys : List Value} (hs : Src w src m ys) (h1 : ∀ u ∈ ys, u.oneCell' = true) (hn : n + m ≤ 131072) (ty : TypeId) :
    ∃ v' w', (Builtin.append_ #[47, 47] ty #[v, src]).run Try.prog w = .ok v' w' ∧ w'.ownsRow 0 76 2 v' (n + m) (xs ++ ys) ∧ Keep (fun k => v.ownBlock = some k) w w' ∧ (v'.ownBlock = v.ownBlock ∨ v'.ownBlock = some w.heap.size) := by
  obtain ⟨i0, hi, hz0, hz1, hz2⟩ := info_parts info_item
  rcases hs with ⟨rfl, rfl, rfl⟩ | ⟨g, off, c, rfl, hl, hc⟩
  · refine ⟨v, w, run_append_owned_none (P := Try.prog) w 0 47 ty 76 i0 2 Try.underlying47 hi v n xs h, by simpa using h, Keep.refl _ _, .inl rfl⟩
  · obtain ⟨v', w', h2, h3, h4, _, h5⟩ := run_append_own_at (P := Try.prog) w 0 47 ty 76 i0 (.agg #[.int .i64 0, .string ⟨#[]⟩]) 2 24 Try.underlying47 hi hz0 hz1 hz2 rfl (by decide) v n xs h ⟨g, off, none⟩ m c ys hl (fun j u hu => by rw [Addr.add_mid]; exact hc j u hu) h1 (by unfold maxLen; omega) (by omega) (Nat.zero_le _)
    exact ⟨v', w', h2, h3, ⟨h4.os, h4.tape, h4.output, h4.size, fun k hk hn => h4.block k hk fun e => hn e.symm⟩, h5⟩
theorem own_emptyI (w : World) : (w.alloc (.cells #[] 76)).ownsRow 0 76 2 (.slice (some ⟨w.heap.size, 0, none⟩) 0 0) 0 [] :=
  ⟨rfl, .inr ⟨w.heap.size, 0, #[], rfl, Nat.zero_le _, heap_alloc_new w _, Nat.le_refl _, Nat.zero_le _, rfl, rfl⟩⟩
theorem own_emptyAt {w : World} {E : Nat} (h : w.heap[E]? = some (.cells #[] 76 (0, 0))) : w.ownsRow 0 76 2 (.slice (some ⟨E, 0, none⟩) 0 0) 0 [] :=
  ⟨rfl, .inr ⟨E, 0, #[], rfl, Nat.zero_le _, h, Nat.le_refl _, Nat.zero_le _, rfl, rfl⟩⟩
/-- what a front is, as a text -/
def frT (s : St Int) : ByteArray := match s.row with | [] => ⟨#[]⟩ | e :: _ => tx e.2
set_option maxRecDepth 100000 in
theorem refFront_any {S : Nat → Prop} {P : Nat} {s : St Int} (w : World) (h : Dq S w P s) (hlen : s.row.length ≤ 65536) :
    Calls Try.prog 31 #[.pointer (some ⟨P, 0, none⟩)] w fun e w' => e = .returned (.tuple #[.string (frT s), .bool (!s.row.isEmpty)]) ∧ w' = w := by
  obtain ⟨v, h⟩ := h
  have c2 := cell_blk h.blk 2 (v := v) rfl
  cases hr : s.row with
  | nil =>
    have ef : frT s = ⟨#[]⟩ := by simp [frT, hr]
    rw [ef]
    obtain ⟨a, c, hv, _⟩ := ownsRow_sh h.row
    rw [hr] at hv
    subst hv
    simp only [List.length_nil] at c2
    clear h ef
    go_enter Try.func31, Try.ntmps31
    go_wp2
    go_ret2
    exact ⟨rfl, rfl⟩
  | cons e r =>
    have ef : frT s = tx e.2 := by simp [frT, hr]
    rw [ef]
    obtain ⟨g, cap, hv, _, z⟩ := h.at_ (i := 0) (n := e.1) (k := e.2) (by rw [hr]; rfl)
    obtain ⟨m, hm⟩ : ∃ m, s.row.length = m := ⟨_, rfl⟩
    have hm0 : 0 < m := by rw [← hm, hr]; simp
    rw [hm] at hv hlen
    subst hv
    have hmb : ((m : Int) == 0) = false := by simp; omega
    clear h ef hr hm
    generalize tx e.2 = T at *
    go_enter Try.func31, Try.ntmps31
    go_wp2
    go_ret2
    exact ⟨rfl, rfl⟩
end Qu
end Go.Proofs.Ytdokpaljlpfcjaa
