/- DiskOwns: copies over the beginning of a row of one's own: bytes, numbers (out of PWoM). -/
import Derived.Test.YtmaeaibphggceaaDOwR
import Derived.Laws.CopyOwn
import Derived.Laws.Tables
import Derived.Lib.SlBytesRow
namespace Go.Proofs.Ytmaeaibphggceaa
open Go.RowKit Go.Lib

theorem Zv_len (l : List Int) : (Zv l).length = l.length := by simp [Zv]
theorem Zv_append (a b : List Int) : Zv (a ++ b) = Zv a ++ Zv b := by simp [Zv]
theorem Zv_at (l : List Int) (i : Nat) (h : i < l.length) : (Zv l)[i]? = some (.int .i64 (l.getD i 0)) := by simp [Zv, h]
theorem Zv_one (l : List Int) : ∀ v ∈ Zv l, v.oneCell' = true := fun v hv => by
  obtain ⟨x, _, rfl⟩ := List.mem_map.1 hv
  rfl
/-- what a row is read as -/
theorem rd_of {w : World} {a : Option Addr} {n c : Nat} {l : List Nat} (h : w.ownsRow 0 5 1 (.slice a n c) l.length (B8 l)) (hd : ∀ d ∈ l, d < 256) (hs : l.length < 281474976710656) : Rd w a n l ∧ (a = none → c = 0) := by
  obtain ⟨a', c', e, h1, h2, _⟩ := ownsRow_rd h hd hs
  injection e with e1 e2 e3
  subst e1 e2 e3
  exact ⟨h1, h2⟩
/-- the beginning of a row, read -/
theorem rd_pre {w : World} {f n m cap : Nat} {l : List Nat} (h : w.ownsRow 0 5 1 (.slice (some ⟨f, 0, none⟩) m cap) m (B8 l)) (hd : ∀ d ∈ l, d < 256) (hs : m < 281474976710656) (hn : n ≤ m) : Rd w (some ⟨f, 0, none⟩) n (l.take n) := by
  have hl : l.length = m := by have := h.1; rw [B8_length] at this; omega
  refine ⟨by rw [List.length_take]; omega, by omega, fun d hx => hd d (List.mem_of_mem_take hx), .inr ⟨f, 0, rfl, fun i hi => ?_⟩⟩
  have := h.cells (g := f) rfl i (.int .u8 ((l.getD i 0 : Nat) : Int)) (B8_at l i (by omega))
  rw [Addr.add_lit] at this
  rw [this]
  congr 3
  rw [List.getD_eq_getElem?_getD, List.getD_eq_getElem?_getD, List.getElem?_take, if_pos hi]
theorem size_i64 : (Try.prog.info? 3).map (·.size) = some 1 := by
  obtain ⟨i0, hi, hz0, hz1, hz2⟩ := info_parts Oi.info_i64N
  rw [hi, Option.map_some, hz1]
/-- the beginning of a row of numbers, read -/
theorem rz_pre {w : World} {f n m cap : Nat} {l : List Int} (h : w.ownsRow 0 3 1 (.slice (some ⟨f, 0, none⟩) m cap) m (Zv l)) (hd : ∀ x ∈ l, -9223372036854775808 ≤ x ∧ x ≤ 9223372036854775807) (hs : n ≤ 17592186044416) (hn : n ≤ m) : Rz w (some ⟨f, 0, none⟩) n (l.take n) := by
  have hl : l.length = m := by have := h.1; rw [Zv_len] at this; omega
  refine ⟨by rw [List.length_take]; omega, hs, fun d hx => hd d (List.mem_of_mem_take hx), .inr ⟨f, 0, rfl, fun i hi => ?_⟩⟩
  have := h.cells (g := f) rfl i (.int .i64 (l.getD i 0)) (Zv_at l i (by omega))
  rw [Addr.add_lit] at this
  rw [this]
  congr 2
  rw [List.getD_eq_getElem?_getD, List.getD_eq_getElem?_getD, List.getElem?_take, if_pos hi]
/-- bytes copied over the beginning of a row -/
theorem wp_copyF {w : World} {ops : Array Oper} {rest : List Oper} {o : Oper} {a : Act} {Q : Exit → Act → World → Prop} (hgd : o.guard = none) (d s : Operand)
    (ho : o.op = .call { callee := .builtin .copy, args := #[d, s], argTypes := #[26, 26] })
    (f n m cap : Nat) (l : List Nat) (hn : n ≤ m) (hrow : w.ownsRow 0 5 1 (.slice (some ⟨f, 0, none⟩) m cap) m (B8 l)) (b : Option Addr) (k c : Nat) (lc : List Nat) (hr : Rd w b k lc)
    (hd : a.eval d = .slice (some ⟨f, 0, none⟩) n cap) (hs : a.eval s = .slice b k c)
    (h : ∀ w' x, w'.ownsRow 0 5 1 (.slice (some ⟨f, 0, none⟩) m cap) m (B8 (lc.take n ++ l.drop (min k n))) → Keep (fun i => i = f) w w' → wpList Try.prog ops Q rest (a.put o.dst x) w') : wpList Try.prog ops Q (o :: rest) a w := by
  have hl : l.length = m := by have := hrow.1; rw [B8_length] at this; omega
  have hk : k = lc.length := hr.1
  by_cases h0 : Nat.min k n = 0
  · refine wpList_copy_nothing hgd d s _ _ ho 5 Try.underlying26 size_u8 _ b n cap k c hd hs h0 ?_
    refine h w _ ?_ (Keep.refl _ _)
    have e : lc.take n ++ l.drop (min k n) = l := by
      have h1 : min k n = 0 := h0
      rw [h1, List.drop_zero]
      have : lc.take n = [] := List.eq_nil_of_length_eq_zero (by rw [List.length_take]; omega)
      rw [this]; rfl
    rw [e]
    exact hrow
  · have h1 : 0 < min k n := Nat.pos_of_ne_zero h0
    rcases hrow.2 with ⟨e, _⟩ | ⟨g, cap', cur, e, hbg, hg, hnc, hcm, hcs, htake⟩
    · cases e
    · injection e with e1 e2 e3
      injection e1 with e1
      injection e1 with e1
      subst e1
      subst e3
      rcases hr.2.2.2 with hz | ⟨b', off, rfl, hc⟩
      · omega
      · have hcl : (B8 (lc.take n)).length = Nat.min k n := by rw [B8_length, List.length_take]; show min n lc.length = min k n; omega
        refine wpList_copy_own hgd d s _ _ ho 5 Try.underlying26 size_u8 f 0 n cap ⟨b', off, none⟩ k c hd hs cur 5 hg (B8 (lc.take n)) hcl (fun j v hj => ?_) (by rw [hcl]; show 0 + min k n ≤ cur.size; omega) (B8_one _) ?_
        · have hj2 : j < min k n := by
            have := (List.getElem?_eq_some_iff.1 hj).1
            rw [hcl] at this
            exact this
          have h2 := B8_at (lc.take n) j (by rw [List.length_take]; omega)
          rw [hj] at h2
          rw [h2, Addr.add_lit, hc j (by omega)]
          congr 3
          rw [List.getD_eq_getElem?_getD, List.getD_eq_getElem?_getD, List.getElem?_take, if_pos (by omega)]
        · refine h _ _ ⟨?_, .inr ⟨f, cap, _, rfl, hbg, setRow_heap w f _ _ _ _ hg, hnc, hcm, ?_, ?_⟩⟩ ⟨rfl, rfl, rfl, by simp [World.setRow], fun i _ hi => setRow_other w f i _ hi⟩
          · rw [B8_length, List.length_append, List.length_take, List.length_drop]; omega
          · rw [← hcs]
            simp only [List.size_toArray, List.length_append, List.length_take, List.length_drop, hcl, Array.length_toList]
            show min 0 cur.size + (min k n + (cur.size - (0 + min k n))) = cur.size
            omega
          · have hj : (B8 (lc.take n)).length = min k n := hcl
            simp only [List.take_zero, List.nil_append]
            rw [hj, Nat.zero_add, List.take_append, List.take_of_length_le (by omega), hj, B8_append]
            congr 1
            have h3 : List.drop (min k n) (List.take (m * 1) cur.toList) = List.drop (min k n) (B8 l) := by rw [htake]
            rw [List.drop_take] at h3
            rw [h3]
            simp [B8, List.map_drop]
/-- numbers copied over the beginning of a row -/
theorem wp_copyI {w : World} {ops : Array Oper} {rest : List Oper} {o : Oper} {a : Act} {Q : Exit → Act → World → Prop} (hgd : o.guard = none) (d s : Operand)
    (ho : o.op = .call { callee := .builtin .copy, args := #[d, s], argTypes := #[27, 27] })
    (f n m cap : Nat) (l : List Int) (hn : n ≤ m) (hrow : w.ownsRow 0 3 1 (.slice (some ⟨f, 0, none⟩) m cap) m (Zv l)) (b : Option Addr) (k c : Nat) (lc : List Int) (hr : Rz w b k lc)
    (hd : a.eval d = .slice (some ⟨f, 0, none⟩) n cap) (hs : a.eval s = .slice b k c)
    (h : ∀ w' x, w'.ownsRow 0 3 1 (.slice (some ⟨f, 0, none⟩) m cap) m (Zv (lc.take n ++ l.drop (min k n))) → Keep (fun i => i = f) w w' → wpList Try.prog ops Q rest (a.put o.dst x) w') : wpList Try.prog ops Q (o :: rest) a w := by
  have hl : l.length = m := by have := hrow.1; rw [Zv_len] at this; omega
  have hk : k = lc.length := hr.1
  by_cases h0 : Nat.min k n = 0
  · refine wpList_copy_nothing hgd d s _ _ ho 3 Try.underlying27 size_i64 _ b n cap k c hd hs h0 ?_
    refine h w _ ?_ (Keep.refl _ _)
    have e : lc.take n ++ l.drop (min k n) = l := by
      have h1 : min k n = 0 := h0
      rw [h1, List.drop_zero]
      have : lc.take n = [] := List.eq_nil_of_length_eq_zero (by rw [List.length_take]; omega)
      rw [this]; rfl
    rw [e]
    exact hrow
  · have h1 : 0 < min k n := Nat.pos_of_ne_zero h0
    rcases hrow.2 with ⟨e, _⟩ | ⟨g, cap', cur, e, hbg, hg, hnc, hcm, hcs, htake⟩
    · cases e
    · injection e with e1 e2 e3
      injection e1 with e1
      injection e1 with e1
      subst e1
      subst e3
      rcases hr.2.2.2 with hz | ⟨b', off, rfl, hc⟩
      · omega
      · have hcl : (Zv (lc.take n)).length = Nat.min k n := by rw [Zv_len, List.length_take]; show min n lc.length = min k n; omega
        refine wpList_copy_own hgd d s _ _ ho 3 Try.underlying27 size_i64 f 0 n cap ⟨b', off, none⟩ k c hd hs cur 3 hg (Zv (lc.take n)) hcl (fun j v hj => ?_) (by rw [hcl]; show 0 + min k n ≤ cur.size; omega) (Zv_one _) ?_
        · have hj2 : j < min k n := by
            have := (List.getElem?_eq_some_iff.1 hj).1
            rw [hcl] at this
            exact this
          have h2 := Zv_at (lc.take n) j (by rw [List.length_take]; omega)
          rw [hj] at h2
          rw [h2, Addr.add_lit, hc j (by omega)]
          congr 2
          rw [List.getD_eq_getElem?_getD, List.getD_eq_getElem?_getD, List.getElem?_take, if_pos (by omega)]
        · refine h _ _ ⟨?_, .inr ⟨f, cap, _, rfl, hbg, setRow_heap w f _ _ _ _ hg, hnc, hcm, ?_, ?_⟩⟩ ⟨rfl, rfl, rfl, by simp [World.setRow], fun i _ hi => setRow_other w f i _ hi⟩
          · rw [Zv_len, List.length_append, List.length_take, List.length_drop]; omega
          · rw [← hcs]
            simp only [List.size_toArray, List.length_append, List.length_take, List.length_drop, hcl, Array.length_toList]
            show min 0 cur.size + (min k n + (cur.size - (0 + min k n))) = cur.size
            omega
          · have hj : (Zv (lc.take n)).length = min k n := hcl
            simp only [List.take_zero, List.nil_append]
            rw [hj, Nat.zero_add, List.take_append, List.take_of_length_le (by omega), hj, Zv_append]
            congr 1
            have h3 : List.drop (min k n) (List.take (m * 1) cur.toList) = List.drop (min k n) (Zv l) := by rw [htake]
            rw [List.drop_take] at h3
            rw [h3]
            simp [Zv, List.map_drop]
end Go.Proofs.Ytmaeaibphggceaa
