/- CrewWorks: what lies in memory: rows of the law's own, and beginnings of them. -/
import Derived.Test.YtchefanneampfaaKOwn
import Derived.Test.YtchefanneampfaaKSuW
namespace Go.Proofs.Ytchefanneampfaa
namespace Ow
open Go.RowKit Cw

structure Cs (B M n q : Nat) (G L : Nat → Nat) (c : Nat → List Nat) (ov : Value) (wr : World) : Prop where
  mine : ∃ xs, wr.ownsRow 0 25 1 (.slice (some ⟨M, 0, none⟩) (n + 4) (n + 4)) (n + 4) xs ∧ (∀ i, i < q → xs[i]? = some (.slice (some ⟨G i, 0, none⟩) (L i) (L i + 9))) ∧ (∀ i, q ≤ i → i < n + 4 → xs[i]? = some (.slice none 0 0))
  owns : wr.ownsRow (M + 1) 25 1 ov q ((List.range q).map fun i => .slice (some ⟨G i, 0, none⟩) (L i + 9) (L i + 9))
  blk : ∀ i, i < q → wr.ownsRow 0 5 1 (.slice (some ⟨G i, 0, none⟩) (L i + 9) (L i + 9)) (L i + 9) (B8 (c i)) ∧ (∀ d ∈ c i, d < 256) ∧ B ≤ G i
  inj : ∀ i j, i < q → j < q → G i = G j → i = j
  m : B ≤ M
section
variable {B M n q : Nat} {G L : Nat → Nat} {c : Nat → List Nat} {ov : Value} {wr w' : World}
theorem Cs.new (h : Cs B M n q G L c ov wr) (k : Keep (fun _ => False) wr w') : Cs B M n q G L c ov w' := by
  obtain ⟨xs, h1, h2, h3⟩ := h.mine
  exact ⟨⟨xs, ownsRow_new h1 k, h2, h3⟩, ownsRow_new h.owns k, fun i hi => ⟨ownsRow_new (h.blk i hi).1 k, (h.blk i hi).2⟩, h.inj, h.m⟩
theorem Cs.below (h : Cs B M n q G L c ov wr) (b : Below wr.heap.size wr w') : Cs B M n q G L c ov w' := h.new (Keep.ofBelow b (Nat.le_refl _))
theorem Cs.mlt (h : Cs B M n q G L c ov wr) : M < wr.heap.size := by
  obtain ⟨xs, h1, _⟩ := h.mine
  exact (h1.lt M rfl).2
theorem Cs.glt (h : Cs B M n q G L c ov wr) {i : Nat} (hi : i < q) : G i < wr.heap.size := ((h.blk i hi).1.lt _ rfl).2
theorem Cs.gm (h : Cs B M n q G L c ov wr) {i : Nat} (hi : i < q) : G i ≠ M := fun e => by
  obtain ⟨xs, h1, _⟩ := h.mine
  exact typ_ne (h.blk i hi).1 h1 (by decide) (g := G i) rfl (by rw [e]; rfl)
theorem Cs.go (h : Cs B M n q G L c ov wr) {i : Nat} (hi : i < q) : ov.ownBlock ≠ some (G i) := typ_ne (h.blk i hi).1 h.owns (by decide) rfl
theorem Cs.om (h : Cs B M n q G L c ov wr) : ov.ownBlock ≠ some M := fun e => by have := (h.owns.lt M e).1; omega
theorem Cs.cm (h : Cs B M n q G L c ov wr) {i : Nat} (hi : i < q) (hq : q ≤ n) : wr.cell? ⟨M, i, none⟩ = some (.slice (some ⟨G i, 0, none⟩) (L i) (L i + 9)) := by
  obtain ⟨xs, h1, h2, _⟩ := h.mine
  rw [h1.cellAt i (by omega), h2 i hi]
theorem Cs.cz (h : Cs B M n q G L c ov wr) {i : Nat} (hi : q ≤ i) (hn : i < n + 4) : wr.cell? ⟨M, i, none⟩ = some (.slice none 0 0) := by
  obtain ⟨xs, h1, _, h2⟩ := h.mine
  rw [h1.cellAt i (by omega), h2 i hi hn]
theorem Cs.fm (h : Cs B M n q G L c ov wr) (i : Nat) : wr.frozen? ⟨M, i, none⟩ = false := by
  obtain ⟨xs, h1, _, h2⟩ := h.mine
  exact h1.frozenAt i
theorem Cs.co (h : Cs B M n q G L c ov wr) {i : Nat} (hi : i < q) : ∃ g cap, ov = .slice (some ⟨g, 0, none⟩) q cap ∧ wr.cell? ⟨g, i, none⟩ = some (.slice (some ⟨G i, 0, none⟩) (L i + 9) (L i + 9)) := by
  obtain ⟨g, cap, e⟩ := own_form h.owns (by omega)
  have h1 := h.owns
  rw [e] at h1
  refine ⟨g, cap, e, ?_⟩
  rw [h1.cellAt i (by omega), List.getElem?_map, List.getElem?_range hi]
  rfl
theorem Cs.len (h : Cs B M n q G L c ov wr) {i : Nat} (hi : i < q) : (c i).length = L i + 9 := by have := (h.blk i hi).1.1; rw [B8_length] at this; omega
theorem Cs.rd (h : Cs B M n q G L c ov wr) {i m : Nat} (hi : i < q) (hL : L i + 9 < 281474976710656) (hm : m ≤ L i + 9) : Rd wr (some ⟨G i, 0, none⟩) m ((c i).take m) := by
  have hl := h.len hi
  refine ⟨by rw [List.length_take]; omega, by omega, fun d hx => (h.blk i hi).2.1 d (List.mem_of_mem_take hx), .inr ⟨G i, 0, rfl, fun j hj => ?_⟩⟩
  have := (h.blk i hi).1.cells (g := G i) rfl j (.int .u8 (((c i).getD j 0 : Nat) : Int)) (B8_at (c i) j (by omega))
  rw [Addr.add_lit] at this
  rw [this]
  congr 3
  rw [List.getD_eq_getElem?_getD, List.getD_eq_getElem?_getD, List.getElem?_take, if_pos hj]
/-- the rows as they are read -/
theorem Cs.ins (h : Cs B M n n G L c ov wr) (ls : List (List Nat)) (hls : ls.length = n) (hn : n < 281474976710656) (hL : ∀ i, i < n → L i + 9 < 281474976710656) (he : ∀ i l, ls[i]? = some l → (c i).take (L i) = l) : Ins wr (some ⟨M, 0, none⟩) n ls := by
  refine ⟨hls.symm, hn, .inr ⟨M, 0, rfl, fun i l hl => ?_⟩⟩
  have hi : i < n := by have := (List.getElem?_eq_some_iff.1 hl).1; omega
  have e := he i l hl
  have e2 : l.length = L i := by rw [← e, List.length_take, h.len hi]; omega
  refine ⟨_, _, by rw [Nat.zero_add, e2]; exact h.cm hi (Nat.le_refl _), ?_, fun e => by cases e⟩
  have := h.rd (m := L i) hi (hL i hi) (by omega)
  rw [e] at this
  rw [e2]
  exact this
theorem Cs.begin (h : B ≤ w'.heap.size) (xs : List Value) (hz : ∀ i, i < n + 4 → xs[i]? = some (.slice none 0 0)) (hr : wr.ownsRow 0 25 1 (.slice (some ⟨w'.heap.size, 0, none⟩) (n + 4) (n + 4)) (n + 4) xs) : Cs B w'.heap.size n 0 G L c (.slice none 0 0) wr :=
  ⟨⟨xs, hr, fun i hi => by omega, fun i _ hi => hz i hi⟩, World.ownsRow_nil _ _ _ _, fun i hi => by omega, fun i _ hi => by omega, h⟩
theorem Cs.later (h : Cs B M n q G L c ov wr) {w3 : World} (k3 : Keep (fun k => wr.heap.size ≤ k) wr w3) : w3.ownsRow (M + 1) 25 1 ov q ((List.range q).map fun i => .slice (some ⟨G i, 0, none⟩) (L i + 9) (L i + 9)) :=
  ownsRow_keep h.owns k3 fun k hk e => by have := (h.owns.lt k e).2; omega
theorem Cs.mine5 (h : Cs B M n q G L c ov wr) {w3 w5 : World} {o1 : Obj} (k3 : Keep (fun k => wr.heap.size ≤ k) wr w3) (k5 : Keep (fun k => ov.ownBlock = some k) (w3.alloc o1) w5) (hq : q < n) : w5.cell? ⟨M, q, none⟩ = some (.slice none 0 0) ∧ w5.frozen? ⟨M, q, none⟩ = false := by
  obtain ⟨xs, m1, m2, m3⟩ := h.mine
  have hml := h.mlt
  have m5 : w5.ownsRow 0 25 1 (.slice (some ⟨M, 0, none⟩) (n + 4) (n + 4)) (n + 4) xs := by
    refine ownsRow_keep (ownsRow_new (ownsRow_keep m1 k3 fun i hi e => ?_) (Keep.alloc _ _ _)) k5 fun i hi e => ?_
    · have : M = i := by simpa [Value.ownBlock] using e
      omega
    · have : M = i := by simpa [Value.ownBlock] using e
      subst this
      exact h.om hi
  exact ⟨by rw [m5.cellAt q (by omega), m3 q (Nat.le_refl _) (by omega)], m5.frozenAt q⟩
theorem Cs.push {w3 w5 : World} {o1 : Obj} {ov' : Value} (h : Cs B M n q G L c ov wr) (hB : B ≤ wr.heap.size) (hq : q < n) (k3 : Keep (fun k => wr.heap.size ≤ k) wr w3) (h3 : w3.ownsRow 0 5 1 (.slice (some ⟨wr.heap.size, 0, none⟩) (L q + 9) (L q + 9)) (L q + 9) (B8 (c q))) (hd : ∀ d ∈ c q, d < 256)
    (k5 : Keep (fun k => ov.ownBlock = some k) (w3.alloc o1) w5) (hr : w5.ownsRow (M + 1) 25 1 ov' (q + 1) (((List.range q).map fun i => Value.slice (some ⟨G i, 0, none⟩) (L i + 9) (L i + 9)) ++ [.slice (some ⟨wr.heap.size, 0, none⟩) (L q + 9) (L q + 9)])) :
    Cs B M n (q + 1) (fun j => if j = q then wr.heap.size else G j) L c ov' (w5.setCell ⟨M, q, none⟩ (.slice (some ⟨wr.heap.size, 0, none⟩) (L q) (L q + 9))) := by
  have k4 : Keep (fun _ => False) w3 (w3.alloc o1) := Keep.alloc _ _ _
  have k6 : Keep (fun k => k = M) w5 (w5.setCell ⟨M, q, none⟩ (.slice (some ⟨wr.heap.size, 0, none⟩) (L q) (L q + 9))) := Keep.setCell (S := fun k => k = M) w5 (p := ⟨M, q, none⟩) rfl _
  have hgl : ∀ i, i < q → G i < wr.heap.size := fun i hi => h.glt hi
  have hml := h.mlt
  have olt : ∀ k, ov.ownBlock = some k → k < wr.heap.size := fun k e => (h.owns.lt k e).2
  obtain ⟨xs, m1, m2, m3⟩ := h.mine
  have m5 : w5.ownsRow 0 25 1 (.slice (some ⟨M, 0, none⟩) (n + 4) (n + 4)) (n + 4) xs := by
    refine ownsRow_keep (ownsRow_new (ownsRow_keep m1 k3 fun i hi e => ?_) k4) k5 fun i hi e => ?_
    · have : M = i := by simpa [Value.ownBlock] using e
      omega
    · have : M = i := by simpa [Value.ownBlock] using e
      subst this
      exact h.om hi
  have b5 : ∀ {v : Value} {m : Nat} {ys : List Value}, w3.ownsRow 0 5 1 v m ys → (∀ k, v.ownBlock = some k → ov.ownBlock ≠ some k ∧ k ≠ M) → (w5.setCell ⟨M, q, none⟩ (.slice (some ⟨wr.heap.size, 0, none⟩) (L q) (L q + 9))).ownsRow 0 5 1 v m ys := fun h1 h2 =>
    ownsRow_keep (ownsRow_keep (ownsRow_new h1 k4) k5 fun i hi e => (h2 i e).1 hi) k6 fun i hi e => (h2 i e).2 hi
  refine ⟨⟨_, (m5.stored q _).1, fun i hi => ?_, fun i hi hn => ?_⟩, ?_, fun i hi => ?_, fun i j hi hj e => ?_, h.m⟩
  · rw [List.getElem?_set]
    split
    · rename_i e
      subst e
      rw [if_pos (by have := m1.1; omega), if_pos rfl]
    · rename_i e
      rw [m2 i (by omega), if_neg (fun e' => e e'.symm)]
  · rw [List.getElem?_set, if_neg (by omega)]
    exact m3 i (by omega) hn
  · have e : (List.range (q + 1)).map (fun i => Value.slice (some ⟨if i = q then wr.heap.size else G i, 0, none⟩) (L i + 9) (L i + 9)) = ((List.range q).map fun i => Value.slice (some ⟨G i, 0, none⟩) (L i + 9) (L i + 9)) ++ [.slice (some ⟨wr.heap.size, 0, none⟩) (L q + 9) (L q + 9)] := by
      rw [List.range_succ, List.map_append]
      congr 1
      · refine List.map_congr_left fun j hj => ?_
        rw [if_neg (by have := List.mem_range.1 hj; omega)]
      · simp
    rw [e]
    refine ownsRow_keep hr k6 fun i hi e => ?_
    have := (hr.lt i e).1
    omega
  · by_cases e : i = q
    · subst e
      simp only [if_true]
      refine ⟨b5 h3 fun k e => ?_, hd, hB⟩
      have e1 : wr.heap.size = k := by simpa [Value.ownBlock] using e
      subst e1
      exact ⟨fun e2 => by have := olt _ e2; omega, by omega⟩
    · simp only [if_neg e]
      have hi' : i < q := by omega
      refine ⟨b5 (ownsRow_keep (h.blk i hi').1 k3 fun k hk e => ?_) fun k e => ?_, (h.blk i hi').2⟩
      · have e1 : G i = k := by simpa [Value.ownBlock] using e
        have := hgl i hi'
        omega
      · have e1 : G i = k := by simpa [Value.ownBlock] using e
        subst e1
        exact ⟨h.go hi', h.gm hi'⟩
  · by_cases e1 : i = q <;> by_cases e2 : j = q
    · omega
    · rw [if_pos e1, if_neg e2] at e
      have := hgl j (by omega)
      omega
    · rw [if_neg e1, if_pos e2] at e
      have := hgl i (by omega)
      omega
    · rw [if_neg e1, if_neg e2] at e
      exact h.inj i j (by omega) (by omega) e
/-- one byte of a row of the law's own is written -/
theorem Cs.put (h : Cs B M n q G L c ov wr) {i k d : Nat} (hi : i < q) (hd : d < 256) : Cs B M n q G L (fun j => if j = i then (c i).set k d else c j) ov (wr.setCell ⟨G i, k, none⟩ (.int .u8 (d : Int))) := by
  have kk : Keep (fun b => b = G i) wr (wr.setCell ⟨G i, k, none⟩ (.int .u8 (d : Int))) := Keep.setCell (S := fun b => b = G i) wr (p := ⟨G i, k, none⟩) rfl _
  obtain ⟨xs, m1, m2, m3⟩ := h.mine
  refine ⟨⟨xs, ownsRow_keep m1 kk fun b hb e => ?_, m2, m3⟩, ownsRow_keep h.owns kk fun b hb e => ?_, fun j hj => ?_, h.inj, h.m⟩
  · have e1 : M = b := by simpa [Value.ownBlock] using e
    exact h.gm hi (by omega)
  · subst hb
    exact h.go hi e
  · by_cases e : j = i
    · subst e
      simp only [if_true]
      refine ⟨?_, fun x hx => ?_, (h.blk j hj).2.2⟩
      · have := ((h.blk j hj).1.stored k (.int .u8 (d : Int))).1
        have e : (B8 (c j)).set k (.int .u8 (d : Int)) = B8 ((c j).set k d) := by simp [B8, List.map_set]
        rw [← e]
        exact this
      · rcases List.mem_or_eq_of_mem_set hx with hx | hx
        · exact (h.blk j hj).2.1 x hx
        · omega
    · simp only [if_neg e]
      refine ⟨ownsRow_keep (h.blk j hj).1 kk fun b hb e2 => ?_, (h.blk j hj).2⟩
      have e1 : G j = b := by simpa [Value.ownBlock] using e2
      exact e (h.inj j i hj hi (by omega))
end
theorem size_u8 : (Try.prog.info? 5).map (·.size) = some 1 := by
  obtain ⟨i0, hi, hz0, hz1, hz2⟩ := info_parts info_u8
  rw [hi, Option.map_some, hz1]
/-- bytes copied over the beginning of a row -/
theorem wp_copyF {w : World} {ops : Array Oper} {rest : List Oper} {o : Oper} {a : Act} {Q : Exit → Act → World → Prop} (hgd : o.guard = none) (d s : Operand)
    (ho : o.op = .call { callee := .builtin .copy, args := #[d, s], argTypes := #[25, 25] })
    (f n m cap : Nat) (l : List Nat) (hn : n ≤ m) (hrow : w.ownsRow 0 5 1 (.slice (some ⟨f, 0, none⟩) m cap) m (B8 l)) (b : Option Addr) (k c : Nat) (lc : List Nat) (hr : Rd w b k lc)
    (hd : a.eval d = .slice (some ⟨f, 0, none⟩) n cap) (hs : a.eval s = .slice b k c)
    (h : ∀ w' x, w'.ownsRow 0 5 1 (.slice (some ⟨f, 0, none⟩) m cap) m (B8 (lc.take n ++ l.drop (min k n))) → Keep (fun i => i = f) w w' → wpList Try.prog ops Q rest (a.put o.dst x) w') : wpList Try.prog ops Q (o :: rest) a w := by
  have hl : l.length = m := by have := hrow.1; rw [B8_length] at this; omega
  have hk : k = lc.length := hr.1
  by_cases h0 : Nat.min k n = 0
  · refine wpList_copy_nothing hgd d s _ _ ho 5 Try.underlying25 size_u8 _ b n cap k c hd hs h0 ?_
    refine h w _ ?_ (Keep.refl _ _)
    have e : lc.take n ++ l.drop (min k n) = l := by
      have h1 : min k n = 0 := h0
      rw [h1, List.drop_zero]
      have : lc.take n = [] := List.eq_nil_of_length_eq_zero (by rw [List.length_take]; omega)
      rw [this]; rfl
    rw [e]
    exact hrow
  · have h1 : 0 < min k n := Nat.pos_of_ne_zero h0
    rcases hrow.2 with ⟨e, _⟩ | ⟨g, cap', cur, e, hbg, hg, hnc, hcm, hcs, htake⟩
    · cases e
    · injection e with e1 e2 e3
      injection e1 with e1
      injection e1 with e1
      subst e1
      subst e3
      rcases hr.2.2.2 with hz | ⟨b', off, rfl, hc⟩
      · omega
      · have hcl : (B8 (lc.take n)).length = Nat.min k n := by rw [B8_length, List.length_take]; show min n lc.length = min k n; omega
        refine wpList_copy_own hgd d s _ _ ho 5 Try.underlying25 size_u8 f 0 n cap ⟨b', off, none⟩ k c hd hs cur 5 hg (B8 (lc.take n)) hcl (fun j v hj => ?_) (by rw [hcl]; show 0 + min k n ≤ cur.size; omega) (B8_one _) ?_
        · have hj2 : j < min k n := by
            have := (List.getElem?_eq_some_iff.1 hj).1
            rw [hcl] at this
            exact this
          have h2 := B8_at (lc.take n) j (by rw [List.length_take]; omega)
          rw [hj] at h2
          rw [h2, Addr.add_lit, hc j (by omega)]
          congr 3
          rw [List.getD_eq_getElem?_getD, List.getD_eq_getElem?_getD, List.getElem?_take, if_pos (by omega)]
        · refine h _ _ ⟨?_, .inr ⟨f, cap, _, rfl, hbg, setRow_heap w f _ _ _ _ hg, hnc, hcm, ?_, ?_⟩⟩ ⟨rfl, rfl, rfl, by simp [World.setRow], fun i _ hi => setRow_other w f i _ hi⟩
          · rw [B8_length, List.length_append, List.length_take, List.length_drop]; omega
          · rw [← hcs]
            simp only [List.size_toArray, List.length_append, List.length_take, List.length_drop, hcl, Array.length_toList]
            show min 0 cur.size + (min k n + (cur.size - (0 + min k n))) = cur.size
            omega
          · have hj : (B8 (lc.take n)).length = min k n := hcl
            simp only [List.take_zero, List.nil_append]
            rw [hj, Nat.zero_add, List.take_append, List.take_of_length_le (by omega), hj, B8_append]
            congr 1
            have h3 : List.drop (min k n) (List.take (m * 1) cur.toList) = List.drop (min k n) (B8 l) := by rw [htake]
            rw [List.drop_take] at h3
            rw [h3]
            simp [B8, List.map_drop]
theorem made_rows (u : World) (n : Nat) (hn : n ≤ 20000) : ∃ w', (Instr.makeSlice 22 (.int .i64 ((n : Int) + 4)) (.int .i64 ((n : Int) + 4))).run Try.prog u = .ok (.slice (some ⟨u.heap.size, 0, none⟩) (n + 4) (n + 4)) w' ∧ w'.ownsRow 0 25 1 (.slice (some ⟨u.heap.size, 0, none⟩) (n + 4) (n + 4)) (n + 4) (List.replicate (n + 4) (.slice none 0 0)) ∧ Below u.heap.size u w' := by
  obtain ⟨i0, hi, hz0, hz1, hz2⟩ := info_parts info_sl8
  obtain ⟨w', h1, h2, h3⟩ := run_make_full (P := Try.prog) u 0 22 25 i0 (.slice none 0 0) 1 Try.underlying22 hi hz0 hz1 .i64 .i64 (n + 4) (by rw [hz2]; omega) (by unfold maxLen; omega) (Nat.zero_le _)
  refine ⟨w', h1, ?_, (Keep.grown (S := fun _ => False) h3 (fun k e => by cases e)).below (Nat.le_refl _) (fun _ f => f.elim)⟩
  have e : (madeCells (Value.slice none 0 0).cells ((n + 4) * 1)).toList = List.replicate (n + 4) (.slice none 0 0) := by rw [Nat.mul_one]; exact toList_madeCells_one _ _
  rw [← e]
  exact h2
theorem made_bytes (u : World) (m : Nat) (hm : m ≤ 1048576) : ∃ w', (Instr.makeSlice 25 (.int .i64 ((m : Int) + 9)) (.int .i64 ((m : Int) + 9))).run Try.prog u = .ok (.slice (some ⟨u.heap.size, 0, none⟩) (m + 9) (m + 9)) w' ∧ w'.ownsRow 0 5 1 (.slice (some ⟨u.heap.size, 0, none⟩) (m + 9) (m + 9)) (m + 9) (B8 (List.replicate (m + 9) 0)) ∧ Below u.heap.size u w' := by
  obtain ⟨i0, hi, hz0, hz1, hz2⟩ := info_parts info_u8
  obtain ⟨w', h1, h2, h3⟩ := run_make_full (P := Try.prog) u 0 25 5 i0 (.int .u8 0) 1 Try.underlying25 hi hz0 hz1 .i64 .i64 (m + 9) (by rw [hz2]; omega) (by unfold maxLen; omega) (Nat.zero_le _)
  refine ⟨w', h1, ?_, (Keep.grown (S := fun _ => False) h3 (fun k e => by cases e)).below (Nat.le_refl _) (fun _ f => f.elim)⟩
  have e : (madeCells (Value.int .u8 0).cells ((m + 9) * 1)).toList = B8 (List.replicate (m + 9) 0) := by
    rw [Nat.mul_one]
    unfold B8
    rw [List.map_replicate]
    exact toList_madeCells_one _ _
  rw [← e]
  exact h2
theorem str_zeros (l : List Nat) : str (l ++ List.replicate 9 0) = str l ++ ⟨#[0, 0, 0, 0, 0, 0, 0, 0, 0]⟩ := by
  have e : (List.replicate 9 0).map (fun (d : Nat) => (d : Int)) = List.replicate 9 0 := by decide
  unfold str strOfNums
  rw [List.map_append, List.map_append, e]
  apply ByteArray.ext
  rw [ByteArray.data_append]
  apply Array.ext'
  rw [Array.toList_append]
  rfl
theorem xor_some (d : Nat) (hd : d < 256) : ∃ d2 : Nat, d2 < 256 ∧ bits .xor .u8 (d : Int) 165 = (d2 : Int) :=
  ⟨d ^^^ 165, Nat.xor_lt_two_pow (n := 8) hd (by decide), u8_xor_nat d 165 hd (by decide)⟩
theorem tot_of {ls ls1 : List (List Nat)} (h : ls1.length = ls.length) (hh : ∀ (y : Nat) l l1, ls[y]? = some l → ls1[y]? = some l1 → l1.length = l.length) : tot ls1 = tot ls := by
  unfold tot
  congr 1
  apply List.ext_getElem (by simp [h])
  intro y h1 h2
  simp only [List.getElem_map]
  exact hh y _ _ (List.getElem?_eq_getElem _) (List.getElem?_eq_getElem _)
def tri {α : Type} (x y z : α) : Nat → α
  | 0 => x
  | 1 => y
  | _ => z
theorem four_own {w : World} {g s : Nat} (h : w.heap[g]? = some (.cells (B8 (four s)).toArray 5 (0, 0))) : w.ownsRow 0 5 1 (.slice (some ⟨g, 0, none⟩) 4 4) 4 (B8 (four s)) :=
  ⟨rfl, .inr ⟨g, 4, _, rfl, Nat.zero_le _, h, Nat.le_refl _, by decide, rfl, rfl⟩⟩
theorem three_o3 {w : World} {ga gb gc s s1 : Nat} (ha : w.heap[ga]? = some (.cells (B8 (four s)).toArray 5 (0, 0))) (hb : w.heap[gb]? = some (.cells (B8 (four s)).toArray 5 (0, 0))) (hc : w.heap[gc]? = some (.cells (B8 (four s1)).toArray 5 (0, 0))) :
    O3 (w.alloc (.cells #[.slice (some ⟨ga, 0, none⟩) 4 4, .slice (some ⟨gb, 0, none⟩) 4 4, .slice (some ⟨gc, 0, none⟩) 4 4] 25)) w.heap.size (fun j => .slice (some ⟨tri ga gb gc j, 0, none⟩) 4 4) (fun _ => 4) (fun j => B8 (four (tri s s s1 j))) := by
  refine ⟨fun j hj => ?_, ⟨rfl, .inr ⟨w.heap.size, 3, _, rfl, Nat.le_refl _, heap_alloc_new w _, Nat.le_refl _, by decide, rfl, rfl⟩⟩⟩
  have k := Keep.alloc (fun _ => False) w (.cells #[.slice (some ⟨ga, 0, none⟩) 4 4, .slice (some ⟨gb, 0, none⟩) 4 4, .slice (some ⟨gc, 0, none⟩) 4 4] 25)
  have e : j = 0 ∨ j = 1 ∨ j = 2 := by omega
  rcases e with rfl | rfl | rfl
  · exact ownsRow_new (four_own ha) k
  · exact ownsRow_new (four_own hb) k
  · exact ownsRow_new (four_own hc) k
theorem three_apart {ga gb gc : Nat} (h1 : ga < gb) (h2 : gb < gc) : Apart (fun j => .slice (some ⟨tri ga gb gc j, 0, none⟩) 4 4) := fun j k g hj hk hne e1 e2 => by
  have f1 : tri ga gb gc j = g := by simpa [Value.ownBlock] using e1
  have f2 : tri ga gb gc k = g := by simpa [Value.ownBlock] using e2
  have e : j = 0 ∨ j = 1 ∨ j = 2 := by omega
  have e' : k = 0 ∨ k = 1 ∨ k = 2 := by omega
  rcases e with rfl | rfl | rfl <;> rcases e' with rfl | rfl | rfl <;> simp only [tri] at f1 f2 <;> omega
end Ow
end Go.Proofs.Ytchefanneampfaa
