/- Package run: a run in memory; its small functions. -/
import Derived.Test.YtiackejbpcjmeaaRByt
import Derived.Test.YtiackejbpcjmeaaRMay
import Derived.Deep.CutRange
namespace Go.Proofs.Ytiackejbpcjmeaa
namespace Rn
open Go.RowKit Gr

/-- a node of a plan, as a run sees it -/
def nx (x : No) : Nx := ⟨x.q.bu, x.nl, x.al⟩
/-- the cells of a node of a run; m: where its result lies -/
def ptRow (p : Pt) (m : Option Addr × Nat × Nat) : List Value := [.int .i64 p.st, .int .i64 p.tr, .int .i64 0, .int .i64 0, .slice m.1 m.2.1 m.2.2]
/-- a place outside of T -/
def Off (T : Nat → Prop) (s : Option Addr × Nat × Nat) : Prop := s.2.1 = 0 ∨ ∀ g off, s.1 = some ⟨g, off, none⟩ → ¬ T g
structure PtAt (T : Nat → Prop) (w : World) (G i : Nat) (p : Pt) (m : Option Addr × Nat × Nat) : Prop where
  cells : ∀ j v, (ptRow p m)[j]? = some v → w.cell? ⟨G, i * 5 + j, none⟩ = some v
  rd : Rd w m.1 m.2.1 p.rs
  off : Off T m
  cap : m.1 = none → m.2.2 = 0
/-- a run in memory: at P, its nodes at G; T: the blocks that runs may write -/
structure RunAt (T : Nat → Prop) (w : World) (P G : Nat) (nm : ByteArray) (dl : Int) (s : Option Addr × Nat × Nat) (xs : List No) (R : Rs) : Prop where
  blk : ∃ c, w.heap[P]? = some (.cells #[.string nm, .int .i64 dl, .slice s.1 s.2.1 s.2.2, .int .i64 R.stt, .slice (some ⟨G, 0, none⟩) xs.length c] 74 (0, 0))
  prt : ∃ cs, w.heap[G]? = some (.cells cs 76 (0, 0))
  pts : ∀ i p, R.ps[i]? = some p → ∃ m, PtAt T w G i p m
  pln : RdP w.heap.size w s xs
  offp : Off T s ∧ ∀ x ∈ xs, Off T x.q.ne ∧ Off T x.q.af
  len : R.ps.length = xs.length
  ne : P ≠ G
  tp : T P
  tg : T G
  val : Val xs
  n1 : 1 ≤ xs.length
/-- a set of blocks that a run does not mind -/
def Free (T : Nat → Prop) (w : World) (P G : Nat) (S : Nat → Prop) : Prop := ∀ i, S i → w.heap.size ≤ i ∨ (T i ∧ i ≠ P ∧ i ≠ G)
theorem free_none (T : Nat → Prop) (w : World) (P G : Nat) : Free T w P G (fun _ => False) := fun _ h => h.elim
theorem cell_keep {T : Nat → Prop} {S : Nat → Prop} {w w' : World} {P G : Nat} (k : Keep S w w') (hS : Free T w P G S) {g o : Nat} {v : Value} (hg : ¬ T g ∨ g = P ∨ g = G) (hc : w.cell? ⟨g, o, none⟩ = some v) : w'.cell? ⟨g, o, none⟩ = some v := by
  refine k.cell hc fun hs => ?_
  have hl := block_lt_of_cell hc
  rcases hS _ hs with h | ⟨h1, h2, h3⟩
  · simp only at hl h; omega
  · rcases hg with h | h | h
    · exact h h1
    · exact h2 h
    · exact h3 h
theorem rdz_keep {T : Nat → Prop} {S : Nat → Prop} {w w' : World} {P G : Nat} (k : Keep S w w') (hS : Free T w P G S) {s : Option Addr × Nat × Nat} {z : List Int} (ho : Off T s) (h : RdZ w.heap.size w s z) : RdZ w'.heap.size w' s z := by
  obtain ⟨h1, h2, h3⟩ := h
  refine ⟨h1, h2, ?_⟩
  rcases ho with ho | ho
  · exact .inl ho
  rcases h3 with h3 | ⟨g, off, e, hg, h3⟩
  · exact .inl h3
  · exact .inr ⟨g, off, e, Nat.lt_of_lt_of_le hg k.size, fun j x hj => cell_keep k hS (.inl (ho g off e)) (h3 j x hj)⟩
theorem rd_keep {T : Nat → Prop} {S : Nat → Prop} {w w' : World} {P G : Nat} (k : Keep S w w') (hS : Free T w P G S) {m : Option Addr × Nat × Nat} {l : List Nat} (ho : Off T m) (h : Rd w m.1 m.2.1 l) : Rd w' m.1 m.2.1 l := by
  obtain ⟨h1, h2, h3, h4⟩ := h
  refine ⟨h1, h2, h3, ?_⟩
  rcases ho with ho | ho
  · exact .inl ho
  rcases h4 with h4 | ⟨b, off, e, h4⟩
  · exact .inl h4
  · exact .inr ⟨b, off, e, fun i hi => cell_keep k hS (.inl (ho b off e)) (h4 i hi)⟩
theorem PtAt.keep {T : Nat → Prop} {S : Nat → Prop} {w w' : World} {P G i : Nat} {p : Pt} {m : Option Addr × Nat × Nat} (h : PtAt T w G i p m) (k : Keep S w w') (hS : Free T w P G S) : PtAt T w' G i p m :=
  ⟨fun j v hv => cell_keep k hS (.inr (.inr rfl)) (h.cells j v hv), rd_keep k hS h.off h.rd, h.off, h.cap⟩
theorem blk_keep {T : Nat → Prop} {S : Nat → Prop} {w w' : World} {P G : Nat} (k : Keep S w w') (hS : Free T w P G S) {g : Nat} {o : Obj} (hg : g = P ∨ g = G) (hc : w.heap[g]? = some o) : w'.heap[g]? = some o := by
  refine k.blk hc fun hs => ?_
  have hl := (Array.getElem?_eq_some_iff.1 hc).1
  rcases hS _ hs with h | ⟨h1, h2, h3⟩
  · omega
  · rcases hg with h | h
    · exact h2 h
    · exact h3 h
theorem rdp_keep {T : Nat → Prop} {S : Nat → Prop} {w w' : World} {P G : Nat} (k : Keep S w w') (hS : Free T w P G S) {s : Option Addr × Nat × Nat} {xs : List No} (ho : Off T s ∧ ∀ x ∈ xs, Off T x.q.ne ∧ Off T x.q.af) (h : RdP w.heap.size w s xs) : RdP w'.heap.size w' s xs := by
  obtain ⟨h1, h2, h3, h4⟩ := h
  refine ⟨h1, h2, ?_, fun x hx => ⟨rdz_keep k hS (ho.2 x hx).1 (h4 x hx).1, rdz_keep k hS (ho.2 x hx).2 (h4 x hx).2⟩⟩
  rcases ho.1 with ho | ho
  · exact .inl ho
  rcases h3 with h3 | ⟨g, off, e, hg, h3⟩
  · exact .inl h3
  · exact .inr ⟨g, off, e, Nat.lt_of_lt_of_le hg k.size, fun i x hx j v hv => cell_keep k hS (.inl (ho g off e)) (h3 i x hx j v hv)⟩
theorem RunAt.keep {T : Nat → Prop} {S : Nat → Prop} {w w' : World} {P G : Nat} {nm : ByteArray} {dl : Int} {s : Option Addr × Nat × Nat} {xs : List No} {R : Rs} (h : RunAt T w P G nm dl s xs R) (k : Keep S w w') (hS : Free T w P G S) : RunAt T w' P G nm dl s xs R := by
  obtain ⟨⟨c, hb⟩, ⟨cs, hp⟩, h3, h4, h5, h6, h7, h8, h9, h10, h11⟩ := h
  exact ⟨⟨c, blk_keep k hS (.inl rfl) hb⟩, ⟨cs, blk_keep k hS (.inr rfl) hp⟩, fun i p hi => by obtain ⟨m, hm⟩ := h3 i p hi; exact ⟨m, hm.keep k hS⟩, rdp_keep k hS h5 h4, h5, h6, h7, h8, h9, h10, h11⟩
theorem RunAt.new {T : Nat → Prop} {w w' : World} {P G : Nat} {nm : ByteArray} {dl : Int} {s : Option Addr × Nat × Nat} {xs : List No} {R : Rs} (h : RunAt T w P G nm dl s xs R) (k : Keep (fun _ => False) w w') : RunAt T w' P G nm dl s xs R := h.keep k (free_none _ _ _ _)
theorem Off.mono {T U : Nat → Prop} {s : Option Addr × Nat × Nat} (h : Off U s) (hT : ∀ k, T k → U k) : Off T s := h.imp id fun h g off e ht => h g off e (hT g ht)
/-- blocks more that runs may write, all new -/
theorem Off.wideZ {T U : Nat → Prop} {w : World} {s : Option Addr × Nat × Nat} {z : List Int} (h : Off T s) (hz : RdZ w.heap.size w s z) (hU : ∀ k, U k → T k ∨ w.heap.size ≤ k) : Off U s := by
  rcases h with h | h
  · exact .inl h
  rcases hz.2.2 with h0 | ⟨g, off, e, hg, _⟩
  · exact .inl h0
  · refine .inr fun g' off' e' hu => ?_
    rw [e] at e'
    injection e' with e'
    injection e' with e1 e2
    subst e1
    rcases hU _ hu with h1 | h1
    · exact h g off e h1
    · omega
theorem Off.wideB {T U : Nat → Prop} {w : World} {m : Option Addr × Nat × Nat} {l : List Nat} (h : Off T m) (hz : Rd w m.1 m.2.1 l) (hU : ∀ k, U k → T k ∨ w.heap.size ≤ k) : Off U m := by
  rcases h with h | h
  · exact .inl h
  rcases hz.2.2.2 with h0 | ⟨g, off, e, hc⟩
  · exact .inl h0
  · by_cases h0 : m.2.1 = 0
    · exact .inl h0
    · refine .inr fun g' off' e' hu => ?_
      rw [e] at e'
      injection e' with e'
      injection e' with e1 e2
      subst e1
      have hl := block_lt_of_cell (hc 0 (by omega))
      simp only at hl
      rcases hU _ hu with h1 | h1
      · exact h g off e h1
      · omega
theorem Off.wideP {T U : Nat → Prop} {w : World} {s : Option Addr × Nat × Nat} {xs : List No} (h : Off T s ∧ ∀ x ∈ xs, Off T x.q.ne ∧ Off T x.q.af) (hp : RdP w.heap.size w s xs) (hU : ∀ k, U k → T k ∨ w.heap.size ≤ k) : Off U s ∧ ∀ x ∈ xs, Off U x.q.ne ∧ Off U x.q.af := by
  refine ⟨?_, fun x hx => ⟨(h.2 x hx).1.wideZ (hp.2.2.2 x hx).1 hU, (h.2 x hx).2.wideZ (hp.2.2.2 x hx).2 hU⟩⟩
  rcases h.1 with h | h
  · exact .inl h
  rcases hp.2.2.1 with h0 | ⟨g, off, e, hg, _⟩
  · exact .inl h0
  · refine .inr fun g' off' e' hu => ?_
    rw [e] at e'
    injection e' with e'
    injection e' with e1 e2
    subst e1
    rcases hU _ hu with h1 | h1
    · exact h g off e h1
    · omega
theorem RunAt.wide {T U : Nat → Prop} {w : World} {P G : Nat} {nm : ByteArray} {dl : Int} {s : Option Addr × Nat × Nat} {xs : List No} {R : Rs} (h : RunAt T w P G nm dl s xs R) (hU : ∀ k, U k → T k ∨ w.heap.size ≤ k) (hP : U P) (hG : U G) : RunAt U w P G nm dl s xs R :=
  ⟨h.blk, h.prt, fun i p hi => by obtain ⟨m, hm⟩ := h.pts i p hi; exact ⟨m, hm.cells, hm.rd, hm.off.wideB hm.rd hU, hm.cap⟩, h.pln, Off.wideP h.offp h.pln hU, h.len, h.ne, hP, hG, h.val, h.n1⟩
/-- the cells of the run itself -/
theorem RunAt.cells {T : Nat → Prop} {w : World} {P G : Nat} {nm : ByteArray} {dl : Int} {s : Option Addr × Nat × Nat} {xs : List No} {R : Rs} (h : RunAt T w P G nm dl s xs R) :
    ∃ c, w.cell? ⟨P, 0, none⟩ = some (.string nm) ∧ w.cell? ⟨P, 1, none⟩ = some (.int .i64 dl) ∧ w.cell? ⟨P, 2, none⟩ = some (.slice s.1 s.2.1 s.2.2) ∧ w.cell? ⟨P, 3, none⟩ = some (.int .i64 R.stt) ∧ w.cell? ⟨P, 4, none⟩ = some (.slice (some ⟨G, 0, none⟩) xs.length c) := by
  obtain ⟨c, hb⟩ := h.blk
  exact ⟨c, cell_blk hb 0 rfl, cell_blk hb 1 rfl, cell_blk hb 2 rfl, cell_blk hb 3 rfl, cell_blk hb 4 rfl⟩
/-- the cells of one of its nodes -/
theorem PtAt.all {T : Nat → Prop} {w : World} {G i : Nat} {p : Pt} {m : Option Addr × Nat × Nat} (h : PtAt T w G i p m) : w.cell? ⟨G, i * 5, none⟩ = some (.int .i64 p.st) ∧ w.cell? ⟨G, i * 5 + 1, none⟩ = some (.int .i64 p.tr) ∧ w.cell? ⟨G, i * 5 + 2, none⟩ = some (.int .i64 0) ∧ w.cell? ⟨G, i * 5 + 3, none⟩ = some (.int .i64 0) ∧ w.cell? ⟨G, i * 5 + 4, none⟩ = some (.slice m.1 m.2.1 m.2.2) :=
  ⟨h.cells 0 _ rfl, h.cells 1 _ rfl, h.cells 2 _ rfl, h.cells 3 _ rfl, h.cells 4 _ rfl⟩

theorem info_part : (Try.prog.info? 76).map (·.size) = some 5 := by kernel_rfl

theorem done_any (st tr : Int) (m : Option Addr × Nat × Nat) (w : World) :
    Calls Try.prog 50 #[.agg #[.int .i64 st, .int .i64 tr, .int .i64 0, .int .i64 0, .slice m.1 m.2.1 m.2.2]] w fun e w' => e = .returned (.bool (doneS st)) ∧ Keep (fun _ => False) w w' := by
  have K := hide (Keep.alloc (fun _ => False) w (.cells #[.int .i64 st, .int .i64 tr, .int .i64 0, .int .i64 0, .slice m.1 m.2.1 m.2.2] 76))
  have HR : Hid ((st == 5) = doneS st) := by show _ = _; unfold doneS; rw [Bool.eq_iff_iff]; simp
  go_enter Try.func50, Try.ntmps50
  go_wp2_with fail
  go_ret
  exact ⟨by rw [← HR.out]; rfl, K.out⟩
theorem lost_any (st tr : Int) (m : Option Addr × Nat × Nat) (w : World) :
    Calls Try.prog 71 #[.agg #[.int .i64 st, .int .i64 tr, .int .i64 0, .int .i64 0, .slice m.1 m.2.1 m.2.2]] w fun e w' => e = .returned (.bool (lostS st)) ∧ Keep (fun _ => False) w w' := by
  have K := hide (Keep.alloc (fun _ => False) w (.cells #[.int .i64 st, .int .i64 tr, .int .i64 0, .int .i64 0, .slice m.1 m.2.1 m.2.2] 76))
  by_cases h6 : st = 6
  · subst h6
    go_enter Try.func71, Try.ntmps71
    go_wp2_with fail
    go_ret
    exact ⟨rfl, K.out⟩
  · have h6' : (st == 6) = false := by simpa using h6
    have HR : Hid ((st == 7) = lostS st) := by show _ = _; unfold lostS; rw [decide_eq_false h6, Bool.false_or, Bool.eq_iff_iff]; simp
    go_enter Try.func71, Try.ntmps71
    go_wp2_with fail
    go_ret
    exact ⟨by rw [← HR.out]; rfl, K.out⟩
theorem settled_any (st tr : Int) (m : Option Addr × Nat × Nat) (w : World) :
    Calls Try.prog 49 #[.agg #[.int .i64 st, .int .i64 tr, .int .i64 0, .int .i64 0, .slice m.1 m.2.1 m.2.2]] w fun e w' => e = .returned (.bool (setS st)) ∧ Keep (fun _ => False) w w' := by
  have D := hide (fun W => done_any st tr m W)
  have L := hide (fun W => lost_any st tr m W)
  have K := hide (Keep.alloc (fun _ => False) w (.cells #[.int .i64 st, .int .i64 tr, .int .i64 0, .int .i64 0, .slice m.1 m.2.1 m.2.2] 76))
  have hb := heap_alloc_new w (.cells #[.int .i64 st, .int .i64 tr, .int .i64 0, .int .i64 0, .slice m.1 m.2.1 m.2.2] 76)
  have HB := hide hb
  have HR : Hid (setS st = (doneS st || lostS st)) := rfl
  generalize setS st = r at *
  generalize doneS st = q1 at *
  generalize lostS st = q2 at *
  clear hb
  go_enter Try.func49, Try.ntmps49
  go_wp2_with fail
  go_at_call 50
  refine (D.out _).mono ?_
  rintro e w1 ⟨rfl, k1⟩
  have K1 := hide (K.out.more k1)
  have hb1 := k1.blk HB.out (fun f => f)
  have c0 := cell_blk hb1 0 (v := .int .i64 st) rfl
  have c1 := cell_blk hb1 1 (v := .int .i64 tr) rfl
  have c2 := cell_blk hb1 2 (v := .int .i64 0) rfl
  have c3 := cell_blk hb1 3 (v := .int .i64 0) rfl
  have c4 := cell_blk hb1 4 (v := .slice m.1 m.2.1 m.2.2) rfl
  clear hb1 HB K k1 D
  cases q1
  · go_wp2_with fail
    go_at_call 71
    refine (L.out _).mono ?_
    rintro e w2 ⟨rfl, k2⟩
    have K2 := hide (K1.out.more k2)
    clear k2 L
    go_wp2_with fail
    go_ret
    exact ⟨by rw [HR.out]; rfl, K2.out⟩
  · go_wp2_with fail
    go_ret
    exact ⟨by rw [HR.out]; rfl, K1.out⟩
theorem has_any {T : Nat → Prop} {w : World} {P G : Nat} {nm : ByteArray} {dl : Int} {s : Option Addr × Nat × Nat} {xs : List No} {R : Rs} (h : RunAt T w P G nm dl s xs R) (i : Int) :
    Calls Try.prog 37 #[.pointer (some ⟨P, 0, none⟩), .int .i64 i] w fun e w' => e = .returned (.bool (hasI R.ps.length i)) ∧ w' = w := by
  obtain ⟨c, _, _, _, _, c4⟩ := h.cells
  rw [h.len]
  clear h
  unfold hasI
  by_cases h0 : 0 ≤ i
  · go_enter Try.func37, Try.ntmps37
    go_wp2_with fail
    go_ret
    simp [h0]
  · go_enter Try.func37, Try.ntmps37
    go_wp2_with fail
    go_ret
    simp
    omega
theorem refuses_any {T : Nat → Prop} {w : World} {P G : Nat} {nm : ByteArray} {dl : Int} {s : Option Addr × Nat × Nat} {xs : List No} {R : Rs} (h : RunAt T w P G nm dl s xs R) (i : Int) (t : Option Addr × Nat × Nat) (z : List Int) (hz : RdZ w.heap.size w t z) :
    Calls Try.prog 36 #[.pointer (some ⟨P, 0, none⟩), .int .i64 i, .slice t.1 t.2.1 t.2.2] w fun e w' => e = .returned (.int .i64 (refI R i z)) ∧ w' = w := by
  have HA := hide (has_any h i)
  have CO := hide (fun v => contains_any t z v _ w hz)
  have HR : Hid (refI R i z = if hasI R.ps.length i then (if z.contains (sAt (sts R.ps) i) then 0 else 131) else 130) := rfl
  generalize refI R i z = r at *
  cases hh : hasI R.ps.length i with
  | false =>
    rw [hh] at HA
    obtain rfl : r = 130 := by rw [HR.out, hh]; rfl
    clear HR hh h hz CO
    go_enter Try.func36, Try.ntmps36
    go_wp2_with fail
    go_at_call 37
    refine HA.out.mono ?_
    rintro e w1 ⟨rfl, rfl⟩
    go_wp2_with fail
    go_ret
    exact ⟨rfl, rfl⟩
  | true =>
    rw [hh] at HA
    obtain ⟨p, hp, h1, _, hi⟩ := at_of hh
    obtain ⟨m, hm⟩ := h.pts _ _ hp
    obtain ⟨c0, _⟩ := hm.all
    obtain ⟨c, _, _, _, _, c4⟩ := h.cells
    have HR2 : Hid (r = if z.contains p.st then 0 else 131) := by show _ = _; rw [HR.out, hh, h1]; rfl
    have hlt : i.toNat < xs.length := by rw [← h.len]; exact (List.getElem?_eq_some_iff.1 hp).1
    have CO1 := hide (CO.out p.st)
    clear HR hh h1 hp hm h CO hz
    obtain ⟨k, rfl⟩ : ∃ k : Nat, i = (k : Int) := ⟨i.toNat, hi.symm⟩
    simp only [Int.toNat_natCast] at hlt c0
    clear hi
    generalize p.st = st at *
    generalize z.contains st = q at *
    go_enter Try.func36, Try.ntmps36
    go_wp2_with fail
    go_at_call 37
    refine HA.out.mono ?_
    rintro e w1 ⟨rfl, rfl⟩
    clear HA
    go_wp2_with fail
    go_at_call 55
    refine CO1.out.mono ?_
    rintro e w2 ⟨rfl, rfl⟩
    clear CO1
    cases q
    · obtain rfl : r = 131 := by rw [HR2.out]; rfl
      go_wp2_with fail
      go_ret
      exact ⟨rfl, rfl⟩
    · obtain rfl : r = 0 := by rw [HR2.out]; rfl
      go_wp2_with fail
      go_ret
      exact ⟨rfl, rfl⟩
end Rn
end Go.Proofs.Ytiackejbpcjmeaa
