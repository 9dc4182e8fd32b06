/- Package pack: the reader's fail, caught; the deferred function that catches. -/
import Derived.Test.YtbjcckfhfbjchaaGreatPRead
import Derived.Recover
import Derived.Orders
namespace Go.Proofs.YtbjcckfhfbjchaaGreat
open Go.RowKit

theorem wpS_region_draw {P : Program} {id : Nat} {ops : Array Oper} {Q : Exit → Act → List Frame → World → Prop} {a : Act} {cs : List Frame} {w : World}
    (h : ∀ t, wpOpsS P ops Q (Region.schedule (P.follows .mixedOrders) ops t) a cs { w with drawn := w.drawn + 1 }) : (Code.region id ops true).wpS P Q a cs w :=
  fun b k hb hr => let ⟨e, a', cs', w', q, r⟩ := wp_opsS _ a cs _ (h _) b k hb hr; ⟨e, a', cs', w', q, .of_steps (.one step_region_draw) r⟩

/-- three operations, of which the first two stand in either order -/
theorem sched3 (m : Bool) (hm : m = true) (ops : Array Oper) (h3 : ops.size = 3) (r0 : Region.ready .any ops #[false, false, false] = [0, 1]) (r1 : Region.ready .any ops #[true, false, false] = [1]) (r2 : Region.ready .any ops #[false, true, false] = [0])
    (r3 : Region.ready .any ops #[true, true, false] = [2]) (t : Nat) : Region.schedule m ops t = [0, 1, 2] ∨ Region.schedule m ops t = [1, 0, 2] := by
  have step : ∀ (fuel t : Nat) (listed : Array Bool) (acc : List Nat) (r : List Nat), Region.ready .any ops listed = r → Region.linearise.go .any ops (fuel + 1) t listed acc = match r[t % r.length]? with
      | some i => Region.linearise.go .any ops fuel (t / r.length) (listed.setIfInBounds i true) (i :: acc)
      | none => acc.reverse := by
    intro fuel t listed acc r hr
    subst hr
    rfl
  subst hm
  unfold Region.schedule
  simp only [Bool.true_or, if_true]
  unfold Region.linearise
  rw [h3, show Array.replicate 3 false = #[false, false, false] from rfl, step 2 t _ _ _ r0]
  rcases Nat.mod_two_eq_zero_or_one t with h | h
  · left
    have e : ([0, 1] : List Nat)[t % ([0, 1] : List Nat).length]? = some 0 := by show ([0, 1] : List Nat)[t % 2]? = _; rw [h]; rfl
    rw [e]
    show Region.linearise.go .any ops 2 _ #[true, false, false] _ = _
    rw [step 1 _ _ _ _ r1]
    have e : ∀ t, ([1] : List Nat)[t % ([1] : List Nat).length]? = some 1 := fun t => by show ([1] : List Nat)[t % 1]? = _; rw [Nat.mod_one]; rfl
    rw [e]
    show Region.linearise.go .any ops 1 _ #[true, true, false] _ = _
    rw [step 0 _ _ _ _ r3]
    have e : ∀ t, ([2] : List Nat)[t % ([2] : List Nat).length]? = some 2 := fun t => by show ([2] : List Nat)[t % 1]? = _; rw [Nat.mod_one]; rfl
    rw [e]
    rfl
  · right
    have e : ([0, 1] : List Nat)[t % ([0, 1] : List Nat).length]? = some 1 := by show ([0, 1] : List Nat)[t % 2]? = _; rw [h]; rfl
    rw [e]
    show Region.linearise.go .any ops 2 _ #[false, true, false] _ = _
    rw [step 1 _ _ _ _ r2]
    have e : ∀ t, ([0] : List Nat)[t % ([0] : List Nat).length]? = some 0 := fun t => by show ([0] : List Nat)[t % 1]? = _; rw [Nat.mod_one]; rfl
    rw [e]
    show Region.linearise.go .any ops 1 _ #[true, true, false] _ = _
    rw [step 0 _ _ _ _ r3]
    have e : ∀ t, ([2] : List Nat)[t % ([2] : List Nat).length]? = some 2 := fun t => by show ([2] : List Nat)[t % 1]? = _; rw [Nat.mod_one]; rfl
    rw [e]
    rfl

theorem wpS_region3 {P : Program} {id : Nat} {ops : Array Oper} {Q : Exit → Act → List Frame → World → Prop} {a : Act} {cs : List Frame} {w : World} (hm : P.follows .mixedOrders = true)
    (h1 : wpOpsS P ops Q [0, 1, 2] a cs w.drew) (h2 : wpOpsS P ops Q [1, 0, 2] a cs w.drew) (h3 : ops.size = 3) (r0 : Region.ready .any ops #[false, false, false] = [0, 1]) (r1 : Region.ready .any ops #[true, false, false] = [1]) (r2 : Region.ready .any ops #[false, true, false] = [0])
    (r3 : Region.ready .any ops #[true, true, false] = [2]) : (Code.region id ops true).wpS P Q a cs w :=
  wpS_region_draw fun t => by
    rcases sched3 _ hm ops h3 r0 r1 r2 r3 t with h | h
    · rw [h]; exact h1
    · rw [h]; exact h2

theorem Rr.set2 {w : World} {q : Nat} {s : K.RS} (h : Rr w q s) (e : Nat) : Rr (w.setCell ⟨q, 2, none⟩ (.int .i64 (e : Nat))) q { s with fault := e } := by
  obtain ⟨a, c, hb, hr, h0, hc, hq⟩ := h.ex
  have hk : Keep (fun k => k = q) w (w.setCell ⟨q, 2, none⟩ (.int .i64 (e : Nat))) := Keep.setCell (S := fun k => k = q) w (p := ⟨q, 2, none⟩) rfl _
  refine ⟨⟨a, c, ?_, hr.stay hk (fun b off e h => Nat.ne_of_lt (hq b off e) h), h0, hc, hq⟩, h.tak, h.top⟩
  rw [heap_setCell_same w q 2 _ _ _ hb]; rfl

theorem Rr.set1 {w : World} {q : Nat} {s : K.RS} (h : Rr w q s) (e : Nat) (he : e ≤ s.data.length) : Rr (w.setCell ⟨q, 1, none⟩ (.int .i64 (e : Nat))) q { s with taken := e } := by
  obtain ⟨a, c, hb, hr, h0, hc, hq⟩ := h.ex
  have hk : Keep (fun k => k = q) w (w.setCell ⟨q, 1, none⟩ (.int .i64 (e : Nat))) := Keep.setCell (S := fun k => k = q) w (p := ⟨q, 1, none⟩) rfl _
  refine ⟨⟨a, c, ?_, hr.stay hk (fun b off e h => Nat.ne_of_lt (hq b off e) h), h0, hc, hq⟩, he, h.top⟩
  rw [heap_setCell_same w q 1 _ _ _ hb]; rfl

/-- what the walk wants to see of a reader -/
theorem Rr.see {w : World} {q : Nat} {s : K.RS} (h : Rr w q s) :
    ∃ a c, w.cell? ⟨q, 0, none⟩ = some (.slice a s.data.length c) ∧ w.cell? ⟨q, 1, none⟩ = some (.int .i64 (s.taken : Nat)) ∧ w.cell? ⟨q, 2, none⟩ = some (.int .i64 (s.fault : Nat)) ∧ (∀ i, w.frozen? ⟨q, i, none⟩ = false) := by
  obtain ⟨a, c, hb, hr, h0, hc, hq⟩ := h.ex
  exact ⟨a, c, cell0 hb, cell1 hb, cell2 hb, fun i => frozen_of_row w q i _ _ hb⟩

theorem rfail_any (q : Nat) (s : K.RS) (e : Nat) (w : World) (h : Rr w q s) :
    Calls Tryz.prog 136 #[.pointer (some ⟨q, 0, none⟩), .int .i64 (e : Nat)] w fun en w' => en = .returned (.tuple #[]) ∧ Rr w' q (s.fail e) ∧ Keep (fun k => k = q) w w' := by
  obtain ⟨a, c, h0, h1, h2, hf⟩ := h.see
  have hf2 := hf 2
  have HH := hide h
  clear h hf
  by_cases hz : s.fault = 0
  · have hz' : ((s.fault : Nat) : Int) = 0 := by omega
    rw [hz'] at h2
    go_enter Tryz.func136, Tryz.ntmps136
    go_wp2
    go_end0
    unfold K.RS.fail
    rw [if_pos hz]
    exact ⟨rfl, HH.out.set2 e, Keep.setCell (S := fun k => k = q) w (p := ⟨q, 2, none⟩) rfl _⟩
  · have hz' : (((s.fault : Nat) : Int) == 0) = false := by simpa using hz
    go_enter Tryz.func136, Tryz.ntmps136
    go_wp2
    go_end0
    unfold K.RS.fail
    rw [if_neg hz]
    exact ⟨rfl, HH.out, Keep.refl _ _⟩

theorem rFail_any (q : Nat) (s : K.RS) (w : World) (h : Rr w q s) :
    Calls Tryz.prog 74 #[.pointer (some ⟨q, 0, none⟩)] w fun en w' => en = .returned (.tuple #[]) ∧ Rr w' q (s.fail 22) ∧ Keep (fun k => k = q) w w' := by
  have HH := hide h
  clear h
  go_enter Tryz.func74, Tryz.ntmps74
  go_wp2_with (go_at_call 136; refine (rfail_any q s 22 _ HH.out).mono ?_; rintro e w1 ⟨rfl, h1⟩)
  go_end0
  exact ⟨rfl, h1⟩

theorem caught_idle (q : Nat) (w : World) :
    Calls Tryz.prog 149 #[.pointer (some ⟨q, 0, none⟩), .nilIface] w fun en w' => en = .returned (.tuple #[]) ∧ w' = w := by
  go_enter Tryz.func149, Tryz.ntmps149
  go_wp2
  go_end0
  exact ⟨rfl, rfl⟩

theorem caught_one (q : Nat) (s : K.RS) (e : Nat) (w : World) (h : Rr w q s) :
    Calls Tryz.prog 149 #[.pointer (some ⟨q, 0, none⟩), .iface 134 (.int .i64 (e : Nat))] w fun en w' => en = .returned (.tuple #[]) ∧ Rr w' q (s.fail e) ∧ Keep (fun k => k = q) w w' := by
  have HH := hide h
  clear h
  have hta : ∀ (x : Int) (w : World), (Instr.typeAssert (.iface 134 (.int .i64 x)) 20 134 true).run Tryz.prog w = .ok (.tuple #[.int .i64 x, .bool true]) w := fun _ _ => by kernel_rfl
  go_enter Tryz.func149, Tryz.ntmps149
  go_wp2_with (go_at_call 136; refine (rfail_any q s e _ HH.out).mono ?_; rintro e w1 ⟨rfl, h1⟩)
  go_end0
  exact ⟨rfl, h1⟩

theorem follows_mixed : Tryz.prog.follows .mixedOrders = true := by kernel_rfl

theorem catchI (q rb : Nat) (s : K.RS) (e : Nat) (older : List PanicEntry) (w : World) (h : Rr w q s) (hc : w.cell? ⟨rb, 0, none⟩ = some (.pointer (some ⟨q, 0, none⟩))) :
    CallsD Tryz.prog 148 #[.pointer (some ⟨rb, 0, none⟩)] (.panicking ({ v := .iface 134 (.int .i64 (e : Nat)), recovered := false } :: older)) w fun en u' w' =>
      en = .returned (.tuple #[]) ∧ u' = .panicking ({ v := .iface 134 (.int .i64 (e : Nat)), recovered := true } :: older) ∧ Rr w' q (s.fail e) ∧ Keep (fun k => k = q) w w' := by
  have HD := hide (h.below (Below.refl w.heap.size w).drew)
  refine callsD_of_wpS Tryz.func148 rfl fun c₀ cs hu => ?_
  apply wpS_region3 follows_mixed
  · simp [wpOpsS, go_sem, recoverD, hu, hc, Tryz.ntmps148]
    refine (caught_one q s e _ HD.out).mono ?_
    rintro en w1 ⟨rfl, h1, hk⟩
    exact ⟨rfl, _, rfl, _, (by simp [results, Tryz.results148]), rfl, rfl, h1, (Keep.drew _ w).more hk⟩
  · simp [wpOpsS, go_sem, recoverD, hu, hc, Tryz.ntmps148]
    refine (caught_one q s e _ HD.out).mono ?_
    rintro en w1 ⟨rfl, h1, hk⟩
    exact ⟨rfl, _, rfl, _, (by simp [results, Tryz.results148]), rfl, rfl, h1, (Keep.drew _ w).more hk⟩
  · rfl
  · kernel_rfl
  · kernel_rfl
  · kernel_rfl
  · kernel_rfl

theorem idleI (q rb : Nat) (w : World) (hc : w.cell? ⟨rb, 0, none⟩ = some (.pointer (some ⟨q, 0, none⟩))) :
    CallsD Tryz.prog 148 #[.pointer (some ⟨rb, 0, none⟩)] .returning w fun en u' w' => en = .returned (.tuple #[]) ∧ u' = .returning ∧ w' = w.drew := by
  refine callsD_of_wpS Tryz.func148 rfl fun c₀ cs hu => ?_
  have hcc : c₀ = { c₀ with mode := .returning } := by rw [← hu]
  apply wpS_region3 follows_mixed
  · simp [wpOpsS, go_sem, recoverD, hu, hc, Tryz.ntmps148]
    refine (caught_idle q _).mono ?_
    rintro en w1 ⟨rfl, rfl⟩
    exact ⟨rfl, .returning, by rw [← hcc], _, (by simp [results, Tryz.results148]), rfl, rfl, rfl⟩
  · simp [wpOpsS, go_sem, recoverD, hu, hc, Tryz.ntmps148]
    refine (caught_idle q _).mono ?_
    rintro en w1 ⟨rfl, rfl⟩
    exact ⟨rfl, .returning, by rw [← hcc], _, (by simp [results, Tryz.results148]), rfl, rfl, rfl⟩
  · rfl
  · kernel_rfl
  · kernel_rfl
  · kernel_rfl
  · kernel_rfl

theorem catchS (q rb : Nat) (s : K.RS) (e : Nat) (older : List PanicEntry) (w : World) (h : Rr w q s) (hc : w.cell? ⟨rb, 0, none⟩ = some (.pointer (some ⟨q, 0, none⟩))) :
    CallsD Tryz.prog 169 #[.pointer (some ⟨rb, 0, none⟩)] (.panicking ({ v := .iface 134 (.int .i64 (e : Nat)), recovered := false } :: older)) w fun en u' w' =>
      en = .returned (.tuple #[]) ∧ u' = .panicking ({ v := .iface 134 (.int .i64 (e : Nat)), recovered := true } :: older) ∧ Rr w' q (s.fail e) ∧ Keep (fun k => k = q) w w' := by
  have HD := hide (h.below (Below.refl w.heap.size w).drew)
  refine callsD_of_wpS Tryz.func169 rfl fun c₀ cs hu => ?_
  apply wpS_region3 follows_mixed
  · simp [wpOpsS, go_sem, recoverD, hu, hc, Tryz.ntmps169]
    refine (caught_one q s e _ HD.out).mono ?_
    rintro en w1 ⟨rfl, h1, hk⟩
    exact ⟨rfl, _, rfl, _, (by simp [results, Tryz.results169]), rfl, rfl, h1, (Keep.drew _ w).more hk⟩
  · simp [wpOpsS, go_sem, recoverD, hu, hc, Tryz.ntmps169]
    refine (caught_one q s e _ HD.out).mono ?_
    rintro en w1 ⟨rfl, h1, hk⟩
    exact ⟨rfl, _, rfl, _, (by simp [results, Tryz.results169]), rfl, rfl, h1, (Keep.drew _ w).more hk⟩
  · rfl
  · kernel_rfl
  · kernel_rfl
  · kernel_rfl
  · kernel_rfl

theorem idleS (q rb : Nat) (w : World) (hc : w.cell? ⟨rb, 0, none⟩ = some (.pointer (some ⟨q, 0, none⟩))) :
    CallsD Tryz.prog 169 #[.pointer (some ⟨rb, 0, none⟩)] .returning w fun en u' w' => en = .returned (.tuple #[]) ∧ u' = .returning ∧ w' = w.drew := by
  refine callsD_of_wpS Tryz.func169 rfl fun c₀ cs hu => ?_
  have hcc : c₀ = { c₀ with mode := .returning } := by rw [← hu]
  apply wpS_region3 follows_mixed
  · simp [wpOpsS, go_sem, recoverD, hu, hc, Tryz.ntmps169]
    refine (caught_idle q _).mono ?_
    rintro en w1 ⟨rfl, rfl⟩
    exact ⟨rfl, .returning, by rw [← hcc], _, (by simp [results, Tryz.results169]), rfl, rfl, rfl⟩
  · simp [wpOpsS, go_sem, recoverD, hu, hc, Tryz.ntmps169]
    refine (caught_idle q _).mono ?_
    rintro en w1 ⟨rfl, rfl⟩
    exact ⟨rfl, .returning, by rw [← hcc], _, (by simp [results, Tryz.results169]), rfl, rfl, rfl⟩
  · rfl
  · kernel_rfl
  · kernel_rfl
  · kernel_rfl
  · kernel_rfl

theorem catchLi (q rb : Nat) (s : K.RS) (e : Nat) (older : List PanicEntry) (w : World) (h : Rr w q s) (hc : w.cell? ⟨rb, 0, none⟩ = some (.pointer (some ⟨q, 0, none⟩))) :
    CallsD Tryz.prog 185 #[.pointer (some ⟨rb, 0, none⟩)] (.panicking ({ v := .iface 134 (.int .i64 (e : Nat)), recovered := false } :: older)) w fun en u' w' =>
      en = .returned (.tuple #[]) ∧ u' = .panicking ({ v := .iface 134 (.int .i64 (e : Nat)), recovered := true } :: older) ∧ Rr w' q (s.fail e) ∧ Keep (fun k => k = q) w w' := by
  have HD := hide (h.below (Below.refl w.heap.size w).drew)
  refine callsD_of_wpS Tryz.func185 rfl fun c₀ cs hu => ?_
  apply wpS_region3 follows_mixed
  · simp [wpOpsS, go_sem, recoverD, hu, hc, Tryz.ntmps185]
    refine (caught_one q s e _ HD.out).mono ?_
    rintro en w1 ⟨rfl, h1, hk⟩
    exact ⟨rfl, _, rfl, _, (by simp [results, Tryz.results185]), rfl, rfl, h1, (Keep.drew _ w).more hk⟩
  · simp [wpOpsS, go_sem, recoverD, hu, hc, Tryz.ntmps185]
    refine (caught_one q s e _ HD.out).mono ?_
    rintro en w1 ⟨rfl, h1, hk⟩
    exact ⟨rfl, _, rfl, _, (by simp [results, Tryz.results185]), rfl, rfl, h1, (Keep.drew _ w).more hk⟩
  · rfl
  · kernel_rfl
  · kernel_rfl
  · kernel_rfl
  · kernel_rfl

theorem idleLi (q rb : Nat) (w : World) (hc : w.cell? ⟨rb, 0, none⟩ = some (.pointer (some ⟨q, 0, none⟩))) :
    CallsD Tryz.prog 185 #[.pointer (some ⟨rb, 0, none⟩)] .returning w fun en u' w' => en = .returned (.tuple #[]) ∧ u' = .returning ∧ w' = w.drew := by
  refine callsD_of_wpS Tryz.func185 rfl fun c₀ cs hu => ?_
  have hcc : c₀ = { c₀ with mode := .returning } := by rw [← hu]
  apply wpS_region3 follows_mixed
  · simp [wpOpsS, go_sem, recoverD, hu, hc, Tryz.ntmps185]
    refine (caught_idle q _).mono ?_
    rintro en w1 ⟨rfl, rfl⟩
    exact ⟨rfl, .returning, by rw [← hcc], _, (by simp [results, Tryz.results185]), rfl, rfl, rfl⟩
  · simp [wpOpsS, go_sem, recoverD, hu, hc, Tryz.ntmps185]
    refine (caught_idle q _).mono ?_
    rintro en w1 ⟨rfl, rfl⟩
    exact ⟨rfl, .returning, by rw [← hcc], _, (by simp [results, Tryz.results185]), rfl, rfl, rfl⟩
  · rfl
  · kernel_rfl
  · kernel_rfl
  · kernel_rfl
  · kernel_rfl

theorem catchW (q rb : Nat) (s : K.RS) (e : Nat) (older : List PanicEntry) (w : World) (h : Rr w q s) (hc : w.cell? ⟨rb, 0, none⟩ = some (.pointer (some ⟨q, 0, none⟩))) :
    CallsD Tryz.prog 191 #[.pointer (some ⟨rb, 0, none⟩)] (.panicking ({ v := .iface 134 (.int .i64 (e : Nat)), recovered := false } :: older)) w fun en u' w' =>
      en = .returned (.tuple #[]) ∧ u' = .panicking ({ v := .iface 134 (.int .i64 (e : Nat)), recovered := true } :: older) ∧ Rr w' q (s.fail e) ∧ Keep (fun k => k = q) w w' := by
  have HD := hide (h.below (Below.refl w.heap.size w).drew)
  refine callsD_of_wpS Tryz.func191 rfl fun c₀ cs hu => ?_
  apply wpS_region3 follows_mixed
  · simp [wpOpsS, go_sem, recoverD, hu, hc, Tryz.ntmps191]
    refine (caught_one q s e _ HD.out).mono ?_
    rintro en w1 ⟨rfl, h1, hk⟩
    exact ⟨rfl, _, rfl, _, (by simp [results, Tryz.results191]), rfl, rfl, h1, (Keep.drew _ w).more hk⟩
  · simp [wpOpsS, go_sem, recoverD, hu, hc, Tryz.ntmps191]
    refine (caught_one q s e _ HD.out).mono ?_
    rintro en w1 ⟨rfl, h1, hk⟩
    exact ⟨rfl, _, rfl, _, (by simp [results, Tryz.results191]), rfl, rfl, h1, (Keep.drew _ w).more hk⟩
  · rfl
  · kernel_rfl
  · kernel_rfl
  · kernel_rfl
  · kernel_rfl

theorem idleW (q rb : Nat) (w : World) (hc : w.cell? ⟨rb, 0, none⟩ = some (.pointer (some ⟨q, 0, none⟩))) :
    CallsD Tryz.prog 191 #[.pointer (some ⟨rb, 0, none⟩)] .returning w fun en u' w' => en = .returned (.tuple #[]) ∧ u' = .returning ∧ w' = w.drew := by
  refine callsD_of_wpS Tryz.func191 rfl fun c₀ cs hu => ?_
  have hcc : c₀ = { c₀ with mode := .returning } := by rw [← hu]
  apply wpS_region3 follows_mixed
  · simp [wpOpsS, go_sem, recoverD, hu, hc, Tryz.ntmps191]
    refine (caught_idle q _).mono ?_
    rintro en w1 ⟨rfl, rfl⟩
    exact ⟨rfl, .returning, by rw [← hcc], _, (by simp [results, Tryz.results191]), rfl, rfl, rfl⟩
  · simp [wpOpsS, go_sem, recoverD, hu, hc, Tryz.ntmps191]
    refine (caught_idle q _).mono ?_
    rintro en w1 ⟨rfl, rfl⟩
    exact ⟨rfl, .returning, by rw [← hcc], _, (by simp [results, Tryz.results191]), rfl, rfl, rfl⟩
  · rfl
  · kernel_rfl
  · kernel_rfl
  · kernel_rfl
  · kernel_rfl

theorem catchB (q rb : Nat) (s : K.RS) (e : Nat) (older : List PanicEntry) (w : World) (h : Rr w q s) (hc : w.cell? ⟨rb, 0, none⟩ = some (.pointer (some ⟨q, 0, none⟩))) :
    CallsD Tryz.prog 190 #[.pointer (some ⟨rb, 0, none⟩)] (.panicking ({ v := .iface 134 (.int .i64 (e : Nat)), recovered := false } :: older)) w fun en u' w' =>
      en = .returned (.tuple #[]) ∧ u' = .panicking ({ v := .iface 134 (.int .i64 (e : Nat)), recovered := true } :: older) ∧ Rr w' q (s.fail e) ∧ Keep (fun k => k = q) w w' := by
  have HD := hide (h.below (Below.refl w.heap.size w).drew)
  refine callsD_of_wpS Tryz.func190 rfl fun c₀ cs hu => ?_
  apply wpS_region3 follows_mixed
  · simp [wpOpsS, go_sem, recoverD, hu, hc, Tryz.ntmps190]
    refine (caught_one q s e _ HD.out).mono ?_
    rintro en w1 ⟨rfl, h1, hk⟩
    exact ⟨rfl, _, rfl, _, (by simp [results, Tryz.results190]), rfl, rfl, h1, (Keep.drew _ w).more hk⟩
  · simp [wpOpsS, go_sem, recoverD, hu, hc, Tryz.ntmps190]
    refine (caught_one q s e _ HD.out).mono ?_
    rintro en w1 ⟨rfl, h1, hk⟩
    exact ⟨rfl, _, rfl, _, (by simp [results, Tryz.results190]), rfl, rfl, h1, (Keep.drew _ w).more hk⟩
  · rfl
  · kernel_rfl
  · kernel_rfl
  · kernel_rfl
  · kernel_rfl

theorem idleB (q rb : Nat) (w : World) (hc : w.cell? ⟨rb, 0, none⟩ = some (.pointer (some ⟨q, 0, none⟩))) :
    CallsD Tryz.prog 190 #[.pointer (some ⟨rb, 0, none⟩)] .returning w fun en u' w' => en = .returned (.tuple #[]) ∧ u' = .returning ∧ w' = w.drew := by
  refine callsD_of_wpS Tryz.func190 rfl fun c₀ cs hu => ?_
  have hcc : c₀ = { c₀ with mode := .returning } := by rw [← hu]
  apply wpS_region3 follows_mixed
  · simp [wpOpsS, go_sem, recoverD, hu, hc, Tryz.ntmps190]
    refine (caught_idle q _).mono ?_
    rintro en w1 ⟨rfl, rfl⟩
    exact ⟨rfl, .returning, by rw [← hcc], _, (by simp [results, Tryz.results190]), rfl, rfl, rfl⟩
  · simp [wpOpsS, go_sem, recoverD, hu, hc, Tryz.ntmps190]
    refine (caught_idle q _).mono ?_
    rintro en w1 ⟨rfl, rfl⟩
    exact ⟨rfl, .returning, by rw [← hcc], _, (by simp [results, Tryz.results190]), rfl, rfl, rfl⟩
  · rfl
  · kernel_rfl
  · kernel_rfl
  · kernel_rfl
  · kernel_rfl

theorem catchLn (q rb : Nat) (s : K.RS) (e : Nat) (older : List PanicEntry) (w : World) (h : Rr w q s) (hc : w.cell? ⟨rb, 0, none⟩ = some (.pointer (some ⟨q, 0, none⟩))) :
    CallsD Tryz.prog 170 #[.pointer (some ⟨rb, 0, none⟩)] (.panicking ({ v := .iface 134 (.int .i64 (e : Nat)), recovered := false } :: older)) w fun en u' w' =>
      en = .returned (.tuple #[]) ∧ u' = .panicking ({ v := .iface 134 (.int .i64 (e : Nat)), recovered := true } :: older) ∧ Rr w' q (s.fail e) ∧ Keep (fun k => k = q) w w' := by
  have HD := hide (h.below (Below.refl w.heap.size w).drew)
  refine callsD_of_wpS Tryz.func170 rfl fun c₀ cs hu => ?_
  apply wpS_region3 follows_mixed
  · simp [wpOpsS, go_sem, recoverD, hu, hc, Tryz.ntmps170]
    refine (caught_one q s e _ HD.out).mono ?_
    rintro en w1 ⟨rfl, h1, hk⟩
    exact ⟨rfl, _, rfl, _, (by simp [results, Tryz.results170]), rfl, rfl, h1, (Keep.drew _ w).more hk⟩
  · simp [wpOpsS, go_sem, recoverD, hu, hc, Tryz.ntmps170]
    refine (caught_one q s e _ HD.out).mono ?_
    rintro en w1 ⟨rfl, h1, hk⟩
    exact ⟨rfl, _, rfl, _, (by simp [results, Tryz.results170]), rfl, rfl, h1, (Keep.drew _ w).more hk⟩
  · rfl
  · kernel_rfl
  · kernel_rfl
  · kernel_rfl
  · kernel_rfl

theorem idleLn (q rb : Nat) (w : World) (hc : w.cell? ⟨rb, 0, none⟩ = some (.pointer (some ⟨q, 0, none⟩))) :
    CallsD Tryz.prog 170 #[.pointer (some ⟨rb, 0, none⟩)] .returning w fun en u' w' => en = .returned (.tuple #[]) ∧ u' = .returning ∧ w' = w.drew := by
  refine callsD_of_wpS Tryz.func170 rfl fun c₀ cs hu => ?_
  have hcc : c₀ = { c₀ with mode := .returning } := by rw [← hu]
  apply wpS_region3 follows_mixed
  · simp [wpOpsS, go_sem, recoverD, hu, hc, Tryz.ntmps170]
    refine (caught_idle q _).mono ?_
    rintro en w1 ⟨rfl, rfl⟩
    exact ⟨rfl, .returning, by rw [← hcc], _, (by simp [results, Tryz.results170]), rfl, rfl, rfl⟩
  · simp [wpOpsS, go_sem, recoverD, hu, hc, Tryz.ntmps170]
    refine (caught_idle q _).mono ?_
    rintro en w1 ⟨rfl, rfl⟩
    exact ⟨rfl, .returning, by rw [← hcc], _, (by simp [results, Tryz.results170]), rfl, rfl, rfl⟩
  · rfl
  · kernel_rfl
  · kernel_rfl
  · kernel_rfl
  · kernel_rfl

theorem catchNd (q rb : Nat) (s : K.RS) (e : Nat) (older : List PanicEntry) (w : World) (h : Rr w q s) (hc : w.cell? ⟨rb, 0, none⟩ = some (.pointer (some ⟨q, 0, none⟩))) :
    CallsD Tryz.prog 192 #[.pointer (some ⟨rb, 0, none⟩)] (.panicking ({ v := .iface 134 (.int .i64 (e : Nat)), recovered := false } :: older)) w fun en u' w' =>
      en = .returned (.tuple #[]) ∧ u' = .panicking ({ v := .iface 134 (.int .i64 (e : Nat)), recovered := true } :: older) ∧ Rr w' q (s.fail e) ∧ Keep (fun k => k = q) w w' := by
  have HD := hide (h.below (Below.refl w.heap.size w).drew)
  refine callsD_of_wpS Tryz.func192 rfl fun c₀ cs hu => ?_
  apply wpS_region3 follows_mixed
  · simp [wpOpsS, go_sem, recoverD, hu, hc, Tryz.ntmps192]
    refine (caught_one q s e _ HD.out).mono ?_
    rintro en w1 ⟨rfl, h1, hk⟩
    exact ⟨rfl, _, rfl, _, (by simp [results, Tryz.results192]), rfl, rfl, h1, (Keep.drew _ w).more hk⟩
  · simp [wpOpsS, go_sem, recoverD, hu, hc, Tryz.ntmps192]
    refine (caught_one q s e _ HD.out).mono ?_
    rintro en w1 ⟨rfl, h1, hk⟩
    exact ⟨rfl, _, rfl, _, (by simp [results, Tryz.results192]), rfl, rfl, h1, (Keep.drew _ w).more hk⟩
  · rfl
  · kernel_rfl
  · kernel_rfl
  · kernel_rfl
  · kernel_rfl

theorem idleNd (q rb : Nat) (w : World) (hc : w.cell? ⟨rb, 0, none⟩ = some (.pointer (some ⟨q, 0, none⟩))) :
    CallsD Tryz.prog 192 #[.pointer (some ⟨rb, 0, none⟩)] .returning w fun en u' w' => en = .returned (.tuple #[]) ∧ u' = .returning ∧ w' = w.drew := by
  refine callsD_of_wpS Tryz.func192 rfl fun c₀ cs hu => ?_
  have hcc : c₀ = { c₀ with mode := .returning } := by rw [← hu]
  apply wpS_region3 follows_mixed
  · simp [wpOpsS, go_sem, recoverD, hu, hc, Tryz.ntmps192]
    refine (caught_idle q _).mono ?_
    rintro en w1 ⟨rfl, rfl⟩
    exact ⟨rfl, .returning, by rw [← hcc], _, (by simp [results, Tryz.results192]), rfl, rfl, rfl⟩
  · simp [wpOpsS, go_sem, recoverD, hu, hc, Tryz.ntmps192]
    refine (caught_idle q _).mono ?_
    rintro en w1 ⟨rfl, rfl⟩
    exact ⟨rfl, .returning, by rw [← hcc], _, (by simp [results, Tryz.results192]), rfl, rfl, rfl⟩
  · rfl
  · kernel_rfl
  · kernel_rfl
  · kernel_rfl
  · kernel_rfl

theorem catchPn (q rb : Nat) (s : K.RS) (e : Nat) (older : List PanicEntry) (w : World) (h : Rr w q s) (hc : w.cell? ⟨rb, 0, none⟩ = some (.pointer (some ⟨q, 0, none⟩))) :
    CallsD Tryz.prog 172 #[.pointer (some ⟨rb, 0, none⟩)] (.panicking ({ v := .iface 134 (.int .i64 (e : Nat)), recovered := false } :: older)) w fun en u' w' =>
      en = .returned (.tuple #[]) ∧ u' = .panicking ({ v := .iface 134 (.int .i64 (e : Nat)), recovered := true } :: older) ∧ Rr w' q (s.fail e) ∧ Keep (fun k => k = q) w w' := by
  have HD := hide (h.below (Below.refl w.heap.size w).drew)
  refine callsD_of_wpS Tryz.func172 rfl fun c₀ cs hu => ?_
  apply wpS_region3 follows_mixed
  · simp [wpOpsS, go_sem, recoverD, hu, hc, Tryz.ntmps172]
    refine (caught_one q s e _ HD.out).mono ?_
    rintro en w1 ⟨rfl, h1, hk⟩
    exact ⟨rfl, _, rfl, _, (by simp [results, Tryz.results172]), rfl, rfl, h1, (Keep.drew _ w).more hk⟩
  · simp [wpOpsS, go_sem, recoverD, hu, hc, Tryz.ntmps172]
    refine (caught_one q s e _ HD.out).mono ?_
    rintro en w1 ⟨rfl, h1, hk⟩
    exact ⟨rfl, _, rfl, _, (by simp [results, Tryz.results172]), rfl, rfl, h1, (Keep.drew _ w).more hk⟩
  · rfl
  · kernel_rfl
  · kernel_rfl
  · kernel_rfl
  · kernel_rfl

theorem idlePn (q rb : Nat) (w : World) (hc : w.cell? ⟨rb, 0, none⟩ = some (.pointer (some ⟨q, 0, none⟩))) :
    CallsD Tryz.prog 172 #[.pointer (some ⟨rb, 0, none⟩)] .returning w fun en u' w' => en = .returned (.tuple #[]) ∧ u' = .returning ∧ w' = w.drew := by
  refine callsD_of_wpS Tryz.func172 rfl fun c₀ cs hu => ?_
  have hcc : c₀ = { c₀ with mode := .returning } := by rw [← hu]
  apply wpS_region3 follows_mixed
  · simp [wpOpsS, go_sem, recoverD, hu, hc, Tryz.ntmps172]
    refine (caught_idle q _).mono ?_
    rintro en w1 ⟨rfl, rfl⟩
    exact ⟨rfl, .returning, by rw [← hcc], _, (by simp [results, Tryz.results172]), rfl, rfl, rfl⟩
  · simp [wpOpsS, go_sem, recoverD, hu, hc, Tryz.ntmps172]
    refine (caught_idle q _).mono ?_
    rintro en w1 ⟨rfl, rfl⟩
    exact ⟨rfl, .returning, by rw [← hcc], _, (by simp [results, Tryz.results172]), rfl, rfl, rfl⟩
  · rfl
  · kernel_rfl
  · kernel_rfl
  · kernel_rfl
  · kernel_rfl

theorem catchOp (q rb : Nat) (s : K.RS) (e : Nat) (older : List PanicEntry) (w : World) (h : Rr w q s) (hc : w.cell? ⟨rb, 0, none⟩ = some (.pointer (some ⟨q, 0, none⟩))) :
    CallsD Tryz.prog 171 #[.pointer (some ⟨rb, 0, none⟩)] (.panicking ({ v := .iface 134 (.int .i64 (e : Nat)), recovered := false } :: older)) w fun en u' w' =>
      en = .returned (.tuple #[]) ∧ u' = .panicking ({ v := .iface 134 (.int .i64 (e : Nat)), recovered := true } :: older) ∧ Rr w' q (s.fail e) ∧ Keep (fun k => k = q) w w' := by
  have HD := hide (h.below (Below.refl w.heap.size w).drew)
  refine callsD_of_wpS Tryz.func171 rfl fun c₀ cs hu => ?_
  apply wpS_region3 follows_mixed
  · simp [wpOpsS, go_sem, recoverD, hu, hc, Tryz.ntmps171]
    refine (caught_one q s e _ HD.out).mono ?_
    rintro en w1 ⟨rfl, h1, hk⟩
    exact ⟨rfl, _, rfl, _, (by simp [results, Tryz.results171]), rfl, rfl, h1, (Keep.drew _ w).more hk⟩
  · simp [wpOpsS, go_sem, recoverD, hu, hc, Tryz.ntmps171]
    refine (caught_one q s e _ HD.out).mono ?_
    rintro en w1 ⟨rfl, h1, hk⟩
    exact ⟨rfl, _, rfl, _, (by simp [results, Tryz.results171]), rfl, rfl, h1, (Keep.drew _ w).more hk⟩
  · rfl
  · kernel_rfl
  · kernel_rfl
  · kernel_rfl
  · kernel_rfl

theorem idleOp (q rb : Nat) (w : World) (hc : w.cell? ⟨rb, 0, none⟩ = some (.pointer (some ⟨q, 0, none⟩))) :
    CallsD Tryz.prog 171 #[.pointer (some ⟨rb, 0, none⟩)] .returning w fun en u' w' => en = .returned (.tuple #[]) ∧ u' = .returning ∧ w' = w.drew := by
  refine callsD_of_wpS Tryz.func171 rfl fun c₀ cs hu => ?_
  have hcc : c₀ = { c₀ with mode := .returning } := by rw [← hu]
  apply wpS_region3 follows_mixed
  · simp [wpOpsS, go_sem, recoverD, hu, hc, Tryz.ntmps171]
    refine (caught_idle q _).mono ?_
    rintro en w1 ⟨rfl, rfl⟩
    exact ⟨rfl, .returning, by rw [← hcc], _, (by simp [results, Tryz.results171]), rfl, rfl, rfl⟩
  · simp [wpOpsS, go_sem, recoverD, hu, hc, Tryz.ntmps171]
    refine (caught_idle q _).mono ?_
    rintro en w1 ⟨rfl, rfl⟩
    exact ⟨rfl, .returning, by rw [← hcc], _, (by simp [results, Tryz.results171]), rfl, rfl, rfl⟩
  · rfl
  · kernel_rfl
  · kernel_rfl
  · kernel_rfl
  · kernel_rfl

end Go.Proofs.YtbjcckfhfbjchaaGreat
