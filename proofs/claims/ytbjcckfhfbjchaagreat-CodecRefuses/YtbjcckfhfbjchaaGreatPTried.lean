import Derived.Test.YtbjcckfhfbjchaaGreatPNum
import Derived.WalkLawsBesides
import Derived.Recover
import Derived.Orders
/- Package pack: the reader: left, peekNumber. -/
namespace Go.Proofs.YtbjcckfhfbjchaaGreat
open Go.RowKit

theorem Rd.tail {w : World} {a : Option Addr} {n : Nat} {l : List Nat} (h : Rd w a n l) (c lo : Nat) (hc : n ≤ c) (h1 : lo ≤ n) : Rd w (if c = lo then a else a.map (·.add lo)) (n - lo) (l.drop lo) := by
  obtain ⟨hl, hn, hd, hrow⟩ := h
  refine ⟨by simp; omega, by omega, fun d hd' => hd d (List.mem_of_mem_drop hd'), ?_⟩
  by_cases h0 : n - lo = 0
  · exact .inl h0
  · right
    rcases hrow with h0' | ⟨b, off, rfl, hrow⟩
    · omega
    · rw [if_neg (by omega)]
      refine ⟨b, off + lo, ?_, fun i hi' => ?_⟩
      · simp only [Option.map_some]
        congr 1
        unfold Addr.add; split <;> simp_all
      · rw [Nat.add_assoc, hrow (lo + i) (by omega)]
        congr 2
        rw [List.getD_eq_getElem?_getD, List.getD_eq_getElem?_getD, List.getElem?_drop]
theorem Rd.front {w : World} {a : Option Addr} {n : Nat} {l : List Nat} (h : Rd w a n l) (hi : Nat) (h2 : hi ≤ n) : Rd w a hi (l.take hi) := by
  obtain ⟨hl, hn, hd, hrow⟩ := h
  refine ⟨by simp; omega, by omega, fun d hd' => hd d (List.mem_of_mem_take hd'), ?_⟩
  rcases hrow with h0' | ⟨b, off, rfl, hrow⟩
  · exact .inl (by omega)
  · refine .inr ⟨b, off, rfl, fun i hi' => ?_⟩
    rw [hrow i (by omega)]
    congr 3
    rw [List.getD_eq_getElem?_getD, List.getD_eq_getElem?_getD, List.getElem?_take, if_pos hi']

theorem slice_lo_run (a : Option Addr) (n c lo : Nat) (h1 : lo ≤ n) (_h2 : n ≤ c) (w : World) :
    (Instr.slice 24 (.slice a n c) (some (.int .i64 (lo : Int))) none none).run Tryz.prog w = .ok (.slice (if c = lo then a else a.map (·.add lo)) (n - lo) (c - lo)) w := by
  go_simp
theorem slice_hi_run (a : Option Addr) (n c hi : Nat) (h2 : hi ≤ c) (w : World) :
    (Instr.slice 24 (.slice a n c) none (some (.int .i64 (hi : Int))) none).run Tryz.prog w = .ok (.slice (if c = 0 then a else a.map (·.add 0)) hi c) w := by
  go_simp
theorem add_zero (a : Addr) : a.add 0 = a := by unfold Addr.add; split <;> simp_all
theorem slice_hi_run' (a : Option Addr) (n c hi : Nat) (h2 : hi ≤ c) (w : World) :
    (Instr.slice 24 (.slice a n c) none (some (.int .i64 (hi : Int))) none).run Tryz.prog w = .ok (.slice a hi c) w := by
  rw [slice_hi_run a n c hi h2]
  cases a <;> simp [add_zero]

/-- a part of a slice from a place on, its address by a name -/
theorem slice_lo_rd {w : World} {a : Option Addr} {n : Nat} {l : List Nat} (h : Rd w a n l) (c lo : Nat) (h0 : a = none → c = 0) (hc : n ≤ c) (h1 : lo ≤ n) :
    ∃ a', (∀ wx, (Instr.slice 24 (.slice a n c) (some (.int .i64 (lo : Int))) none none).run Tryz.prog wx = .ok (.slice a' (n - lo) (c - lo)) wx) ∧ Rd w a' (n - lo) (l.drop lo) ∧ (a' = none → c - lo = 0) ∧ n - lo ≤ c - lo := by
  refine ⟨_, slice_lo_run a n c lo h1 hc, h.tail c lo hc h1, ?_, by omega⟩
  intro e
  split at e
  · omega
  · cases a with
    | none => have := h0 rfl; omega
    | some ad => cases e

theorem Rr.below {w w' : World} {q : Nat} {s : K.RS} (h : Rr w q s) (hb : Below w.heap.size w w') : Rr w' q s := h.keep (S := fun _ => False) (Keep.ofBelow hb (Nat.le_refl _)) fun _ _ h => h

theorem left_any (q : Nat) (s : K.RS) (w : World) (h : Rr w q s) :
    Calls Tryz.prog 134 #[.pointer (some ⟨q, 0, none⟩)] w fun en w' => ∃ a c, en = .returned (.slice a (s.data.length - s.taken) c) ∧ Rd w' a (s.data.length - s.taken) (s.data.drop s.taken) ∧ (a = none → c = 0) ∧ s.data.length - s.taken ≤ c ∧ Below w.heap.size w w' := by
  obtain ⟨a, c, hb, hr, h0, hc, hq⟩ := h.ex
  obtain ⟨a', hs, hr', h0', hc'⟩ := slice_lo_rd hr c s.taken h0 hc h.tak
  have c0 := cell0 hb
  have c1 := cell1 hb
  have HR := hide hr'
  have H0 := hide h0'
  clear h hb hr h0 hq hr' h0'
  go_enter Tryz.func134, Tryz.ntmps134
  go_wp2
  go_region
  all_goals go_wp2
  all_goals go_ret
  all_goals exact ⟨a', _, rfl, HR.out.keep ((Below.refl _ _).drew), H0.out, hc', (Below.refl _ _).drew⟩

/-- the ending of a reader that gives up -/
def gaveUp (e : Nat) : Ending := .panicked [{ v := .iface 134 (.int .i64 (e : Nat)), recovered := false }]

def pkOut (r : Except Nat (Nat × Nat)) (en : Ending) : Prop := match r with
  | .ok (n, z) => en = .returned (.tuple #[.int .i64 (n : Nat), .int .i64 (z : Nat)])
  | .error e => en = gaveUp e

theorem andNot128 (b : Nat) (hb : b < 256) : bits .andNot .u8 (b : Int) 128 = ((b % 128 : Nat) : Int) := by
  have h2 : ∀ m : Fin 256, bits .andNot .u8 ((m : Nat) : Int) 128 = (((m : Nat) % 128 : Nat) : Int) := by decide +kernel
  exact h2 ⟨b, hb⟩

theorem ofInt_i64 (a : Nat) (ha : a < 9223372036854775808) : (BitVec.ofInt 64 (a : Int)).toNat = a := by
  rw [BitVec.ofInt_natCast, BitVec.toNat_ofNat]
  exact Nat.mod_eq_of_lt (by omega)

theorem i64_or_nat (a b : Nat) (ha : a < 9223372036854775808) (hb : b < 9223372036854775808) : bits .or .i64 (a : Int) (b : Int) = ((a ||| b : Nat) : Int) := by
  have hx : a ||| b < 2 ^ 63 := Nat.or_lt_two_pow (by omega) (by omega)
  show IntKind.i64.wrap ((BitVec.ofInt 64 (a : Int) ||| BitVec.ofInt 64 (b : Int)).toNat : Int) = _
  rw [BitVec.toNat_or, ofInt_i64 a ha, ofInt_i64 b hb, IntKind.wrap_i64]
  omega

theorem or_add (k nn d : Nat) (hn : nn < 128 ^ k) : nn ||| d * 128 ^ k = nn + d * 128 ^ k := by
  have e : (128 : Nat) ^ k = 2 ^ (7 * k) := by rw [Nat.pow_mul]
  rw [e] at hn ⊢
  rw [Nat.or_comm, Nat.mul_comm, ← Nat.two_pow_add_eq_or_of_lt hn, Nat.add_comm]

theorem pow_k (k : Nat) (hk : k ≤ 8) : 128 ^ k ≤ 72057594037927936 := by
  have := Nat.pow_le_pow_right (n := 128) (by decide) hk
  exact Nat.le_trans this (by decide)

theorem or_step (k nn d : Nat) (hk : k ≤ 8) (hn : nn < 128 ^ k) : bits .or .i64 (nn : Int) (wrap64 ((d : Int) % 128 * 2 ^ (7 * k))) = ((nn + d % 128 * 128 ^ k : Nat) : Int) := by
  have hp := pow_k k hk
  have e : (2 : Int) ^ (7 * k) = ((128 ^ k : Nat) : Int) := by rw [Int.pow_mul]; simp
  have hm : d % 128 * 128 ^ k ≤ 127 * 72057594037927936 := Nat.mul_le_mul (by omega) hp
  have e2 : (d : Int) % 128 * 2 ^ (7 * k) = ((d % 128 * 128 ^ k : Nat) : Int) := by rw [e]; simp
  rw [e2, show wrap64 ((d % 128 * 128 ^ k : Nat) : Int) = ((d % 128 * 128 ^ k : Nat) : Int) by unfold wrap64; omega, i64_or_nat _ _ (by omega) (by omega), or_add k nn (d % 128) hn]

theorem lt_step (k nn d : Nat) (hn : nn < 128 ^ k) : nn + d % 128 * 128 ^ k < 128 ^ (k + 1) := by
  have h1 : d % 128 * 128 ^ k ≤ 127 * 128 ^ k := Nat.mul_le_mul_right _ (by omega)
  rw [Nat.pow_succ]
  omega

theorem pk_done (k nn d : Nat) (hd : d < 128) {x : Int} (e : x = ((nn + d % 128 * 128 ^ k : Nat) : Int)) : pkOut (.ok (nn + d * 128 ^ k, k + 1)) (.returned (.tuple #[.int .i64 x, .int .i64 ((k : Int) + 1)])) := by
  rw [Nat.mod_eq_of_lt hd] at e
  subst e
  rfl

set_option maxRecDepth 10000 in
set_option maxHeartbeats 400000 in
theorem peekNumber_any (q : Nat) (s : K.RS) (w : World) (h : Rr w q s) :
    Calls Tryz.prog 82 #[.pointer (some ⟨q, 0, none⟩)] w fun en w' => pkOut (K.pk (s.data.drop s.taken)) en ∧ Below w.heap.size w w' := by
  have HH := hide h
  have hlen := h.top
  clear h
  go_enter Tryz.func82, Tryz.ntmps82
  go_wp2_with fail
  refine (left_any q s _ HH.out).mono ?_
  rintro e w1 ⟨a, c, rfl, hr, h0, hc, hb⟩
  have HB := hide hb
  generalize hL : s.data.drop s.taken = L at *
  generalize hn : s.data.length - s.taken = n at *
  have hn2 : n ≤ 16777216 := by omega
  have HN := hide hn
  have HL := hide hL
  clear hn hL hlen hb
  obtain ⟨m, hm⟩ : ∃ m, m = min n 9 := ⟨_, rfl⟩
  have h1 := min_run (n : Int) 9 (m : Int) (by omega)
  have h2 := slice_hi_run' a n c m (by omega)
  have hm9 : m ≤ 9 := by omega
  have hmn : m ≤ n := by omega
  have HM := hide hm
  have HR := hide (hr.front m (by omega))
  have HRL := hide hr
  clear hm hr
  go_wp2
  go_loop [2, 15] (fun x i => ∃ k nn : Nat, k ≤ m ∧ i = .int .i64 (k : Nat) ∧ x = .int .i64 (nn : Nat) ∧ nn < 128 ^ k ∧ K.pk L = K.pkGo (9 - k) k nn (L.drop k)) (fun _ i => m - (intOf i).toNat)
  case atStart => exact ⟨0, 0, Nat.zero_le _, rfl, rfl, by decide, rfl⟩
  case round =>
    obtain ⟨k, nn, hk, rfl, rfl, hnn, hpk⟩ := hrel
    have HPK := hide hpk
    have HNN := hide hnn
    clear hpk hnn
    by_cases hlt : k < m
    · obtain ⟨b, off, rfl, hcell⟩ : ∃ b off, a = some ⟨b, off, none⟩ ∧ w1.cell? ⟨b, off + k, none⟩ = some (.int .u8 ((L.getD k 0 : Nat) : Int)) := by
        rcases HRL.out.2.2.2 with h0 | ⟨b, off, rfl, hr⟩
        · omega
        · exact ⟨b, off, rfl, hr k (by omega)⟩
      have hkl : k < L.length := by have := HRL.out.1; omega
      have hd8 : L.getD k 0 < 256 := by
        rw [List.getD_eq_getElem?_getD, List.getElem?_eq_getElem hkl, Option.getD_some]
        exact HRL.out.2.2.1 _ (List.getElem_mem hkl)
      have HDR : Hid (L.drop k = L.getD k 0 :: L.drop (k + 1)) := by
        show _ = _
        rw [List.drop_eq_getElem_cons hkl, List.getD_eq_getElem?_getD, List.getElem?_eq_getElem hkl, Option.getD_some]
      generalize L.getD k 0 = d at *
      have han := andNot128 d hd8
      have HO := hide (or_step k nn d (by omega) HNN.out)
      have HLT := hide (lt_step k nn d HNN.out)
      by_cases hd : 128 ≤ d
      · go_wp2
        refine ⟨⟨k + 1, nn + d % 128 * 128 ^ k, by omega, by go_num, by rw [HO.out], HLT.out, ?_⟩, by simp [intOf]; omega⟩
        rw [HPK.out, HDR.out, show 9 - k = (9 - (k + 1)) + 1 by omega]
        show (if 128 ≤ d then _ else _) = _
        rw [if_pos hd, show d - 128 = d % 128 by omega]
      · by_cases hd0 : d = 0 ∧ 0 < k
        · obtain ⟨rfl, hk0⟩ := hd0
          go_wp2
          refine ⟨rfl, ?_, HB.out⟩
          rw [HL.out, HPK.out, HDR.out, show 9 - k = (9 - (k + 1)) + 1 by omega]
          show pkOut (if 128 ≤ 0 then _ else if 0 = 0 ∧ 0 < k then _ else _) _
          rw [if_neg (by omega), if_pos ⟨rfl, hk0⟩]
          rfl
        · by_cases hd1 : d = 0
          · have hk0 : ¬ 0 < k := by omega
            have HD0 := hide hd
            have HD1 := hide hd1
            have hq : ((d : Int) == 0) = true := by simpa using hd1
            clear hd hd0 hd1
            have hlt128 : ¬ 128 ≤ d := HD0.out
            go_wp2
            go_ret2
            refine ⟨?_, HB.out⟩
            rw [HL.out, HPK.out, HDR.out, show 9 - k = (9 - (k + 1)) + 1 by omega]
            show pkOut (if 128 ≤ d then _ else if d = 0 ∧ 0 < k then _ else _) _
            rw [if_neg HD0.out, if_neg (fun h => hk0 h.2)]
            exact pk_done k nn d (by have := HD0.out; omega) HO.out
          · go_wp2
            go_ret2
            refine ⟨?_, HB.out⟩
            rw [HL.out, HPK.out, HDR.out, show 9 - k = (9 - (k + 1)) + 1 by omega]
            show pkOut (if 128 ≤ d then _ else if d = 0 ∧ 0 < k then _ else _) _
            rw [if_neg hd, if_neg hd0]
            exact pk_done k nn d (by omega) HO.out
    · obtain rfl : k = m := by omega
      have HLN := hide HRL.out.1
      have HMM := hide HM.out
      by_cases h9 : n < 9
      · go_wp2
        refine ⟨rfl, ?_, HB.out⟩
        have hkn : k = n := by have := HMM.out; omega
        rw [HL.out, HPK.out, List.drop_eq_nil_of_le (by have := HLN.out; omega), show 9 - k = (9 - (k + 1)) + 1 by omega]
        rfl
      · go_wp2
        refine ⟨rfl, ?_, HB.out⟩
        have hkn : k = 9 := by have := HMM.out; omega
        rw [HL.out, HPK.out, show 9 - k = 0 by omega]
        rfl

end Go.Proofs.YtbjcckfhfbjchaaGreat

/- Package pack: the reader's fail, caught; the deferred function that catches. -/
namespace Go.Proofs.YtbjcckfhfbjchaaGreat
open Go.RowKit

theorem wpS_region_draw {P : Program} {id : Nat} {ops : Array Oper} {Q : Exit → Act → List Frame → World → Prop} {a : Act} {cs : List Frame} {w : World}
    (h : ∀ t, wpOpsS P ops Q (Region.schedule (P.follows .mixedOrders) ops t) a cs { w with drawn := w.drawn + 1 }) : (Code.region id ops true).wpS P Q a cs w :=
  fun b k hb hr => let ⟨e, a', cs', w', q, r⟩ := wp_opsS _ a cs _ (h _) b k hb hr; ⟨e, a', cs', w', q, .of_steps (.one step_region_draw) r⟩

/-- three operations, of which the first two stand in either order -/
theorem sched3 (m : Bool) (hm : m = true) (ops : Array Oper) (h3 : ops.size = 3) (r0 : Region.ready .any ops #[false, false, false] = [0, 1]) (r1 : Region.ready .any ops #[true, false, false] = [1]) (r2 : Region.ready .any ops #[false, true, false] = [0])
    (r3 : Region.ready .any ops #[true, true, false] = [2]) (t : Nat) : Region.schedule m ops t = [0, 1, 2] ∨ Region.schedule m ops t = [1, 0, 2] := by
  have step : ∀ (fuel t : Nat) (listed : Array Bool) (acc : List Nat) (r : List Nat), Region.ready .any ops listed = r → Region.linearise.go .any ops (fuel + 1) t listed acc = match r[t % r.length]? with
      | some i => Region.linearise.go .any ops fuel (t / r.length) (listed.setIfInBounds i true) (i :: acc)
      | none => acc.reverse := by
    intro fuel t listed acc r hr
    subst hr
    rfl
  subst hm
  unfold Region.schedule
  simp only [Bool.true_or, if_true]
  unfold Region.linearise
  rw [h3, show Array.replicate 3 false = #[false, false, false] from rfl, step 2 t _ _ _ r0]
  rcases Nat.mod_two_eq_zero_or_one t with h | h
  · left
    have e : ([0, 1] : List Nat)[t % ([0, 1] : List Nat).length]? = some 0 := by show ([0, 1] : List Nat)[t % 2]? = _; rw [h]; rfl
    rw [e]
    show Region.linearise.go .any ops 2 _ #[true, false, false] _ = _
    rw [step 1 _ _ _ _ r1]
    have e : ∀ t, ([1] : List Nat)[t % ([1] : List Nat).length]? = some 1 := fun t => by show ([1] : List Nat)[t % 1]? = _; rw [Nat.mod_one]; rfl
    rw [e]
    show Region.linearise.go .any ops 1 _ #[true, true, false] _ = _
    rw [step 0 _ _ _ _ r3]
    have e : ∀ t, ([2] : List Nat)[t % ([2] : List Nat).length]? = some 2 := fun t => by show ([2] : List Nat)[t % 1]? = _; rw [Nat.mod_one]; rfl
    rw [e]
    rfl
  · right
    have e : ([0, 1] : List Nat)[t % ([0, 1] : List Nat).length]? = some 1 := by show ([0, 1] : List Nat)[t % 2]? = _; rw [h]; rfl
    rw [e]
    show Region.linearise.go .any ops 2 _ #[false, true, false] _ = _
    rw [step 1 _ _ _ _ r2]
    have e : ∀ t, ([0] : List Nat)[t % ([0] : List Nat).length]? = some 0 := fun t => by show ([0] : List Nat)[t % 1]? = _; rw [Nat.mod_one]; rfl
    rw [e]
    show Region.linearise.go .any ops 1 _ #[true, true, false] _ = _
    rw [step 0 _ _ _ _ r3]
    have e : ∀ t, ([2] : List Nat)[t % ([2] : List Nat).length]? = some 2 := fun t => by show ([2] : List Nat)[t % 1]? = _; rw [Nat.mod_one]; rfl
    rw [e]
    rfl

theorem wpS_region3 {P : Program} {id : Nat} {ops : Array Oper} {Q : Exit → Act → List Frame → World → Prop} {a : Act} {cs : List Frame} {w : World} (hm : P.follows .mixedOrders = true)
    (h1 : wpOpsS P ops Q [0, 1, 2] a cs w.drew) (h2 : wpOpsS P ops Q [1, 0, 2] a cs w.drew) (h3 : ops.size = 3) (r0 : Region.ready .any ops #[false, false, false] = [0, 1]) (r1 : Region.ready .any ops #[true, false, false] = [1]) (r2 : Region.ready .any ops #[false, true, false] = [0])
    (r3 : Region.ready .any ops #[true, true, false] = [2]) : (Code.region id ops true).wpS P Q a cs w :=
  wpS_region_draw fun t => by
    rcases sched3 _ hm ops h3 r0 r1 r2 r3 t with h | h
    · rw [h]; exact h1
    · rw [h]; exact h2

theorem Rr.set2 {w : World} {q : Nat} {s : K.RS} (h : Rr w q s) (e : Nat) : Rr (w.setCell ⟨q, 2, none⟩ (.int .i64 (e : Nat))) q { s with fault := e } := by
  obtain ⟨a, c, hb, hr, h0, hc, hq⟩ := h.ex
  have hk : Keep (fun k => k = q) w (w.setCell ⟨q, 2, none⟩ (.int .i64 (e : Nat))) := Keep.setCell (S := fun k => k = q) w (p := ⟨q, 2, none⟩) rfl _
  refine ⟨⟨a, c, ?_, hr.stay hk (fun b off e h => Nat.ne_of_lt (hq b off e) h), h0, hc, hq⟩, h.tak, h.top⟩
  rw [heap_setCell_same w q 2 _ _ _ hb]; rfl

theorem Rr.set1 {w : World} {q : Nat} {s : K.RS} (h : Rr w q s) (e : Nat) (he : e ≤ s.data.length) : Rr (w.setCell ⟨q, 1, none⟩ (.int .i64 (e : Nat))) q { s with taken := e } := by
  obtain ⟨a, c, hb, hr, h0, hc, hq⟩ := h.ex
  have hk : Keep (fun k => k = q) w (w.setCell ⟨q, 1, none⟩ (.int .i64 (e : Nat))) := Keep.setCell (S := fun k => k = q) w (p := ⟨q, 1, none⟩) rfl _
  refine ⟨⟨a, c, ?_, hr.stay hk (fun b off e h => Nat.ne_of_lt (hq b off e) h), h0, hc, hq⟩, he, h.top⟩
  rw [heap_setCell_same w q 1 _ _ _ hb]; rfl

/-- what the walk wants to see of a reader -/
theorem Rr.see {w : World} {q : Nat} {s : K.RS} (h : Rr w q s) :
    ∃ a c, w.cell? ⟨q, 0, none⟩ = some (.slice a s.data.length c) ∧ w.cell? ⟨q, 1, none⟩ = some (.int .i64 (s.taken : Nat)) ∧ w.cell? ⟨q, 2, none⟩ = some (.int .i64 (s.fault : Nat)) ∧ (∀ i, w.frozen? ⟨q, i, none⟩ = false) := by
  obtain ⟨a, c, hb, hr, h0, hc, hq⟩ := h.ex
  exact ⟨a, c, cell0 hb, cell1 hb, cell2 hb, fun i => frozen_of_row w q i _ _ hb⟩

theorem rfail_any (q : Nat) (s : K.RS) (e : Nat) (w : World) (h : Rr w q s) :
    Calls Tryz.prog 136 #[.pointer (some ⟨q, 0, none⟩), .int .i64 (e : Nat)] w fun en w' => en = .returned (.tuple #[]) ∧ Rr w' q (s.fail e) ∧ Keep (fun k => k = q) w w' := by
  obtain ⟨a, c, h0, h1, h2, hf⟩ := h.see
  have hf2 := hf 2
  have HH := hide h
  clear h hf
  by_cases hz : s.fault = 0
  · have hz' : ((s.fault : Nat) : Int) = 0 := by omega
    rw [hz'] at h2
    go_enter Tryz.func136, Tryz.ntmps136
    go_wp2
    go_end0
    unfold K.RS.fail
    rw [if_pos hz]
    exact ⟨rfl, HH.out.set2 e, Keep.setCell (S := fun k => k = q) w (p := ⟨q, 2, none⟩) rfl _⟩
  · have hz' : (((s.fault : Nat) : Int) == 0) = false := by simpa using hz
    go_enter Tryz.func136, Tryz.ntmps136
    go_wp2
    go_end0
    unfold K.RS.fail
    rw [if_neg hz]
    exact ⟨rfl, HH.out, Keep.refl _ _⟩

theorem rFail_any (q : Nat) (s : K.RS) (w : World) (h : Rr w q s) :
    Calls Tryz.prog 74 #[.pointer (some ⟨q, 0, none⟩)] w fun en w' => en = .returned (.tuple #[]) ∧ Rr w' q (s.fail 22) ∧ Keep (fun k => k = q) w w' := by
  have HH := hide h
  clear h
  go_enter Tryz.func74, Tryz.ntmps74
  go_wp2_with (go_at_call 136; refine (rfail_any q s 22 _ HH.out).mono ?_; rintro e w1 ⟨rfl, h1⟩)
  go_end0
  exact ⟨rfl, h1⟩

theorem caught_idle (q : Nat) (w : World) :
    Calls Tryz.prog 149 #[.pointer (some ⟨q, 0, none⟩), .nilIface] w fun en w' => en = .returned (.tuple #[]) ∧ w' = w := by
  go_enter Tryz.func149, Tryz.ntmps149
  go_wp2
  go_end0
  exact ⟨rfl, rfl⟩

theorem caught_one (q : Nat) (s : K.RS) (e : Nat) (w : World) (h : Rr w q s) :
    Calls Tryz.prog 149 #[.pointer (some ⟨q, 0, none⟩), .iface 134 (.int .i64 (e : Nat))] w fun en w' => en = .returned (.tuple #[]) ∧ Rr w' q (s.fail e) ∧ Keep (fun k => k = q) w w' := by
  have HH := hide h
  clear h
  have hta : ∀ (x : Int) (w : World), (Instr.typeAssert (.iface 134 (.int .i64 x)) 20 134 true).run Tryz.prog w = .ok (.tuple #[.int .i64 x, .bool true]) w := fun _ _ => by kernel_rfl
  go_enter Tryz.func149, Tryz.ntmps149
  go_wp2_with (go_at_call 136; refine (rfail_any q s e _ HH.out).mono ?_; rintro e w1 ⟨rfl, h1⟩)
  go_end0
  exact ⟨rfl, h1⟩

theorem follows_mixed : Tryz.prog.follows .mixedOrders = true := by kernel_rfl

theorem catchI (q rb : Nat) (s : K.RS) (e : Nat) (older : List PanicEntry) (w : World) (h : Rr w q s) (hc : w.cell? ⟨rb, 0, none⟩ = some (.pointer (some ⟨q, 0, none⟩))) :
    CallsD Tryz.prog 148 #[.pointer (some ⟨rb, 0, none⟩)] (.panicking ({ v := .iface 134 (.int .i64 (e : Nat)), recovered := false } :: older)) w fun en u' w' =>
      en = .returned (.tuple #[]) ∧ u' = .panicking ({ v := .iface 134 (.int .i64 (e : Nat)), recovered := true } :: older) ∧ Rr w' q (s.fail e) ∧ Keep (fun k => k = q) w w' := by
  have HD := hide (h.below (Below.refl w.heap.size w).drew)
  refine callsD_of_wpS Tryz.func148 rfl fun c₀ cs hu => ?_
  apply wpS_region3 follows_mixed
  · simp [wpOpsS, go_sem, recoverD, hu, hc, Tryz.ntmps148]
    refine (caught_one q s e _ HD.out).mono ?_
    rintro en w1 ⟨rfl, h1, hk⟩
    exact ⟨rfl, _, rfl, _, (by simp [results, Tryz.results148]), rfl, rfl, h1, (Keep.drew _ w).more hk⟩
  · simp [wpOpsS, go_sem, recoverD, hu, hc, Tryz.ntmps148]
    refine (caught_one q s e _ HD.out).mono ?_
    rintro en w1 ⟨rfl, h1, hk⟩
    exact ⟨rfl, _, rfl, _, (by simp [results, Tryz.results148]), rfl, rfl, h1, (Keep.drew _ w).more hk⟩
  · rfl
  · kernel_rfl
  · kernel_rfl
  · kernel_rfl
  · kernel_rfl

theorem idleI (q rb : Nat) (w : World) (hc : w.cell? ⟨rb, 0, none⟩ = some (.pointer (some ⟨q, 0, none⟩))) :
    CallsD Tryz.prog 148 #[.pointer (some ⟨rb, 0, none⟩)] .returning w fun en u' w' => en = .returned (.tuple #[]) ∧ u' = .returning ∧ w' = w.drew := by
  refine callsD_of_wpS Tryz.func148 rfl fun c₀ cs hu => ?_
  have hcc : c₀ = { c₀ with mode := .returning } := by rw [← hu]
  apply wpS_region3 follows_mixed
  · simp [wpOpsS, go_sem, recoverD, hu, hc, Tryz.ntmps148]
    refine (caught_idle q _).mono ?_
    rintro en w1 ⟨rfl, rfl⟩
    exact ⟨rfl, .returning, by rw [← hcc], _, (by simp [results, Tryz.results148]), rfl, rfl, rfl⟩
  · simp [wpOpsS, go_sem, recoverD, hu, hc, Tryz.ntmps148]
    refine (caught_idle q _).mono ?_
    rintro en w1 ⟨rfl, rfl⟩
    exact ⟨rfl, .returning, by rw [← hcc], _, (by simp [results, Tryz.results148]), rfl, rfl, rfl⟩
  · rfl
  · kernel_rfl
  · kernel_rfl
  · kernel_rfl
  · kernel_rfl

theorem catchS (q rb : Nat) (s : K.RS) (e : Nat) (older : List PanicEntry) (w : World) (h : Rr w q s) (hc : w.cell? ⟨rb, 0, none⟩ = some (.pointer (some ⟨q, 0, none⟩))) :
    CallsD Tryz.prog 169 #[.pointer (some ⟨rb, 0, none⟩)] (.panicking ({ v := .iface 134 (.int .i64 (e : Nat)), recovered := false } :: older)) w fun en u' w' =>
      en = .returned (.tuple #[]) ∧ u' = .panicking ({ v := .iface 134 (.int .i64 (e : Nat)), recovered := true } :: older) ∧ Rr w' q (s.fail e) ∧ Keep (fun k => k = q) w w' := by
  have HD := hide (h.below (Below.refl w.heap.size w).drew)
  refine callsD_of_wpS Tryz.func169 rfl fun c₀ cs hu => ?_
  apply wpS_region3 follows_mixed
  · simp [wpOpsS, go_sem, recoverD, hu, hc, Tryz.ntmps169]
    refine (caught_one q s e _ HD.out).mono ?_
    rintro en w1 ⟨rfl, h1, hk⟩
    exact ⟨rfl, _, rfl, _, (by simp [results, Tryz.results169]), rfl, rfl, h1, (Keep.drew _ w).more hk⟩
  · simp [wpOpsS, go_sem, recoverD, hu, hc, Tryz.ntmps169]
    refine (caught_one q s e _ HD.out).mono ?_
    rintro en w1 ⟨rfl, h1, hk⟩
    exact ⟨rfl, _, rfl, _, (by simp [results, Tryz.results169]), rfl, rfl, h1, (Keep.drew _ w).more hk⟩
  · rfl
  · kernel_rfl
  · kernel_rfl
  · kernel_rfl
  · kernel_rfl

theorem idleS (q rb : Nat) (w : World) (hc : w.cell? ⟨rb, 0, none⟩ = some (.pointer (some ⟨q, 0, none⟩))) :
    CallsD Tryz.prog 169 #[.pointer (some ⟨rb, 0, none⟩)] .returning w fun en u' w' => en = .returned (.tuple #[]) ∧ u' = .returning ∧ w' = w.drew := by
  refine callsD_of_wpS Tryz.func169 rfl fun c₀ cs hu => ?_
  have hcc : c₀ = { c₀ with mode := .returning } := by rw [← hu]
  apply wpS_region3 follows_mixed
  · simp [wpOpsS, go_sem, recoverD, hu, hc, Tryz.ntmps169]
    refine (caught_idle q _).mono ?_
    rintro en w1 ⟨rfl, rfl⟩
    exact ⟨rfl, .returning, by rw [← hcc], _, (by simp [results, Tryz.results169]), rfl, rfl, rfl⟩
  · simp [wpOpsS, go_sem, recoverD, hu, hc, Tryz.ntmps169]
    refine (caught_idle q _).mono ?_
    rintro en w1 ⟨rfl, rfl⟩
    exact ⟨rfl, .returning, by rw [← hcc], _, (by simp [results, Tryz.results169]), rfl, rfl, rfl⟩
  · rfl
  · kernel_rfl
  · kernel_rfl
  · kernel_rfl
  · kernel_rfl

theorem catchLi (q rb : Nat) (s : K.RS) (e : Nat) (older : List PanicEntry) (w : World) (h : Rr w q s) (hc : w.cell? ⟨rb, 0, none⟩ = some (.pointer (some ⟨q, 0, none⟩))) :
    CallsD Tryz.prog 185 #[.pointer (some ⟨rb, 0, none⟩)] (.panicking ({ v := .iface 134 (.int .i64 (e : Nat)), recovered := false } :: older)) w fun en u' w' =>
      en = .returned (.tuple #[]) ∧ u' = .panicking ({ v := .iface 134 (.int .i64 (e : Nat)), recovered := true } :: older) ∧ Rr w' q (s.fail e) ∧ Keep (fun k => k = q) w w' := by
  have HD := hide (h.below (Below.refl w.heap.size w).drew)
  refine callsD_of_wpS Tryz.func185 rfl fun c₀ cs hu => ?_
  apply wpS_region3 follows_mixed
  · simp [wpOpsS, go_sem, recoverD, hu, hc, Tryz.ntmps185]
    refine (caught_one q s e _ HD.out).mono ?_
    rintro en w1 ⟨rfl, h1, hk⟩
    exact ⟨rfl, _, rfl, _, (by simp [results, Tryz.results185]), rfl, rfl, h1, (Keep.drew _ w).more hk⟩
  · simp [wpOpsS, go_sem, recoverD, hu, hc, Tryz.ntmps185]
    refine (caught_one q s e _ HD.out).mono ?_
    rintro en w1 ⟨rfl, h1, hk⟩
    exact ⟨rfl, _, rfl, _, (by simp [results, Tryz.results185]), rfl, rfl, h1, (Keep.drew _ w).more hk⟩
  · rfl
  · kernel_rfl
  · kernel_rfl
  · kernel_rfl
  · kernel_rfl

theorem idleLi (q rb : Nat) (w : World) (hc : w.cell? ⟨rb, 0, none⟩ = some (.pointer (some ⟨q, 0, none⟩))) :
    CallsD Tryz.prog 185 #[.pointer (some ⟨rb, 0, none⟩)] .returning w fun en u' w' => en = .returned (.tuple #[]) ∧ u' = .returning ∧ w' = w.drew := by
  refine callsD_of_wpS Tryz.func185 rfl fun c₀ cs hu => ?_
  have hcc : c₀ = { c₀ with mode := .returning } := by rw [← hu]
  apply wpS_region3 follows_mixed
  · simp [wpOpsS, go_sem, recoverD, hu, hc, Tryz.ntmps185]
    refine (caught_idle q _).mono ?_
    rintro en w1 ⟨rfl, rfl⟩
    exact ⟨rfl, .returning, by rw [← hcc], _, (by simp [results, Tryz.results185]), rfl, rfl, rfl⟩
  · simp [wpOpsS, go_sem, recoverD, hu, hc, Tryz.ntmps185]
    refine (caught_idle q _).mono ?_
    rintro en w1 ⟨rfl, rfl⟩
    exact ⟨rfl, .returning, by rw [← hcc], _, (by simp [results, Tryz.results185]), rfl, rfl, rfl⟩
  · rfl
  · kernel_rfl
  · kernel_rfl
  · kernel_rfl
  · kernel_rfl

theorem catchW (q rb : Nat) (s : K.RS) (e : Nat) (older : List PanicEntry) (w : World) (h : Rr w q s) (hc : w.cell? ⟨rb, 0, none⟩ = some (.pointer (some ⟨q, 0, none⟩))) :
    CallsD Tryz.prog 191 #[.pointer (some ⟨rb, 0, none⟩)] (.panicking ({ v := .iface 134 (.int .i64 (e : Nat)), recovered := false } :: older)) w fun en u' w' =>
      en = .returned (.tuple #[]) ∧ u' = .panicking ({ v := .iface 134 (.int .i64 (e : Nat)), recovered := true } :: older) ∧ Rr w' q (s.fail e) ∧ Keep (fun k => k = q) w w' := by
  have HD := hide (h.below (Below.refl w.heap.size w).drew)
  refine callsD_of_wpS Tryz.func191 rfl fun c₀ cs hu => ?_
  apply wpS_region3 follows_mixed
  · simp [wpOpsS, go_sem, recoverD, hu, hc, Tryz.ntmps191]
    refine (caught_one q s e _ HD.out).mono ?_
    rintro en w1 ⟨rfl, h1, hk⟩
    exact ⟨rfl, _, rfl, _, (by simp [results, Tryz.results191]), rfl, rfl, h1, (Keep.drew _ w).more hk⟩
  · simp [wpOpsS, go_sem, recoverD, hu, hc, Tryz.ntmps191]
    refine (caught_one q s e _ HD.out).mono ?_
    rintro en w1 ⟨rfl, h1, hk⟩
    exact ⟨rfl, _, rfl, _, (by simp [results, Tryz.results191]), rfl, rfl, h1, (Keep.drew _ w).more hk⟩
  · rfl
  · kernel_rfl
  · kernel_rfl
  · kernel_rfl
  · kernel_rfl

theorem idleW (q rb : Nat) (w : World) (hc : w.cell? ⟨rb, 0, none⟩ = some (.pointer (some ⟨q, 0, none⟩))) :
    CallsD Tryz.prog 191 #[.pointer (some ⟨rb, 0, none⟩)] .returning w fun en u' w' => en = .returned (.tuple #[]) ∧ u' = .returning ∧ w' = w.drew := by
  refine callsD_of_wpS Tryz.func191 rfl fun c₀ cs hu => ?_
  have hcc : c₀ = { c₀ with mode := .returning } := by rw [← hu]
  apply wpS_region3 follows_mixed
  · simp [wpOpsS, go_sem, recoverD, hu, hc, Tryz.ntmps191]
    refine (caught_idle q _).mono ?_
    rintro en w1 ⟨rfl, rfl⟩
    exact ⟨rfl, .returning, by rw [← hcc], _, (by simp [results, Tryz.results191]), rfl, rfl, rfl⟩
  · simp [wpOpsS, go_sem, recoverD, hu, hc, Tryz.ntmps191]
    refine (caught_idle q _).mono ?_
    rintro en w1 ⟨rfl, rfl⟩
    exact ⟨rfl, .returning, by rw [← hcc], _, (by simp [results, Tryz.results191]), rfl, rfl, rfl⟩
  · rfl
  · kernel_rfl
  · kernel_rfl
  · kernel_rfl
  · kernel_rfl

theorem catchB (q rb : Nat) (s : K.RS) (e : Nat) (older : List PanicEntry) (w : World) (h : Rr w q s) (hc : w.cell? ⟨rb, 0, none⟩ = some (.pointer (some ⟨q, 0, none⟩))) :
    CallsD Tryz.prog 190 #[.pointer (some ⟨rb, 0, none⟩)] (.panicking ({ v := .iface 134 (.int .i64 (e : Nat)), recovered := false } :: older)) w fun en u' w' =>
      en = .returned (.tuple #[]) ∧ u' = .panicking ({ v := .iface 134 (.int .i64 (e : Nat)), recovered := true } :: older) ∧ Rr w' q (s.fail e) ∧ Keep (fun k => k = q) w w' := by
  have HD := hide (h.below (Below.refl w.heap.size w).drew)
  refine callsD_of_wpS Tryz.func190 rfl fun c₀ cs hu => ?_
  apply wpS_region3 follows_mixed
  · simp [wpOpsS, go_sem, recoverD, hu, hc, Tryz.ntmps190]
    refine (caught_one q s e _ HD.out).mono ?_
    rintro en w1 ⟨rfl, h1, hk⟩
    exact ⟨rfl, _, rfl, _, (by simp [results, Tryz.results190]), rfl, rfl, h1, (Keep.drew _ w).more hk⟩
  · simp [wpOpsS, go_sem, recoverD, hu, hc, Tryz.ntmps190]
    refine (caught_one q s e _ HD.out).mono ?_
    rintro en w1 ⟨rfl, h1, hk⟩
    exact ⟨rfl, _, rfl, _, (by simp [results, Tryz.results190]), rfl, rfl, h1, (Keep.drew _ w).more hk⟩
  · rfl
  · kernel_rfl
  · kernel_rfl
  · kernel_rfl
  · kernel_rfl

theorem idleB (q rb : Nat) (w : World) (hc : w.cell? ⟨rb, 0, none⟩ = some (.pointer (some ⟨q, 0, none⟩))) :
    CallsD Tryz.prog 190 #[.pointer (some ⟨rb, 0, none⟩)] .returning w fun en u' w' => en = .returned (.tuple #[]) ∧ u' = .returning ∧ w' = w.drew := by
  refine callsD_of_wpS Tryz.func190 rfl fun c₀ cs hu => ?_
  have hcc : c₀ = { c₀ with mode := .returning } := by rw [← hu]
  apply wpS_region3 follows_mixed
  · simp [wpOpsS, go_sem, recoverD, hu, hc, Tryz.ntmps190]
    refine (caught_idle q _).mono ?_
    rintro en w1 ⟨rfl, rfl⟩
    exact ⟨rfl, .returning, by rw [← hcc], _, (by simp [results, Tryz.results190]), rfl, rfl, rfl⟩
  · simp [wpOpsS, go_sem, recoverD, hu, hc, Tryz.ntmps190]
    refine (caught_idle q _).mono ?_
    rintro en w1 ⟨rfl, rfl⟩
    exact ⟨rfl, .returning, by rw [← hcc], _, (by simp [results, Tryz.results190]), rfl, rfl, rfl⟩
  · rfl
  · kernel_rfl
  · kernel_rfl
  · kernel_rfl
  · kernel_rfl

theorem catchLn (q rb : Nat) (s : K.RS) (e : Nat) (older : List PanicEntry) (w : World) (h : Rr w q s) (hc : w.cell? ⟨rb, 0, none⟩ = some (.pointer (some ⟨q, 0, none⟩))) :
    CallsD Tryz.prog 170 #[.pointer (some ⟨rb, 0, none⟩)] (.panicking ({ v := .iface 134 (.int .i64 (e : Nat)), recovered := false } :: older)) w fun en u' w' =>
      en = .returned (.tuple #[]) ∧ u' = .panicking ({ v := .iface 134 (.int .i64 (e : Nat)), recovered := true } :: older) ∧ Rr w' q (s.fail e) ∧ Keep (fun k => k = q) w w' := by
  have HD := hide (h.below (Below.refl w.heap.size w).drew)
  refine callsD_of_wpS Tryz.func170 rfl fun c₀ cs hu => ?_
  apply wpS_region3 follows_mixed
  · simp [wpOpsS, go_sem, recoverD, hu, hc, Tryz.ntmps170]
    refine (caught_one q s e _ HD.out).mono ?_
    rintro en w1 ⟨rfl, h1, hk⟩
    exact ⟨rfl, _, rfl, _, (by simp [results, Tryz.results170]), rfl, rfl, h1, (Keep.drew _ w).more hk⟩
  · simp [wpOpsS, go_sem, recoverD, hu, hc, Tryz.ntmps170]
    refine (caught_one q s e _ HD.out).mono ?_
    rintro en w1 ⟨rfl, h1, hk⟩
    exact ⟨rfl, _, rfl, _, (by simp [results, Tryz.results170]), rfl, rfl, h1, (Keep.drew _ w).more hk⟩
  · rfl
  · kernel_rfl
  · kernel_rfl
  · kernel_rfl
  · kernel_rfl

theorem idleLn (q rb : Nat) (w : World) (hc : w.cell? ⟨rb, 0, none⟩ = some (.pointer (some ⟨q, 0, none⟩))) :
    CallsD Tryz.prog 170 #[.pointer (some ⟨rb, 0, none⟩)] .returning w fun en u' w' => en = .returned (.tuple #[]) ∧ u' = .returning ∧ w' = w.drew := by
  refine callsD_of_wpS Tryz.func170 rfl fun c₀ cs hu => ?_
  have hcc : c₀ = { c₀ with mode := .returning } := by rw [← hu]
  apply wpS_region3 follows_mixed
  · simp [wpOpsS, go_sem, recoverD, hu, hc, Tryz.ntmps170]
    refine (caught_idle q _).mono ?_
    rintro en w1 ⟨rfl, rfl⟩
    exact ⟨rfl, .returning, by rw [← hcc], _, (by simp [results, Tryz.results170]), rfl, rfl, rfl⟩
  · simp [wpOpsS, go_sem, recoverD, hu, hc, Tryz.ntmps170]
    refine (caught_idle q _).mono ?_
    rintro en w1 ⟨rfl, rfl⟩
    exact ⟨rfl, .returning, by rw [← hcc], _, (by simp [results, Tryz.results170]), rfl, rfl, rfl⟩
  · rfl
  · kernel_rfl
  · kernel_rfl
  · kernel_rfl
  · kernel_rfl

theorem catchNd (q rb : Nat) (s : K.RS) (e : Nat) (older : List PanicEntry) (w : World) (h : Rr w q s) (hc : w.cell? ⟨rb, 0, none⟩ = some (.pointer (some ⟨q, 0, none⟩))) :
    CallsD Tryz.prog 192 #[.pointer (some ⟨rb, 0, none⟩)] (.panicking ({ v := .iface 134 (.int .i64 (e : Nat)), recovered := false } :: older)) w fun en u' w' =>
      en = .returned (.tuple #[]) ∧ u' = .panicking ({ v := .iface 134 (.int .i64 (e : Nat)), recovered := true } :: older) ∧ Rr w' q (s.fail e) ∧ Keep (fun k => k = q) w w' := by
  have HD := hide (h.below (Below.refl w.heap.size w).drew)
  refine callsD_of_wpS Tryz.func192 rfl fun c₀ cs hu => ?_
  apply wpS_region3 follows_mixed
  · simp [wpOpsS, go_sem, recoverD, hu, hc, Tryz.ntmps192]
    refine (caught_one q s e _ HD.out).mono ?_
    rintro en w1 ⟨rfl, h1, hk⟩
    exact ⟨rfl, _, rfl, _, (by simp [results, Tryz.results192]), rfl, rfl, h1, (Keep.drew _ w).more hk⟩
  · simp [wpOpsS, go_sem, recoverD, hu, hc, Tryz.ntmps192]
    refine (caught_one q s e _ HD.out).mono ?_
    rintro en w1 ⟨rfl, h1, hk⟩
    exact ⟨rfl, _, rfl, _, (by simp [results, Tryz.results192]), rfl, rfl, h1, (Keep.drew _ w).more hk⟩
  · rfl
  · kernel_rfl
  · kernel_rfl
  · kernel_rfl
  · kernel_rfl

theorem idleNd (q rb : Nat) (w : World) (hc : w.cell? ⟨rb, 0, none⟩ = some (.pointer (some ⟨q, 0, none⟩))) :
    CallsD Tryz.prog 192 #[.pointer (some ⟨rb, 0, none⟩)] .returning w fun en u' w' => en = .returned (.tuple #[]) ∧ u' = .returning ∧ w' = w.drew := by
  refine callsD_of_wpS Tryz.func192 rfl fun c₀ cs hu => ?_
  have hcc : c₀ = { c₀ with mode := .returning } := by rw [← hu]
  apply wpS_region3 follows_mixed
  · simp [wpOpsS, go_sem, recoverD, hu, hc, Tryz.ntmps192]
    refine (caught_idle q _).mono ?_
    rintro en w1 ⟨rfl, rfl⟩
    exact ⟨rfl, .returning, by rw [← hcc], _, (by simp [results, Tryz.results192]), rfl, rfl, rfl⟩
  · simp [wpOpsS, go_sem, recoverD, hu, hc, Tryz.ntmps192]
    refine (caught_idle q _).mono ?_
    rintro en w1 ⟨rfl, rfl⟩
    exact ⟨rfl, .returning, by rw [← hcc], _, (by simp [results, Tryz.results192]), rfl, rfl, rfl⟩
  · rfl
  · kernel_rfl
  · kernel_rfl
  · kernel_rfl
  · kernel_rfl

theorem catchPn (q rb : Nat) (s : K.RS) (e : Nat) (older : List PanicEntry) (w : World) (h : Rr w q s) (hc : w.cell? ⟨rb, 0, none⟩ = some (.pointer (some ⟨q, 0, none⟩))) :
    CallsD Tryz.prog 172 #[.pointer (some ⟨rb, 0, none⟩)] (.panicking ({ v := .iface 134 (.int .i64 (e : Nat)), recovered := false } :: older)) w fun en u' w' =>
      en = .returned (.tuple #[]) ∧ u' = .panicking ({ v := .iface 134 (.int .i64 (e : Nat)), recovered := true } :: older) ∧ Rr w' q (s.fail e) ∧ Keep (fun k => k = q) w w' := by
  have HD := hide (h.below (Below.refl w.heap.size w).drew)
  refine callsD_of_wpS Tryz.func172 rfl fun c₀ cs hu => ?_
  apply wpS_region3 follows_mixed
  · simp [wpOpsS, go_sem, recoverD, hu, hc, Tryz.ntmps172]
    refine (caught_one q s e _ HD.out).mono ?_
    rintro en w1 ⟨rfl, h1, hk⟩
    exact ⟨rfl, _, rfl, _, (by simp [results, Tryz.results172]), rfl, rfl, h1, (Keep.drew _ w).more hk⟩
  · simp [wpOpsS, go_sem, recoverD, hu, hc, Tryz.ntmps172]
    refine (caught_one q s e _ HD.out).mono ?_
    rintro en w1 ⟨rfl, h1, hk⟩
    exact ⟨rfl, _, rfl, _, (by simp [results, Tryz.results172]), rfl, rfl, h1, (Keep.drew _ w).more hk⟩
  · rfl
  · kernel_rfl
  · kernel_rfl
  · kernel_rfl
  · kernel_rfl

theorem idlePn (q rb : Nat) (w : World) (hc : w.cell? ⟨rb, 0, none⟩ = some (.pointer (some ⟨q, 0, none⟩))) :
    CallsD Tryz.prog 172 #[.pointer (some ⟨rb, 0, none⟩)] .returning w fun en u' w' => en = .returned (.tuple #[]) ∧ u' = .returning ∧ w' = w.drew := by
  refine callsD_of_wpS Tryz.func172 rfl fun c₀ cs hu => ?_
  have hcc : c₀ = { c₀ with mode := .returning } := by rw [← hu]
  apply wpS_region3 follows_mixed
  · simp [wpOpsS, go_sem, recoverD, hu, hc, Tryz.ntmps172]
    refine (caught_idle q _).mono ?_
    rintro en w1 ⟨rfl, rfl⟩
    exact ⟨rfl, .returning, by rw [← hcc], _, (by simp [results, Tryz.results172]), rfl, rfl, rfl⟩
  · simp [wpOpsS, go_sem, recoverD, hu, hc, Tryz.ntmps172]
    refine (caught_idle q _).mono ?_
    rintro en w1 ⟨rfl, rfl⟩
    exact ⟨rfl, .returning, by rw [← hcc], _, (by simp [results, Tryz.results172]), rfl, rfl, rfl⟩
  · rfl
  · kernel_rfl
  · kernel_rfl
  · kernel_rfl
  · kernel_rfl

theorem catchOp (q rb : Nat) (s : K.RS) (e : Nat) (older : List PanicEntry) (w : World) (h : Rr w q s) (hc : w.cell? ⟨rb, 0, none⟩ = some (.pointer (some ⟨q, 0, none⟩))) :
    CallsD Tryz.prog 171 #[.pointer (some ⟨rb, 0, none⟩)] (.panicking ({ v := .iface 134 (.int .i64 (e : Nat)), recovered := false } :: older)) w fun en u' w' =>
      en = .returned (.tuple #[]) ∧ u' = .panicking ({ v := .iface 134 (.int .i64 (e : Nat)), recovered := true } :: older) ∧ Rr w' q (s.fail e) ∧ Keep (fun k => k = q) w w' := by
  have HD := hide (h.below (Below.refl w.heap.size w).drew)
  refine callsD_of_wpS Tryz.func171 rfl fun c₀ cs hu => ?_
  apply wpS_region3 follows_mixed
  · simp [wpOpsS, go_sem, recoverD, hu, hc, Tryz.ntmps171]
    refine (caught_one q s e _ HD.out).mono ?_
    rintro en w1 ⟨rfl, h1, hk⟩
    exact ⟨rfl, _, rfl, _, (by simp [results, Tryz.results171]), rfl, rfl, h1, (Keep.drew _ w).more hk⟩
  · simp [wpOpsS, go_sem, recoverD, hu, hc, Tryz.ntmps171]
    refine (caught_one q s e _ HD.out).mono ?_
    rintro en w1 ⟨rfl, h1, hk⟩
    exact ⟨rfl, _, rfl, _, (by simp [results, Tryz.results171]), rfl, rfl, h1, (Keep.drew _ w).more hk⟩
  · rfl
  · kernel_rfl
  · kernel_rfl
  · kernel_rfl
  · kernel_rfl

theorem idleOp (q rb : Nat) (w : World) (hc : w.cell? ⟨rb, 0, none⟩ = some (.pointer (some ⟨q, 0, none⟩))) :
    CallsD Tryz.prog 171 #[.pointer (some ⟨rb, 0, none⟩)] .returning w fun en u' w' => en = .returned (.tuple #[]) ∧ u' = .returning ∧ w' = w.drew := by
  refine callsD_of_wpS Tryz.func171 rfl fun c₀ cs hu => ?_
  have hcc : c₀ = { c₀ with mode := .returning } := by rw [← hu]
  apply wpS_region3 follows_mixed
  · simp [wpOpsS, go_sem, recoverD, hu, hc, Tryz.ntmps171]
    refine (caught_idle q _).mono ?_
    rintro en w1 ⟨rfl, rfl⟩
    exact ⟨rfl, .returning, by rw [← hcc], _, (by simp [results, Tryz.results171]), rfl, rfl, rfl⟩
  · simp [wpOpsS, go_sem, recoverD, hu, hc, Tryz.ntmps171]
    refine (caught_idle q _).mono ?_
    rintro en w1 ⟨rfl, rfl⟩
    exact ⟨rfl, .returning, by rw [← hcc], _, (by simp [results, Tryz.results171]), rfl, rfl, rfl⟩
  · rfl
  · kernel_rfl
  · kernel_rfl
  · kernel_rfl
  · kernel_rfl

end Go.Proofs.YtbjcckfhfbjchaaGreat
