/- Package run: all. -/
import Derived.Test.YtiackejbpcjmeaaRTrn
namespace Go.Proofs.Ytiackejbpcjmeaa
namespace Rn
open Go.RowKit Gr

set_option maxRecDepth 100000 in
set_option maxHeartbeats 2000000 in
theorem pindex_any {T : Nat → Prop} {w : World} {P G : Nat} {nm : ByteArray} {dl : Int} {s : Option Addr × Nat × Nat} {xs : List No} {R : Rs} (h : RunAt T w P G nm dl s xs R) (c : Nat) (F : FuncId) (caps : Array Value) (g : Int → Bool) (hF : ∀ args w, (callFunc F args).run Try.prog w = .ok (.enter F args) w)
    (hstep : ∀ (st tr : Int) (m : Option Addr × Nat × Nat) (W : World), Keep (fun _ => False) w W → Calls Try.prog F (#[.agg #[.int .i64 st, .int .i64 tr, .int .i64 0, .int .i64 0, .slice m.1 m.2.1 m.2.2]] ++ caps) W fun e W' => e = .returned (.bool (g st)) ∧ Keep (fun _ => False) W W') :
    Calls Try.prog 80 #[.slice (some ⟨G, 0, none⟩) xs.length c, .func (.func F) #[] caps] w fun e w' => ∃ i : Int, e = .returned (.int .i64 i) ∧ (i = -1 ∧ (R.ps.any fun p => g p.st) = false ∨ 0 ≤ i ∧ (R.ps.any fun p => g p.st) = true) ∧ Keep (fun _ => False) w w' := by
  have HR := hide h
  have HS := hide hstep
  have HLN : Hid (R.ps.length = xs.length) := h.len
  have hl : xs.length ≤ 64 := h.val.1
  clear h hstep
  generalize hn : xs.length = n at *
  go_enter Try.func80, Try.ntmps80
  go_wp2_with fail
  go_loopw [8] (fun iv wr => ∃ i : Nat, iv = .int .i64 (i : Nat) ∧ i ≤ n ∧ Hid (Keep (fun _ => False) w wr ∧ ∀ j p, j < i → R.ps[j]? = some p → g p.st = false)) (fun iv _ => n - (intOf iv).toNat)
  case atStart => exact ⟨0, rfl, Nat.zero_le _, Keep.refl _ _, fun j p h => absurd h (Nat.not_lt_zero _)⟩
  case round =>
    obtain ⟨i, rfl, hi, HD⟩ := hrel
    by_cases hlt : i < n
    · have hR := HR.out.new HD.out.1
      have hp : R.ps[i]? = some (R.ps[i]'(by have := HLN.out; omega)) := List.getElem?_eq_getElem _
      obtain ⟨m, hm⟩ := hR.pts i _ hp
      have HP := hide hp
      generalize R.ps[i]'_ = p at *
      obtain ⟨c0, c1, c2, c3, c4⟩ := hm.all
      have C := hide (HS.out p.st p.tr m wr HD.out.1)
      clear hR hm hp HS
      go_wp2_with fail
      refine C.out.mono ?_
      rintro e w2 ⟨rfl, k2⟩
      have K2 := hide (HD.out.1.more k2)
      clear k2 C
      cases hg : g p.st with
      | false =>
        have HQ : Hid (∀ j q, j < i + 1 → R.ps[j]? = some q → g q.st = false) := fun j q hj hq => by
          by_cases e : j = i
          · subst e; rw [HP.out] at hq; obtain rfl := Option.some.inj hq; exact hg
          · exact HD.out.2 j q (by omega) hq
        clear hg
        go_wp2_with fail
        go_roundw
        · exact ⟨i + 1, rfl, by omega, K2.out, HQ.out⟩
        · show n - ((i : Int) + 1).toNat < n - (i : Int).toNat
          omega
      | true =>
        have HY : Hid ((R.ps.any fun p => g p.st) = true) := List.any_eq_true.2 ⟨p, List.mem_of_getElem? HP.out, hg⟩
        clear hg
        go_wp2_with fail
        go_ret
        exact ⟨i, rfl, .inr ⟨by omega, HY.out⟩, K2.out⟩
    · have HY : Hid ((R.ps.any fun p => g p.st) = false) := by
        show _ = _
        rw [List.any_eq_false]
        intro p hp
        obtain ⟨j, hj⟩ := List.getElem?_of_mem hp
        rw [HD.out.2 j p (by have := (List.getElem?_eq_some_iff.1 hj).1; have := HLN.out; omega) hj]
        simp
      go_wp2_with fail
      go_ret
      exact ⟨-1, rfl, .inl ⟨rfl, HY.out⟩, HD.out.1⟩
theorem pcontains_any {T : Nat → Prop} {w : World} {P G : Nat} {nm : ByteArray} {dl : Int} {s : Option Addr × Nat × Nat} {xs : List No} {R : Rs} (h : RunAt T w P G nm dl s xs R) (c : Nat) (F : FuncId) (caps : Array Value) (g : Int → Bool) (hF : ∀ args w, (callFunc F args).run Try.prog w = .ok (.enter F args) w)
    (hstep : ∀ (st tr : Int) (m : Option Addr × Nat × Nat) (W : World), Keep (fun _ => False) w W → Calls Try.prog F (#[.agg #[.int .i64 st, .int .i64 tr, .int .i64 0, .int .i64 0, .slice m.1 m.2.1 m.2.2]] ++ caps) W fun e W' => e = .returned (.bool (g st)) ∧ Keep (fun _ => False) W W') :
    Calls Try.prog 69 #[.slice (some ⟨G, 0, none⟩) xs.length c, .func (.func F) #[] caps] w fun e w' => e = .returned (.bool (R.ps.any fun p => g p.st)) ∧ Keep (fun _ => False) w w' := by
  have I := hide (pindex_any h c F caps g hF hstep)
  clear hstep hF h
  generalize (R.ps.any fun p => g p.st) = r at *
  go_enter Try.func69, Try.ntmps69
  go_wp2_with fail
  go_at_call 80
  refine I.out.mono ?_
  rintro e w1 ⟨i, rfl, h1, k1⟩
  have H1 := hide h1
  have K1 := hide k1
  clear h1 k1 I
  go_wp2_with fail
  go_ret
  refine ⟨?_, K1.out⟩
  rcases H1.out with ⟨rfl, rfl⟩ | ⟨h0, rfl⟩
  · rfl
  · show Ending.returned (.bool (decide (0 ≤ i))) = _
    rw [decide_eq_true h0]
theorem enter_all1 : ∀ args w, (callFunc 70 args).run Try.prog w = .ok (.enter 70 args) w := by intro args w; simp [go_sem]
/-- the function that all hands on, over one that reads alone -/
theorem all1_any (F : FuncId) (g : Int → Bool) (hF : ∀ args w, (callFunc F args).run Try.prog w = .ok (.enter F args) w) (bx : Nat) (st tr : Int) (m : Option Addr × Nat × Nat) (w : World) (hb : w.cell? ⟨bx, 0, none⟩ = some (.func (.func F) #[] #[]))
    (hc : ∀ W, Calls Try.prog F #[.agg #[.int .i64 st, .int .i64 tr, .int .i64 0, .int .i64 0, .slice m.1 m.2.1 m.2.2]] W fun e W' => e = .returned (.bool (g st)) ∧ Keep (fun _ => False) W W') :
    Calls Try.prog 70 (#[.agg #[.int .i64 st, .int .i64 tr, .int .i64 0, .int .i64 0, .slice m.1 m.2.1 m.2.2]] ++ #[.pointer (some ⟨bx, 0, none⟩)]) w fun e w' => e = .returned (.bool (!g st)) ∧ Keep (fun _ => False) w w' := by
  show Calls Try.prog 70 #[.agg #[.int .i64 st, .int .i64 tr, .int .i64 0, .int .i64 0, .slice m.1 m.2.1 m.2.2], .pointer (some ⟨bx, 0, none⟩)] w _
  have k0 := Keep.alloc (fun _ => False) w (.cells #[.int .i64 st, .int .i64 tr, .int .i64 0, .int .i64 0, .slice m.1 m.2.1 m.2.2] 76)
  have K := hide k0
  have hb := k0.cell hb (fun f => f)
  have C := hide hc
  clear hc k0
  generalize g st = q at *
  go_enter Try.func70, Try.ntmps70
  go_wp2_with fail
  refine (C.out _).mono ?_
  rintro e w1 ⟨rfl, k1⟩
  have K1 := hide (K.out.more k1)
  clear k1 C
  go_wp2_with fail
  go_ret
  exact ⟨rfl, K1.out⟩
theorem all_any {T : Nat → Prop} {w : World} {P G : Nat} {nm : ByteArray} {dl : Int} {s : Option Addr × Nat × Nat} {xs : List No} {R : Rs} (h : RunAt T w P G nm dl s xs R) (F : FuncId) (g : Int → Bool) (hF : ∀ args w, (callFunc F args).run Try.prog w = .ok (.enter F args) w)
    (hc : ∀ (st tr : Int) (m : Option Addr × Nat × Nat) (W : World), Calls Try.prog F #[.agg #[.int .i64 st, .int .i64 tr, .int .i64 0, .int .i64 0, .slice m.1 m.2.1 m.2.2]] W fun e W' => e = .returned (.bool (g st)) ∧ Keep (fun _ => False) W W') :
    Calls Try.prog 48 #[.pointer (some ⟨P, 0, none⟩), .func (.func F) #[] #[]] w fun e w' => e = .returned (.bool (R.ps.all fun p => g p.st)) ∧ Keep (fun _ => False) w w' := by
  have k0 := Keep.alloc (fun _ => False) w (.cells #[.func (.func F) #[] #[]] 98)
  have hb := cell_one w (.func (.func F) #[] #[]) 98
  have h1 := h.new k0
  obtain ⟨c, _, _, _, _, d4⟩ := h1.cells
  have C := hide (pcontains_any h1 c 70 #[.pointer (some ⟨w.heap.size, 0, none⟩)] (fun q => !g q) enter_all1 fun st tr m W k => all1_any F g hF w.heap.size st tr m W (k.cell hb (fun f => f)) (hc st tr m))
  have K := hide k0
  have HR : Hid ((R.ps.all fun p => g p.st) = !(R.ps.any fun p => !g p.st)) := by show _ = _; rw [List.not_any_eq_all_not]; simp
  generalize (R.ps.all fun p => g p.st) = r at *
  generalize (R.ps.any fun p => !g p.st) = q at *
  clear h h1 k0 hc hF
  go_enter Try.func48, Try.ntmps48
  go_wp2_with fail
  go_at_call 69
  refine C.out.mono ?_
  rintro e w1 ⟨rfl, k1⟩
  have K1 := hide (K.out.more k1)
  clear k1 C
  go_wp2_with fail
  go_ret
  exact ⟨by rw [HR.out]; rfl, K1.out⟩
theorem enter_set : ∀ args w, (callFunc 49 args).run Try.prog w = .ok (.enter 49 args) w := by intro args w; simp [go_sem]
theorem enter_done : ∀ args w, (callFunc 50 args).run Try.prog w = .ok (.enter 50 args) w := by intro args w; simp [go_sem]
theorem allSet_any {T : Nat → Prop} {w : World} {P G : Nat} {nm : ByteArray} {dl : Int} {s : Option Addr × Nat × Nat} {xs : List No} {R : Rs} (h : RunAt T w P G nm dl s xs R) :
    Calls Try.prog 48 #[.pointer (some ⟨P, 0, none⟩), .func (.func 49) #[] #[]] w fun e w' => e = .returned (.bool (allSet R.ps)) ∧ Keep (fun _ => False) w w' := all_any h _ setS enter_set settled_any
theorem allDone_any {T : Nat → Prop} {w : World} {P G : Nat} {nm : ByteArray} {dl : Int} {s : Option Addr × Nat × Nat} {xs : List No} {R : Rs} (h : RunAt T w P G nm dl s xs R) :
    Calls Try.prog 48 #[.pointer (some ⟨P, 0, none⟩), .func (.func 50) #[] #[]] w fun e w' => e = .returned (.bool (allDone R.ps)) ∧ Keep (fun _ => False) w w' := all_any h _ doneS enter_done done_any
end Rn
end Go.Proofs.Ytiackejbpcjmeaa
