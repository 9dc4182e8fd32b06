/- Contract of cycle. -/
import Derived.Test.YtbjcckfhfbjchaaGreatGCyc
namespace Go.Proofs.YtbjcckfhfbjchaaGreat
namespace Gr
open Go.RowKit

theorem lit64_eq : (#[.bool false, .bool false, .bool false, .bool false, .bool false, .bool false, .bool false, .bool false, .bool false, .bool false, .bool false, .bool false, .bool false, .bool false, .bool false, .bool false, .bool false, .bool false, .bool false, .bool false, .bool false, .bool false, .bool false, .bool false, .bool false, .bool false, .bool false, .bool false, .bool false, .bool false, .bool false, .bool false, .bool false, .bool false, .bool false, .bool false, .bool false, .bool false, .bool false, .bool false, .bool false, .bool false, .bool false, .bool false, .bool false, .bool false, .bool false, .bool false, .bool false, .bool false, .bool false, .bool false, .bool false, .bool false, .bool false, .bool false, .bool false, .bool false, .bool false, .bool false, .bool false, .bool false, .bool false, .bool false] : Array Value) = none64 := by rw [← none64_eq]; rfl
theorem eg_out {xs : List No} {a : Nat} (h : xs.length ≤ a) : eg xs a = [] := by
  unfold eg; rw [List.getElem?_eq_none h]
set_option maxRecDepth 100000 in
set_option maxHeartbeats 4000000 in
theorem cycle_any (s : Option Addr × Nat × Nat) (xs : List No) (B : Nat) (w : World) (hP : RdP B w s xs) (hB : B ≤ w.heap.size) (hv : Val xs) :
    Calls Tryz.prog 52 #[.slice s.1 s.2.1 s.2.2] w fun e w' => (∃ c : Nat, e = .returned (.int .i64 (c : Int)) ∧ c ≤ xs.length ∧ IsCyc (eg xs) c) ∧ Keep (fun _ => False) w w' := by
  obtain ⟨a, n, c⟩ := s
  have HP := hide hP
  have HN : Hid (n = xs.length) := hP.1
  have hl : n ≤ 64 := by have := hP.1; have := hv.1; simp at *; omega
  clear hP
  go_enter Tryz.func52, Tryz.ntmps52
  go_wp2_with fail
  have K0 := hide (Keep.alloc (fun _ => False) w (.cells #[.slice a n c] 28))
  have hcn0 : (w.alloc (.cells #[.slice a n c] 28)).cell? ⟨w.heap.size, 0, none⟩ = some (.slice a n c) := by rw [World.cell?_alloc_mark]; rfl
  have CN := hide hcn0
  have HSZ := hide (show (w.alloc (.cells #[.slice a n c] 28)).heap.size = w.heap.size + 1 by simp)
  clear hcn0
  generalize w.alloc (.cells #[.slice a n c] 28) = w0 at *
  go_loopw [8] (fun iv wr => ∃ (i : Nat), iv = .int .i64 (i : Nat) ∧ i ≤ n ∧ Hid (Keep (fun _ => False) w0 wr ∧ ∀ m, m < i → ¬ Back (eg xs) m m)) (fun iv _ => n - (intOf iv).toNat)
  case atStart => exact ⟨0, rfl, Nat.zero_le _, Keep.refl _ _, fun m h => by omega⟩
  case round =>
    obtain ⟨i, rfl, hi, HD⟩ := hrel
    by_cases hlt : i < n
    · have hlit := lit64_eq
      obtain ⟨fv, hfv⟩ : ∃ fv, fv = Value.func (.func 109) #[] #[.pointer (some ⟨wr.heap.size, 0, none⟩), .pointer (some ⟨wr.heap.size + 1, 0, none⟩), .pointer (some ⟨wr.heap.size + 1 + 1, 0, none⟩), .pointer (some ⟨w.heap.size, 0, none⟩)] := ⟨_, rfl⟩
      obtain ⟨V, hV⟩ : ∃ V, V = ((wr.alloc (.cells #[.int .i64 (i : Int)] 3)).alloc (.cells #[.bool false, .bool false, .bool false, .bool false, .bool false, .bool false, .bool false, .bool false, .bool false, .bool false, .bool false, .bool false, .bool false, .bool false, .bool false, .bool false, .bool false, .bool false, .bool false, .bool false, .bool false, .bool false, .bool false, .bool false, .bool false, .bool false, .bool false, .bool false, .bool false, .bool false, .bool false, .bool false, .bool false, .bool false, .bool false, .bool false, .bool false, .bool false, .bool false, .bool false, .bool false, .bool false, .bool false, .bool false, .bool false, .bool false, .bool false, .bool false, .bool false, .bool false, .bool false, .bool false, .bool false, .bool false, .bool false, .bool false, .bool false, .bool false, .bool false, .bool false, .bool false, .bool false, .bool false, .bool false] 145)).alloc (.cells #[fv] 146) := ⟨_, rfl⟩
      have kV : Keep (fun _ => False) wr V := by rw [hV]; exact ((Keep.alloc _ _ _).more (Keep.alloc _ _ _)).more (Keep.alloc _ _ _)
      have b1 : V.heap[wr.heap.size]? = some (.cells #[.int .i64 (i : Int)] 3 (0, 0)) := by
        rw [hV]
        exact (Keep.alloc (fun _ => False) _ _).blk ((Keep.alloc (fun _ => False) _ _).blk (heap_alloc_new wr _) (fun f => f)) (fun f => f)
      have b2 : V.heap[wr.heap.size + 1]? = some (.cells none64 145 (0, 0)) := by
        rw [hV, hlit]
        refine (Keep.alloc (fun _ => False) _ _).blk ?_ (fun f => f)
        have := heap_alloc_new (wr.alloc (.cells #[.int .i64 (i : Int)] 3)) (.cells none64 145)
        rwa [World.size_alloc] at this
      have b3 : V.heap[wr.heap.size + 1 + 1]? = some (.cells #[fv] 146 (0, 0)) := by
        rw [hV]
        have := heap_alloc_new ((wr.alloc (.cells #[.int .i64 (i : Int)] 3)).alloc (.cells #[.bool false, .bool false, .bool false, .bool false, .bool false, .bool false, .bool false, .bool false, .bool false, .bool false, .bool false, .bool false, .bool false, .bool false, .bool false, .bool false, .bool false, .bool false, .bool false, .bool false, .bool false, .bool false, .bool false, .bool false, .bool false, .bool false, .bool false, .bool false, .bool false, .bool false, .bool false, .bool false, .bool false, .bool false, .bool false, .bool false, .bool false, .bool false, .bool false, .bool false, .bool false, .bool false, .bool false, .bool false, .bool false, .bool false, .bool false, .bool false, .bool false, .bool false, .bool false, .bool false, .bool false, .bool false, .bool false, .bool false, .bool false, .bool false, .bool false, .bool false, .bool false, .bool false, .bool false, .bool false] 145)) (.cells #[fv] 146)
        rwa [World.size_alloc, World.size_alloc] at this
      clear hlit
      have hle : w.heap.size + 1 ≤ wr.heap.size := by have := HSZ.out; have := HD.out.1.size; omega
      have kF : Keep (fun _ => False) w0 V := HD.out.1.more kV
      have E0 : CEnv B (a, n, c) xs wr.heap.size (wr.heap.size + 1) (wr.heap.size + 1 + 1) w.heap.size i V (fun _ => false) :=
        ⟨cell_blk b1 0 rfl, b2, by rw [← hfv]; exact cell_blk b3 0 rfl, kF.cell CN.out (fun f => f), (HP.out.new K0.out).new kF, by omega, by omega, by omega, by omega⟩
      have KR := hide kF
      have hsf := fun (w : World) (a : Addr) (m : Mode) (f : Fn) (x y : Array Value) => run_store Tryz.prog w a (.func f x y) m rfl
      have L := hide (leadsBack_any (B := B) (s := (a, n, c)) (Pf := wr.heap.size) (Ps := wr.heap.size + 1) (Pl := wr.heap.size + 1 + 1) (Pn := w.heap.size) (f := i) hv (cnt fun _ => false) i (fun _ => false) V (by have := HN.out; omega) rfl E0)
      have HS0 := hide (show w0.heap.size ≤ wr.heap.size from HD.out.1.size)
      have HV := hide hV
      have HF := hide hfv
      have hin : i < xs.length := by have := HN.out; omega
      clear E0 b1 b2 b3 kV kF hV hfv
      go_wp2_with fail
      go_at_call 109
      rw [← HF.out, ← HV.out]
      refine L.out.mono ?_
      rintro e w2 ⟨r, τ, rfl, hE, hS, k2⟩
      have HB := hide (hS.whole (fun x h => by cases h))
      have c1 := hE.cf
      have K2 : Hid (Keep (fun _ => False) w0 w2) := KR.out.trans k2 fun k e => .inr (by have := HS0.out; omega)
      clear hE hS k2 L HV
      cases r
      · have hnb := fun h => Bool.false_ne_true (HB.out.2 h)
        have HNB := hide hnb
        clear hnb
        go_wp2_with fail
        go_roundw
        · refine ⟨i + 1, rfl, by omega, K2.out, fun m hm => ?_⟩
          by_cases e : m = i
          · subst e; exact HNB.out
          · exact HD.out.2 m (by omega)
        · show n - ((i : Int) + 1).toNat < n - (i : Int).toNat
          omega
      · have HBB := hide (HB.out.1 rfl)
        go_wp2_with fail
        go_ret
        exact ⟨⟨i + 1, rfl, by omega, isCyc_some HD.out.2 HBB.out⟩, K0.out.more K2.out⟩
    · obtain rfl : i = n := by omega
      go_wp2_with fail
      go_ret
      exact ⟨⟨0, rfl, Nat.zero_le _, isCyc_none (n := i) (fun a ha => eg_out (by have := HN.out; omega)) HD.out.2⟩, K0.out.more HD.out.1⟩
end Gr
end Go.Proofs.YtbjcckfhfbjchaaGreat
