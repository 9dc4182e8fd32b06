/- Package source: lines that are written. -/
import Derived.Test.YtnhmmplheihojaaGreatDoorUShl
import Derived.Test.YtnhmmplheihojaaGreatDoorUNof
import Derived.Lib.ItoaNum
namespace Go.Proofs.YtnhmmplheihojaaGreatDoor
namespace U
open Go.RowKit

/-- the library's table that Itoa reads -/
def EnvI (w : World) : Prop := Lib.TabIs Tryz.prog w "internal/strconv.uint64pow10" .u64 Lib.pow10Tab
theorem globalTab : Tryz.prog.globalNamed "internal/strconv.uint64pow10" = some 1 := by kernel_rfl
theorem EnvI.blk {w w' : World} (h : EnvI w) (k : ∀ i o, w.heap[i]? = some o → i = 1 → w'.heap[i]? = some o) : EnvI w' := by
  unfold EnvI Lib.TabIs World.var? at h ⊢
  rw [globalTab] at h ⊢
  simp only [Option.bind_some] at h ⊢
  cases hg : w.heap[1]? with
  | none => rw [hg] at h; simp at h
  | some o =>
    rw [k _ o hg rfl]
    rw [hg] at h
    exact h
theorem EnvI.below {w w' : World} (h : EnvI w) (k : Below w.heap.size w w') : EnvI w' := h.blk fun i _ hi _ => (k.block i (Array.getElem?_eq_some_iff.1 hi).1).trans hi
theorem itoa_any (n : Int) (h0 : -9223372036854775808 ≤ n) (h1 : n ≤ 9223372036854775807) (w : World) (h : EnvI w) :
    Calls Tryz.prog 38 #[.int .i64 n] w fun e w' => e = .returned (.string (ba (Lib.itoa n))) ∧ Below w.heap.size w w' := by
  refine (Tryz.strconv_Itoa n h0 h1 w h).mono ?_
  rintro e w' ⟨rfl, k, os, rfl⟩
  refine ⟨rfl, ⟨rfl, rfl, rfl, by simp [Sort.grow, World.drewN], fun i hi => ?_⟩⟩
  rw [Sort.heap_grow_old _ _ (by simpa [World.drewN] using hi)]
  rfl
theorem ba_map (ws : List (List UInt8)) : (ws.map ba).map (·.data.toList) = ws := by
  induction ws with
  | nil => rfl
  | cons x r ih => simp only [List.map_cons, ih, ba_data]
/-- a line -/
def lineT (ws : List (List UInt8)) : List UInt8 := Lib.join ws [32] ++ [10]
theorem join_len : ∀ (ws : List (List UInt8)), (Lib.join ws [32]).length ≤ (ws.map (·.length)).sum + ws.length
  | [] => by simp [Lib.join_nil]
  | x :: r => by
    rw [Lib.join_cons]
    have : ∀ r : List (List UInt8), (Lib.joinTail [32] r).length = (r.map (·.length)).sum + r.length := by
      intro r
      induction r with
      | nil => rfl
      | cons y r ih => unfold Lib.joinTail at ih ⊢; simp only [List.map_cons, List.flatten_cons, List.length_append, List.length_cons, List.length_nil, List.sum_cons] at ih ⊢; omega
    simp only [List.length_append, List.map_cons, List.sum_cons, List.length_cons, this]
    omega
set_option maxHeartbeats 1000000 in
theorem writeLine_any (b : Nat) (l : List UInt8) (a : Option Addr) (ws : List (List UInt8)) (c : Nat) (w : World) (hb : Bd w b l) (hr : RdS w a ws) (hne : ws ≠ []) (hc : ws.length ≤ c) (hs : (ws.map (·.length)).sum + ws.length ≤ 1000000000) (hl : l.length ≤ 1000000000) :
    Calls Tryz.prog 37 #[.pointer (some ⟨b, 0, none⟩), .slice a ws.length c] w fun e w' => e = .returned (.tuple #[]) ∧ Bd w' b (l ++ lineT ws) ∧ Below b w w' ∧ Oth b w w' := by
  obtain ⟨g, off, rfl, hg, hcell⟩ := hr.resolve_left hne
  have hj := join_len ws
  have e1 : (ws.map ba).map (·.data.toList) = ws := ba_map ws
  have hgl : g < w.heap.size := by obtain ⟨cs, h⟩ := hg; exact (Array.getElem?_eq_some_iff.1 h).1
  have J := hide (Tryz.strings_Join g off c (ws.map ba) ⟨#[32]⟩ w (fun j x hx => by
    rw [List.getElem?_map] at hx
    obtain ⟨y, hy, rfl⟩ := Option.map_eq_some_iff.1 hx
    exact hcell j y hy) hgl (by simp; omega) (by simpa using hc) (by rw [e1]; exact Nat.le_trans hj (by omega)))
  rw [e1, List.length_map] at J
  have HB := hide hb
  have hbl := hb.lt
  have e3 : l ++ lineT ws = (l ++ Lib.join ws [32]) ++ [10] := by unfold lineT; simp
  rw [e3]
  have e4 : (⟨#[32]⟩ : ByteArray).data.toList = [32] := rfl
  rw [e4] at J
  generalize hjj : Lib.join ws [32] = js at *
  have W1 := hide (fun w h => writeString b l (ba js) w h (by rw [ba_size]; omega))
  have W2 := hide (fun w h => writeByte b (l ++ js) 10 w h (by simp; omega))
  rw [ba_data] at W1
  have J2 : Hid (Calls Tryz.prog 64 #[.slice (some ⟨g, off, none⟩) ws.length c, .string ⟨#[32]⟩] w fun e w' => e = .returned (.string (ba js)) ∧ Below w.heap.size w w') := J.out
  clear hcell hg e1 J hb hr e3 e4 hjj hj
  go_enter Tryz.func37, Tryz.ntmps37
  go_wp2_with fail
  go_at_call 64
  refine J2.out.mono ?_
  rintro e w1 ⟨rfl, b1⟩
  have HB1 := hide (HB.out.keep b1)
  have BL1 := hide (b1.mono (Nat.le_of_lt hbl))
  have OT1 := hide (Oth.below (b := b) b1)
  clear b1 HB J2
  go_wp2_with fail
  go_at_call 63
  refine (W1.out _ HB1.out).mono ?_
  rintro e w2 ⟨rfl, hb2, bl2, ot2⟩
  have HB2 := hide hb2
  have BL2 := hide (BL1.out.trans bl2)
  have OT2 := hide (OT1.out.trans ot2)
  clear hb2 bl2 ot2 HB1 BL1 OT1 W1
  go_wp2_with fail
  go_at_call 65
  refine (W2.out _ HB2.out).mono ?_
  rintro e w3 ⟨rfl, hb3, bl3, ot3⟩
  go_wp2_with fail
  go_end0
  exact ⟨rfl, hb3, BL2.out.trans bl3, OT2.out.trans ot3⟩
end U
end Go.Proofs.YtnhmmplheihojaaGreatDoor
