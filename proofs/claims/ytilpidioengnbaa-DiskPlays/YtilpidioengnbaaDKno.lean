/- The laws' known. -/
import Derived.Test.YtilpidioengnbaaDSee
import Derived.Laws.BytesArg
namespace Go.Proofs.Ytilpidioengnbaa
open Go.RowKit Go.Lib

/-- bytes as a string -/
def str (l : List Nat) : ByteArray := strOfNums (l.map fun (d : Nat) => (d : Int))

theorem conv_rd {w : World} {a : Option Addr} {n : Nat} {l : List Nat} (h : Rd w a n l) (c : Nat) : (convert 33 9 (.slice a n c)).run Try.prog w = .ok (.string (str l)) w := by
  obtain ⟨hl, _, _, hrow⟩ := h
  rcases hrow with h0 | ⟨b, off, rfl, hrow⟩
  · have hnil : l = [] := List.length_eq_zero_iff.1 (by omega)
    subst h0 hnil
    cases a with
    | none => exact run_convert_bytes_nil w 33 5 Try.underlying33 Try.underlying5 0 c 9 Try.underlying9
    | some y =>
      have hl : (loadCells y 0).run Try.prog w = .ok (([] : List Int).map (Value.int .u8)).toArray w := by simpa using run_loadCells_list (P := Try.prog) w y [] (by simp)
      rw [run_convert_bytes_string w 33 9 5 _ 0 c Try.underlying33 Try.underlying5 Try.underlying9, run_bytesToString w _ 0 c [] hl]
      rfl
  · exact run_convert_bytes_arg w 33 5 Try.underlying33 Try.underlying5 b off n c (l.map fun (d : Nat) => (d : Int)) (by simp [hl]) (fun i hi => by
      rw [hrow i hi]
      congr 2
      rw [List.getD_eq_getElem?_getD, List.getD_eq_getElem?_getD, List.getElem?_map, List.getElem?_eq_getElem (show i < l.length by omega)]
      rfl) 9 Try.underlying9

def k1 : St := ⟨200, 64, upd (fun _ => none) 5 (some []), fun _ => none, none, false⟩
def k2 : St := ⟨200, 67, upd (upd (fun _ => none) 5 (some [])) 5 (some ([] ++ [1, 2, 3])), fun _ => none, none, false⟩
def k3 : St := { k2 with left := some 0 }
def k4 : St := { k3 with down := true }
theorem k_create : (St.new 200).create 5 = (0, k1) := rfl
theorem k_append : k1.append 5 [1, 2, 3] = (0, k2) := rfl
theorem k_arm : k2.arm 0 = (0, k3) := rfl
theorem k_sync : k3.sync = (56, k4) := rfl
theorem g1 : Good 1 k1 := by have := (Good.new (c := 200) (by decide)).create 5; rw [k_create] at this; exact this
theorem g2 : Good 2 k2 := by have := g1.append 5 [1, 2, 3]; rw [k_append] at this; exact this
theorem g3 : Good 3 k3 := by have := g2.arm (c := 0) (by decide); rw [k_arm] at this; exact this
theorem g4 : Good 4 k4 := by have := g3.sync; rw [k_sync] at this; exact this

theorem only {ks : List Int} {x : Int} (h1 : ks.Pairwise (· < ·)) (h2 : ∀ k, k ∈ ks ↔ k = x) : ks = [x] := by
  cases ks with
  | nil => exact absurd ((h2 x).2 rfl) (by simp)
  | cons a r =>
    have ea := (h2 a).1 (by simp)
    subst ea
    cases r with
    | nil => rfl
    | cons b r =>
      have eb := (h2 b).1 (by simp)
      rw [List.pairwise_cons] at h1
      have := h1.1 b (by simp)
      omega

theorem k_crash {t : St} (h : Crash k4 [3] t) : t.there = upd (fun _ => none) 5 (some [1, 2]) := by
  obtain ⟨os, h1, h2, h3⟩ := h.ex
  have hop : ∀ k, k4.there k ≠ k4.safe k ↔ k = 5 := fun k => by
    show upd (upd (fun _ => none) 5 (some [])) 5 (some [1, 2, 3]) k ≠ none ↔ _
    by_cases e : k = 5
    · subst e; rw [upd_same]; simp
    · rw [upd_other _ _ e, upd_other _ _ e]; simp [e]
  have ho := only h1 (x := 5) fun k => (h2 k).trans (hop k)
  subst ho
  funext k
  rw [h3]
  by_cases e : k = 5
  · subst e; rw [upd_same]; rfl
  · rw [upd_other _ _ e]
    have : k4.there k = none := by
      show upd (upd (fun _ => none) 5 (some [])) 5 (some [1, 2, 3]) k = none
      rw [upd_other _ _ e, upd_other _ _ e]
    rw [this]
    show (if _ then none else none) = none
    split <;> rfl

theorem lit3 {w W : World} (hW : W = w.alloc (.cells #[.int .u8 1, .int .u8 2, .int .u8 3] 5)) : Rd W (some ⟨w.heap.size, 0, none⟩) 3 [1, 2, 3] := by
  have hb : W.heap[w.heap.size]? = some (.cells #[.int .u8 1, .int .u8 2, .int .u8 3] 5 (0, 0)) := by rw [hW]; exact heap_alloc_new w _
  refine ⟨rfl, by decide, (fun d hd => by simp at hd; omega), .inr ⟨w.heap.size, 0, rfl, fun i hi => ?_⟩⟩
  rw [Nat.zero_add]
  refine cell_blk hb i ?_
  match i, hi with
  | 0, _ => rfl
  | 1, _ => rfl
  | 2, _ => rfl

set_option maxRecDepth 100000 in
set_option maxHeartbeats 4000000 in
theorem known_any (w : World) : Calls Try.prog 4 #[] w fun e w' => e = .returned (.bool true) ∧ Keep (fun _ => False) w w' := by
  have HN := hide (new_any 200 w)
  go_enter Try.func4, Try.ntmps4
  go_wp2_with (first
    | (go_at_call 21
       refine HN.out.mono ?_
       rintro e w1 ⟨hk, h⟩
       obtain ⟨_, _, p, rfl, hd⟩ : (0 : Int) ≤ 200 ∧ (200 : Int) ≤ 67108864 ∧ ∃ p, e = .returned (.tuple #[.pointer (some ⟨p, 0, none⟩), .int .i64 0]) ∧ DAt (fun i => w.heap.size ≤ i) w1 p (St.new 200) := by
         rcases h with ⟨h, _⟩ | h
         · omega
         · exact h
       have HK1 := hide hk
       have HC := hide (create_any _ w1 p (St.new 200) 5 hd ((Good.new (c := 200) (by decide)).ok (by decide)) (by decide) (by decide) (fun i hi => Nat.le_trans hk.size hi))
       rw [k_create] at HC
       clear h hd hk)
    | (go_at_call 22
       refine HC.out.mono ?_
       rintro e w2 ⟨rfl, hd, hk⟩
       have HK2 := hide hk
       have hsz2 := Nat.le_trans HK1.out.size hk.size
       obtain ⟨W2, hW2⟩ : ∃ W2, W2 = w2.alloc (.cells #[.int .u8 1, .int .u8 2, .int .u8 3] 5) := ⟨_, rfl⟩
       have kW : Keep (fun _ => False) w2 W2 := by rw [hW2]; exact Keep.alloc _ _ _
       have HKW := hide kW
       have hzW : W2.heap.size = w2.heap.size + 1 := by rw [hW2, alloc_size]
       have HA := hide (append_any _ W2 p k1 5 (some ⟨w2.heap.size, 0, none⟩) 3 3 [1, 2, 3] (hd.part kW) (g1.ok (by decide)) (by decide) (by decide) (fun i hi => ⟨by omega, .inr hi⟩) (lit3 hW2) (fun g off e _ e' => by injection e with e; injection e with e _; have := e'.2; omega))
       have HW2 := hide hW2
       rw [k_append] at HA
       rw [hW2] at HA
       clear hd hk hsz2 hW2 kW hzW)
    | (go_at_call 23
       refine HA.out.mono ?_
       rintro e w3 ⟨rfl, hd, hk⟩
       rw [← HW2.out] at hd hk
       have HK3 := hide hk
       have HRm : Hid (Calls Try.prog 24 #[.pointer (some ⟨p, 0, none⟩)] w3 fun e w' => e = .returned (.tuple #[.int .i64 133, .int .i64 0]) ∧ ∃ n, w' = w3.drewN n) := Room_any _ w3 p k2 hd (g2.ok (by decide))
       have HD3 := hide hd
       clear hd hk)
    | (go_at_call 24
       refine HRm.out.mono ?_
       rintro e w4 ⟨rfl, n4, hw4⟩
       have k4 : Keep (fun _ => False) w3 w4 := by rw [hw4]; exact ⟨rfl, rfl, rfl, Nat.le_refl _, fun _ _ _ => rfl⟩
       have HK4 := hide k4
       have HAr := hide (Arm_any _ w4 p k2 0 (HD3.out.stay k4 fun _ _ _ f => f))
       rw [k_arm] at HAr
       clear k4 hw4)
    | (go_at_call 25
       refine HAr.out.mono ?_
       rintro e w5 ⟨rfl, hd, hk⟩
       have HSp := hide (HD3.out.sp)
       have HK5 := hide hk
       have HSy := hide (sync_any _ w5 p k3 hd (g3.ok (by decide)))
       rw [k_sync] at HSy
       clear hd hk)
    | (go_at_call 26
       refine HSy.out.mono ?_
       rintro e w6 ⟨rfl, hd, hk⟩
       have HK6 := hide hk
       have HDn : Hid (Calls Try.prog 15 #[.pointer (some ⟨p, 0, none⟩)] w6 fun e w' => e = .returned (.bool true) ∧ w' = w6) := down_any _ w6 p k4 hd
       obtain ⟨W6, hW6⟩ : ∃ W6, W6 = w6.alloc (.cells #[.int .i64 3] 3) := ⟨_, rfl⟩
       have kW : Keep (fun _ => False) w6 W6 := by rw [hW6]; exact Keep.alloc _ _ _
       have HKW6 := hide kW
       have hzW : W6.heap.size = w6.heap.size + 1 := by rw [hW6, alloc_size]
       have hb6 : W6.heap[w6.heap.size]? = some (.cells #[.int .i64 3] 3 (0, 0)) := by rw [hW6]; exact heap_alloc_new w6 _
       have hrz : Rz W6 (some ⟨w6.heap.size, 0, none⟩) 1 [3] := ⟨rfl, by decide, (fun x hx => by simp at hx; omega), .inr ⟨w6.heap.size, 0, rfl, fun i hi => by
         obtain rfl : i = 0 := by omega
         exact cell_blk hb6 0 rfl⟩⟩
       have HCr := hide (crash_any _ W6 p k4 (some ⟨w6.heap.size, 0, none⟩) 1 1 [3] (hd.part kW) (g4.ok (by decide)) (by rw [tot_away]; exact g4.bud.held (by decide)) hrz (fun g off e _ e' => by injection e with e; injection e with e _; have := e'.2; omega))
       have HW6 := hide hW6
       rw [hW6] at HCr
       clear hd hk hW6 kW hzW hb6 hrz)
    | (go_at_call 15
       refine HDn.out.mono ?_
       rintro e w7 ⟨rfl, rfl⟩)
    | (go_at_call 19
       refine HCr.out.mono ?_
       rintro e w8 ⟨rfl, t, hct, hd, hk⟩
       rw [← HW6.out] at hd hk
       have HK8 := hide hk
       have hth := k_crash hct
       have HTh := hide hth
       have ht5 : t.there 5 = some [1, 2] := by rw [hth, upd_same]
       have hgt := (g4.crash hct).ok (by decide)
       have HGt := hide hgt
       have HD8 := hide hd
       have HDw := hide hct.down
       have HRd : Hid (Calls Try.prog 27 #[.pointer (some ⟨p, 0, none⟩), .int .i64 5] w8 fun e w' => ∃ ba bc, e = .returned (.tuple #[.slice ba 2 bc, .int .i64 0]) ∧ Rd w' ba 2 [1, 2] ∧ Keep (fun _ => False) w8 w') := (read_any _ w8 p t 5 hd hgt (by decide) (by decide)).mono fun e w' ⟨v, e1, hr, hk, _⟩ => by
         rw [St.find, if_neg (by rw [HDw.out]; decide), if_neg (by rw [ht5]; simp)] at e1
         rw [if_neg (by rw [HDw.out]; decide), St.bytes, ht5, Option.getD_some] at hr
         obtain ⟨ba, bc, hv, hrd, _⟩ := hr.rd (by decide)
         subst hv
         exact ⟨ba, bc, e1, hrd, hk⟩
       clear hd hk hct hth ht5 hgt)
    | (go_at_call 27
       refine HRd.out.mono ?_
       rintro e w9 ⟨ba, bc, rfl, hrd, hk⟩
       have HK9 := hide hk
       have HRb := hide hrd
       have HLi : Hid (Calls Try.prog 28 #[.pointer (some ⟨p, 0, none⟩)] w9 fun e w' => ∃ g c, e = .returned (.tuple #[.slice (some ⟨g, 0, none⟩) 1 c, .int .i64 0]) ∧ w'.cell? ⟨g, 0, none⟩ = some (.int .i64 5) ∧ Keep (fun _ => False) w9 w') := (list_any _ w9 p t (HD8.out.stay hk fun _ _ _ f => f) HGt.out).mono fun e w' ⟨v, ks, e1, h1, h2, ho, hk⟩ => by
         have hks : ks = [5] := only h1 fun k => by
           rw [h2 k, HDw.out, HTh.out]
           by_cases e : k = 5
           · subst e; rw [upd_same]; simp
           · rw [upd_other _ _ e]; simp [e]
         subst hks
         rw [HDw.out] at e1
         obtain ⟨av, cv, hv⟩ := ownsRow_shape ho
         subst hv
         obtain ⟨g, rfl, _, hc⟩ := ownsRow_ints ho 0 (by decide)
         exact ⟨g, cv, e1, hc, hk⟩
       clear hrd hk)
    | (go_at_call 28
       refine HLi.out.mono ?_
       rintro e w10 ⟨lg, lc, rfl, hcell, hk⟩
       have HK10 := hide hk
       have hcv := conv_rd (HRb.out.stay (S := fun _ => False) hk fun _ _ _ f => f) bc
       rw [show str [1, 2] = ⟨#[1, 2]⟩ from rfl] at hcv
       clear hk))
  go_ret
  refine ⟨rfl, ?_⟩
  have f1 := HKW.out.size
  have f2 := HK2.out.size
  have f3 := HK1.out.size
  have f4 := HSp.out
  exact ((((((((((HK1.out.trans HK2.out fun i e => .inr e).more HKW.out).trans HK3.out fun i e => .inr e.1).more HK4.out).trans HK5.out fun i e => .inr (by rw [e]; exact f4.1)).trans HK6.out fun i e => .inr e.1).more HKW6.out).trans HK8.out fun i e => .inr e.1.1).more HK9.out).more HK10.out)

end Go.Proofs.Ytilpidioengnbaa
