/- The laws' pair, awake. -/
import Derived.Test.YtiackejbpcjmeaaRNew
import Derived.Lib.SlBytesConst
namespace Go.Proofs.Ytiackejbpcjmeaa
namespace Rn
open Go.RowKit Gr

def sA : ByteArray := ⟨#[97]⟩
def sB : ByteArray := ⟨#[98]⟩
def sP : ByteArray := ⟨#[112]⟩
def ndA : Nd := ⟨sA, 0, 2, 10, 0, 4, 8, 0, (none, 0, 0), (none, 0, 0)⟩
def ndB (g : Nat) : Nd := ⟨sB, 0, 2, 10, 0, 4, 8, 0, (some ⟨g, 0, none⟩, 1, 1), (none, 0, 0)⟩
def xsP (g : Nat) : List No := [⟨ndA, [], []⟩, ⟨ndB g, [0], []⟩]
theorem alloc5 (w : World) (a b c d e : Obj) : (((((w.alloc a).alloc b).alloc c).alloc d).alloc e).heap[w.heap.size]? = some a ∧ (((((w.alloc a).alloc b).alloc c).alloc d).alloc e).heap[w.heap.size + 1 + 1 + 1]? = some d ∧ (((((w.alloc a).alloc b).alloc c).alloc d).alloc e).heap[w.heap.size + 1 + 1 + 1 + 1]? = some e ∧ Keep (fun _ => False) w (((((w.alloc a).alloc b).alloc c).alloc d).alloc e) := by
  have k := fun (w : World) o => Keep.alloc (fun _ => False) w o
  have z1 : (w.alloc a).heap.size = w.heap.size + 1 := by simp
  have z2 : ((w.alloc a).alloc b).heap.size = w.heap.size + 1 + 1 := by simp
  have z3 : (((w.alloc a).alloc b).alloc c).heap.size = w.heap.size + 1 + 1 + 1 := by simp
  have z4 : ((((w.alloc a).alloc b).alloc c).alloc d).heap.size = w.heap.size + 1 + 1 + 1 + 1 := by simp
  have hd := heap_alloc_new (((w.alloc a).alloc b).alloc c) d
  have he := heap_alloc_new ((((w.alloc a).alloc b).alloc c).alloc d) e
  rw [z3] at hd
  rw [z4] at he
  exact ⟨(k _ e).blk ((k _ d).blk ((k _ c).blk ((k _ b).blk (heap_alloc_new w a) (fun f => f)) (fun f => f)) (fun f => f)) (fun f => f), (k _ e).blk hd (fun f => f), he, ((((k w a).more (k _ b)).more (k _ c)).more (k _ d)).more (k _ e)⟩
theorem info_planA : (Try.prog.info? 24).map (·.size) = some 3 := info_plan
set_option maxRecDepth 100000 in
set_option maxHeartbeats 2000000 in
theorem pair_any (w : World) :
    Calls Try.prog 18 #[] w fun e w' => ∃ g h, e = .returned (.agg #[.string sP, .int .i64 100, .slice (some ⟨g, 0, none⟩) 2 2]) ∧ w'.heap[g]? = some (.cells ((ndA.row ++ (ndB h).row).toArray) 36 (0, 0)) ∧ w'.heap[h]? = some (.cells #[.int .i64 0] 3 (0, 0)) ∧ Keep (fun _ => False) w w' := by
  go_enter Try.func18, Try.ntmps18
  go_wp2_with fail
  obtain ⟨h1, h2, h3, h4⟩ := alloc5 w (.cells #[.string sP, .int .i64 100, .slice (some ⟨w.heap.size + 1 + 1 + 1 + 1, 0, none⟩) 2 2] 24) (.cells #[.string sA, .int .i64 0, .int .i64 2, .int .i64 10, .int .i64 0, .int .i64 4, .int .i64 8, .int .i64 0, .slice none 0 0, .slice none 0 0] 36) (.cells #[.string sB, .int .i64 0, .int .i64 2, .int .i64 10, .int .i64 0, .int .i64 4, .int .i64 8, .int .i64 0, .slice (some ⟨w.heap.size + 1 + 1 + 1, 0, none⟩) 1 1, .slice none 0 0] 36) (.cells #[.int .i64 0] 3) (.cells ((ndA.row ++ (ndB (w.heap.size + 1 + 1 + 1)).row).toArray) 36)
  exact bodyPost_ret (res_plan rfl _ _ w.heap.size _ _ _ rfl h1) rfl ⟨_, _, rfl, h3, h2, h4⟩
/-- the plan of a, and b that needs it, in memory -/
theorem pair_rd {w : World} {g h : Nat} (hg : w.heap[g]? = some (.cells ((ndA.row ++ (ndB h).row).toArray) 36 (0, 0))) (hh : w.heap[h]? = some (.cells #[.int .i64 0] 3 (0, 0))) : RdP w.heap.size w (some ⟨g, 0, none⟩, 2, 2) (xsP h) := by
  refine ⟨rfl, (by decide : (2 : Nat) ≤ 1172812402926), .inr ⟨g, 0, rfl, (Array.getElem?_eq_some_iff.1 hg).1, fun i x hx j u hu => ?_⟩, fun x hx => ?_⟩
  · have hi : i < 2 := (List.getElem?_eq_some_iff.1 hx).1
    have hj : j < 10 := (List.getElem?_eq_some_iff.1 hu).1
    rw [Nat.zero_add]
    refine cell_blk hg _ ?_
    have h2 : i = 0 ∨ i = 1 := by omega
    rcases h2 with rfl | rfl
    · obtain rfl : x = ⟨ndA, [], []⟩ := (Option.some.inj hx).symm
      rw [Nat.zero_mul, Nat.zero_add, List.getElem?_toArray, List.getElem?_append_left (by exact hj)]
      exact hu
    · obtain rfl : x = ⟨ndB h, [0], []⟩ := (Option.some.inj hx).symm
      rw [List.getElem?_toArray, List.getElem?_append_right (by show 10 ≤ _; omega)]
      have : 1 * 10 + j - ndA.row.length = j := by show 1 * 10 + j - 10 = j; omega
      rw [this]
      exact hu
  · have h2 : x = ⟨ndA, [], []⟩ ∨ x = ⟨ndB h, [0], []⟩ := by simpa [xsP] using hx
    rcases h2 with rfl | rfl
    · exact ⟨⟨rfl, Nat.zero_le _, .inl rfl⟩, ⟨rfl, Nat.zero_le _, .inl rfl⟩⟩
    · refine ⟨⟨rfl, (by decide : (1 : Nat) ≤ 17592186044416), .inr ⟨h, 0, rfl, (Array.getElem?_eq_some_iff.1 hh).1, fun j x hj => ?_⟩⟩, ⟨rfl, Nat.zero_le _, .inl rfl⟩⟩
      have hj0 : j = 0 := by have := (List.getElem?_eq_some_iff.1 hj).1; simpa using this
      subst hj0
      obtain rfl : (0 : Int) = x := by simpa using hj
      exact cell_blk hh 0 rfl
theorem pair_cap (h : Nat) : CapP (xsP h) := fun x hx => by
  have h2 : x = ⟨ndA, [], []⟩ ∨ x = ⟨ndB h, [0], []⟩ := by simpa [xsP] using hx
  rcases h2 with rfl | rfl
  · exact ⟨fun _ => rfl, fun _ => rfl⟩
  · exact ⟨fun e => (by cases e), fun _ => rfl⟩
theorem pair_sz (h : Nat) : Sz sP (xsP h) := ⟨by decide, fun x hx => by
  have h2 : x = ⟨ndA, [], []⟩ ∨ x = ⟨ndB h, [0], []⟩ := by simpa [xsP] using hx
  rcases h2 with rfl | rfl <;> exact (by decide : (1 : Nat) ≤ 9223372036854775807)⟩
theorem pair_len (h : Nat) : ∀ x ∈ xsP h, x.nl.length ≤ 20000 ∧ x.al.length ≤ 20000 := fun x hx => by
  have h2 : x = ⟨ndA, [], []⟩ ∨ x = ⟨ndB h, [0], []⟩ := by simpa [xsP] using hx
  rcases h2 with rfl | rfl
  · exact ⟨Nat.zero_le _, Nat.zero_le _⟩
  · exact ⟨(by decide : (1 : Nat) ≤ 20000), Nat.zero_le _⟩
theorem pair_nx (h : Nat) : (xsP h).map nx = [⟨2, [], []⟩, ⟨2, [0], []⟩] := rfl
theorem pair_eg (h : Nat) : ∀ a, eg (xsP h) a = if a = 1 then [0] else []
  | 0 => rfl
  | 1 => rfl
  | a + 2 => by unfold eg xsP; simp
theorem pair_cyc (h : Nat) : cyc (xsP h) = 0 := by
  refine cyc_eq (.inl ⟨rfl, fun x hx => ?_⟩)
  have key : ∀ a b, Waits (eg (xsP h)) a b → a = 1 ∧ b = 0 := by
    intro a b hw
    obtain ⟨k, hk⟩ := hw
    cases k with
    | zero =>
      have : b ∈ eg (xsP h) a := hk
      rw [pair_eg] at this
      split at this
      · rename_i e; exact ⟨e, by simpa using this⟩
      · cases this
    | succ k =>
      obtain ⟨y, hy, hr⟩ := hk
      rw [pair_eg] at hy
      split at hy
      · have hy0 : y = 0 := by simpa using hy
        subst hy0
        cases k with
        | zero =>
          have : b ∈ eg (xsP h) 0 := hr
          rw [pair_eg] at this
          cases this
        | succ k =>
          obtain ⟨z, hz, _⟩ := hr
          rw [pair_eg] at hz
          cases hz
      · cases hy
  obtain ⟨e1, e2⟩ := key x x hx
  omega
theorem pair_cW (h : Nat) : cW sP 100 (xsP h) = 0 := by kernel_rfl
theorem pair_cN (h : Nat) : (cN (xsP h).length 0 [] (xsP h)).2 = 0 := by kernel_rfl
theorem pair_chk (h : Nat) : (chk sP 100 (xsP h)).2 = 0 := by
  unfold chk
  rw [pair_cW, pair_cN, pair_cyc]
  rfl
theorem pair_new : newR [⟨2, [], []⟩, ⟨2, [0], []⟩] = (([], [0]), ⟨1, [⟨2, 0, []⟩, ⟨1, 0, []⟩]⟩) := by kernel_rfl
theorem pair_lease : leaseR ⟨1, [⟨2, 0, []⟩, ⟨1, 0, []⟩]⟩ 0 = ((1, 0), ⟨1, [⟨3, 1, []⟩, ⟨1, 0, []⟩]⟩) := by kernel_rfl
theorem pair_fin : finishR [⟨2, [], []⟩, ⟨2, [0], []⟩] ⟨1, [⟨3, 1, []⟩, ⟨1, 0, []⟩]⟩ 0 [120] = ((⟨[], [], [1], 1⟩, 0), ⟨1, [⟨5, 1, [120]⟩, ⟨2, 0, []⟩]⟩) := by kernel_rfl
/-- a list of one number, told -/
theorem one_at {T : Nat → Prop} {w : World} {s : Option Addr × Nat × Nat} {x : Nat} (h : LsX T w s [x]) : s.2.1 = 1 ∧ ∃ g off, s.1 = some ⟨g, off, none⟩ ∧ w.cell? ⟨g, off, none⟩ = some (.int .i64 (x : Int)) := by
  have h1 : s.2.1 = 1 := h.1.1
  obtain ⟨g, off, y, e, _, hy, hc⟩ := h.1.at (i := 0) (by omega)
  obtain rfl : (x : Int) = y := by simpa using hy
  exact ⟨h1, g, off, e, hc⟩
theorem rd_one (w : World) : Rd (w.alloc (.cells #[.int .u8 120] 5 (1, 2))) (some ⟨w.heap.size, 0, none⟩) 1 [120] := by
  refine ⟨rfl, by decide, (fun d hd => by simp at hd; omega), .inr ⟨w.heap.size, 0, rfl, fun i hi => ?_⟩⟩
  obtain rfl : i = 0 := by omega
  have hb := heap_alloc_new w (.cells #[.int .u8 120] 5 (1, 2))
  rw [World.cell?, hb]
  rfl

set_option maxRecDepth 100000 in
set_option maxHeartbeats 4000000 in
theorem awake_any (w : World) : Calls Try.prog 5 #[] w fun e w' => e = .returned (.bool true) ∧ Below w.heap.size w w' := by
  go_enter Try.func5, Try.ntmps5
  go_wp2_with fail
  go_at_call 18
  refine (pair_any w).mono ?_
  rintro e w1 ⟨g, h, rfl, hg, hh, k1⟩
  have K1 := hide (k1.below (B := w.heap.size) (Nat.le_refl _) fun _ f => f.elim)
  have N := hide (new_any sP 100 (some ⟨g, 0, none⟩, 2, 2) (xsP h) w1 (pair_rd hg hh) (pair_cap h) (pair_sz h) (pair_len h))
  clear hg hh k1
  go_wp2_with fail
  go_at_call 10
  refine N.out.mono ?_
  rintro e w2 ⟨hb2, hE⟩
  have hE2 := hE.resolve_left (fun hc => hc.1 (pair_chk h))
  obtain ⟨_, P, G, s, ys, v, rfl, hPs, hGs, hye, hch, hR⟩ := hE2
  rw [pair_nx, pair_new] at hch hR
  obtain ⟨d, sk, r, rfl, _, _, lr⟩ := hch
  have hmx : ys.map nx = [⟨2, [], []⟩, ⟨2, [0], []⟩] := (map_nx hye).trans (pair_nx h)
  obtain ⟨r1, g1, off1, r2, r3⟩ := one_at lr
  have K2 := hide (K1.out.trans (hb2.mono K1.out.size))
  have HR := hide hR
  have HMX := hide hmx
  obtain ⟨ra, rn, rc⟩ := r
  simp only at r1 r2
  subst r1 r2
  clear hE lr hmx hye N hR hb2
  -- the change's box
  have k3 := Keep.alloc (fun _ => False) w2 (.cells #[.slice d.1 d.2.1 d.2.2, .slice sk.1 sk.2.1 sk.2.2, .slice (some ⟨g1, off1, none⟩) 1 rc, .int .i64 1] 45)
  have b3 := heap_alloc_new w2 (.cells #[.slice d.1 d.2.1 d.2.2, .slice sk.1 sk.2.1 sk.2.2, .slice (some ⟨g1, off1, none⟩) 1 rc, .int .i64 1] 45)
  have HR3 := hide (HR.out.new k3)
  have r3' := k3.cell r3 (fun f => f)
  have c2 := cell_blk b3 2 (v := .slice (some ⟨g1, off1, none⟩) 1 rc) rfl
  have K3 := hide (K2.out.trans ((k3.below (B := w2.heap.size) (Nat.le_refl _) fun _ f => f.elim).mono K2.out.size))
  clear k3 b3 HR r3
  go_upto_region 4 with fail
  generalize w2.alloc (.cells #[.slice d.1 d.2.1 d.2.2, .slice sk.1 sk.2.1 sk.2.2, .slice (some ⟨g1, off1, none⟩) 1 rc, .int .i64 1] 45) = w3 at *
  have LE := hide (lease_any HR3.out 0 (fun p hp => by
    have h2 : p = ⟨2, 0, []⟩ ∨ p = ⟨1, 0, []⟩ := by simpa using hp
    rcases h2 with rfl | rfl <;> exact ⟨by decide, by decide⟩))
  rw [pair_lease] at LE
  simp only at LE
  have HPG : Hid (w.heap.size ≤ P ∧ w.heap.size ≤ G) := by have := K1.out.size; exact ⟨by omega, by omega⟩
  clear c2 r3' K2
  go_wp2_with fail
  go_at_call 19
  refine LE.out.mono ?_
  rintro e w4 ⟨rfl, hR4, k4⟩
  have HR4 := hide hR4
  have K4 := hide (K3.out.trans ((k4.below (B := w.heap.size) K3.out.size (fun i hi => by have := HPG.out; omega))))
  clear LE hR4 k4 HR3
  go_upto_region 5 with fail
  have k5 := Keep.alloc (fun _ => False) w4 (.cells #[.int .u8 120] 5 (1, 2))
  have kc := Lib.run_convert_bytes_const (P := Try.prog) w4 38 5 #[.int .u8 120] 1 1 Try.underlying38 Try.underlying5
  have HRD := hide (rd_one w4)
  have HR5 := hide (HR4.out.new k5)
  have hPl : P < w4.heap.size := by obtain ⟨cs, hg⟩ := HR4.out.blk; exact (Array.getElem?_eq_some_iff.1 hg).1
  have hGl : G < w4.heap.size := by obtain ⟨cs, hg⟩ := HR4.out.prt; exact (Array.getElem?_eq_some_iff.1 hg).1
  have FI := hide (finish_any HR5.out (fun k hk => by have := k5.size; rcases hk with e | e <;> omega) 0 (some ⟨w4.heap.size, 0, none⟩) 1 1 [120] HRD.out (fun e => by cases e) (by decide))
  rw [HMX.out, pair_fin] at FI
  have K5 := hide (K4.out.trans ((k5.below (B := w4.heap.size) (Nat.le_refl _) fun _ f => f.elim).mono K4.out.size))
  clear k5 HRD HR4 hPl hGl
  go_wp2_with fail
  go_at_call 20
  refine FI.out.mono ?_
  rintro e w6 ⟨v6, rfl, hc6, hR6, k6⟩
  obtain ⟨d6, s6, r6, rfl, _, _, l6⟩ := hc6
  obtain ⟨r1, g6, off6, r2, r3⟩ := one_at l6
  obtain ⟨ra, rn, rc6⟩ := r6
  simp only at r1 r2
  subst r1 r2
  have HR6 := hide hR6
  have K6 := hide (K5.out.trans (k6.below (B := w.heap.size) K5.out.size (fun i hi => by have := HPG.out; omega)))
  clear FI l6 hR6 k6 HR5
  have k7 := Keep.alloc (fun _ => False) w6 (.cells #[.slice d6.1 d6.2.1 d6.2.2, .slice s6.1 s6.2.1 s6.2.2, .slice (some ⟨g6, off6, none⟩) 1 rc6, .int .i64 1] 45)
  have b7 := heap_alloc_new w6 (.cells #[.slice d6.1 d6.2.1 d6.2.2, .slice s6.1 s6.2.1 s6.2.2, .slice (some ⟨g6, off6, none⟩) 1 rc6, .int .i64 1] 45)
  have HR7 := hide (HR6.out.new k7)
  have HB7 := hide b7
  have r3' := k7.cell r3 (fun f => f)
  have HQ3 := hide r3'
  have K7 := hide (K6.out.trans ((k7.below (B := w6.heap.size) (Nat.le_refl _) fun _ f => f.elim).mono K6.out.size))
  clear k7 b7 r3 r3' HR6
  go_upto_region 6 with fail
  generalize w6.alloc (.cells #[.slice d6.1 d6.2.1 d6.2.2, .slice s6.1 s6.2.1 s6.2.2, .slice (some ⟨g6, off6, none⟩) 1 rc6, .int .i64 1] 45) = w7 at *
  generalize w6.heap.size = B at *
  have NA := hide (node_any HR7.out 1)
  have e1 : hasI 2 1 = true := by kernel_rfl
  have e2 : sAt (sts [⟨5, 1, [120]⟩, ⟨2, 0, []⟩]) 1 = 2 := by kernel_rfl
  have e3 : trAt [⟨5, 1, [120]⟩, ⟨2, 0, []⟩] 1 = 0 := by kernel_rfl
  simp only [List.length_cons, List.length_nil, Nat.zero_add, Nat.reduceAdd, e1, e2, e3, if_true] at NA
  clear e1 e2 e3
  go_wp2_with fail
  go_at_call 21
  refine NA.out.mono ?_
  rintro e w8 ⟨rfl, k8⟩
  have hb8 := k8.blk HB7.out (fun f => f)
  have y2 := cell_blk hb8 2 (v := .slice (some ⟨g6, off6, none⟩) 1 rc6) rfl
  have y3 := cell_blk hb8 3 (v := .int .i64 1) rfl
  have y4 := k8.cell HQ3.out (fun f => f)
  have K8 := hide (K7.out.trans ((k8.below (B := w7.heap.size) (Nat.le_refl _) fun _ f => f.elim).mono K7.out.size))
  clear k8 hb8 NA
  go_wp2_with fail
  go_ret
  exact ⟨rfl, K8.out⟩
end Rn
end Go.Proofs.Ytiackejbpcjmeaa
