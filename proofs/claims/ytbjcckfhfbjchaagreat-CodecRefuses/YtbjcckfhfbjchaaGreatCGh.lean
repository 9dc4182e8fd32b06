/- Codec: the laws' name. -/
import Derived.Test.YtbjcckfhfbjchaaGreatCEv
import Derived.Test.YtbjcckfhfbjchaaGreatCEy
import Derived.Deep.Cut
namespace Go.Proofs.YtbjcckfhfbjchaaGreat
namespace Cd
open Go.RowKit Go.Deep

theorem own_keep {w w' : World} {b : Nat} {e : TypeId} {size : Nat} {v : Value} {n : Nat} {xs : List Value} (h : w.ownsRow b e size v n xs) {S : Nat → Prop} (k : Keep S w w') (hS : ∀ i, S i → v.ownBlock ≠ some i) : w'.ownsRow b e size v n xs := by
  refine ⟨h.1, ?_⟩
  rcases h.2 with h' | ⟨g, cap, cur, h1, h2, h3, h4⟩
  · exact .inl h'
  · subst h1
    exact .inr ⟨g, cap, cur, rfl, h2, k.blk h3 (fun hs => hS g hs rfl), h4⟩
def nmc (c : Int) (k : Nat) : Nat := (97 + pkk (IntKind.i64.wrap (c + (k : Int))) 26).toNat
def nmp (c : Int) (i k : Nat) : List Nat := (97 + i % 26) :: (97 + i / 26) :: (List.range k).map (nmc c)
def nmv (c : Int) (i : Nat) : List Nat := nmp c i (pkk c 39).toNat
theorem nmp_len (c : Int) (i k : Nat) : (nmp c i k).length = k + 2 := by simp [nmp]
theorem nmp_succ (c : Int) (i k : Nat) : nmp c i (k + 1) = nmp c i k ++ [nmc c k] := by simp [nmp, List.range_succ]
theorem wrap_in (x : Int) : -9223372036854775808 ≤ IntKind.i64.wrap x ∧ IntKind.i64.wrap x ≤ 9223372036854775807 := by
  simp [IntKind.wrap, IntKind.bits, IntKind.signed]; omega
theorem nmc_lt (c : Int) (k : Nat) : nmc c k < 123 ∧ 97 ≤ nmc c k := by
  have := pkk_lt (c := IntKind.i64.wrap (c + (k : Int))) (n := 26) (by decide)
  unfold nmc
  omega
theorem nmp_lt (c : Int) {i : Nat} (hi : i < 64) (k : Nat) : ∀ d ∈ nmp c i k, 97 ≤ d ∧ d < 123 := fun d hd => by
  unfold nmp at hd
  rcases List.mem_cons.1 hd with rfl | hd
  · omega
  · rcases List.mem_cons.1 hd with rfl | hd
    · omega
    · obtain ⟨j, _, rfl⟩ := List.mem_map.1 hd
      have := nmc_lt c j
      omega
/-- what the loop adds -/
theorem nm_step (c : Int) (k : Nat) : ∃ x : Int, ∃ z : Nat, IntKind.i64.wrap (c + (k : Int)) = x ∧ z < 26 ∧ nmc c k = 97 + z ∧ ∀ W, Calls Tryz.prog 19 #[.int .i64 x, .int .i64 26] W fun e w' => e = .returned (.int .i64 (z : Int)) ∧ w' = W := by
  obtain ⟨h1, h2⟩ := wrap_in (c + (k : Int))
  obtain ⟨p1, p2⟩ := pkk_lt (c := IntKind.i64.wrap (c + (k : Int))) (n := 26) (by decide)
  obtain ⟨z, hz⟩ := Int.eq_ofNat_of_zero_le p1
  refine ⟨_, z, rfl, by omega, by unfold nmc; omega, fun W => ?_⟩
  have := pick12_any (IntKind.i64.wrap (c + (k : Int))) 26 (by decide) h1 h2 (by decide) W
  rw [hz] at this
  exact this
theorem one_rd (w : World) (d : Nat) (hd : d < 256) : Rd (w.alloc (.cells #[.int .u8 (d : Int)] 5)) (some ⟨w.heap.size, 0, none⟩) 1 [d] := by
  refine ⟨rfl, by decide, (fun x hx => by simp at hx; omega), .inr ⟨w.heap.size, 0, rfl, fun i hi => ?_⟩⟩
  obtain rfl : i = 0 := by omega
  rw [World.cell?_alloc_mark]; rfl
set_option maxRecDepth 10000 in
theorem name12_any (c : Int) (i : Nat) (hi : i < 64) (h1 : -9223372036854775808 ≤ c) (h2 : c ≤ 9223372036854775807) (w : World) :
    Calls Tryz.prog 22 #[.int .i64 c, .int .i64 (i : Int)] w fun e w' => e = .returned (.string (str (nmv c i))) ∧ Below w.heap.size w w' := by
  have PK := hide (fun W => pick12_any c 39 (by decide) h1 h2 (by decide) W)
  obtain ⟨p1, p2⟩ := pkk_lt (c := c) (n := 39) (by decide)
  have HV : Hid (nmv c i = nmp c i (pkk c 39).toNat) := rfl
  obtain ⟨M, hM⟩ := Int.eq_ofNat_of_zero_le p1
  rw [hM, Int.toNat_natCast] at HV
  rw [hM] at PK
  have hM39 : M < 39 := by omega
  have ST := hide (fun k => nm_step c k)
  have HL := hide (fun k => nmp_lt c hi k)
  clear p1 p2 hM h1 h2
  have e0 : (w.alloc (.cells #[.int .u8 (97 + (i : Int) % 26), .int .u8 (97 + (i : Int) / 26)] 5)).ownsRow w.heap.size 5 1 (.slice (some ⟨w.heap.size, 0, none⟩) 2 2) (nmp c i 0).length (B8 (nmp c i 0)) :=
    World.ownsRow_lit w #[.int .u8 (97 + (i : Int) % 26), .int .u8 (97 + (i : Int) / 26)] 2 (Nat.le_refl _) (by decide) rfl
  have H0 := hide e0
  clear e0
  go_enter Tryz.func22, Tryz.ntmps22
  go_wp2_with fail
  go_loopw [5, 6] (fun b iv wr => ∃ (k : Nat) (a : Option Addr) (cc : Nat), b = .slice a (k + 2) cc ∧ iv = .int .i64 (k : Nat) ∧ k ≤ M ∧ Hid (wr.ownsRow w.heap.size 5 1 (.slice a (k + 2) cc) (nmp c i k).length (B8 (nmp c i k)) ∧ Below w.heap.size w wr)) (fun _ iv _ => M - (intOf iv).toNat)
  case atStart => exact ⟨0, _, _, rfl, rfl, Nat.zero_le _, H0.out, (Below.refl _ _).alloc (Nat.le_refl _) _⟩
  case round => as_aux_lemma =>
    clear H0
    obtain ⟨k, a, cc, rfl, rfl, hk, HD⟩ := hrel
    by_cases hlt : k < M
    · have hlt' : (k : Int) < (M : Int) := by omega
      obtain ⟨x, z, hx, hz, hn, pk2⟩ := ST.out k
      have PK2 := hide pk2
      have HN := hide hn
      clear pk2 hn
      have hz2 : z < 256 := by omega
      have HR1 : Hid (Rd (wr.alloc (.cells #[.int .u8 (97 + (z : Int))] 5)) (some ⟨wr.heap.size, 0, none⟩) 1 [97 + z]) := one_rd wr (97 + z) (by omega)
      go_wp2_with (first
        | (at_builtin; go_loud (refine wpList_append_rd rfl _ _ rfl (.slice a (k + 2) cc) (nmp c i k) w.heap.size rfl ((own_keep HD.out.1 (Keep.alloc (fun _ => False) _ _) (fun _ f => f.elim))) _ 1 1 [97 + z] rfl HR1.out (fun e => by cases e) (by rw [nmp_len]; omega) (Nat.le_trans HD.out.2.size (by simp)) ?_); intro v2 w2 ho2 hg2 hnb2; rw [show nmp c i k ++ [97 + z] = nmp c i (k + 1) by rw [nmp_succ, HN.out]] at ho2; obtain ⟨a2, c2, hv2⟩ := ownsRow_shape ho2; rw [nmp_len] at hv2; subst hv2; have HO2 := hide ho2; have HB2 := hide (below_grown HD.out.2 _ hg2 (fun k e => (HD.out.1.lt k e).1)); clear ho2 hg2 hnb2)
        | (go_at_call 19; (with_reducible refine (PK2.out _).mono ?_); rintro e w' ⟨rfl, rfl⟩)
        | (go_at_call 19; (with_reducible refine (PK.out _).mono ?_); rintro e w' ⟨rfl, rfl⟩))
      clear hx
      go_roundw
      · exact ⟨k + 1, _, _, rfl, rfl, by omega, HO2.out, HB2.out⟩
      · show M - ((k : Int) + 1).toNat < M - (k : Int).toNat
        omega
    · have hlt' : ¬ ((k : Int) < (M : Int)) := by omega
      obtain rfl : k = M := by omega
      have hl := HL.out k
      have hl2 := nmp_len c i k
      obtain ⟨a3, c3, ev, hr, -, -, -⟩ := ownsRow_rd HD.out.1 (fun d hd => by have := hl d hd; omega) (by omega)
      rw [hl2] at ev hr
      injection ev with e1 _ e3
      subst e1 e3
      have hcv := conv_rd hr cc
      clear hl hl2 hr
      go_wp2_with (go_at_call 19; refine (PK.out _).mono ?_; rintro e w' ⟨rfl, rfl⟩)
      go_ret
      rw [HV.out]
      exact ⟨rfl, HD.out.2⟩
end Cd
end Go.Proofs.YtbjcckfhfbjchaaGreat
