/- The laws' known, as mathematics. -/
import Derived.Test.YthfnpbkclmkkeaaJOpen
import Derived.Laws.BytesArg
namespace Go.Proofs.Ythfnpbkclmkkeaa
open Go.RowKit Go.Lib

theorem extend_good {N : Nat} {j : J.Jr} {s : St} (g : Good N s) (l : List Nat) : Good (N + 1) (J.extend j s l).2.2 := by
  unfold J.extend
  split
  · exact g.more (by omega)
  · split <;> exact g.append _ _
theorem place_good {N : Nat} {j : J.Jr} {s : St} (g : Good N s) (ks : List Int) (l : List Nat) : Good (N + 2) (J.place j s ks l).2.2 := by
  unfold J.place
  split
  · exact (extend_good g l).more (by omega)
  · split
    · exact g.more (by omega)
    · split <;> exact start_good g _ _
theorem append_good {N : Nat} {j : J.Jr} {s : St} (g : Good N s) (ks : List Int) (b : List Nat) : Good (N + 2) (J.append j s ks b).2.2 := by
  unfold J.append
  split
  · exact g.more (by omega)
  · split
    · exact g.more (by omega)
    · split
      · exact place_good g ks _
      · exact place_good g ks _
theorem snapshot_good {N : Nat} {j : J.Jr} {s : St} (g : Good N s) (ks : List Int) (b : List Nat) : Good (N + 3 + ks.length) (J.snapshot j s ks b).2.2 := by
  unfold J.snapshot
  split
  · exact g.more (by omega)
  · split
    · exact g.more (by omega)
    · have h1 := start_good (j := j) g (J.nextSeg ks).toNat [J.pieceOf 2 j.held.next b]
      generalize J.start j s (J.nextSeg ks).toNat [J.pieceOf 2 j.held.next b] = r at *
      show Good _ (if r.1 ≠ 0 then r else if r.2.2.sync.1 ≠ 0 then (r.2.2.sync.1, r.2.1, r.2.2.sync.2) else if (J.removes ks r.2.2.sync.2).1 ≠ 0 then ((J.removes ks r.2.2.sync.2).1, r.2.1, (J.removes ks r.2.2.sync.2).2) else (0, ⟨⟨true, b, [], j.held.next⟩, r.2.1.current, r.2.1.size⟩, (J.removes ks r.2.2.sync.2).2)).2.2
      split
      · exact h1.more (by omega)
      · split
        · exact h1.sync.more (by omega)
        · split
          · exact (removes_good h1.sync).more (by omega)
          · exact (removes_good h1.sync).more (by omega)

/-- bytes as a string -/
def str (l : List Nat) : ByteArray := strOfNums (l.map fun (d : Nat) => (d : Int))
theorem conv_rd {w : World} {a : Option Addr} {n : Nat} {l : List Nat} (h : Rd w a n l) (c : Nat) : (convert 32 9 (.slice a n c)).run Try.prog w = .ok (.string (str l)) w := by
  obtain ⟨hl, _, _, hrow⟩ := h
  rcases hrow with h0 | ⟨b, off, rfl, hrow⟩
  · have hnil : l = [] := List.length_eq_zero_iff.1 (by omega)
    subst h0 hnil
    cases a with
    | none => exact run_convert_bytes_nil w 32 5 Try.underlying32 Try.underlying5 0 c 9 Try.underlying9
    | some y =>
      have hl : (loadCells y 0).run Try.prog w = .ok (([] : List Int).map (Value.int .u8)).toArray w := by simpa using run_loadCells_list (P := Try.prog) w y [] (by simp)
      rw [run_convert_bytes_string w 32 9 5 _ 0 c Try.underlying32 Try.underlying5 Try.underlying9, run_bytesToString w _ 0 c [] hl]
      rfl
  · exact run_convert_bytes_arg w 32 5 Try.underlying32 Try.underlying5 b off n c (l.map fun (d : Nat) => (d : Int)) (by simp [hl]) (fun i hi => by
      rw [hrow i hi]
      congr 2
      rw [List.getD_eq_getElem?_getD, List.getD_eq_getElem?_getD, List.getElem?_map, List.getElem?_eq_getElem (show i < l.length by omega)]
      rfl) 9 Try.underlying9

theorem only {ks : List Int} {x : Int} (h1 : ks.Pairwise (· < ·)) (h2 : ∀ k, k ∈ ks ↔ k = x) : ks = [x] := by
  cases ks with
  | nil => exact absurd ((h2 x).2 rfl) (by simp)
  | cons a r =>
    have ea := (h2 a).1 (by simp)
    subst ea
    cases r with
    | nil => rfl
    | cons b r =>
      have eb := (h2 b).1 (by simp)
      rw [List.pairwise_cons] at h1
      have := h1.1 b (by simp)
      omega
theorem noKeys {s : St} {ks : List Int} (h : J.Keys s ks) (hn : ∀ k, s.there k = none) : ks = [] := by
  cases ks with
  | nil => rfl
  | cons a r => exact absurd (hn a) ((h.2 a).1 (by simp))
theorem oneKey {s : St} {ks : List Int} (h : J.Keys s ks) (x : Int) (hn : ∀ k, s.there k ≠ none ↔ k = x) : ks = [x] := only h.1 fun k => (h.2 k).trans (hn k)

namespace Kn
def t1 : List Nat := J.headOf 1 1 ++ [J.pieceOf 2 1 [], J.pieceOf 1 1 [7, 8]].flatten
def t2 : List Nat := J.headOf 2 2 ++ [J.pieceOf 2 2 [5]].flatten
def t3 : List Nat := t2 ++ J.pieceOf 1 2 [9]
def s1 : St := ⟨1000, 0, fun _ => none, fun _ => none, none, false⟩
def s2 : St := ⟨1000, 124, upd (upd (fun _ => none) 1 (some [])) 1 (some ([] ++ t1)), fun _ => none, none, false⟩
def s3 : St := ⟨1000, 106, upd (upd (upd (upd (upd (fun _ => none) 1 (some [])) 1 (some ([] ++ t1))) 2 (some [])) 2 (some ([] ++ t2))) 1 none, upd (upd (upd (upd (fun _ => none) 1 (some [])) 1 (some ([] ++ t1))) 2 (some [])) 2 (some ([] ++ t2)), none, false⟩
def j0 : J.Jr := ⟨⟨false, [], [], 1⟩, 0, 0⟩
def j1 : J.Jr := ⟨⟨true, [], [[7, 8]], 2⟩, 1, 60⟩
def j2 : J.Jr := ⟨⟨true, [5], [], 2⟩, 2, 42⟩
def j3 : J.Jr := ⟨⟨true, [5], [[9]], 3⟩, 2, 60⟩
def s4 : St := ⟨1000, 124, upd s3.there 2 (some (([] ++ t2) ++ J.pieceOf 1 2 [9])), s3.safe, none, false⟩
def j5 : J.Jr := ⟨⟨true, [5], [[9]], 3⟩, 0, 0⟩
def s5 : St := ⟨1000, 124, s4.there, s4.there, none, false⟩

theorem e1 : (St.new 1000).sync = (0, s1) := rfl
theorem e2 : J.opened (St.new 1000) [] = (0, some j0, s1) := rfl
set_option maxRecDepth 100000 in
theorem e3 : J.append j0 s1 [] [7, 8] = (0, j1, s2) := rfl
set_option maxRecDepth 100000 in
theorem e4 : J.snapshot j1 s2 [1] [5] = (0, j2, s3) := rfl
set_option maxRecDepth 100000 in
theorem e5 (ks : List Int) : J.append j2 s3 ks [9] = (0, j3, s4) := rfl
theorem e6 : s4.sync = (0, s5) := rfl
theorem b5 : s5.bytes 2 = t3 := rfl
set_option maxRecDepth 100000 in
theorem e7 : J.follow ⟨false, [], [], 1⟩ 2 t3 = (⟨true, [5], [[9]], 3⟩, true) := by kernel_rfl
theorem e8 : J.opened s4 [2] = (0, some j5, s5) := by
  have h : J.foundOf s5 [2] = (⟨true, [5], [[9]], 3⟩, 0) := by
    show J.found [(2, s5.bytes 2)] 0 _ = _
    rw [b5]
    show ((J.follow ⟨false, [], [], 1⟩ 2 t3).1, if (J.follow ⟨false, [], [], 1⟩ 2 t3).2 = true then 0 else 0) = _
    rw [e7]
    rfl
  unfold J.opened
  rw [e6, if_neg (by simp)]
  simp only
  rw [h]
  rfl
theorem k1 {ks : List Int} (h : J.Keys s1 ks) : ks = [] := noKeys h fun _ => rfl
theorem k2 {ks : List Int} (h : J.Keys s2 ks) : ks = [1] := oneKey h 1 fun k => by
  show upd (upd (fun _ => none) 1 (some [])) 1 (some ([] ++ t1)) k ≠ none ↔ _
  by_cases e : k = 1
  · subst e; rw [upd_same]; simp
  · rw [upd_other _ _ e, upd_other _ _ e]; simp [e]
theorem k5 {ks : List Int} (h : J.Keys s5 ks) : ks = [2] := oneKey h 2 fun k => by
  show upd (upd (upd (upd (upd (upd (fun _ => none) 1 (some [])) 1 (some ([] ++ t1))) 2 (some [])) 2 (some ([] ++ t2))) 1 none) 2 _ k ≠ none ↔ _
  by_cases e : k = 2
  · subst e; rw [upd_same]; simp
  · rw [upd_other _ _ e]
    by_cases e1 : k = 1
    · subst e1; rw [upd_same]; simp
    · rw [upd_other _ _ e1, upd_other _ _ e, upd_other _ _ e, upd_other _ _ e1, upd_other _ _ e1]; simp [e]
theorem g1 : Good 1 s1 := by have := (Good.new (c := 1000) (by decide)).sync; rw [e1] at this; exact this
theorem g2 : Good 3 s2 := by have := append_good (j := j0) g1 [] [7, 8]; rw [e3] at this; exact this
theorem g3 : Good 7 s3 := by have := snapshot_good (j := j1) g2 [1] [5]; rw [e4] at this; exact this
theorem g4 : Good 9 s4 := by have := append_good (j := j2) g3 [] [9]; rw [e5] at this; exact this
theorem g5 : Good 10 s5 := by have := g4.sync; rw [e6] at this; exact this
theorem len3 : t3.length = 60 := rfl
theorem first3 : t3.getD 0 0 = 69 := rfl
end Kn

end Go.Proofs.Ythfnpbkclmkkeaa
