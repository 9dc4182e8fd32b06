/- SourceBlanks: the walk, with Parse, ends and known. -/
import Derived.Test.YtkmnfmgodajjpaaGreatDoorUBlW
import Derived.Test.YtkmnfmgodajjpaaGreatDoorUBlE
import Derived.Test.YtkmnfmgodajjpaaGreatDoorUPls
import Derived.Test.YtkmnfmgodajjpaaGreatDoorUKno
namespace Go.Proofs.YtkmnfmgodajjpaaGreatDoor
namespace U.Bl
open Go.RowKit

theorem plans_pl (q : Pl) (hl : q.nds.length ≤ 1000000) (B C : Nat) (va vb : Option Addr) (vc vd : Nat) (w : World) (hN : NdsAt B w (.slice va q.nds.length vc) q.nds) (hM : NdsAt C w (.slice vb q.nds.length vd) q.nds) :
    Calls Tryz.prog 8 #[.agg #[.string (ba q.nm), .int .i64 q.dl, .slice va q.nds.length vc], .agg #[.string (ba q.nm), .int .i64 q.dl, .slice vb q.nds.length vd]] w fun e w' => e = .returned (.bool true) ∧ Keep (fun _ => False) w w' := by
  obtain ⟨xs, hxs, hrp⟩ := hN.rd hl
  obtain ⟨ys, hys, hrq⟩ := hM.rd hl
  exact plans_any (ba q.nm) q.dl (va, q.nds.length, vc) (vb, q.nds.length, vd) xs ys _ _ w hrp hrq (hxs.trans hys.symm)
theorem parse_pair {s t : List UInt8} {j mr : Nat} (h : parse t = shP (shN j mr) (parse s)) (hs : s.length ≤ 65536) (ht : t.length ≤ 65536) : Pair EnvA s t j mr := by
  cases hp : parse s with
  | inl x =>
    obtain ⟨p, c⟩ := x
    rw [hp] at h
    refine ⟨⟨#[]⟩, 0, 0, p, c, fun _ va vc => va = none ∧ vc = 0, fun w hE => ?_, fun w hE => ?_, fun _ _ _ _ h _ => h, by have := parse_line hp; have := ends_len s 0; omega, fun w va vb vc vd h1 h2 => ?_⟩
    · refine (parse_no s p c hp (by omega) w hE).mono ?_
      rintro e w' ⟨rfl, hb⟩
      exact ⟨none, 0, rfl, hb, rfl, rfl⟩
    · refine (parse_no t (shN j mr p) c h (by omega) w hE).mono ?_
      rintro e w' ⟨rfl, hb⟩
      exact ⟨none, 0, rfl, hb, rfl, rfl⟩
    · obtain ⟨rfl, rfl⟩ := h1
      obtain ⟨rfl, rfl⟩ := h2
      exact plans_any ⟨#[]⟩ 0 (none, 0, 0) (none, 0, 0) [] [] 0 0 w ⟨rfl, by decide, .inl rfl, fun x hx => by cases hx⟩ ⟨rfl, by decide, .inl rfl, fun x hx => by cases hx⟩ rfl
  | inr q =>
    rw [hp] at h
    have h : parse t = .inr q := h
    by_cases hl : q.nds.length ≤ 1000000
    · refine ⟨ba q.nm, q.dl, q.nds.length, 0, 0, fun w va vc => ∃ B, NdsAt B w (.slice va q.nds.length vc) q.nds, fun w hE => ?_, fun w hE => ?_, fun w w' va vc ⟨B, h⟩ k => ⟨B, h.below k⟩, by omega, fun w va vb vc vd ⟨B, h1⟩ ⟨C, h2⟩ => plans_pl q hl B C va vb vc vd w h1 h2⟩
      · refine (parse_ok s q hp (by omega) w hE).mono ?_
        rintro e w' ⟨va, vc, rfl, hb, hn, _⟩
        exact ⟨va, vc, rfl, hb, _, hn⟩
      · refine (parse_ok t q h (by omega) w hE).mono ?_
        rintro e w' ⟨va, vc, rfl, hb, hn, _⟩
        exact ⟨va, vc, by rw [shN_zero]; rfl, hb, _, hn⟩
    · refine ⟨ba q.nm, q.dl, q.nds.length, 0, 0, fun _ _ _ => False, fun w hE => ?_, fun w hE => ?_, fun _ _ _ _ h _ => h, by omega, fun w va vb vc vd h1 _ => h1.elim⟩
      · refine (parse_ok s q hp (by omega) w hE).mono ?_
        rintro e w' ⟨va, vc, rfl, hb, hn, hx⟩
        exact absurd hx hl
      · refine (parse_ok t q h (by omega) w hE).mono ?_
        rintro e w' ⟨va, vc, rfl, hb, hn, hx⟩
        exact absurd hx hl
theorem pair_env {E F : World → Prop} {s t : List UInt8} {j mr : Nat} (hEF : ∀ w, F w → E w) (h : Pair E s t j mr) : Pair F s t j mr := by
  obtain ⟨NM, dl, m, p, c, R, h1, h2, h3, h4, h5⟩ := h
  exact ⟨NM, dl, m, p, c, R, fun w h => h1 w (hEF w h), fun w h => h2 w (hEF w h), h3, h4, h5⟩
theorem shP_one (j : Nat) (x : (Nat × Nat) ⊕ Pl) : shP (sh j) x = shP (shN j 1) x := rfl
theorem shP_none (j : Nat) (x : (Nat × Nat) ⊕ Pl) : x = shP (shN j 0) x := by
  rcases x with ⟨p, c⟩ | q
  · show _ = Sum.inl (shN j 0 p, c)
    rw [shN_none]
  · rfl
theorem set_of {s : List UInt8} (hs : s.length + 4 ≤ 65536) {j e : Nat} (h : (endsR 0 s)[j]? = some e) : ∃ A B C, Set_ (fun w => EnvA w ∧ EnvI w) s (endsR 0 s) j e A B C := by
  obtain ⟨A, B, C, LA, hc⟩ := cut_of s 0 j e h
  have hl : s.length = A.length + (B.length + C.length) := by rw [hc.txt]; simp
  refine ⟨A, B, C, hc.txt, hc.no, ?_, hc.zero, fun h => by have := hc.prev h; simpa using this, ?_, ?_, ?_, ?_, ?_⟩
  · rcases hc.fin with ⟨a, b, c⟩ | ⟨a, b⟩
    · exact .inl ⟨a, b, by omega⟩
    · exact .inr ⟨a, by omega⟩
  · exact pair_env (fun _ h => h.1) (parse_pair ((hc.put (P := []) (by simp) line_none (by omega) (by simp; omega)).trans (shP_one _ _)) (by omega) (by simp; omega))
  · exact pair_env (fun _ h => h.1) (parse_pair ((hc.put (P := [32, 35, 120]) (by decide) line_note (by omega) (by simp; omega)).trans (shP_one _ _)) (by omega) (by simp; omega))
  · exact pair_env (fun _ h => h.1) (parse_pair ((hc.ahead (by omega) (by simp; omega)).trans (shP_none j _)) (by omega) (by simp; omega))
  · exact pair_env (fun _ h => h.1) (parse_pair ((hc.behind (P := [32, 32]) (by decide) (line_behind B) (by omega) (by simp; omega)).trans (shP_none j _)) (by omega) (by simp; omega))
  · exact pair_env (fun _ h => h.1) (parse_pair ((hc.behind (P := [9, 35, 32]) (by decide) (line_remark B) (by omega) (by simp; omega)).trans (shP_none j _)) (by omega) (by simp; omega))
theorem blanks_walk (s : List UInt8) (ln how : Int) (w : World) (hA : EnvA w) (hI : EnvI w) (hl : s.length ≤ 1048576) (b1 : -9223372036854775808 ≤ ln) (b2 : ln ≤ 9223372036854775807) (b3 : -9223372036854775808 ≤ how) (b4 : how ≤ 9223372036854775807) :
    Calls Tryz.prog 3 #[.string (ba s), .agg #[.int .i64 ln, .int .i64 how]] w fun e w' => e = .returned (.bool true) ∧ Below w.heap.size w w' :=
  blanks_core (fun w => EnvA w ∧ EnvI w) (fun _ _ h k => ⟨h.1.below k, h.2.below k⟩) (fun w h => known_any w h.1 h.2) s (endsR 0 s) (fun w => ends_any s w hl) (fun hs _ _ h => set_of hs h)
    (Nat.le_trans (ends_len s 0) hl) ln how w ⟨hA, hI⟩ hl b1 b2 b3 b4
end U.Bl
end Go.Proofs.YtkmnfmgodajjpaaGreatDoor
