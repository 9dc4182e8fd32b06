/- SourceWide: the walk, with Parse and known. -/
import Derived.Test.YtecbbnmdjflbpaaGreatDoorUWiW
import Derived.Test.YtecbbnmdjflbpaaGreatDoorUPls
import Derived.Test.YtecbbnmdjflbpaaGreatDoorUKno
namespace Go.Proofs.YtecbbnmdjflbpaaGreatDoor
namespace U
open Go.RowKit

/-- two plans in memory that are one -/
theorem plans_pl (q : Pl) (hl : q.nds.length ≤ 1000000) (B C : Nat) (va vb : Option Addr) (vc vd : Nat) (w : World) (hN : NdsAt B w (.slice va q.nds.length vc) q.nds) (hM : NdsAt C w (.slice vb q.nds.length vd) q.nds) :
    Calls Tryz.prog 7 #[.agg #[.string (ba q.nm), .int .i64 q.dl, .slice va q.nds.length vc], .agg #[.string (ba q.nm), .int .i64 q.dl, .slice vb q.nds.length vd]] w fun e w' => e = .returned (.bool true) ∧ Keep (fun _ => False) w w' := by
  obtain ⟨xs, hxs, hrp⟩ := hN.rd hl
  obtain ⟨ys, hys, hrq⟩ := hM.rd hl
  exact plans_any (ba q.nm) q.dl (va, q.nds.length, vc) (vb, q.nds.length, vd) xs ys _ _ w hrp hrq (hxs.trans hys.symm)
theorem parse_two {s t : List UInt8} (h : parse t = parse s) (hs : s.length ≤ 65536) (ht : t.length ≤ 65536) : Two EnvA s t := by
  cases hp : parse s with
  | inl x =>
    obtain ⟨p, c⟩ := x
    refine ⟨⟨#[]⟩, 0, 0, p, c, fun _ va vc => va = none ∧ vc = 0, fun w hE => ?_, fun w hE => ?_, fun _ _ _ _ h _ => h, fun w va vb vc vd h1 h2 => ?_⟩
    · refine (parse_no s p c hp (by omega) w hE).mono ?_
      rintro e w' ⟨rfl, hb⟩
      exact ⟨none, 0, rfl, hb, rfl, rfl⟩
    · refine (parse_no t p c (h.trans hp) (by omega) w hE).mono ?_
      rintro e w' ⟨rfl, hb⟩
      exact ⟨none, 0, rfl, hb, rfl, rfl⟩
    · obtain ⟨rfl, rfl⟩ := h1
      obtain ⟨rfl, rfl⟩ := h2
      exact plans_any ⟨#[]⟩ 0 (none, 0, 0) (none, 0, 0) [] [] 0 0 w ⟨rfl, by decide, .inl rfl, fun x hx => by cases hx⟩ ⟨rfl, by decide, .inl rfl, fun x hx => by cases hx⟩ rfl
  | inr q =>
    by_cases hl : q.nds.length ≤ 1000000
    · refine ⟨ba q.nm, q.dl, q.nds.length, 0, 0, fun w va vc => ∃ B, NdsAt B w (.slice va q.nds.length vc) q.nds, fun w hE => ?_, fun w hE => ?_, fun w w' va vc ⟨B, h⟩ k => ⟨B, h.below k⟩, fun w va vb vc vd ⟨B, h1⟩ ⟨C, h2⟩ => plans_pl q hl B C va vb vc vd w h1 h2⟩
      · refine (parse_ok s q hp (by omega) w hE).mono ?_
        rintro e w' ⟨va, vc, rfl, hb, hn, _⟩
        exact ⟨va, vc, rfl, hb, _, hn⟩
      · refine (parse_ok t q (h.trans hp) (by omega) w hE).mono ?_
        rintro e w' ⟨va, vc, rfl, hb, hn, _⟩
        exact ⟨va, vc, rfl, hb, _, hn⟩
    · refine ⟨ba q.nm, q.dl, q.nds.length, 0, 0, fun _ _ _ => False, fun w hE => ?_, fun w hE => ?_, fun _ _ _ _ h _ => h, fun w va vb vc vd h1 _ => h1.elim⟩
      · refine (parse_ok s q hp (by omega) w hE).mono ?_
        rintro e w' ⟨va, vc, rfl, hb, hn, hx⟩
        exact absurd hx hl
      · refine (parse_ok t q (h.trans hp) (by omega) w hE).mono ?_
        rintro e w' ⟨va, vc, rfl, hb, hn, hx⟩
        exact absurd hx hl

theorem two_env {E F : World → Prop} {s t : List UInt8} (hEF : ∀ w, F w → E w) (h : Two E s t) : Two F s t := by
  obtain ⟨NM, dl, m, p, c, R, h1, h2, h3, h4⟩ := h
  exact ⟨NM, dl, m, p, c, R, fun w h => h1 w (hEF w h), fun w h => h2 w (hEF w h), h3, h4⟩
theorem wide_walk (s : List UInt8) (how : Int) (w : World) (hA : EnvA w) (hI : EnvI w) (hl : s.length ≤ 9223372036854775807) (b1 : -9223372036854775808 ≤ how) (b2 : how ≤ 9223372036854775807) :
    Calls Tryz.prog 3 #[.string (ba s), .int .i64 how] w fun e w' => e = .returned (.bool true) ∧ Below w.heap.size w w' :=
  wide_core (fun w => EnvA w ∧ EnvI w) (fun _ _ h k => ⟨h.1.below k, h.2.below k⟩) (fun w h => known_any w h.1 h.2) s
    (fun _ _ h1 h2 hw => two_env (fun _ h => h.1) (parse_two (wid_parse h1 h2 (Nat.le_trans (wid_len s) hw) hw) (Nat.le_trans (wid_len s) hw) hw)) how w ⟨hA, hI⟩ hl b1 b2
end U
end Go.Proofs.YtecbbnmdjflbpaaGreatDoor
