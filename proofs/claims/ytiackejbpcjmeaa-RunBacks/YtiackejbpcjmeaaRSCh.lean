/- The laws' sameChange: two changes that are alike. -/
import Derived.Test.YtiackejbpcjmeaaRFtA
import Derived.Test.YtiackejbpcjmeaaRFin
namespace Go.Proofs.Ytiackejbpcjmeaa
namespace Rn
open Go.RowKit Gr

theorem sameChange_any {T U : Nat → Prop} {w : World} {v u : Value} {c : Chg} (hv : ChgAt T w v c) (hu : ChgAt U w u c) :
    Calls Try.prog 17 #[v, u] w fun e w' => e = .returned (.bool true) ∧ Keep (fun _ => False) w w' := by
  obtain ⟨d, s, r, rfl, ld, ls, lr⟩ := hv
  obtain ⟨d', s', r', rfl, ld', ls', lr'⟩ := hu
  have k1 := Keep.alloc (fun _ => False) w (.cells #[.slice d.1 d.2.1 d.2.2, .slice s.1 s.2.1 s.2.2, .slice r.1 r.2.1 r.2.2, .int .i64 c.stt] 45)
  have b1 := heap_alloc_new w (.cells #[.slice d.1 d.2.1 d.2.2, .slice s.1 s.2.1 s.2.2, .slice r.1 r.2.1 r.2.2, .int .i64 c.stt] 45)
  have z1 : (w.alloc (.cells #[.slice d.1 d.2.1 d.2.2, .slice s.1 s.2.1 s.2.2, .slice r.1 r.2.1 r.2.2, .int .i64 c.stt] 45)).heap.size = w.heap.size + 1 := by simp
  have k2 := Keep.alloc (fun _ => False) (w.alloc (.cells #[.slice d.1 d.2.1 d.2.2, .slice s.1 s.2.1 s.2.2, .slice r.1 r.2.1 r.2.2, .int .i64 c.stt] 45)) (.cells #[.slice d'.1 d'.2.1 d'.2.2, .slice s'.1 s'.2.1 s'.2.2, .slice r'.1 r'.2.1 r'.2.2, .int .i64 c.stt] 45)
  have b2 := heap_alloc_new (w.alloc (.cells #[.slice d.1 d.2.1 d.2.2, .slice s.1 s.2.1 s.2.2, .slice r.1 r.2.1 r.2.2, .int .i64 c.stt] 45)) (.cells #[.slice d'.1 d'.2.1 d'.2.2, .slice s'.1 s'.2.1 s'.2.2, .slice r'.1 r'.2.1 r'.2.2, .int .i64 c.stt] 45)
  rw [z1] at b2
  have HA := hide (k2.blk b1 (fun f => f))
  have HB := hide b2
  have K2 := hide (k1.more k2)
  have SD := hide (fun (W : World) (k : Keep (fun _ => False) w W) => sameInts_any d d' _ W (ld.keep k fun _ f => f.elim).1 (ld'.keep k fun _ f => f.elim).1)
  have SS := hide (fun (W : World) (k : Keep (fun _ => False) w W) => sameInts_any s s' _ W (ls.keep k fun _ f => f.elim).1 (ls'.keep k fun _ f => f.elim).1)
  have SR := hide (fun (W : World) (k : Keep (fun _ => False) w W) => sameInts_any r r' _ W (lr.keep k fun _ f => f.elim).1 (lr'.keep k fun _ f => f.elim).1)
  clear ld ls lr ld' ls' lr' k1 k2 b1 b2
  go_enter Try.func17, Try.ntmps17
  go_upto_region 1 with fail
  try simp only [z1]
  clear z1
  generalize (w.alloc (.cells #[.slice d.1 d.2.1 d.2.2, .slice s.1 s.2.1 s.2.2, .slice r.1 r.2.1 r.2.2, .int .i64 c.stt] 45)).alloc (.cells #[.slice d'.1 d'.2.1 d'.2.2, .slice s'.1 s'.2.1 s'.2.2, .slice r'.1 r'.2.1 r'.2.2, .int .i64 c.stt] 45) = w2 at *
  have a0 := cell_blk HA.out 0 (v := .slice d.1 d.2.1 d.2.2) rfl
  have e0 := cell_blk HB.out 0 (v := .slice d'.1 d'.2.1 d'.2.2) rfl
  go_wp2_with fail
  go_at_call 35
  refine (SD.out w2 K2.out).mono ?_
  rintro e w3 ⟨rfl, k3⟩
  have K3 := hide (K2.out.more k3)
  have HA3 := hide (k3.blk HA.out (fun f => f))
  have HB3 := hide (k3.blk HB.out (fun f => f))
  have a1 := cell_blk HA3.out 1 (v := .slice s.1 s.2.1 s.2.2) rfl
  have e1 := cell_blk HB3.out 1 (v := .slice s'.1 s'.2.1 s'.2.2) rfl
  clear k3 a0 e0 HA HB K2 SD
  go_wp2_with fail
  go_at_call 35
  refine (SS.out w3 K3.out).mono ?_
  rintro e w4 ⟨rfl, k4⟩
  have K4 := hide (K3.out.more k4)
  have HA4 := hide (k4.blk HA3.out (fun f => f))
  have HB4 := hide (k4.blk HB3.out (fun f => f))
  have a2 := cell_blk HA4.out 2 (v := .slice r.1 r.2.1 r.2.2) rfl
  have e2 := cell_blk HB4.out 2 (v := .slice r'.1 r'.2.1 r'.2.2) rfl
  clear k4 a1 e1 HA3 HB3 K3 SS
  go_wp2_with fail
  go_at_call 35
  refine (SR.out w4 K4.out).mono ?_
  rintro e w5 ⟨rfl, k5⟩
  have K5 := hide (K4.out.more k5)
  have a3 := cell_blk (k5.blk HA4.out (fun f => f)) 3 (v := .int .i64 c.stt) rfl
  have e3 := cell_blk (k5.blk HB4.out (fun f => f)) 3 (v := .int .i64 c.stt) rfl
  clear k5 a2 e2 HA4 HB4 K4 SR
  go_wp2_with fail
  go_ret
  exact ⟨rfl, K5.out⟩
end Rn
end Go.Proofs.Ytiackejbpcjmeaa
