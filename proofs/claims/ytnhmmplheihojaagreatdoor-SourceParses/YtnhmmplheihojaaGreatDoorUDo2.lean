/- Package source: a line that says something: by its first word. -/
import Derived.Test.YtnhmmplheihojaaGreatDoorUDoe
import Derived.Test.YtnhmmplheihojaaGreatDoorUAdd
import Derived.Test.YtnhmmplheihojaaGreatDoorUMe2
namespace Go.Proofs.YtnhmmplheihojaaGreatDoor
namespace U
open Go.RowKit

theorem doers1_any (B D L pl : Nat) (d : Dr) (ws : List (List UInt8)) (w : World) (hD : DrAt B w D d) (hL : LineAt w L pl (ws, false)) (hnd : d.nds.length < 1000000) (hms : d.ms.length < 1000000) (hwl : ws.length ≤ 1000000) :
    Calls Tryz.prog 69 #[.pointer (some ⟨D, 0, none⟩), .pointer (some ⟨L, 0, none⟩)] w (DoEnd B D L pl (addMen 0 d pl ws) w) := by
  have H := hide (addMen0_any B D L pl d ws w hD hL hnd hms hwl)
  generalize addMen 0 d pl ws = R at *
  clear hD hL
  go_enter Tryz.func69, Tryz.ntmps69
  go_wp2_with fail
  go_at_call 70
  refine H.out.mono ?_
  rintro e w1 ⟨rfl, h1, h2, h3⟩
  have H1 := hide h1
  have H2 := hide h2
  have H3 := hide h3
  clear h1 h2 h3
  go_wp2_with fail
  go_ret
  exact ⟨rfl, H1.out, H2.out, H3.out⟩
theorem doers2_any (B D L pl : Nat) (d : Dr) (ws : List (List UInt8)) (w : World) (hD : DrAt B w D d) (hL : LineAt w L pl (ws, false)) (hnd : d.nds.length < 1000000) (hms : d.ms.length < 1000000) (hwl : ws.length ≤ 1000000) :
    Calls Tryz.prog 71 #[.pointer (some ⟨D, 0, none⟩), .pointer (some ⟨L, 0, none⟩)] w (DoEnd B D L pl (addMen 1 d pl ws) w) := by
  have H := hide (addMen1_any B D L pl d ws w hD hL hnd hms hwl)
  generalize addMen 1 d pl ws = R at *
  clear hD hL
  go_enter Tryz.func71, Tryz.ntmps71
  go_wp2_with fail
  go_at_call 70
  refine H.out.mono ?_
  rintro e w1 ⟨rfl, h1, h2, h3⟩
  have H1 := hide h1
  have H2 := hide h2
  have H3 := hide h3
  clear h1 h2 h3
  go_wp2_with fail
  go_ret
  exact ⟨rfl, H1.out, H2.out, H3.out⟩
theorem enter_1 : ∀ args w, (callFunc 67 args).run Tryz.prog w = .ok (.enter 67 args) w := by intro args w; simp [go_sem]
theorem enter_2 : ∀ args w, (callFunc 68 args).run Tryz.prog w = .ok (.enter 68 args) w := by intro args w; simp [go_sem]
theorem enter_3 : ∀ args w, (callFunc 69 args).run Tryz.prog w = .ok (.enter 69 args) w := by intro args w; simp [go_sem]
theorem enter_4 : ∀ args w, (callFunc 71 args).run Tryz.prog w = .ok (.enter 71 args) w := by intro args w; simp [go_sem]
theorem doers_at (f : List UInt8) : doers (ba f) = if f = kwAfter then some (.func (.func 71) #[] #[]) else if f = kwNeeds then some (.func (.func 69) #[] #[]) else if f = kwNode then some (.func (.func 68) #[] #[]) else if f = kwPlan then some (.func (.func 67) #[] #[]) else none := by
  unfold doers Gr.updS
  simp only [ba_eq]
/-- what the map has for a word, and what that does -/
theorem doLine_call (B D L pl : Nat) (d : Dr) (f : List UInt8) (ws : List (List UInt8)) (w : World) (hD : DrAt B w D d) (hL : LineAt w L pl (ws, false)) (hz : ∀ x ∈ ws, x.length ≤ 65536) (hBL : B ≤ L) (hnd : d.nds.length < 1000000) (hpd : d.places.length < 1000000) (hms : d.ms.length < 1000000) (hwl : ws.length ≤ 1000000) :
    (doers (ba f) = none ∧ doLine d pl f ws = none) ∨ ∃ F : FuncId, doers (ba f) = some (.func (.func F) #[] #[]) ∧ (∀ args w, (callFunc F args).run Tryz.prog w = .ok (.enter F args) w) ∧
      Calls Tryz.prog F #[.pointer (some ⟨D, 0, none⟩), .pointer (some ⟨L, 0, none⟩)] w (DoEnd B D L pl (doLine d pl f ws) w) := by
  rw [doers_at]
  unfold doLine
  by_cases h1 : f = kwPlan
  · subst h1
    exact .inr ⟨_, by rw [if_neg (by decide), if_neg (by decide), if_neg (by decide), if_pos rfl], enter_1, by rw [if_pos rfl]; exact begin_any B D L pl d ws w hD hL hz hBL⟩
  · by_cases h2 : f = kwNode
    · subst h2
      exact .inr ⟨_, by rw [if_neg (by decide), if_neg (by decide), if_pos rfl], enter_2, by rw [if_neg h1, if_pos rfl]; exact addNode_any B D L pl d ws w hD hL hz hBL hnd hpd⟩
    · by_cases h3 : f = kwNeeds
      · subst h3
        exact .inr ⟨_, by rw [if_neg (by decide), if_pos rfl], enter_3, by rw [if_neg h1, if_neg h2, if_pos rfl]; exact doers1_any B D L pl d ws w hD hL hnd hms hwl⟩
      · by_cases h4 : f = kwAfter
        · subst h4
          exact .inr ⟨_, by rw [if_pos rfl], enter_4, by rw [if_neg h1, if_neg h2, if_neg h3, if_pos rfl]; exact doers2_any B D L pl d ws w hD hL hnd hms hwl⟩
        · exact .inl ⟨by rw [if_neg h4, if_neg h3, if_neg h2, if_neg h1], by rw [if_neg h1, if_neg h2, if_neg h3, if_neg h4]⟩
/-- a line makes a draft longer by one thing at most -/
theorem doLine_len {d d' : Dr} {pl : Nat} {f : List UInt8} {ws : List (List UInt8)} (h : doLine d pl f ws = some d') : d'.nds.length ≤ d.nds.length + 1 ∧ d'.places.length ≤ d.places.length + 1 ∧ d'.ms.length ≤ d.ms.length + 1 := by
  unfold doLine begin_ addNode addMen at h
  simp only at h
  repeat' split at h
  all_goals first
    | (cases h; done)
    | (injection h with h; subst h; simp)
end U
end Go.Proofs.YtnhmmplheihojaaGreatDoor
