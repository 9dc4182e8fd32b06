/- Package wheel: All: the mathematics of its order. -/
import Derived.Test.YtbjapgajbljhfaaWCnM
import Derived.Test.YtbjapgajbljhfaaWCmp
import Derived.Sort.Statements
namespace Go.Proofs.Ytbjapgajbljhfaa
namespace Wh
open Go.RowKit

/-- the order of two timers of a wheel, by their numbers -/
def cmpS (s : St) (a b : Nat) : Int := cmpT (a, s.due a, 0) (b, s.due b, 0)
theorem cmpS_lt (s : St) (a b : Nat) : cmpS s a b < 0 ↔ s.bef a b := cmpT_lt _ _
def ltS (s : St) (a b : Nat) : Bool := decide (cmpS s a b < 0)
theorem ltS_true {s : St} {a b : Nat} : ltS s a b = true ↔ s.bef a b := by unfold ltS; rw [decide_eq_true_iff, cmpS_lt]
theorem ltS_false {s : St} {a b : Nat} : ltS s a b = false ↔ ¬ s.bef a b := by unfold ltS; rw [decide_eq_false_iff_not, cmpS_lt]
theorem ltS_swo (s : St) : Go.Sort.SWO (ltS s) where
  irrefl x := ltS_false.2 (by unfold St.bef; omega)
  trans x y z h1 h2 := by
    rw [ltS_true] at *
    unfold St.bef at *
    omega
  ntrans x y z h1 h2 := by
    rw [ltS_false] at *
    unfold St.bef at *
    omega
theorem ltS_total {s : St} {x y : Nat} (h1 : ltS s x y = false) (h2 : ltS s y x = false) : x = y := by
  rw [ltS_false] at *
  unfold St.bef at *
  omega
/-- what the sort makes of the timers, in whatever order they came: the list that an Advance to the end would give -/
theorem sorted_adv {s : St} (hok : Ok s) {l : List Nat} (hp : l.Perm s.ids) : Adv s M (l.mergeSort fun x y => !ltS s y x) := by
  have hperm := List.mergeSort_perm l (fun x y => !ltS s y x)
  have hs : (l.mergeSort fun x y => !ltS s y x).Pairwise (fun x y => (!ltS s y x) = true) := List.pairwise_mergeSort (fun a b c h1 h2 => by
      simp only [Bool.not_eq_true'] at *
      exact (ltS_swo s).ntrans c b a h2 h1) (fun a b => by
      simp only [Bool.or_eq_true, Bool.not_eq_true']
      cases e : ltS s b a with
      | false => exact .inl rfl
      | true =>
        right
        rw [ltS_true] at e
        rw [ltS_false]
        unfold St.bef at *
        omega) l
  have hnd : (l.mergeSort fun x y => !ltS s y x).Nodup := (hperm.nodup_iff.2 (hp.nodup_iff.2 (sorted_nodup hok.srt)))
  refine ⟨?_, fun id => ?_⟩
  · refine (hs.and hnd).imp fun {a b} h => ?_
    have h1 := h.1
    simp only [Bool.not_eq_true'] at h1
    rw [ltS_false] at h1
    have h2 := h.2
    unfold St.bef at *
    omega
  · rw [hperm.mem_iff, hp.mem_iff]
    exact ⟨fun h => ⟨h, (hok.inn id h).2.2.2⟩, fun h => h.1⟩

end Wh
end Go.Proofs.Ytbjapgajbljhfaa
