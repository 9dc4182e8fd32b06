/- WBase for a seat that has KBas: what KBas lacks of it. -/
import Derived.Test.YtgjiaajeionofaaKByt
namespace Go.Proofs.Ytgjiaajeionofaa
def upd {α : Type} (f : Int → α) (k : Int) (v : α) : Int → α := fun j => if j = k then v else f j
theorem upd_same {α : Type} (f : Int → α) (k : Int) (v : α) : upd f k v k = v := by simp [upd]
theorem upd_other {α : Type} (f : Int → α) {k j : Int} (v : α) (h : j ≠ k) : upd f k v j = f j := by simp [upd, h]

end Go.Proofs.Ytgjiaajeionofaa
