/- The contracts of item.Find, and of the reference's Find: the first entry of an ID. -/
import Derived.Test.YtfjaeohfigcciaaDoorIFade
namespace Go.Proofs.YtfjaeohfigcciaaDoor
open Go.RowKit

def findE : List En → Int → En × Bool
  | [], _ => (⟨0, 0, 0, 0, 0, 0, 0⟩, false)
  | x :: r, id => if x.id = id then (x, true) else findE r id

theorem findE_at (id : Int) (x : En) (hx : x.id = id) : ∀ (zs : List En) (k : Nat), zs[k]? = some x → (∀ j, j < k → zs[j]!.id ≠ id) → findE zs id = (x, true)
  | [], k, h, _ => by simp at h
  | y :: r, 0, h, _ => by
    simp at h
    subst h
    simp [findE, hx]
  | y :: r, k + 1, h, hn => by
    have h0 : y.id ≠ id := by simpa using hn 0 (by omega)
    rw [findE, if_neg h0]
    exact findE_at id x hx r k (by simpa using h) (fun j hj => by simpa using hn (j + 1) (by omega))
theorem findE_none (id : Int) : ∀ (zs : List En), (∀ j, j < zs.length → zs[j]!.id ≠ id) → findE zs id = (⟨0, 0, 0, 0, 0, 0, 0⟩, false)
  | [], _ => rfl
  | y :: r, hn => by
    have h0 : y.id ≠ id := by simpa using hn 0 (by simp)
    rw [findE, if_neg h0]
    exact findE_none id r (fun j hj => by simpa using hn (j + 1) (by simpa using hj))

theorem putEn_at {w : World} {g : Nat} {z : En} (h : EnAt w g 0 z) (x : En) : EnAt (putEn w g 0 x) g 0 x := by
  show EnAt (w.setCells g 0 x.enc) g 0 x
  intro i u hu
  have hi : i < x.enc.length := (List.getElem?_eq_some_iff.1 hu).1
  rw [World.cell?_setCells_in g x.enc 0 w (fun j hj => by rw [h j _ (List.getElem?_eq_getElem (by rw [enc_length] at hj ⊢; exact hj))]; rfl) i hi, ← List.getElem?_eq_getElem hi]
  exact hu
theorem putEn_size (w : World) (g o : Nat) (x : En) : (putEn w g o x).heap.size = w.heap.size := by simp [putEn, World.setCell]
theorem putEn_below {B : Nat} {a w : World} (h : Below B a w) {g : Nat} (hg : B ≤ g) (o : Nat) (x : En) : Below B a (putEn w g o x) :=
  ((((((h.setCell (p := ⟨g, _, none⟩) hg _).setCell (p := ⟨g, _, none⟩) hg _).setCell (p := ⟨g, _, none⟩) hg _).setCell (p := ⟨g, _, none⟩) hg _).setCell (p := ⟨g, _, none⟩) hg _).setCell (p := ⟨g, _, none⟩) hg _).setCell (p := ⟨g, _, none⟩) hg _

end Go.Proofs.YtfjaeohfigcciaaDoor
