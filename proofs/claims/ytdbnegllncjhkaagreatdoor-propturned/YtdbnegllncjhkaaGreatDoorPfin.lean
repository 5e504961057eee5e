/- The program's Parse of property files, whole. -/
import Derived.Test.YtdbnegllncjhkaaGreatDoorPparse
import Derived.Test.YtdbnegllncjhkaaGreatDoorNew
namespace Go.Proofs.YtdbnegllncjhkaaGreatDoor
open Go.RowKit Go.Shelf

theorem new_fine : NewOk := fun A n c ls W hS hF h0 hc hn r hr => (new9 A n c ls W hS hF h0 hc hn).mono (by
  rintro e w' ⟨hb, ⟨r', b, A', c', h1, rfl, hT, -, hfr⟩ | ⟨x, h1, -, -⟩⟩
  · rw [hr] at h1
    injection h1 with h1
    subst h1
    exact ⟨b, rfl, Lib.hid ⟨hb, A', c', hT, hfr⟩⟩
  · rw [hr] at h1
    cases h1)
theorem pparse9 (A : Option Addr) (n c : Nat) (l : List UInt8) (V : Option Addr) (nv cv : Nat) (vs : List (List UInt8)) (w : World) (hO : Octs w A n l) (hn : n ≤ 2000) (hV : Vals w V nv (strs vs)) (hnv : nv ≤ 1000) (hM : ML w) : Calls Tryz.prog 9 #[.slice A n c, .slice V nv cv] w (PrPost vs l w) :=
  pparse_of new_fine A n c l V nv cv vs w hO hn hV hnv hM
end Go.Proofs.YtdbnegllncjhkaaGreatDoor
