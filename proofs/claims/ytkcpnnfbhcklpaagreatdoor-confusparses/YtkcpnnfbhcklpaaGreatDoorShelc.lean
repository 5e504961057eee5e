/- The library's contracts of bytes.Cut at this program's own numbers (written by the library's laying tool). -/
import Derived.Shelf.Bytes.SlCut
import Derived.Test.YtkcpnnfbhcklpaaGreatDoorProg
namespace Go.Proofs
open Go.Shelf
def Tryz.laysSlT4_ren : Go.Shelf.Ren := ⟨fun | 4 => 41 | 5 => 57 | 6 => 77 | 7 => 78 | 8 => 79 | 9 => 80 | 10 => 81 | 11 => 97 | 12 => 98 | n => n, fun | 22 => 22 | 4 => 4 | 3 => 3 | 0 => 0 | 5 => 5 | 29 => 101 | 9 => 9 | 31 => 141 | 30 => 126 | n => n, fun | 0 => 0 | n => n⟩
theorem Tryz.laysSlT4 : Go.Proofs.SlLaysT.n4 Tryz.prog Tryz.laysSlT4_ren := {
  mixed := by kernel_rfl
  f4 := Tryz.func41.trans (congrArg some (by kernel_rfl))
  f5 := Tryz.func57.trans (congrArg some (by kernel_rfl))
  f6 := Tryz.func77.trans (congrArg some (by kernel_rfl))
  f7 := Tryz.func78.trans (congrArg some (by kernel_rfl))
  f8 := Tryz.func79.trans (congrArg some (by kernel_rfl))
  f9 := Tryz.func80.trans (congrArg some (by kernel_rfl))
  f10 := Tryz.func81.trans (congrArg some (by kernel_rfl))
  f11 := Tryz.func97.trans (congrArg some (by kernel_rfl))
  f12 := Tryz.func98.trans (congrArg some (by kernel_rfl))
  t0 := Tryz.underlying0
  a0 := Tryz.isAgg0
  z0 := Tryz.sizeOf0
  v0 := Tryz.zeroValue0
  t3 := Tryz.underlying3
  a3 := Tryz.isAgg3
  z3 := Tryz.sizeOf3
  v3 := Tryz.zeroValue3
  t4 := Tryz.underlying4
  a4 := Tryz.isAgg4
  z4 := Tryz.sizeOf4
  v4 := Tryz.zeroValue4
  t5 := Tryz.underlying5
  a5 := Tryz.isAgg5
  z5 := Tryz.sizeOf5
  v5 := Tryz.zeroValue5
  t9 := Tryz.underlying9
  a9 := Tryz.isAgg9
  z9 := Tryz.sizeOf9
  v9 := Tryz.zeroValue9
  t22 := Tryz.underlying22
  a22 := Tryz.isAgg22
  z22 := Tryz.sizeOf22
  v22 := Tryz.zeroValue22
  t29 := Tryz.underlying101
  a29 := Tryz.isAgg101
  z29 := Tryz.sizeOf101
  v29 := Tryz.zeroValue101
  t30 := Tryz.underlying126
  a30 := Tryz.isAgg126
  z30 := Tryz.sizeOf126
  v30 := Tryz.zeroValue126
  t31 := Tryz.underlying141
  a31 := Tryz.isAgg141
  z31 := Tryz.sizeOf141
  v31 := Tryz.zeroValue141
  g0 := by kernel_rfl }
theorem Tryz.bytes_Cut_all (p1 p2 : Option Addr) (n c1 k c2 : Nat) (xs ys : List Int) (m : Int) (w : World) (hx : xs.length = n) (hy : ys.length = k) (hr1 : ∀ x ∈ xs, 0 ≤ x ∧ x < 256) (hr2 : ∀ y ∈ ys, 0 ≤ y ∧ y < 256) (h1 : Lib.BytesIn w p1 n xs) (h2 : Lib.BytesIn w p2 k ys) (hp1 : p1 = none → c1 = 0) (hcap : n ≤ c1) (hs : n < 4294967281) (hk : k ≤ 9223372036854775807) (hm : w.cell? ⟨0, 0, none⟩ = some (.int .i64 m)) :
    Calls Tryz.prog 41 #[.slice p1 n c1, .slice p2 k c2] w fun e w' => e = .returned (Lib.cutV p1 n c1 k (Lib.index (Lib.bytesOf xs) (Lib.bytesOf ys))) ∧ ∃ q, w' = w.drewN q := Any.bytes_Cut_all Tryz.laysSlT4 p1 p2 n c1 k c2 xs ys m w hx hy hr1 hr2 h1 h2 hp1 hcap hs hk hm
end Go.Proofs
