/- A part. -/
import Derived.Lib.SmallJoins
import Derived.Shelf.Small.Strs
import Derived.Shelf.Strings.Search3
import Derived.Shelf.Strings.Prefix
import Derived.Shelf.Slices.Clone
import Derived.Shelf.Strconv.Clone
import Derived.Shelf.Strings.Split
import Derived.Shelf.Strings.Cut
import Derived.Shelf.Bytes.SlClone
import Derived.Shelf.Bytes.SlSmallAll
import Derived.Shelf.Bytes.SlCut
import Derived.Shelf.Strings.SlTrimAscii
import Derived.Test.YtmellioacefjjaaGreatDoorProg
import Derived.WalkKit
import Derived.Lib.Hide
import Derived.Deep.Draws
import Derived.Lib.SlTrimSet
import Derived.Lib.IndexMore
namespace Go.Proofs.YtmellioacefjjaaGreatDoor
open Go.RowKit Go.Joins Go.WideShapes Go.ChangeShapes Go.ChangeAt Go.Deep
section
variable {H:Type} {enc:TypeId×Value→H} {P:Program} {w:World} {base:Nat} {spare:Nat→Bool} {held:Bool}
theorem array7 {α:Type} {cs:Array α} (h:cs.size=7):∃ c0 c1 c2 c3 c4 c5 c6,cs=#[c0,c1,c2,c3,c4,c5,c6]:=by
 obtain⟨l⟩:=cs
 match l,h with
 | [c0,c1,c2,c3,c4,c5,c6],_=>exact⟨c0,c1,c2,c3,c4,c5,c6,rfl⟩
end
end Go.Proofs.YtmellioacefjjaaGreatDoor
namespace Go.Proofs
open Go.Shelf
def Tryz.lays137_ren:Go.Shelf.Ren:=⟨fun | 137=>162 | 217=>196 | 266=>228 | n=>n,fun | 9=>9 | 5=>5 | 3=>3 | n=>n,fun | n=>n⟩
theorem Tryz.lays137:Go.Proofs.Lays.n137 Tryz.prog Tryz.lays137_ren:={
 mixed:=by kernel_rfl
 f137:=Tryz.func162.trans (congrArg some (by kernel_rfl))
 f217:=Tryz.func196.trans (congrArg some (by kernel_rfl))
 f266:=Tryz.func228.trans (congrArg some (by kernel_rfl))
 t3:=Tryz.underlying3
 a3:=Tryz.isAgg3
 z3:=Tryz.sizeOf3
 v3:=Tryz.zeroValue3
 t5:=Tryz.underlying5
 a5:=Tryz.isAgg5
 z5:=Tryz.sizeOf5
 v5:=Tryz.zeroValue5
 t9:=Tryz.underlying9
 a9:=Tryz.isAgg9
 z9:=Tryz.sizeOf9
 v9:=Tryz.zeroValue9 }
theorem Tryz.strings_IndexByte (s:ByteArray) (c:Int) (w:World):
 Calls Tryz.prog 162 #[.string s,.int .u8 c] w fun e w'=>e=.returned (.int .i64 (Lib.indexByte s.data.toList c.toNat.toUInt8))∧w'=w:=Any.strings_IndexByte Tryz.lays137 s c w
def Tryz.lays143_ren:Go.Shelf.Ren:=⟨fun | 143=>218 | 219=>224 | 217=>196 | 225=>236 | 224=>210 | 267=>240 | 266=>228 | 314=>243 | n=>n,fun | 9=>9 | 3=>3 | 4=>4 | 5=>5 | 46=>149 | 146=>288 | 51=>259 | n=>n,fun | 1=>1 | n=>n⟩
theorem Tryz.lays143:Go.Proofs.Lays.n143 Tryz.prog Tryz.lays143_ren:={
 mixed:=by kernel_rfl
 f143:=Tryz.func218.trans (congrArg some (by kernel_rfl))
 f217:=Tryz.func196.trans (congrArg some (by kernel_rfl))
 f219:=Tryz.func224.trans (congrArg some (by kernel_rfl))
 f224:=Tryz.func210.trans (congrArg some (by kernel_rfl))
 f225:=Tryz.func236.trans (congrArg some (by kernel_rfl))
 f266:=Tryz.func228.trans (congrArg some (by kernel_rfl))
 f267:=Tryz.func240.trans (congrArg some (by kernel_rfl))
 f314:=Tryz.func243.trans (congrArg some (by kernel_rfl))
 t3:=Tryz.underlying3
 a3:=Tryz.isAgg3
 z3:=Tryz.sizeOf3
 v3:=Tryz.zeroValue3
 t4:=Tryz.underlying4
 a4:=Tryz.isAgg4
 z4:=Tryz.sizeOf4
 v4:=Tryz.zeroValue4
 t5:=Tryz.underlying5
 a5:=Tryz.isAgg5
 z5:=Tryz.sizeOf5
 v5:=Tryz.zeroValue5
 t9:=Tryz.underlying9
 a9:=Tryz.isAgg9
 z9:=Tryz.sizeOf9
 v9:=Tryz.zeroValue9
 t46:=Tryz.underlying149
 a46:=Tryz.isAgg149
 z46:=Tryz.sizeOf149
 v46:=Tryz.zeroValue149
 t51:=Tryz.underlying259
 a51:=Tryz.isAgg259
 z51:=Tryz.sizeOf259
 v51:=Tryz.zeroValue259
 t146:=Tryz.underlying288
 a146:=Tryz.isAgg288
 z146:=Tryz.sizeOf288
 v146:=Tryz.zeroValue288
 g1:=by kernel_rfl }
theorem Tryz.strings_Index (s sub:ByteArray) (m:Int) (w:World) (hs:s.size<4294967281) (hm:w.cell? ⟨1,0,none⟩=some (.int .i64 m)):
 Calls Tryz.prog 218 #[.string s,.string sub] w fun e w'=>e=.returned (.int .i64 (Lib.index s.data.toList sub.data.toList))∧w'=w:=Any.strings_Index Tryz.lays143 s sub m w hs hm
def Tryz.lays146_ren:Go.Shelf.Ren:=⟨fun | 146=>143 | 221=>172 | 268=>216 | 138=>217 | 143=>218 | 195=>237 | 197=>169 | 218=>238 | 219=>224 | 260=>213 | 217=>196 | 225=>236 | 224=>210 | 267=>240 | 266=>228 | 314=>243 | n=>n,fun | 9=>9 | 31=>102 | 3=>3 | 4=>4 | 0=>0 | 105=>246 | 21=>21 | 5=>5 | 46=>149 | 119=>290 | 139=>293 | 138=>292 | 146=>288 | 51=>259 | n=>n,fun | 1=>1 | 3=>2 | 4=>3 | n=>n⟩
theorem Tryz.lays146:Go.Proofs.Lays.n146 Tryz.prog Tryz.lays146_ren:={
 mixed:=by kernel_rfl
 f138:=Tryz.func217.trans (congrArg some (by kernel_rfl))
 f143:=Tryz.func218.trans (congrArg some (by kernel_rfl))
 f146:=Tryz.func143.trans (congrArg some (by kernel_rfl))
 f195:=Tryz.func237.trans (congrArg some (by kernel_rfl))
 f197:=Tryz.func169.trans (congrArg some (by kernel_rfl))
 f217:=Tryz.func196.trans (congrArg some (by kernel_rfl))
 f218:=Tryz.func238.trans (congrArg some (by kernel_rfl))
 f219:=Tryz.func224.trans (congrArg some (by kernel_rfl))
 f221:=Tryz.func172.trans (congrArg some (by kernel_rfl))
 f224:=Tryz.func210.trans (congrArg some (by kernel_rfl))
 f225:=Tryz.func236.trans (congrArg some (by kernel_rfl))
 f260:=Tryz.func213.trans (congrArg some (by kernel_rfl))
 f266:=Tryz.func228.trans (congrArg some (by kernel_rfl))
 f267:=Tryz.func240.trans (congrArg some (by kernel_rfl))
 f268:=Tryz.func216.trans (congrArg some (by kernel_rfl))
 f314:=Tryz.func243.trans (congrArg some (by kernel_rfl))
 t0:=Tryz.underlying0
 a0:=Tryz.isAgg0
 z0:=Tryz.sizeOf0
 v0:=Tryz.zeroValue0
 t3:=Tryz.underlying3
 a3:=Tryz.isAgg3
 z3:=Tryz.sizeOf3
 v3:=Tryz.zeroValue3
 t4:=Tryz.underlying4
 a4:=Tryz.isAgg4
 z4:=Tryz.sizeOf4
 v4:=Tryz.zeroValue4
 t5:=Tryz.underlying5
 a5:=Tryz.isAgg5
 z5:=Tryz.sizeOf5
 v5:=Tryz.zeroValue5
 t9:=Tryz.underlying9
 a9:=Tryz.isAgg9
 z9:=Tryz.sizeOf9
 v9:=Tryz.zeroValue9
 t21:=Tryz.underlying21
 a21:=Tryz.isAgg21
 z21:=Tryz.sizeOf21
 v21:=Tryz.zeroValue21
 t31:=Tryz.underlying102
 a31:=Tryz.isAgg102
 z31:=Tryz.sizeOf102
 v31:=Tryz.zeroValue102
 t46:=Tryz.underlying149
 a46:=Tryz.isAgg149
 z46:=Tryz.sizeOf149
 v46:=Tryz.zeroValue149
 t51:=Tryz.underlying259
 a51:=Tryz.isAgg259
 z51:=Tryz.sizeOf259
 v51:=Tryz.zeroValue259
 t105:=Tryz.underlying246
 a105:=Tryz.isAgg246
 z105:=Tryz.sizeOf246
 v105:=Tryz.zeroValue246
 t119:=Tryz.underlying290
 a119:=Tryz.isAgg290
 z119:=Tryz.sizeOf290
 t138:=Tryz.underlying292
 a138:=Tryz.isAgg292
 z138:=Tryz.sizeOf292
 v138:=Tryz.zeroValue292
 t139:=Tryz.underlying293
 a139:=Tryz.isAgg293
 z139:=Tryz.sizeOf293
 v139:=Tryz.zeroValue293
 t146:=Tryz.underlying288
 a146:=Tryz.isAgg288
 z146:=Tryz.sizeOf288
 v146:=Tryz.zeroValue288
 g1:=by kernel_rfl
 g3:=by kernel_rfl
 g4:=by kernel_rfl }
theorem Tryz.strings_Split (s sep:ByteArray) (m:Int) (w:World) (hs:s.size<4294967281) (hm:w.cell? ⟨1,0,none⟩=some (.int .i64 m)) (h1:1≤sep.size):
 Calls Tryz.prog 143 #[.string s,.string sep] w fun e w'=>
  e=.returned (.slice (some ⟨w.heap.size,0,none⟩) (Lib.countB s sep+1) (Lib.countB s sep+1))∧w'=w.alloc (.cells ((Lib.splitB sep 0 (Lib.countB s sep) s).map Value.string).toArray 9):=Any.strings_Split Tryz.lays146 (by kernel_rfl) s sep m w hs hm h1
def Tryz.laysSlK4_ren:Go.Shelf.Ren:=⟨fun | 4=>105 | n=>n,fun | 22=>22 | 4=>4 | 5=>5 | n=>n,fun | n=>n⟩
theorem Tryz.laysSlK4:Go.Proofs.SlLaysK.n4 Tryz.prog Tryz.laysSlK4_ren:={
 mixed:=by kernel_rfl
 f4:=Tryz.func105.trans (congrArg some (by kernel_rfl))
 t4:=Tryz.underlying4
 a4:=Tryz.isAgg4
 z4:=Tryz.sizeOf4
 v4:=Tryz.zeroValue4
 t22:=Tryz.underlying22
 a22:=Tryz.isAgg22
 z22:=Tryz.sizeOf22
 v22:=Tryz.zeroValue22
 t5:=Tryz.underlying5
 i5:=by kernel_rfl }
open Go.RowKit in
theorem Tryz.bytes_Clone_at (a:Addr) (n c:Nat) (xs:List Int) (w:World) (hx:xs.length=n) (hbig:n≤140737488355328) (hc:∀ i,i<n→w.cell? (a.add i)=some (.int .u8 (xs.getD i 0))):
 Calls Tryz.prog 105 #[.slice (some a) n c] w fun e w'=>∃ v',e=.returned v'∧w'.ownsRow w.heap.size 5 1 v' n (xs.map (Value.int .u8))∧v' ≠ .slice none 0 0∧Below w.heap.size w w':=Any.bytes_Clone_at Tryz.laysSlK4 a n c xs w hx hbig hc
theorem Tryz.bytes_Clone_nil (n c:Nat) (w:World):
 Calls Tryz.prog 105 #[.slice none n c] w fun e w'=>e=.returned (.slice none 0 0)∧w'=w:=Any.bytes_Clone_nil Tryz.laysSlK4 n c w
def Tryz.laysnb140_ren:Go.Shelf.Ren:=⟨fun | 140=>167 | 117=>212 | 115=>208 | n=>n,fun | 37=>22 | 4=>4 | 3=>3 | 9=>9 | 5=>5 | n=>n,fun | n=>n⟩
theorem Tryz.laysnb140:Go.Proofs.Lays.nb140 Tryz.prog Tryz.laysnb140_ren:={
 mixed:=by kernel_rfl
 f115:=Tryz.func208.trans (congrArg some (by kernel_rfl))
 f117:=Tryz.func212.trans (congrArg some (by kernel_rfl))
 f140:=Tryz.func167.trans (congrArg some (by kernel_rfl))
 t3:=Tryz.underlying3
 a3:=Tryz.isAgg3
 z3:=Tryz.sizeOf3
 v3:=Tryz.zeroValue3
 t4:=Tryz.underlying4
 a4:=Tryz.isAgg4
 z4:=Tryz.sizeOf4
 v4:=Tryz.zeroValue4
 t9:=Tryz.underlying9
 a9:=Tryz.isAgg9
 z9:=Tryz.sizeOf9
 v9:=Tryz.zeroValue9
 t37:=Tryz.underlying22
 a37:=Tryz.isAgg22
 z37:=Tryz.sizeOf22
 v37:=Tryz.zeroValue22
 t5:=Tryz.underlying5
 a5:=Tryz.isAgg5
 z5:=Tryz.sizeOf5
 v5:=Tryz.zeroValue5 }
theorem Tryz.bytes_TrimSuffix_all (p1 p2:Option Addr) (n c m d:Nat) (xs ys:List Int) (w:World) (hx:xs.length=n) (hy:ys.length=m) (hnc:n≤c) (hbig:n≤9223372036854775807) (h1:Lib.BytesIn w p1 n xs) (h2:Lib.BytesIn w p2 m ys):
 Calls Tryz.prog 167 #[.slice p1 n c,.slice p2 m d] w fun e w'=>e=.returned (Lib.trimSuffixV p1 n c xs ys)∧w'=w:=Any.bytes_TrimSuffix_all Tryz.laysnb140 p1 p2 n c m d xs ys w hx hy hnc hbig h1 h2
def Tryz.laysSlT4_ren:Go.Shelf.Ren:=⟨fun | 4=>134 | 5=>166 | 6=>207 | 7=>208 | 8=>209 | 9=>210 | 10=>211 | 11=>233 | 12=>234 | n=>n,fun | 22=>22 | 4=>4 | 3=>3 | 0=>0 | 5=>5 | 29=>149 | 9=>9 | 31=>288 | 30=>259 | n=>n,fun | 0=>1 | n=>n⟩
theorem Tryz.laysSlT4:Go.Proofs.SlLaysT.n4 Tryz.prog Tryz.laysSlT4_ren:={
 mixed:=by kernel_rfl
 f4:=Tryz.func134.trans (congrArg some (by kernel_rfl))
 f5:=Tryz.func166.trans (congrArg some (by kernel_rfl))
 f6:=Tryz.func207.trans (congrArg some (by kernel_rfl))
 f7:=Tryz.func208.trans (congrArg some (by kernel_rfl))
 f8:=Tryz.func209.trans (congrArg some (by kernel_rfl))
 f9:=Tryz.func210.trans (congrArg some (by kernel_rfl))
 f10:=Tryz.func211.trans (congrArg some (by kernel_rfl))
 f11:=Tryz.func233.trans (congrArg some (by kernel_rfl))
 f12:=Tryz.func234.trans (congrArg some (by kernel_rfl))
 t0:=Tryz.underlying0
 a0:=Tryz.isAgg0
 z0:=Tryz.sizeOf0
 v0:=Tryz.zeroValue0
 t3:=Tryz.underlying3
 a3:=Tryz.isAgg3
 z3:=Tryz.sizeOf3
 v3:=Tryz.zeroValue3
 t4:=Tryz.underlying4
 a4:=Tryz.isAgg4
 z4:=Tryz.sizeOf4
 v4:=Tryz.zeroValue4
 t5:=Tryz.underlying5
 a5:=Tryz.isAgg5
 z5:=Tryz.sizeOf5
 v5:=Tryz.zeroValue5
 t9:=Tryz.underlying9
 a9:=Tryz.isAgg9
 z9:=Tryz.sizeOf9
 v9:=Tryz.zeroValue9
 t22:=Tryz.underlying22
 a22:=Tryz.isAgg22
 z22:=Tryz.sizeOf22
 v22:=Tryz.zeroValue22
 t29:=Tryz.underlying149
 a29:=Tryz.isAgg149
 z29:=Tryz.sizeOf149
 v29:=Tryz.zeroValue149
 t30:=Tryz.underlying259
 a30:=Tryz.isAgg259
 z30:=Tryz.sizeOf259
 v30:=Tryz.zeroValue259
 t31:=Tryz.underlying288
 a31:=Tryz.isAgg288
 z31:=Tryz.sizeOf288
 v31:=Tryz.zeroValue288
 g0:=by kernel_rfl }
theorem Tryz.bytes_Cut_all (p1 p2:Option Addr) (n c1 k c2:Nat) (xs ys:List Int) (m:Int) (w:World) (hx:xs.length=n) (hy:ys.length=k) (hr1:∀ x∈xs,0≤x∧x<256) (hr2:∀ y∈ys,0≤y∧y<256) (h1:Lib.BytesIn w p1 n xs) (h2:Lib.BytesIn w p2 k ys) (hp1:p1=none→c1=0) (hcap:n≤c1) (hs:n<4294967281) (hk:k≤9223372036854775807) (hm:w.cell? ⟨1,0,none⟩=some (.int .i64 m)):
 Calls Tryz.prog 134 #[.slice p1 n c1,.slice p2 k c2] w fun e w'=>e=.returned (Lib.cutV p1 n c1 k (Lib.index (Lib.bytesOf xs) (Lib.bytesOf ys)))∧∃ q,w'=w.drewN q:=Any.bytes_Cut_all Tryz.laysSlT4 p1 p2 n c1 k c2 xs ys m w hx hy hr1 hr2 h1 h2 hp1 hcap hs hk hm
def Tryz.lays160_ren:Go.Shelf.Ren:=⟨fun | 160=>108 | 232=>137 | 231=>136 | 227=>138 | 234=>140 | 233=>139 | 236=>142 | 235=>141 | 228=>168 | 271=>171 | 151=>170 | 197=>169 | 120=>215 | 152=>214 | 260=>213 | 137=>162 | 119=>235 | 224=>210 | 225=>236 | 217=>196 | 266=>228 | n=>n,fun | 9=>9 | 4=>4 | 3=>3 | 5=>5 | 117=>225 | 116=>224 | 0=>0 | 124=>228 | 21=>21 | 105=>246 | 46=>149 | 119=>290 | 139=>293 | 138=>292 | n=>n,fun | 3=>2 | 4=>3 | n=>n⟩
theorem Tryz.lays160:Go.Proofs.Lays.n160 Tryz.prog Tryz.lays160_ren:={
 mixed:=by kernel_rfl
 f119:=Tryz.func235.trans (congrArg some (by kernel_rfl))
 f120:=Tryz.func215.trans (congrArg some (by kernel_rfl))
 f137:=Tryz.func162.trans (congrArg some (by kernel_rfl))
 f151:=Tryz.func170.trans (congrArg some (by kernel_rfl))
 f152:=Tryz.func214.trans (congrArg some (by kernel_rfl))
 f160:=Tryz.func108.trans (congrArg some (by kernel_rfl))
 f197:=Tryz.func169.trans (congrArg some (by kernel_rfl))
 f217:=Tryz.func196.trans (congrArg some (by kernel_rfl))
 f224:=Tryz.func210.trans (congrArg some (by kernel_rfl))
 f225:=Tryz.func236.trans (congrArg some (by kernel_rfl))
 f227:=Tryz.func138.trans (congrArg some (by kernel_rfl))
 f228:=Tryz.func168.trans (congrArg some (by kernel_rfl))
 f231:=Tryz.func136.trans (congrArg some (by kernel_rfl))
 f232:=Tryz.func137.trans (congrArg some (by kernel_rfl))
 f233:=Tryz.func139.trans (congrArg some (by kernel_rfl))
 f234:=Tryz.func140.trans (congrArg some (by kernel_rfl))
 f235:=Tryz.func141.trans (congrArg some (by kernel_rfl))
 f236:=Tryz.func142.trans (congrArg some (by kernel_rfl))
 f260:=Tryz.func213.trans (congrArg some (by kernel_rfl))
 f266:=Tryz.func228.trans (congrArg some (by kernel_rfl))
 f271:=Tryz.func171.trans (congrArg some (by kernel_rfl))
 t0:=Tryz.underlying0
 a0:=Tryz.isAgg0
 z0:=Tryz.sizeOf0
 v0:=Tryz.zeroValue0
 t3:=Tryz.underlying3
 a3:=Tryz.isAgg3
 z3:=Tryz.sizeOf3
 v3:=Tryz.zeroValue3
 t4:=Tryz.underlying4
 a4:=Tryz.isAgg4
 z4:=Tryz.sizeOf4
 v4:=Tryz.zeroValue4
 t5:=Tryz.underlying5
 a5:=Tryz.isAgg5
 z5:=Tryz.sizeOf5
 v5:=Tryz.zeroValue5
 t9:=Tryz.underlying9
 a9:=Tryz.isAgg9
 z9:=Tryz.sizeOf9
 v9:=Tryz.zeroValue9
 t21:=Tryz.underlying21
 a21:=Tryz.isAgg21
 z21:=Tryz.sizeOf21
 v21:=Tryz.zeroValue21
 t46:=Tryz.underlying149
 a46:=Tryz.isAgg149
 z46:=Tryz.sizeOf149
 v46:=Tryz.zeroValue149
 t105:=Tryz.underlying246
 a105:=Tryz.isAgg246
 z105:=Tryz.sizeOf246
 v105:=Tryz.zeroValue246
 t116:=Tryz.underlying224
 a116:=Tryz.isAgg224
 z116:=Tryz.sizeOf224
 t117:=Tryz.underlying225
 a117:=Tryz.isAgg225
 z117:=Tryz.sizeOf225
 v117:=Tryz.zeroValue225
 t119:=Tryz.underlying290
 a119:=Tryz.isAgg290
 z119:=Tryz.sizeOf290
 t124:=Tryz.underlying228
 a124:=Tryz.isAgg228
 z124:=Tryz.sizeOf228
 v124:=Tryz.zeroValue228
 t138:=Tryz.underlying292
 a138:=Tryz.isAgg292
 z138:=Tryz.sizeOf292
 v138:=Tryz.zeroValue292
 t139:=Tryz.underlying293
 a139:=Tryz.isAgg293
 z139:=Tryz.sizeOf293
 v139:=Tryz.zeroValue293
 g3:=by kernel_rfl
 g4:=by kernel_rfl }
open Go.RowKit in
theorem Tryz.strings_Trim (s cutset:ByteArray) (w:World) (hs:s.size≤9223372036854775807) (hcs:cutset.size<4294967281) (hascii:∀ (j:Nat) b,cutset.data.toList[j]? = some b→b.toNat<128):
 Calls Tryz.prog 108 #[.string s,.string cutset] w fun e w'=>e=.returned (.string ⟨(Lib.trimS s.data.toList cutset.data.toList).toArray⟩)∧Below w.heap.size w w':=Any.strings_Trim_laid Tryz.lays160 (by kernel_rfl) s cutset w hs hcs hascii
def Tryz.laysM185_ren:Go.Shelf.Ren:=⟨fun | 185=>166 | 187=>207 | 115=>208 | 253=>209 | 224=>210 | 254=>211 | 255=>233 | 291=>234 | n=>n,fun | 37=>22 | 3=>3 | 4=>4 | 0=>0 | 5=>5 | 46=>149 | 9=>9 | 146=>288 | 51=>259 | n=>n,fun | 1=>1 | n=>n⟩
theorem Tryz.laysM185:Go.Proofs.LaysM.n185 Tryz.prog Tryz.laysM185_ren:={
 mixed:=by kernel_rfl
 f115:=Tryz.func208.trans (congrArg some (by kernel_rfl))
 f185:=Tryz.func166.trans (congrArg some (by kernel_rfl))
 f187:=Tryz.func207.trans (congrArg some (by kernel_rfl))
 f224:=Tryz.func210.trans (congrArg some (by kernel_rfl))
 f253:=Tryz.func209.trans (congrArg some (by kernel_rfl))
 f254:=Tryz.func211.trans (congrArg some (by kernel_rfl))
 f255:=Tryz.func233.trans (congrArg some (by kernel_rfl))
 f291:=Tryz.func234.trans (congrArg some (by kernel_rfl))
 t0:=Tryz.underlying0
 a0:=Tryz.isAgg0
 z0:=Tryz.sizeOf0
 v0:=Tryz.zeroValue0
 t3:=Tryz.underlying3
 a3:=Tryz.isAgg3
 z3:=Tryz.sizeOf3
 v3:=Tryz.zeroValue3
 t4:=Tryz.underlying4
 a4:=Tryz.isAgg4
 z4:=Tryz.sizeOf4
 v4:=Tryz.zeroValue4
 t5:=Tryz.underlying5
 a5:=Tryz.isAgg5
 z5:=Tryz.sizeOf5
 v5:=Tryz.zeroValue5
 t9:=Tryz.underlying9
 a9:=Tryz.isAgg9
 z9:=Tryz.sizeOf9
 v9:=Tryz.zeroValue9
 t37:=Tryz.underlying22
 a37:=Tryz.isAgg22
 z37:=Tryz.sizeOf22
 v37:=Tryz.zeroValue22
 t46:=Tryz.underlying149
 a46:=Tryz.isAgg149
 z46:=Tryz.sizeOf149
 v46:=Tryz.zeroValue149
 t51:=Tryz.underlying259
 a51:=Tryz.isAgg259
 z51:=Tryz.sizeOf259
 v51:=Tryz.zeroValue259
 t146:=Tryz.underlying288
 a146:=Tryz.isAgg288
 z146:=Tryz.sizeOf288
 v146:=Tryz.zeroValue288
 g1:=by kernel_rfl
 i0:=by kernel_rfl
 i3:=by kernel_rfl
 i4:=by kernel_rfl
 i5:=by kernel_rfl
 i9:=by kernel_rfl
 i37:=by kernel_rfl
 i46:=by kernel_rfl
 i51:=by kernel_rfl
 i146:=by kernel_rfl
 m1:=by kernel_rfl
 s1_3:=fun w h=>Go.Proofs.cell_of_shapedOpen_int (zero:=#[.int .i64 0]) (t:=3) h (of_decide_eq_true (by kernel_rfl)) (by kernel_rfl) rfl (by kernel_rfl) (by kernel_rfl) Tryz.underlying3 }
theorem Tryz.maxLen_cell (w:World) (h:w.ShapedOpen Tryz.prog):∃ m,w.cell? ⟨1,0,none⟩=some (.int .i64 m):=Tryz.laysM185.s1_3 w h
def Tryz.lays99_ren:Go.Shelf.Ren:=⟨fun | 99=>149 | 206=>174 | n=>n,fun | 9=>9 | 4=>4 | 3=>3 | n=>n,fun | n=>n⟩
theorem Tryz.lays99:Go.Proofs.Lays.n99 Tryz.prog Tryz.lays99_ren:={
 mixed:=by kernel_rfl
 f99:=Tryz.func149.trans (congrArg some (by kernel_rfl))
 f206:=Tryz.func174.trans (congrArg some (by kernel_rfl))
 t3:=Tryz.underlying3
 a3:=Tryz.isAgg3
 z3:=Tryz.sizeOf3
 v3:=Tryz.zeroValue3
 t4:=Tryz.underlying4
 a4:=Tryz.isAgg4
 z4:=Tryz.sizeOf4
 v4:=Tryz.zeroValue4
 t9:=Tryz.underlying9
 a9:=Tryz.isAgg9
 z9:=Tryz.sizeOf9
 v9:=Tryz.zeroValue9 }
theorem Tryz.strings_HasPrefix (s p:ByteArray) (w:World):
 Calls Tryz.prog 149 #[.string s,.string p] w fun e w'=>e=.returned (.bool (Lib.hasPrefix s.data.toList p.data.toList))∧w'=w:=Any.strings_HasPrefix Tryz.lays99 s p w
def Tryz.lays100_ren:Go.Shelf.Ren:=⟨fun | 100=>150 | 207=>175 | n=>n,fun | 9=>9 | 4=>4 | 3=>3 | n=>n,fun | n=>n⟩
theorem Tryz.lays100:Go.Proofs.Lays.n100 Tryz.prog Tryz.lays100_ren:={
 mixed:=by kernel_rfl
 f100:=Tryz.func150.trans (congrArg some (by kernel_rfl))
 f207:=Tryz.func175.trans (congrArg some (by kernel_rfl))
 t3:=Tryz.underlying3
 a3:=Tryz.isAgg3
 z3:=Tryz.sizeOf3
 v3:=Tryz.zeroValue3
 t4:=Tryz.underlying4
 a4:=Tryz.isAgg4
 z4:=Tryz.sizeOf4
 v4:=Tryz.zeroValue4
 t9:=Tryz.underlying9
 a9:=Tryz.isAgg9
 z9:=Tryz.sizeOf9
 v9:=Tryz.zeroValue9 }
theorem Tryz.strings_HasSuffix (s p:ByteArray) (w:World) (hs:s.size≤9223372036854775807):
 Calls Tryz.prog 150 #[.string s,.string p] w fun e w'=>e=.returned (.bool (Lib.hasSuffix s.data.toList p.data.toList))∧w'=w:=Any.strings_HasSuffix Tryz.lays100 s p w hs
def Tryz.lays2_15_ren:Go.Shelf.Ren:=⟨fun | 15=>54 | n=>n,fun | 22=>31 | 3=>3 | 4=>4 | n=>n,fun | n=>n⟩
theorem Tryz.lays2_15:Go.Proofs.Lays2.n15 Tryz.prog Tryz.lays2_15_ren:={
 mixed:=by kernel_rfl
 f15:=Tryz.func54.trans (congrArg some (by kernel_rfl))
 t3:=Tryz.underlying3
 a3:=Tryz.isAgg3
 z3:=Tryz.sizeOf3
 v3:=Tryz.zeroValue3
 t4:=Tryz.underlying4
 a4:=Tryz.isAgg4
 z4:=Tryz.sizeOf4
 v4:=Tryz.zeroValue4
 t22:=Tryz.underlying31
 a22:=Tryz.isAgg31
 z22:=Tryz.sizeOf31
 v22:=Tryz.zeroValue31
 i3:=by kernel_rfl }
open Go.RowKit in
theorem Tryz.slices_Clone_int (b off n c:Nat) (zs:List Int) (w:World) (hz:n≤zs.length) (hbig:n*8≤140737488355328) (hc:∀ j,j<zs.length→w.cell? ⟨b,off+j,none⟩=some (.int .i64 (zs.getD j 0))):
 Calls Tryz.prog 54 #[.slice (some ⟨b,off,none⟩) n c] w fun e w'=>∃ v',e=.returned v'∧w'.ownsRow w.heap.size 3 1 v' n ((zs.take n).map (Value.int .i64))∧v' ≠ .slice none 0 0∧Below w.heap.size w w':=Any.slices_Clone_int Tryz.lays2_15 b off n c zs w hz hbig hc
theorem Tryz.slices_Clone_int_nil (n c:Nat) (w:World):
 Calls Tryz.prog 54 #[.slice none n c] w fun e w'=>e=.returned (.slice none 0 0)∧w'=w:=Any.slices_Clone_int_nil Tryz.lays2_15 n c w
open Go.RowKit in
theorem Tryz.slices_Clone_int_zero (a:Addr) (c:Nat) (w:World):
 Calls Tryz.prog 54 #[.slice (some a) 0 c] w fun e w'=>∃ v',e=.returned v'∧w'.ownsRow w.heap.size 3 1 v' 0 []∧v' ≠ .slice none 0 0∧Below w.heap.size w w':=Any.slices_Clone_int_zero Tryz.lays2_15 a c w
def Tryz.laysM316_ren:Go.Shelf.Ren:=⟨fun | 316=>155 | n=>n,fun | 9=>9 | 3=>3 | 4=>4 | 37=>22 | 0=>0 | 127=>261 | 5=>5 | n=>n,fun | n=>n⟩
theorem Tryz.laysM316:Go.Proofs.LaysM.n316 Tryz.prog Tryz.laysM316_ren:={
 mixed:=by kernel_rfl
 f316:=Tryz.func155.trans (congrArg some (by kernel_rfl))
 t0:=Tryz.underlying0
 a0:=Tryz.isAgg0
 z0:=Tryz.sizeOf0
 v0:=Tryz.zeroValue0
 t3:=Tryz.underlying3
 a3:=Tryz.isAgg3
 z3:=Tryz.sizeOf3
 v3:=Tryz.zeroValue3
 t4:=Tryz.underlying4
 a4:=Tryz.isAgg4
 z4:=Tryz.sizeOf4
 v4:=Tryz.zeroValue4
 t9:=Tryz.underlying9
 a9:=Tryz.isAgg9
 z9:=Tryz.sizeOf9
 v9:=Tryz.zeroValue9
 t37:=Tryz.underlying22
 a37:=Tryz.isAgg22
 z37:=Tryz.sizeOf22
 v37:=Tryz.zeroValue22
 t127:=Tryz.underlying261
 a127:=Tryz.isAgg261
 z127:=Tryz.sizeOf261
 v127:=Tryz.zeroValue261
 t5:=Tryz.underlying5
 a5:=Tryz.isAgg5
 z5:=Tryz.sizeOf5
 v5:=Tryz.zeroValue5
 i0:=by kernel_rfl
 i3:=by kernel_rfl
 i4:=by kernel_rfl
 i5:=by kernel_rfl
 i9:=by kernel_rfl
 i37:=by kernel_rfl
 i127:=by kernel_rfl }
open Go.RowKit in
theorem Tryz.stringslite_Clone (s:ByteArray) (w:World) (hlim:s.size≤281474976710656):
 Calls Tryz.prog 155 #[.string s] w fun e w'=>e=.returned (.string s)∧Below w.heap.size w w':=Any.stringslite_Clone Tryz.laysM316 s w hlim
def Tryz.lays145_ren:Go.Shelf.Ren:=⟨fun | 145=>154 | 220=>186 | 219=>224 | 217=>196 | 225=>236 | 224=>210 | 267=>240 | 266=>228 | 314=>243 | n=>n,fun | 9=>9 | 4=>4 | 59=>235 | 3=>3 | 5=>5 | 46=>149 | 146=>288 | 51=>259 | n=>n,fun | 1=>1 | n=>n⟩
theorem Tryz.lays145:Go.Proofs.Lays.n145 Tryz.prog Tryz.lays145_ren:={
 mixed:=by kernel_rfl
 f145:=Tryz.func154.trans (congrArg some (by kernel_rfl))
 f217:=Tryz.func196.trans (congrArg some (by kernel_rfl))
 f219:=Tryz.func224.trans (congrArg some (by kernel_rfl))
 f220:=Tryz.func186.trans (congrArg some (by kernel_rfl))
 f224:=Tryz.func210.trans (congrArg some (by kernel_rfl))
 f225:=Tryz.func236.trans (congrArg some (by kernel_rfl))
 f266:=Tryz.func228.trans (congrArg some (by kernel_rfl))
 f267:=Tryz.func240.trans (congrArg some (by kernel_rfl))
 f314:=Tryz.func243.trans (congrArg some (by kernel_rfl))
 t3:=Tryz.underlying3
 a3:=Tryz.isAgg3
 z3:=Tryz.sizeOf3
 v3:=Tryz.zeroValue3
 t4:=Tryz.underlying4
 a4:=Tryz.isAgg4
 z4:=Tryz.sizeOf4
 v4:=Tryz.zeroValue4
 t5:=Tryz.underlying5
 a5:=Tryz.isAgg5
 z5:=Tryz.sizeOf5
 v5:=Tryz.zeroValue5
 t9:=Tryz.underlying9
 a9:=Tryz.isAgg9
 z9:=Tryz.sizeOf9
 v9:=Tryz.zeroValue9
 t46:=Tryz.underlying149
 a46:=Tryz.isAgg149
 z46:=Tryz.sizeOf149
 v46:=Tryz.zeroValue149
 t51:=Tryz.underlying259
 a51:=Tryz.isAgg259
 z51:=Tryz.sizeOf259
 v51:=Tryz.zeroValue259
 t59:=Tryz.underlying235
 a59:=Tryz.isAgg235
 z59:=Tryz.sizeOf235
 v59:=Tryz.zeroValue235
 t146:=Tryz.underlying288
 a146:=Tryz.isAgg288
 z146:=Tryz.sizeOf288
 v146:=Tryz.zeroValue288
 g1:=by kernel_rfl }
theorem Tryz.strings_Cut (s sep:ByteArray) (m:Int) (w:World) (hs:s.size<4294967281) (hm:w.cell? ⟨1,0,none⟩=some (.int .i64 m)):
 Calls Tryz.prog 154 #[.string s,.string sep] w fun e w'=>e=.returned (.tuple #[.string ⟨(Lib.cut s.data.toList sep.data.toList).1.toArray⟩,.string ⟨(Lib.cut s.data.toList sep.data.toList).2.1.toArray⟩,.bool (Lib.cut s.data.toList sep.data.toList).2.2])∧∃ n,w'=w.drewN n:=Any.strings_Cut Tryz.lays145 s sep m w hs hm
end Go.Proofs
namespace Go.Proofs.YtmellioacefjjaaGreatDoor
open Go.RowKit
def bs (l:List UInt8):ByteArray:=⟨l.toArray⟩
theorem bs_size (l:List UInt8):(bs l).size=l.length:=by simp [bs,ByteArray.size]
theorem bs_of (s:ByteArray):bs s.data.toList=s:=rfl
theorem bs_data (l:List UInt8):(bs l).data.toList=l:=by simp [bs]
theorem bs_nil:bs []=⟨#[]⟩:=rfl
theorem bs_inj {l m:List UInt8} (h:bs l=bs m):l=m:=by
 have:=congrArg (fun s:ByteArray=>s.data.toList) h
 simpa [bs_data] using this
theorem bs_get (l:List UInt8) (k:Nat) (h:k<(bs l).size):(bs l)[k]'h=l.getD k 0:=by
 have h':k<l.length:=by rwa [bs_size] at h
 simp [bs,List.getD_eq_getElem?_getD,List.getElem?_eq_getElem h']
 rfl
theorem bs_ext (l:List UInt8) (a b:Nat):(bs l).extract a b=bs ((l.drop a).take (b-a)):=by
 unfold bs
 rw [ByteArray.extract_mk]
theorem bs_app (l m:List UInt8):bs l++bs m=bs (l++m):=by
 show ByteArray.append _ _=_
 unfold bs
 apply ByteArray.ext
 simp
def oct (l:List UInt8) (k:Nat):Int:=((l.getD k 0).toNat:Int)
theorem bs_oct (l:List UInt8) (k:Nat):∀ h,(((bs l)[k]'h).toNat:Int)=oct l k:=fun h=>by rw [bs_get];rfl
theorem oct_range (l:List UInt8) (k:Nat):0≤oct l k∧oct l k<256:=by
 have:=(l.getD k 0).toNat_lt
 unfold oct
 omega
theorem u8_int (a b:UInt8):(a.toNat:Int)=b.toNat↔a=b:=by
 constructor
 · intro h
   exact UInt8.toNat_inj.1 (by exact_mod_cast h)
 · rintro rfl;rfl
theorem ret_str {a b:ByteArray} (h:a=b):Ending.returned (.string a)=.returned (.string b):=by rw [h]
theorem val_int {k:IntKind} {a b:Int} (h:a=b):Value.int k a=.int k b:=by rw [h]
theorem ret_int {k:IntKind} {a b:Int} (h:a=b):Ending.returned (.int k a)=.returned (.int k b):=by rw [h]
theorem below_drewN {B:Nat} {a w:World} (h:Below B a w) (q:Nat):Below B a (w.drewN q):=⟨h.os,h.tape,h.output,h.size,h.block⟩
def sp (c:UInt8):Bool:=c==32||c==9
def ltrim (l:List UInt8):List UInt8:=l.dropWhile sp
def rtrim (l:List UInt8):List UInt8:=(l.reverse.dropWhile sp).reverse
def trim (l:List UInt8):List UInt8:=rtrim (ltrim l)
theorem ltrim_rtrim:∀ l:List UInt8,ltrim (rtrim l)=rtrim (ltrim l)
 | []=>rfl
 | x::l=>by
  have ih:=ltrim_rtrim l
  unfold ltrim rtrim at *
  rw [List.reverse_cons,List.dropWhile_append]
  cases hp:sp x with
  | true=>
   rw [List.dropWhile_cons_of_pos (by simp [hp])]
   by_cases he:(l.reverse.dropWhile sp).isEmpty
   · rw [if_pos he]
     rw [List.isEmpty_iff] at he
     rw [List.dropWhile_cons_of_pos (by simp [hp])]
     rw [he] at ih
     rw [←ih]
     rfl
   · rw [if_neg he,List.reverse_append,List.reverse_singleton,List.singleton_append,List.dropWhile_cons_of_pos (by simp [hp]),ih,List.dropWhile_cons_of_pos (by simp [hp])]
  | false=>
   rw [List.dropWhile_cons_of_neg (by simp [hp]) (l:=l),List.reverse_cons,List.dropWhile_append]
   by_cases he:(l.reverse.dropWhile sp).isEmpty
   · rw [if_pos he]
     rw [List.dropWhile_cons_of_neg (by simp [hp])]
     simp [hp]
   · rw [if_neg he,List.reverse_append,List.reverse_singleton,List.singleton_append,List.dropWhile_cons_of_neg (by simp [hp])]
theorem sp_contains (c:UInt8):([32,9]:List UInt8).contains c=sp c:=by
 simp [sp,List.contains,List.elem,BEq.beq]
 by_cases h:c=32
 · simp [h]
 · by_cases h':c=9
   · simp [h']
   · simp [h,h']
theorem trimS_eq (l:List UInt8):Lib.trimS l [32,9]=trim l:=by
 unfold Lib.trimS Lib.trimLeftS Lib.trimRightS
 have e:(fun x=>([32,9]:List UInt8).contains x)=sp:=funext sp_contains
 rw [e]
 exact ltrim_rtrim l
theorem trim_length (l:List UInt8):(trim l).length≤l.length:=by
 unfold trim rtrim ltrim
 rw [List.length_reverse]
 have h1:=(List.dropWhile_sublist sp (l:=(l.dropWhile sp).reverse)).length_le
 have h2:=(List.dropWhile_sublist sp (l:=l)).length_le
 rw [List.length_reverse] at h1
 omega
theorem ltrim_cons_pos {x:UInt8} {l:List UInt8} (h:sp x=true):ltrim (x::l)=ltrim l:=List.dropWhile_cons_of_pos h
theorem ltrim_cons_neg {x:UInt8} {l:List UInt8} (h:sp x=false):ltrim (x::l)=x::l:=List.dropWhile_cons_of_neg (by simp [h])
theorem rtrim_snoc_pos {x:UInt8} {l:List UInt8} (h:sp x=true):rtrim (l ++ [x])=rtrim l:=by
 unfold rtrim
 rw [List.reverse_append,List.reverse_singleton,List.singleton_append,List.dropWhile_cons_of_pos h]
theorem rtrim_snoc_neg {x:UInt8} {l:List UInt8} (h:sp x=false):rtrim (l ++ [x])=l ++ [x]:=by
 unfold rtrim
 rw [List.reverse_append,List.reverse_singleton,List.singleton_append,List.dropWhile_cons_of_neg (by simp [h]),List.reverse_cons,List.reverse_reverse]
def glue (p:List UInt8):List (List UInt8)→List (List UInt8)
 | []=>[p]
 | h::t=>(p++h)::t
def cutAll (c:UInt8):List UInt8→List (List UInt8)
 | []=>[[]]
 | x::l=>if x=c then []::cutAll c l else glue [x] (cutAll c l)
theorem cutAll_ne (c:UInt8):∀ l,cutAll c l ≠ []
 | []=>by simp [cutAll]
 | x::l=>by
  unfold cutAll
  split
  · simp
  · cases cutAll c l <;> simp [glue]
theorem glue_nil {l:List (List UInt8)} (h:l ≠ []):glue [] l=l:=by cases l <;> simp_all [glue]
theorem glue_glue (p q:List UInt8) {l:List (List UInt8)} (h:l ≠ []):glue p (glue q l)=glue (p++q) l:=by cases l <;> simp_all [glue]
theorem cutAll_at (c:UInt8) (l:List UInt8) (k:Nat) (hk:k<l.length):cutAll c (l.drop k)=if l.getD k 0=c then []::cutAll c (l.drop (k+1)) else glue [l.getD k 0] (cutAll c (l.drop (k+1))):=by
 rw [List.drop_eq_getElem_cons hk,cutAll]
 simp [List.getD_eq_getElem?_getD,List.getElem?_eq_getElem hk]
theorem cutAll_none (c:UInt8):∀ l:List UInt8,c∉l→cutAll c l = [l]
 | [],_=>rfl
 | x::l,h=>by
  simp at h
  rw [cutAll,if_neg (fun e=>h.1 e.symm),cutAll_none c l h.2]
  rfl
theorem cutAll_some (c:UInt8):∀ (a b:List UInt8),c∉a→cutAll c (a++c::b)=a::cutAll c b
 | [],b,_=>by simp [cutAll]
 | x::a,b,h=>by
  simp at h
  rw [List.cons_append,cutAll,if_neg (fun e=>h.1 e.symm),cutAll_some c a b h.2]
  rfl
theorem cutAll_length (c:UInt8):∀ l:List UInt8,(cutAll c l).length≤l.length+1
 | []=>by simp [cutAll]
 | x::l=>by
  have:=cutAll_length c l
  unfold cutAll
  split
  · simp;omega
  · cases h:cutAll c l with
    | nil=>simp [glue]
    | cons a t=>rw [h] at this;simp [glue] at this ⊢;omega
theorem split_at (c:UInt8):∀ l:List UInt8,c∈l→∃ a b,l=a++c::b∧c∉a
 | [],h=>by simp at h
 | x::l,h=>by
  by_cases e:x=c
  · exact⟨[],l,by simp [e],by simp⟩
  · obtain⟨a,b,e1,e2⟩:=split_at c l (by simp at h;rcases h with h | h;exact absurd h.symm e;exact h)
    exact⟨x::a,b,by simp [e1],by simp [e2,Ne.symm e]⟩
theorem index_one (c:UInt8):∀ a b:List UInt8,c∉a→Lib.index (a++c::b) [c]=a.length
 | [],b,_=>by simp [Lib.index,List.isPrefixOf]
 | x::a,b,h=>by
  simp at h
  have ih:=index_one c a b h.2
  rw [List.cons_append,Lib.index,if_neg (by simp [List.isPrefixOf,h.1])]
  rw [ih,if_neg (by simp)]
  simp
theorem index_no (c:UInt8):∀ l:List UInt8,c∉l→Lib.index l [c] = -1
 | [],_=>by simp [Lib.index]
 | x::l,h=>by
  simp at h
  have ih:=index_no c l h.2
  rw [Lib.index,if_neg (by simp [List.isPrefixOf,h.1]),ih]
  rfl
def noCR (l:List UInt8):List UInt8:=if l.getLast? = some 13 then l.dropLast else l
def bodyOf (l:List UInt8):List UInt8:=(cutAll 35 (noCR l)).headD []
def fieldsOf (l:List UInt8):List (List UInt8):=(cutAll 59 l).map trim
abbrev Ln:=Int×List (List UInt8)
def lineOf (x:Int×List UInt8):Option Ln:=if trim x.2 = [] then none else some (x.1,fieldsOf x.2)
def numbered:Int→List (List UInt8)→List (Int×List UInt8)
 | _,[]=>[]
 | n,l::t=>(n,bodyOf l)::numbered (n+1) t
def linesIn (l:List UInt8):List Ln:=(numbered 1 (cutAll 10 l)).filterMap lineOf
theorem numbered_append:∀ (n:Int) (a b:List (List UInt8)),numbered n (a++b)=numbered n a++numbered (n+a.length) b
 | n,[],b=>by simp [numbered]
 | n,x::a,b=>by
  rw [List.cons_append,numbered,numbered_append,numbered,List.cons_append,List.length_cons]
  congr 3
  push_cast
  omega
theorem numbered_length:∀ (n:Int) (a:List (List UInt8)),(numbered n a).length=a.length
 | _,[]=>rfl
 | n,x::a=>by simp [numbered,numbered_length]
theorem line_empty (n:Int):lineOf (n,bodyOf [])=none:=by
 have:trim (bodyOf []) = []:=by decide
 simp [lineOf,this]
def pieces (l:List UInt8):List (List UInt8):=if (cutAll 10 l).getLast? = some [] then (cutAll 10 l).dropLast else cutAll 10 l
theorem pieces_nil:pieces [] = []:=rfl
theorem pieces_some {a b:List UInt8} (h:(10:UInt8)∉a):pieces (a++10::b)=a::pieces b:=by
 unfold pieces
 rw [cutAll_some 10 a b h]
 cases e:cutAll 10 b with
 | nil=>exact absurd e (cutAll_ne 10 b)
 | cons x t=>
  rw [List.getLast?_cons_cons]
  split
  · rw [List.dropLast_cons_cons]
  · rfl
theorem pieces_none {l:List UInt8} (h:(10:UInt8)∉l) (hl:l ≠ []):pieces l = [l]:=by
 unfold pieces
 rw [cutAll_none 10 l h]
 simp [hl]
theorem pieces_length (l:List UInt8):(pieces l).length≤l.length+1:=by
 have:=cutAll_length 10 l
 unfold pieces
 split
 · rw [List.length_dropLast];omega
 · exact this
theorem lines_pieces (l:List UInt8):(numbered 1 (pieces l)).filterMap lineOf=linesIn l:=by
 unfold linesIn pieces
 split
 · rename_i h
   have e:cutAll 10 l=(cutAll 10 l).dropLast ++ [[]]:=by
    rw [List.getLast?_eq_some_iff] at h
    obtain⟨ys,h⟩:=h
    rw [h]
    simp
   rw [e,numbered_append,List.filterMap_append]
   simp [numbered,line_empty]
 · rfl
end Go.Proofs.YtmellioacefjjaaGreatDoor
