/-
  DERIVED: THE SHELF's CONTRACTS AT THIS DUMP, IN PLAIN WORDS (tools/lay-plain.mjs out of 'TrydShelfB.lean', which tools/lay-shelf.mjs wrote): THE SAME DECLARATIONS UNDER THE SAME NAMES: 'import', 'namespace', 'open', 'def', 'theorem' AND NOTHING ELSE: no command of the shelf's: FOR A HAND-IN. Each laying: the table of numbers ('.._ren') and one theorem, a field a fact of the dump's own or the kernel's comparison; each contract: ONE APPLICATION.
-/
import Derived.Shelf.LaysM
import Derived.Shelf.Bytes.WriteString
import Derived.Shelf.Bytes.Bytes
import Derived.Test.YtllaecliaojmjaaDoorProg
namespace Go.Proofs
open Go.Shelf
def Tryd.lays178_ren : Go.Shelf.Ren := ⟨fun | 178 => 21 | 251 => 26 | 252 => 27 | 181 => 28 | 184 => 29 | 290 => 30 | 324 => 31 | n => n, fun | 130 => 77 | 9 => 9 | 3 => 3 | 75 => 67 | 0 => 0 | 93 => 64 | 91 => 62 | 131 => 76 | 4 => 4 | 37 => 22 | 20 => 20 | 80 => 83 | 5 => 5 | n => n, fun | 14 => 0 | n => n⟩
theorem Tryd.lays178 : Go.Proofs.LaysM.n178 Tryd.prog Tryd.lays178_ren := {
  mixed := by kernel_rfl
  f178 := Tryd.func21.trans (congrArg some (by kernel_rfl))
  f181 := Tryd.func28.trans (congrArg some (by kernel_rfl))
  f184 := Tryd.func29.trans (congrArg some (by kernel_rfl))
  f251 := Tryd.func26.trans (congrArg some (by kernel_rfl))
  f252 := Tryd.func27.trans (congrArg some (by kernel_rfl))
  f290 := Tryd.func30.trans (congrArg some (by kernel_rfl))
  f324 := Tryd.func31.trans (congrArg some (by kernel_rfl))
  t0 := Tryd.underlying0
  a0 := Tryd.isAgg0
  z0 := Tryd.sizeOf0
  v0 := Tryd.zeroValue0
  t3 := Tryd.underlying3
  a3 := Tryd.isAgg3
  z3 := Tryd.sizeOf3
  v3 := Tryd.zeroValue3
  t4 := Tryd.underlying4
  a4 := Tryd.isAgg4
  z4 := Tryd.sizeOf4
  v4 := Tryd.zeroValue4
  t9 := Tryd.underlying9
  a9 := Tryd.isAgg9
  z9 := Tryd.sizeOf9
  v9 := Tryd.zeroValue9
  t20 := Tryd.underlying20
  a20 := Tryd.isAgg20
  z20 := Tryd.sizeOf20
  v20 := Tryd.zeroValue20
  t37 := Tryd.underlying22
  a37 := Tryd.isAgg22
  z37 := Tryd.sizeOf22
  v37 := Tryd.zeroValue22
  t75 := Tryd.underlying67
  a75 := Tryd.isAgg67
  z75 := Tryd.sizeOf67
  v75 := Tryd.zeroValue67
  t91 := Tryd.underlying62
  a91 := Tryd.isAgg62
  z91 := Tryd.sizeOf62
  v91 := Tryd.zeroValue62
  t93 := Tryd.underlying64
  a93 := Tryd.isAgg64
  z93 := Tryd.sizeOf64
  v93 := Tryd.zeroValue64
  t130 := Tryd.underlying77
  a130 := Tryd.isAgg77
  z130 := Tryd.sizeOf77
  v130 := Tryd.zeroValue77
  t131 := Tryd.underlying76
  a131 := Tryd.isAgg76
  z131 := Tryd.sizeOf76
  v131 := Tryd.zeroValue76
  g14 := by kernel_rfl
  t5 := Tryd.underlying5
  a5 := Tryd.isAgg5
  z5 := Tryd.sizeOf5
  v5 := Tryd.zeroValue5
  t80 := Tryd.underlying83
  a80 := Tryd.isAgg83
  z80 := Tryd.sizeOf83
  v80 := Tryd.zeroValue83
  i0 := by kernel_rfl
  i3 := by kernel_rfl
  i4 := by kernel_rfl
  i5 := by kernel_rfl
  i9 := by kernel_rfl
  i20 := by kernel_rfl
  i37 := by kernel_rfl
  i75 := by kernel_rfl
  i80 := by kernel_rfl
  i91 := by kernel_rfl
  i93 := by kernel_rfl
  i130 := by kernel_rfl
  i131 := by kernel_rfl
  m14 := by kernel_rfl }
def Tryd.lays183_ren : Go.Shelf.Ren := ⟨fun | 183 => 22 | n => n, fun | 130 => 77 | 37 => 22 | 0 => 0 | 93 => 64 | 3 => 3 | 5 => 5 | 91 => 62 | n => n, fun | n => n⟩
theorem Tryd.lays183 : Go.Proofs.LaysM.n183 Tryd.prog Tryd.lays183_ren := {
  mixed := by kernel_rfl
  f183 := Tryd.func22.trans (congrArg some (by kernel_rfl))
  t0 := Tryd.underlying0
  a0 := Tryd.isAgg0
  z0 := Tryd.sizeOf0
  v0 := Tryd.zeroValue0
  t3 := Tryd.underlying3
  a3 := Tryd.isAgg3
  z3 := Tryd.sizeOf3
  v3 := Tryd.zeroValue3
  t37 := Tryd.underlying22
  a37 := Tryd.isAgg22
  z37 := Tryd.sizeOf22
  v37 := Tryd.zeroValue22
  t93 := Tryd.underlying64
  a93 := Tryd.isAgg64
  z93 := Tryd.sizeOf64
  v93 := Tryd.zeroValue64
  t130 := Tryd.underlying77
  a130 := Tryd.isAgg77
  z130 := Tryd.sizeOf77
  v130 := Tryd.zeroValue77
  t5 := Tryd.underlying5
  a5 := Tryd.isAgg5
  z5 := Tryd.sizeOf5
  v5 := Tryd.zeroValue5
  t91 := Tryd.underlying62
  a91 := Tryd.isAgg62
  z91 := Tryd.sizeOf62
  v91 := Tryd.zeroValue62
  i0 := by kernel_rfl
  i3 := by kernel_rfl
  i5 := by kernel_rfl
  i37 := by kernel_rfl
  i91 := by kernel_rfl
  i93 := by kernel_rfl
  i130 := by kernel_rfl }
end Go.Proofs
