import Derived.Test.YtjbkfdeldlajhaaGreatDoorM02
import Derived.Shelf.LaysM
import Derived.Shelf.SlGeneric
import Derived.Shelf.Strconv.Clone
import Derived.Shelf.Spec.SearchS
import Derived.Shelf.Spec.SlicesInsert
import Derived.Shelf.Spec.SlicesInsertGrow
import Derived.Shelf.Slices.Delete
import Derived.Shelf.Slices.Cells
import Derived.Shelf.SlIter.Nil
import Derived.Shelf.SortM.Plain
import Derived.Shelf.SortM.SortNone
import Derived.Ground.Names2Prog
import Derived.Ground.GgzProg
import Derived.Ground.SlgmProg
set_option linter.unusedSimpArgs false
namespace Go.Proofs
open Go.Shelf
def Tryz.laysM316_ren : Go.Shelf.Ren := ⟨fun | 316 => 173 | n => n, fun | 9 => 9 | 3 => 3 | 4 => 4 | 37 => 219 | 0 => 0 | 127 => 265 | 5 => 5 | n => n, fun | n => n⟩
theorem Tryz.laysM316 : Go.Proofs.LaysM.n316 Tryz.prog Tryz.laysM316_ren := {
  mixed := by kernel_rfl
  f316 := Tryz.func173.trans (congrArg some (by kernel_rfl))
  t0 := Tryz.underlying0
  a0 := Tryz.isAgg0
  z0 := Tryz.sizeOf0
  v0 := Tryz.zeroValue0
  t3 := Tryz.underlying3
  a3 := Tryz.isAgg3
  z3 := Tryz.sizeOf3
  v3 := Tryz.zeroValue3
  t4 := Tryz.underlying4
  a4 := Tryz.isAgg4
  z4 := Tryz.sizeOf4
  v4 := Tryz.zeroValue4
  t9 := Tryz.underlying9
  a9 := Tryz.isAgg9
  z9 := Tryz.sizeOf9
  v9 := Tryz.zeroValue9
  t37 := Tryz.underlying219
  a37 := Tryz.isAgg219
  z37 := Tryz.sizeOf219
  v37 := Tryz.zeroValue219
  t127 := Tryz.underlying265
  a127 := Tryz.isAgg265
  z127 := Tryz.sizeOf265
  v127 := Tryz.zeroValue265
  t5 := Tryz.underlying5
  a5 := Tryz.isAgg5
  z5 := Tryz.sizeOf5
  v5 := Tryz.zeroValue5
  i0 := by kernel_rfl
  i3 := by kernel_rfl
  i4 := by kernel_rfl
  i5 := by kernel_rfl
  i9 := by kernel_rfl
  i37 := by kernel_rfl
  i127 := by kernel_rfl }
def Tryz.laysNm226_ren : Go.Shelf.Ren := ⟨fun | 26 => 170 | 33 => 200 | 34 => 201 | 38 => 219 | n => n, fun | 24 => 25 | 9 => 9 | 3 => 3 | 4 => 4 | 40 => 295 | 0 => 0 | n => n, fun | n => n⟩
theorem Tryz.laysNm226 : Go.Proofs.Lays2.n26 Tryz.prog Tryz.laysNm226_ren := {
  mixed := by kernel_rfl
  f26 := Tryz.func170.trans (congrArg some (by kernel_rfl))
  f33 := Tryz.func200.trans (congrArg some (by kernel_rfl))
  f34 := Tryz.func201.trans (congrArg some (by kernel_rfl))
  f38 := Tryz.func219.trans (congrArg some (by kernel_rfl))
  t0 := Tryz.underlying0
  a0 := Tryz.isAgg0
  z0 := Tryz.sizeOf0
  v0 := Tryz.zeroValue0
  t3 := Tryz.underlying3
  a3 := Tryz.isAgg3
  z3 := Tryz.sizeOf3
  v3 := Tryz.zeroValue3
  t4 := Tryz.underlying4
  a4 := Tryz.isAgg4
  z4 := Tryz.sizeOf4
  v4 := Tryz.zeroValue4
  t9 := Tryz.underlying9
  a9 := Tryz.isAgg9
  z9 := Tryz.sizeOf9
  v9 := Tryz.zeroValue9
  t24 := Tryz.underlying25
  a24 := Tryz.isAgg25
  z24 := Tryz.sizeOf25
  v24 := Tryz.zeroValue25
  t40 := Tryz.underlying295
  a40 := Tryz.isAgg295
  z40 := Tryz.sizeOf295
  v40 := Tryz.zeroValue295 }
def Tryz.laysNm222_ren : Go.Shelf.Ren := ⟨fun | 22 => 206 | 29 => 220 | 30 => 221 | 36 => 233 | 17 => 239 | n => n, fun | 24 => 25 | 9 => 9 | 3 => 3 | 4 => 4 | 0 => 0 | n => n, fun | n => n⟩
theorem Tryz.laysNm222 : Go.Proofs.Lays2.n22 Tryz.prog Tryz.laysNm222_ren := {
  mixed := by kernel_rfl
  f17 := Tryz.func239.trans (congrArg some (by kernel_rfl))
  f22 := Tryz.func206.trans (congrArg some (by kernel_rfl))
  f29 := Tryz.func220.trans (congrArg some (by kernel_rfl))
  f30 := Tryz.func221.trans (congrArg some (by kernel_rfl))
  f36 := Tryz.func233.trans (congrArg some (by kernel_rfl))
  t0 := Tryz.underlying0
  a0 := Tryz.isAgg0
  z0 := Tryz.sizeOf0
  v0 := Tryz.zeroValue0
  t3 := Tryz.underlying3
  a3 := Tryz.isAgg3
  z3 := Tryz.sizeOf3
  v3 := Tryz.zeroValue3
  t4 := Tryz.underlying4
  a4 := Tryz.isAgg4
  z4 := Tryz.sizeOf4
  v4 := Tryz.zeroValue4
  t9 := Tryz.underlying9
  a9 := Tryz.isAgg9
  z9 := Tryz.sizeOf9
  v9 := Tryz.zeroValue9
  t24 := Tryz.underlying25
  a24 := Tryz.isAgg25
  z24 := Tryz.sizeOf25
  v24 := Tryz.zeroValue25
  i9 := by kernel_rfl }
def Tryz.laysNm224_ren : Go.Shelf.Ren := ⟨fun | 24 => 222 | n => n, fun | 24 => 25 | 9 => 9 | 3 => 3 | 4 => 4 | 0 => 0 | n => n, fun | n => n⟩
theorem Tryz.laysNm224 : Go.Proofs.Lays2.n24 Tryz.prog Tryz.laysNm224_ren := {
  mixed := by kernel_rfl
  f24 := Tryz.func222.trans (congrArg some (by kernel_rfl))
  t0 := Tryz.underlying0
  a0 := Tryz.isAgg0
  z0 := Tryz.sizeOf0
  v0 := Tryz.zeroValue0
  t3 := Tryz.underlying3
  a3 := Tryz.isAgg3
  z3 := Tryz.sizeOf3
  v3 := Tryz.zeroValue3
  t4 := Tryz.underlying4
  a4 := Tryz.isAgg4
  z4 := Tryz.sizeOf4
  v4 := Tryz.zeroValue4
  t9 := Tryz.underlying9
  a9 := Tryz.isAgg9
  z9 := Tryz.sizeOf9
  v9 := Tryz.zeroValue9
  t24 := Tryz.underlying25
  a24 := Tryz.isAgg25
  z24 := Tryz.sizeOf25
  v24 := Tryz.zeroValue25
  i9 := by kernel_rfl }
def Tryz.keys158_ren : Go.Shelf.Ren := ⟨fun | 7 => 158 | 10 => 196 | n => n, fun | 23 => 175 | 26 => 9 | 3 => 70 | 28 => 207 | 0 => 0 | 27 => 206 | 33 => 64 | 4 => 4 | n => n, fun | n => n⟩
theorem Tryz.keys158 : Go.Proofs.SlLaysZ.n7 Tryz.prog Tryz.keys158_ren := {
  mixed := by kernel_rfl
  f7 := ⟨Tryz.f158.name, by decide, Tryz.func158.trans (congrArg some (by kernel_rfl))⟩
  f10 := ⟨Tryz.f196.name, by decide, Tryz.func196.trans (congrArg some (by kernel_rfl))⟩
  t0 := Tryz.underlying0
  a0 := Tryz.isAgg0
  z0 := Tryz.sizeOf0
  v0 := Tryz.zeroValue0
  t4 := Tryz.underlying4
  a4 := Tryz.isAgg4
  z4 := Tryz.sizeOf4
  v4 := Tryz.zeroValue4
  t23 := Tryz.underlying175
  a23 := Tryz.isAgg175
  z23 := Tryz.sizeOf175
  v23 := Tryz.zeroValue175
  t26 := Tryz.underlying9
  a26 := Tryz.isAgg9
  z26 := Tryz.sizeOf9
  v26 := Tryz.zeroValue9
  t27 := Tryz.underlying206
  a27 := Tryz.isAgg206
  z27 := Tryz.sizeOf206
  v27 := Tryz.zeroValue206
  t28 := Tryz.underlying207
  a28 := Tryz.isAgg207
  z28 := Tryz.sizeOf207
  v28 := Tryz.zeroValue207
  t33 := Tryz.underlying64
  a33 := Tryz.isAgg64
  z33 := Tryz.sizeOf64
  v33 := Tryz.zeroValue64 }
def Tryz.sorted157_ren : Go.Shelf.Ren := ⟨fun | 6 => 157 | 8 => 194 | 9 => 195 | 11 => 216 | 13 => 218 | 12 => 217 | 23 => 231 | 24 => 232 | 14 => 223 | 15 => 224 | 16 => 225 | 17 => 226 | 18 => 227 | 19 => 228 | 20 => 200 | 21 => 229 | 22 => 230 | 25 => 234 | 26 => 235 | 27 => 236 | 28 => 237 | 29 => 238 | 30 => 219 | 31 => 240 | n => n, fun | 26 => 9 | 28 => 207 | 24 => 25 | 0 => 0 | 3 => 3 | 37 => 295 | 48 => 181 | 50 => 327 | 4 => 4 | 40 => 320 | 39 => 319 | 45 => 255 | 5 => 5 | 9 => 9 | 51 => 328 | 55 => 121 | 57 => 333 | 58 => 74 | 33 => 64 | n => n, fun | n => n⟩
theorem Tryz.sorted157 : Go.Proofs.SlLaysZ.n6 Tryz.prog Tryz.sorted157_ren := {
  mixed := by kernel_rfl
  f6 := ⟨Tryz.f157.name, by decide, Tryz.func157.trans (congrArg some (by kernel_rfl))⟩
  f8 := ⟨Tryz.f194.name, by decide, Tryz.func194.trans (congrArg some (by kernel_rfl))⟩
  f11 := ⟨Tryz.f216.name, by decide, Tryz.func216.trans (congrArg some (by kernel_rfl))⟩
  t0 := Tryz.underlying0
  a0 := Tryz.isAgg0
  z0 := Tryz.sizeOf0
  v0 := Tryz.zeroValue0
  t24 := Tryz.underlying25
  a24 := Tryz.isAgg25
  z24 := Tryz.sizeOf25
  v24 := Tryz.zeroValue25
  t26 := Tryz.underlying9
  a26 := Tryz.isAgg9
  z26 := Tryz.sizeOf9
  v26 := Tryz.zeroValue9
  t28 := Tryz.underlying207
  a28 := Tryz.isAgg207
  z28 := Tryz.sizeOf207
  v28 := Tryz.zeroValue207
  i26 := by kernel_rfl }
def Tryz.sort195_ren : Go.Shelf.Ren := ⟨fun | 6 => 195 | 8 => 218 | 9 => 217 | 19 => 231 | 20 => 232 | 21 => 223 | 22 => 224 | 23 => 225 | 24 => 226 | 25 => 227 | 26 => 228 | 27 => 200 | 28 => 229 | 29 => 230 | 36 => 234 | 31 => 235 | 32 => 236 | 37 => 237 | 38 => 238 | 39 => 219 | 41 => 240 | n => n, fun | 27 => 25 | 29 => 9 | 3 => 3 | 32 => 295 | 26 => 25 | 0 => 0 | 44 => 181 | 46 => 327 | 4 => 4 | 36 => 320 | 35 => 319 | 41 => 255 | 5 => 5 | 9 => 9 | 53 => 328 | 57 => 121 | 63 => 333 | 64 => 74 | n => n, fun | n => n⟩
theorem Tryz.sort195 : Go.Proofs.SlLaysM.n6 Tryz.prog Tryz.sort195_ren := {
  mixed := by kernel_rfl
  f6 := ⟨Tryz.f195.name, by decide, Tryz.func195.trans (congrArg some (by kernel_rfl))⟩
  f8 := Tryz.func218.trans (congrArg some (by kernel_rfl))
  f9 := ⟨Tryz.f217.name, by decide, Tryz.func217.trans (congrArg some (by kernel_rfl))⟩
  f19 := Tryz.func231.trans (congrArg some (by kernel_rfl))
  f20 := Tryz.func232.trans (congrArg some (by kernel_rfl))
  f21 := ⟨Tryz.f223.name, by decide, Tryz.func223.trans (congrArg some (by kernel_rfl))⟩
  f22 := ⟨Tryz.f224.name, by decide, Tryz.func224.trans (congrArg some (by kernel_rfl))⟩
  f23 := ⟨Tryz.f225.name, by decide, Tryz.func225.trans (congrArg some (by kernel_rfl))⟩
  f24 := ⟨Tryz.f226.name, by decide, Tryz.func226.trans (congrArg some (by kernel_rfl))⟩
  f25 := ⟨Tryz.f227.name, by decide, Tryz.func227.trans (congrArg some (by kernel_rfl))⟩
  f26 := ⟨Tryz.f228.name, by decide, Tryz.func228.trans (congrArg some (by kernel_rfl))⟩
  f27 := ⟨Tryz.f200.name, by decide, Tryz.func200.trans (congrArg some (by kernel_rfl))⟩
  f28 := ⟨Tryz.f229.name, by decide, Tryz.func229.trans (congrArg some (by kernel_rfl))⟩
  f29 := ⟨Tryz.f230.name, by decide, Tryz.func230.trans (congrArg some (by kernel_rfl))⟩
  f31 := Tryz.func235.trans (congrArg some (by kernel_rfl))
  f32 := Tryz.func236.trans (congrArg some (by kernel_rfl))
  f36 := ⟨Tryz.f234.name, by decide, Tryz.func234.trans (congrArg some (by kernel_rfl))⟩
  f37 := ⟨Tryz.f237.name, by decide, Tryz.func237.trans (congrArg some (by kernel_rfl))⟩
  f38 := ⟨Tryz.f238.name, by decide, Tryz.func238.trans (congrArg some (by kernel_rfl))⟩
  f39 := ⟨Tryz.f219.name, by decide, Tryz.func219.trans (congrArg some (by kernel_rfl))⟩
  f41 := ⟨Tryz.f240.name, by decide, Tryz.func240.trans (congrArg some (by kernel_rfl))⟩
  t0 := Tryz.underlying0
  a0 := Tryz.isAgg0
  z0 := Tryz.sizeOf0
  v0 := Tryz.zeroValue0
  t3 := Tryz.underlying3
  a3 := Tryz.isAgg3
  z3 := Tryz.sizeOf3
  v3 := Tryz.zeroValue3
  t4 := Tryz.underlying4
  a4 := Tryz.isAgg4
  z4 := Tryz.sizeOf4
  v4 := Tryz.zeroValue4
  t5 := Tryz.underlying5
  a5 := Tryz.isAgg5
  z5 := Tryz.sizeOf5
  v5 := Tryz.zeroValue5
  t9 := Tryz.underlying9
  a9 := Tryz.isAgg9
  z9 := Tryz.sizeOf9
  v9 := Tryz.zeroValue9
  t26 := Tryz.underlying25
  a26 := Tryz.isAgg25
  z26 := Tryz.sizeOf25
  v26 := Tryz.zeroValue25
  t27 := Tryz.underlying25
  a27 := Tryz.isAgg25
  z27 := Tryz.sizeOf25
  v27 := Tryz.zeroValue25
  t29 := Tryz.underlying9
  a29 := Tryz.isAgg9
  z29 := Tryz.sizeOf9
  v29 := Tryz.zeroValue9
  t32 := Tryz.underlying295
  a32 := Tryz.isAgg295
  z32 := Tryz.sizeOf295
  v32 := Tryz.zeroValue295
  t35 := Tryz.underlying319
  a35 := Tryz.isAgg319
  z35 := Tryz.sizeOf319
  v35 := Tryz.zeroValue319
  t36 := Tryz.underlying320
  a36 := Tryz.isAgg320
  z36 := Tryz.sizeOf320
  v36 := Tryz.zeroValue320
  t41 := Tryz.underlying255
  a41 := Tryz.isAgg255
  z41 := Tryz.sizeOf255
  v41 := Tryz.zeroValue255
  t44 := Tryz.underlying181
  a44 := Tryz.isAgg181
  z44 := Tryz.sizeOf181
  v44 := Tryz.zeroValue181
  t46 := Tryz.underlying327
  a46 := Tryz.isAgg327
  z46 := Tryz.sizeOf327
  v46 := Tryz.zeroValue327
  t53 := Tryz.underlying328
  a53 := Tryz.isAgg328
  z53 := Tryz.sizeOf328
  v53 := Tryz.zeroValue328
  t57 := Tryz.underlying121
  a57 := Tryz.isAgg121
  z57 := Tryz.sizeOf121
  v57 := Tryz.zeroValue121
  t63 := Tryz.underlying333
  a63 := Tryz.isAgg333
  z63 := Tryz.sizeOf333
  v63 := Tryz.zeroValue333
  t64 := Tryz.underlying74
  a64 := Tryz.isAgg74
  z64 := Tryz.sizeOf74
  v64 := Tryz.zeroValue74 }
def Tryz.keys171_ren : Go.Shelf.Ren := ⟨fun | 7 => 171 | 10 => 202 | n => n, fun | 23 => 124 | 26 => 9 | 3 => 144 | 28 => 207 | 0 => 0 | 27 => 206 | 33 => 64 | 4 => 4 | n => n, fun | n => n⟩
theorem Tryz.keys171 : Go.Proofs.SlLaysZ.n7 Tryz.prog Tryz.keys171_ren := {
  mixed := by kernel_rfl
  f7 := ⟨Tryz.f171.name, by decide, Tryz.func171.trans (congrArg some (by kernel_rfl))⟩
  f10 := ⟨Tryz.f202.name, by decide, Tryz.func202.trans (congrArg some (by kernel_rfl))⟩
  t0 := Tryz.underlying0
  a0 := Tryz.isAgg0
  z0 := Tryz.sizeOf0
  v0 := Tryz.zeroValue0
  t4 := Tryz.underlying4
  a4 := Tryz.isAgg4
  z4 := Tryz.sizeOf4
  v4 := Tryz.zeroValue4
  t23 := Tryz.underlying124
  a23 := Tryz.isAgg124
  z23 := Tryz.sizeOf124
  v23 := Tryz.zeroValue124
  t26 := Tryz.underlying9
  a26 := Tryz.isAgg9
  z26 := Tryz.sizeOf9
  v26 := Tryz.zeroValue9
  t27 := Tryz.underlying206
  a27 := Tryz.isAgg206
  z27 := Tryz.sizeOf206
  v27 := Tryz.zeroValue206
  t28 := Tryz.underlying207
  a28 := Tryz.isAgg207
  z28 := Tryz.sizeOf207
  v28 := Tryz.zeroValue207
  t33 := Tryz.underlying64
  a33 := Tryz.isAgg64
  z33 := Tryz.sizeOf64
  v33 := Tryz.zeroValue64 }
end Go.Proofs
namespace Go.Proofs
open Go.Shelf Go.Proofs.Tryz
open Option renaming none->Y,some->V
open Go.Value renaming int->Z,string->O,slice->J,bool->ao,tuple->bt
open Go.IntKind renaming i64->U
open Go.Obj renaming cells->I
open Go renaming World->ab,Value->ax,Calls->ba,TypeId->cI
open Go.Ending renaming returned->ay
namespace YtjbkfdeldlajhaaGreatDoor
open Go.RowKit
theorem Ds(s:ByteArray)(w:ab)(a:s.size<=281474976710656):ba prog 173 #[O s] w λe b=>e=ay (O s)/\Below w.heap.size w b:=Any.stringslite_Clone Tryz.laysM316 s w a
theorem Bc(b a n c:Nat)(d:Nat->ByteArray)(x:ByteArray)(w:ab)(f:n<4611686018427387904)(g:∀j,j<n->w.cell? ⟨b,a+j,Y⟩=V (O (d j))):ba prog 170 #[J (V ⟨b,a,Y⟩) n c,O x] w λe h=>e=ay (bt #[Z U (Lib.bsGo (λt=>Op.bytesLess (d t).toList x.toList) n 0 n:Nat),ao (decide (Lib.bsGo (λt=>Op.bytesLess (d t).toList x.toList) n 0 n<n/\d (Lib.bsGo (λt=>Op.bytesLess (d t).toList x.toList) n 0 n)=x))])/\∃q,h=w.drewN q:=
 Any2.slices_BinarySearch_string Tryz.laysNm226 b a n c d x w f g
theorem xC(a:Option Addr)(c:Nat)(x:ByteArray)(w:ab):ba prog 170 #[J a 0 c,O x] w λe b=>e=ay (bt #[Z U 0,ao false])/\b=w:=
 Any2.slices_BinarySearch_string_empty Tryz.laysNm226 a c x w
theorem xB(b a n c i g d m L:Nat)(h l:List ax)(w:ab)(M:i<n)(N:0<m)(f:n+m<=c)(k:c<=9223372036854775807)(B:g≠b)(q:h.length=n)(C:l.length=m)(r:∀j v,h[j]?=V v->w.cell? ⟨b,a+j,Y⟩=V v)(A:∀j,j<n+m->(w.cell? ⟨b,a+j,Y⟩).isSome=true)(u:∀j,j<n+m->w.frozen? ⟨b,a+j,Y⟩=false)(D:∀j v,l[j]?=V v->w.cell? ⟨g,d+j,Y⟩=V v)(o:∀v∈h,v.oneCell'=true)(p:∀v∈l,v.oneCell'=true)(H K:cI)(F G:Nat)(y:w.shape? g=V (H,F))(z:w.shape? b=V (K,G))(x:G≠0)(s:w.frozen? ⟨g,d,Y⟩=false)(t:w.frozen? ⟨g,F,Y⟩=false):ba prog 206 #[J (V ⟨b,a,Y⟩) n c,Z U i,J (V ⟨g,d,Y⟩) m L] w λe P=>e=ay (J (V ⟨b,a,Y⟩) (n+m) c)/\P=(w.drew.setCells b (a+(i+m)) (h.drop i)).setCells b (a+i) l:=
 Any2.slices_Insert_string_shift Tryz.laysNm222 b a n c i g d m L h l w M N f k B q C r A u D o p H K F G y z x s t
theorem sF(b a n c q d m r:Nat)(h:List ax)(w:ab)(s:0<m)(f:n+m<=c)(g:c<=9223372036854775807)(o:h.length=m)(l:∀j,j<m->(w.cell? ⟨b,a+n+j,Y⟩).isSome=true)(k:∀j,j<m->w.frozen? ⟨b,a+n+j,Y⟩=false)(p:∀j v,h[j]?=V v->w.cell? ⟨q,d+j,Y⟩=V v)(i:∀v∈h,v.oneCell'=true):ba prog 206 #[J (V ⟨b,a,Y⟩) n c,Z U n,J (V ⟨q,d,Y⟩) m r] w λe t=>e=ay (J (V ⟨b,a,Y⟩) (n+m) c)/\t=w.setCells b (a+n) h:=
 Any2.slices_Insert_string_end_room Tryz.laysNm222 b a n c q d m r h w s f g o l k p i
theorem me(b:Option Addr)(n c t d m u:Nat)(k i:List ax)(w:ab)(x:0<m)(q:n<=c)(f:c<n+m)(g:(n+m)*16<=140737488355328)(o:k.length=n)(r:i.length=m)(h:b=Y->n=0)(p:∀a,b=V a->∀j v,k[j]?=V v->w.cell? (a.add j)=V v)(s:∀j v,i[j]?=V v->w.cell? ⟨t,d+j,Y⟩=V v)(l:∀v∈i,v.oneCell'=true):ba prog 206 #[J b n c,Z U n,J (V ⟨t,d,Y⟩) m u] w λe y=>e=ay (J (V ⟨w.heap.size,0,Y⟩) (n+m) (grownCap w (n+m) c 9))/\y=w.drew.alloc (I ((k++i).toArray++Builtin.zeroCells (O ⟨#[]⟩).cells (grownCap w (n+m) c 9-(n+m))) 9):=
 Any2.slices_Insert_string_end_grow Tryz.laysNm222 b n c t d m u k i w x q f g o r h p s l
theorem yI(b f n c i u a m x:Nat)(g k:List ax)(w:ab)(y:i<n)(z:0<m)(r:n<=c)(d:c<n+m)(h:(n+m)*16<=140737488355328)(p:g.length=n)(s:k.length=m)(q:∀j v,g[j]?=V v->w.cell? ⟨b,f+j,Y⟩=V v)(t:∀j v,k[j]?=V v->w.cell? ⟨u,a+j,Y⟩=V v)(l:∀v∈g,v.oneCell'=true)(o:∀v∈k,v.oneCell'=true):ba prog 206 #[J (V ⟨b,f,Y⟩) n c,Z U i,J (V ⟨u,a,Y⟩) m x] w λe A=>e=ay (J (V ⟨w.heap.size,0,Y⟩) (n+m) (grownCap w (n+m) c 9))/\A=(((w.alloc (I ((g.take i).toArray++Builtin.zeroCells (O ⟨#[]⟩).cells (n+m-i)++Builtin.zeroCells (O ⟨#[]⟩).cells (grownCap w (n+m) c 9-(n+m))) 9)).drew.setCells w.heap.size i k).drew).setCells w.heap.size (i+m) (g.drop i):=
 Any2.slices_Insert_string_grow Tryz.laysNm222 b f n c i u a m x g k w y z r d h p s q t l o
end YtjbkfdeldlajhaaGreatDoor
end Go.Proofs
namespace Go.Proofs.YtjbkfdeldlajhaaGreatDoor
set_option maxRecDepth 100000
set_option maxHeartbeats 800000
open Go.RowKit Go.Proofs.Tryz
open Option renaming none->Y,some->V
open Go.Value renaming int->Z,string->O,slice->J,pointer->X,bool->ao,tuple->bt
open Go.IntKind renaming i64->U
open Go.Obj renaming cells->I
open Go renaming World->ab,Calls->ba,Value->ax
open Go.Ending renaming returned->ay
variable{w e:ab}{b c d:Obj}{a:ByteArray}
theorem kU(s:ByteArray)(w:ab)(a:s.size<=281474976710656):ba prog 131 #[O s] w λe c=>e=ay (O s)/\aa n_ w c:=by
 go_enter func131,ntmps131;go_wp2_with(go_at_call 173;go_must(refine(Ds s _ a).mono ?_;rintro e d ⟨rfl,b⟩))
 go_ret;exact⟨rfl,aa.below b⟩
theorem Lq(w:ab)(a b:Obj):iP (((w.alloc a).alloc b).alloc (I #[J Y 0 0] 114)) (w.heap.size+1+1) [] [w.heap.size+1+1]:=by have:=fU (w.alloc a) b;simpa using this
theorem Gx(R:aF)(n:Int)(g c:ByteArray)(a:Bool)(w:ab)(h:aq w R)(l:aD R.af n=Y):ba prog 72 #[X (V ⟨R.sb,0,Y⟩),Z U n,O g,.agg #[Z U 0,O c,ao a]] w λe q=>e=ay (Z U 1)/\aa n_ w q:=by
 have o:=mf_;have d:=fv R n (((w.alloc (I #[Z U 0,O c,ao a] 144)).alloc (I #[Z U 0] 71)).alloc (I #[J Y 0 0] 114)) (h.ai ((((aa.refl n_ w).al _).al _).al _) k_);rw[l]at d;simp only[Tj,yg]at d;clear l h;generalize R.sb=r at*;go_enter_defers func72,ntmps72;go_wp2_with(go_at_call 65;go_must(refine d.mono ?_;rintro e t ⟨rfl,rfl⟩))
 refine leaves_cons (f:=129) (args:=#[X (V ⟨w.heap.size+1+1,0,Y⟩),X (V ⟨w.heap.size+1,0,Y⟩)]) (by simp) (by simp[go_sem]) ?_;refine(mj (w.heap.size+1+1) (w.heap.size+1) 1 (by omega) _ ?_ ?_).mono ?_
 ·simp[go_sem]
 ·simp[go_sem]
 rintro e s i ⟨rfl,rfl,k⟩;have m:i.cell? ⟨w.heap.size+1,0,Y⟩=V (Z U 1):=k.cell (p:=⟨w.heap.size+1,0,Y⟩) (by simp[go_sem]) id;simp[Leaves,settle,results,Tryz.results72,go_sem,m];exact((((aa.refl _ w).al _).al _).al _).tr k i_
theorem Gy(R:aF)(n:Int)(x:mO)(a b:ByteArray)(g:Bool)(w:ab)(h:aq w R)(v:aD R.af n=V x)(i:a.size<=maxLen)(z:b.size<=maxLen)(k:dw a=false\/fM b=false):ba prog 72 #[X (V ⟨R.sb,0,Y⟩),Z U n,O a,.agg #[Z U 0,O b,ao g]] w λe l=>e=ay (Z U 2)/\aa n_ w l:=by
 have A:=mf_;have y:∀(x:Bool) (w:ab),(Op.unary .not (ao x)).run prog w=.ok (ao (!x)) w:=λ_ _=>rfl;have r:=fv R n (((w.alloc (I #[Z U 0,O b,ao g] 144)).alloc (I #[Z U 0] 71)).alloc (I #[J Y 0 0] 114)) (h.ai ((((aa.refl n_ w).al _).al _).al _) k_);rw[v]at r;simp only[uW,lp,bE]at r;have c:=λW=>mW a W i;have d:=λW=>lX b W z;clear v h i z;generalize R.sb=C at*;cases hkb:dw a with
 |false=>
  simp only[hkb]at c;clear hkb k d;have j:QS (∀W,ba prog 66 #[O a] W λe l=>e=ay (ao false)/\l=W):=c;clear c;go_enter_defers func72,ntmps72;go_wp2_with(first
   |(go_at_call 65;go_must(refine r.mono ?_;rintro e s ⟨rfl,rfl⟩))
   |(go_at_call 66;go_must(refine(j.o _).mono ?_;rintro e s ⟨rfl,rfl⟩)))
  refine leaves_cons (f:=129) (args:=#[X (V ⟨w.heap.size+1+1,0,Y⟩),X (V ⟨w.heap.size+1,0,Y⟩)]) (by simp) (by simp[go_sem]) ?_;refine(mj (w.heap.size+1+1) (w.heap.size+1) 2 (by omega) _ ?_ ?_).mono ?_
  ·simp[go_sem]
  ·simp[go_sem]
  rintro e B m ⟨rfl,rfl,i⟩;have k:m.cell? ⟨w.heap.size+1,0,Y⟩=V (Z U 2):=i.cell (p:=⟨w.heap.size+1,0,Y⟩) (by simp[go_sem]) id;simp[Leaves,settle,results,Tryz.results72,go_sem,k];exact((((aa.refl _ w).al _).al _).al _).tr i i_
 |true=>
  have q:fM b=false:=by
   rcases k with h|h
   ·rw[hkb]at h;cases h
   ·exact h
  simp only[hkb]at c;simp only[q]at d;clear hkb k q;have j:QS (∀W,ba prog 66 #[O a] W λe l=>e=ay (ao true)/\l=W):=c;have t:QS (∀W,ba prog 130 #[O b] W λe l=>e=ay (ao false)/\l=W):=d;clear c d;go_enter_defers func72,ntmps72;go_wp2_with(first
   |(go_at_call 65;go_must(refine r.mono ?_;rintro e s ⟨rfl,rfl⟩))
   |(go_at_call 66;go_must(refine(j.o _).mono ?_;rintro e s ⟨rfl,rfl⟩))
   |(go_at_call 130;go_must(refine(t.o _).mono ?_;rintro e s ⟨rfl,rfl⟩)))
  refine leaves_cons (f:=129) (args:=#[X (V ⟨w.heap.size+1+1,0,Y⟩),X (V ⟨w.heap.size+1,0,Y⟩)]) (by simp) (by simp[go_sem]) ?_;refine(mj (w.heap.size+1+1) (w.heap.size+1) 2 (by omega) _ ?_ ?_).mono ?_
  ·simp[go_sem]
  ·simp[go_sem]
  rintro e B m ⟨rfl,rfl,i⟩;have k:m.cell? ⟨w.heap.size+1,0,Y⟩=V (Z U 2):=i.cell (p:=⟨w.heap.size+1,0,Y⟩) (by simp[go_sem]) id;simp[Leaves,settle,results,Tryz.results72,go_sem,k];exact((((aa.refl _ w).al _).al _).al _).tr i i_
theorem CW{α β:Type}[DecidableEq α]:∀{l:List (α×β)} {k:α} {v:β},aD l k=V v->put l k v=l
 |(a,x)::r,k,v,h=>by
  unfold aD at h;unfold put;by_cases e:a=k
  ·rw[fy e]at h⊢;subst e;cases h;rfl
  ·rw[el e]at h⊢;rw[CW h]
theorem jl{α β:Type}[DecidableEq α]:∀{l:List (α×β)} {k:α} {v:β} {p:α×β},(l.map (·.1)).Nodup->p∈put l k v->p=(k,v)\/(p∈l/\p.1≠k)
 |[],k,v,p,_,h=>by simp[put]at h;exact .inl h
 |(a,x)::r,k,v,p,hn,h=>by
  simp only[mU,ey]at hn;unfold put at h;by_cases e:a=k
  ·rw[fy e]at h;rcases cT.1 h with h|h
   ·exact .inl h
   ·refine .inr ⟨by simp[h],λb=>hn.1 ?_⟩;rw[e,<-b];exact fI.2 ⟨p,h,rfl⟩
  ·rw[el e]at h;rcases cT.1 h with h|h
   ·subst h;exact .inr ⟨by simp,e⟩
   ·rcases jl hn.2 h with h|⟨c,d⟩
    ·exact .inl h
    ·exact .inr ⟨by simp[c],d⟩
theorem ki{α β γ:Type}[DecidableEq α](f:α×β->List γ):∀{l:List (α×β)} {k:α} {x v:β},aD l k=V x->f (k,v)=f (k,x)->(put l k v).flatMap f=l.flatMap f
 |(a,y)::r,k,x,v,h,hf=>by
  unfold aD at h;unfold put;by_cases e:a=k
  ·rw[fy e]at h⊢;subst e;cases h;simp[hf]
  ·rw[el e]at h⊢;simp[ki f h hf]
theorem flatMap_apart{α γ:Type}(f:α->List γ):∀{l:List α},(l.flatMap f).Nodup->∀{p q:α},p∈l->q∈l->p≠q->∀a∈f p,a∉f q
 |[],_,p,q,hp,_,_,_,_=>by cases hp
 |x::r,hn,p,q,hp,hq,hne,a,ha=>by
  simp only[Rh,lf]at hn;obtain⟨h,g,e⟩:=hn;rcases cT.1 hp with rfl|c
  ·rcases cT.1 hq with rfl|b
   ·exact absurd rfl hne
   ·intro d;exact e a ha a (ns.2 ⟨q,b,d⟩) rfl
  ·rcases cT.1 hq with rfl|b
   ·intro d;exact e a d a (ns.2 ⟨p,c,ha⟩) rfl
   ·exact flatMap_apart f g c b hne a ha
theorem aq.written{Q:ab}{R:aF}{C:List Nat}{n:Int}{x:mO}{g:ByteArray}{v:bF}(h:aq w R)(K:aD R.af n=V x)(T:∀k∈C,k∉R.fp)(j:aa (λk=>k∈C\/k=x.mb) w Q)(W:aQ O Q x.mb (put (x.ar.map λq=>(q.1,q.2.val)) g v.val)):aq Q {R with af:=put R.af n {x with ar:=put x.ar g v}}:=by
 have A:=bj K;have c:=h.nodup;have s:(R.af.flatMap (λp=>[p.2.eT,p.2.mb])).Nodup:=by simp only[aF.fp,aF.aP,ey,lf]at c;exact c.2.1.2.1
 have P:(R.af.map (·.1)).Nodup:=by have:=h.af.cy.nodup;simpa[tO,tQ]using this
 have o:x.mb∈R.af.flatMap (λp=>[p.2.eT,p.2.mb]):=ns.2 ⟨(n,x),A,by simp⟩;have d:∀k,k∈R.fp->k≠x.mb->¬(k∈C\/k=x.mb):=λk a H=>by
  rintro(G|G)
  ·exact T k G a
  ·exact H G
 have N:R.sb≠x.mb:=by simp only[aF.fp,aF.aP,ey,cQ,Th]at c;intro e;exact c.1.1.2 (e▸o)
 have m:∀k,k∈R.wm.toList++cL R.pm R.cm->k≠x.mb:=by intro k a e;subst e;simp only[aF.fp,aF.aP,ey,lf]at c;exact c.2.1.2.2 _ a _ o rfl
 have M:∀k,k∈R.bp->k≠x.mb:=by intro k a e;subst e;simp only[aF.fp,ey,lf]at c;exact c.2.2.2 _ (by simp only[aF.aP,cQ];exact .inr o) _ a rfl
 have f:∀k,k∈R.wm.toList++cL R.pm R.cm->k∈R.fp:=λk a=>by simp only[aF.fp,aF.aP,cT,cQ]at a⊢;exact .inr (.inl (.inl a))
 refine⟨?_,⟨?_,?_,?_,?_⟩,?_,?_⟩
 ·exact(j.block R.sb h.lt (d _ (by simp[aF.fp]) N)).trans h.top
 ·have e:(put R.af n {x with ar:=put x.ar g v}).map (λp=>(p.1,bE p.2))=R.af.map (λp=>(p.1,bE p.2)):=by rw[<-oj bE];exact CW (by rw[cd,K];rfl)
  show dG _ _ R.wm _;rw[e];exact h.af.cy.ai j (λb i=>d _ (f b (by simp[i])) (m b (by simp[i])))
 ·intro p hp;rcases jl P hp with rfl|⟨l,L⟩
  ·obtain⟨r,S⟩:=h.af.eA (n,x) A;have F:x.eT≠x.mb:=by
    have z:[x.eT,x.mb].Sublist (R.af.flatMap (λp=>[p.2.eT,p.2.mb])):=by have:=iR (λp:Int×mO=>[p.2.eT,p.2.mb]) (List.singleton_sublist.2 A);simpa using this
    have:=s.sublist z;simp only[ey,QZ]at this;exact this.1
   have D:x.eT∈R.fp:=by simp only[aF.fp,aF.aP,cT,cQ,ns];exact .inr (.inl (.inr ⟨(n,x),A,by simp⟩))
   refine⟨(j.block _ (lg r) (d _ D F)).trans r,?_⟩;show aQ _ _ x.mb ((put x.ar g v).map λq=>(q.1,q.2.val));rw[<-oj bF.val];exact W
  ·obtain⟨r,S⟩:=h.af.eA p l;have B:=flatMap_apart (λp:Int×mO=>[p.2.eT,p.2.mb]) s l A (λe=>L (by rw[e]));have u:∀k,k=p.2.eT\/k=p.2.mb->k≠x.mb:=λk a e=>by have:=B k (by simpa using a);exact this (by simp[e])
   have y:∀k,k=p.2.eT\/k=p.2.mb->k∈R.fp:=λk a=>by simp only[aF.fp,aF.aP,cT,cQ,ns];exact .inr (.inl (.inr ⟨p,l,by simpa using a⟩))
   exact⟨(j.block _ (lg r) (d _ (y _ (.inl rfl)) (u _ (.inl rfl)))).trans r,S.ai j (d _ (y _ (.inr rfl)) (u _ (.inr rfl)))⟩
 ·exact h.af.dc.ai j (λb i=>d _ (f b (by simp[cL,i])) (m b (by simp[cL,i])))
 ·exact h.af.cU.ai j (λb i=>d _ (f b (by simp[cL,i])) (m b (by simp[cL,i])))
 ·exact h.cg.ai j (λk t=>d _ (ef _ (fx _ t)) (M k t))
 ·have e:aF.fp {R with af:=put R.af n {x with ar:=put x.ar g v}}=R.fp:=by simp only[aF.fp,aF.aP,aF.bp];rw[ki (v:={x with ar:=put x.ar g v}) (λp:Int×mO=>[p.2.eT,p.2.mb]) K rfl]
  rw[e];exact c
theorem qm{a:Obj}(f:aa n_ ((((w.alloc a).alloc b).alloc c).alloc d) e):e.heap[w.heap.size]?=V a:=
 bO (((((aa.refl n_ (w.alloc a)).al b).al c).al d).tr f i_) id
theorem zY{a:Obj}(f:aa n_ ((((w.alloc b).alloc a).alloc c).alloc d) e)(v:ax):(e.setCell ⟨w.heap.size,1,Y⟩ v).heap[w.heap.size+1]?=V a:=by rw[Below.heap_setCell _ _ _ _ (by simp)];have:=bO ((((aa.refl n_ ((w.alloc b).alloc a)).al c).al d).tr f i_) id;simpa using this
theorem zX{f:ab}(a:aa n_ ((((w.alloc b).alloc c).alloc (I #[J Y 0 0] 114)).alloc d) f)(v:ax):iP (f.setCell ⟨w.heap.size,1,Y⟩ v) (w.heap.size+1+1) [] [w.heap.size+1+1]:=
 (((Lq w b c).ai (aa.alloc n_ _ d) k_).ai a k_).ai (aa.setCell _ _ _) (λk a e=>by simp at a;have g:k=w.heap.size:=e;omega)
theorem GV{S:Nat->Prop}{W a:ab}{b c:Nat}{u v x y:ax}(d:aa S W a)(j:¬S b)(e:¬S c)(f:W.cell? ⟨b,1,Y⟩=V u)(g:W.cell? ⟨c,0,Y⟩=V v)(h:W.cell? ⟨c,1,Y⟩=V x)(i:W.cell? ⟨c,2,Y⟩=V y):a.cell? ⟨b,1,Y⟩=V u/\a.cell? ⟨c,0,Y⟩=V v/\a.cell? ⟨c,1,Y⟩=V x/\a.cell? ⟨c,2,Y⟩=V y:=
 ⟨d.cell (p:=⟨b,1,Y⟩) f j,d.cell (p:=⟨c,0,Y⟩) g e,d.cell (p:=⟨c,1,Y⟩) h e,d.cell (p:=⟨c,2,Y⟩) i e⟩
theorem No(R:aF)(n:Int)(x:mO)(c a:ByteArray)(b:Bool)(w:ab)(h:aq w R)(hn:aD R.af n=V x)(F:dw c=true)(a1:fM a=true)(K:(aD x.ar c).isSome=true\/x.ar.length<30)(d2:x.ar.length<=30):ba prog 72 #[X (V ⟨R.sb,0,Y⟩),Z U n,O c,.agg #[Z U 0,O a,ao b]] w λe w'=>e=ay (Z U 0)/\aq w' {R with af:=put R.af n {x with ar:=put x.ar c ⟨0,a,b⟩}}/\aa (·∈R.fp) w w':=by
 have d4:c.size<=10:=by simp[dw]at F;exact F.2
 have d7:a.size<=40:=by simpa[fM]using a1
 have d5:=mf_;have d1:∀(x:Bool) (w:ab),(Op.unary .not (ao x)).run prog w=.ok (ao (!x)) w:=λ_ _=>rfl;have hW:=h.ai ((((aa.refl n_ w).al (I #[Z U 0,O a,ao b] 144)).al (I #[Z U 0] 71)).al (I #[J Y 0 0] 114)) k_;have H:=fv R n _ hW;rw[hn]at H;simp only[uW,lp,bE]at H;have a9:QS (∀W,ba prog 66 #[O c] W λe w'=>e=ay (ao true)/\w'=W):=λW=>by have:=mW c W (by unfold maxLen;omega);rwa[F]at this
 have b0:QS (∀W,ba prog 130 #[O a] W λe w'=>e=ay (ao true)/\w'=W):=λW=>by have:=lX a W (by unfold maxLen;omega);rwa[a1]at this
 have hx:=bj hn;obtain⟨c0,c1,hM⟩:=h.af.work hx;have G:x.eT∈R.fp/\x.mb∈R.fp:=by
  constructor<;>
  ·simp only[aF.fp,aF.aP,cT,cQ,ns];exact .inr (.inl (.inr ⟨(n,x),hx,by simp⟩))
 have d3:=bG h _ G.1;have d6:=bG h _ G.2;have c6:x.eT<w.heap.size+1:=by omega
 have c7:x.eT<w.heap.size+1+1:=by omega
 have c8:x.eT<w.heap.size+1+1+1:=by omega
 have u:QS (aq w R):=h;have HN:QS (aD R.af n=V x):=hn;have a8:QS ((aD x.ar c).isSome=true\/x.ar.length<30):=K;have b5:x.eT≠x.mb:=by
  have b6:=h.nodup;simp only[aF.fp,aF.aP,ey,lf]at b6;have b7:[x.eT,x.mb].Sublist (R.af.flatMap (λp=>[p.2.eT,p.2.mb])):=by have:=iR (λp:Int×mO=>[p.2.eT,p.2.mb]) (List.singleton_sublist.2 hx);simpa using this
  have:=b6.2.1.2.1.sublist b7;simp only[ey,QZ]at this;exact this.1
 have b1:QS (¬(x.eT∈[w.heap.size+1+1]\/x.eT=x.mb)):=by
  rintro(z|z)
  ·simp at z;omega
  ·exact b5 z
 have b2:QS (¬(w.heap.size∈[w.heap.size+1+1]\/w.heap.size=x.mb)):=by
  rintro(z|z)
  ·simp at z;omega
  ·omega
 clear hW hn h K F a1 c0 b5;obtain⟨q1,q2,q3,hq⟩:∃q1 q2 q3,(aD (x.ar.map λq=>(q.1,q.2.val)) c).getD (.agg #[Z U 0,O ByteArray.empty,ao false])=.agg #[Z U q1,O q2,ao q3]:=by
  rw[cd];cases aD x.ar c with
  |none=>exact⟨_,_,_,rfl⟩
  |some v=>exact⟨_,_,_,rfl⟩
 have HQ:QS ((aD (x.ar.map λq=>(q.1,q.2.val)) c).getD (.agg #[Z U 0,O ByteArray.empty,ao false])=.agg #[Z U q1,O q2,ao q3]):=hq;have HS:QS ((aD (x.ar.map λq=>(q.1,q.2.val)) c).isSome=(aD x.ar c).isSome):=by unfold QS;rw[cd];simp
 have b9:QS ((x.ar.map λq=>(q.1,q.2.val)).length=x.ar.length):=by unfold QS;simp
 clear hq;generalize hln:x.ar.length=ln at*;clear hln;cases hag:(aD x.ar c).isSome with
 |true=>
  rw[hag]at HS;clear hag;go_enter_defers func72,ntmps72;go_wp2_with(first
   |(go_at_call 65;go_must(refine H.mono ?_;rintro e y ⟨rfl,rfl⟩))
   |(go_at_call 66;go_must(refine(a9.o _).mono ?_;rintro e y ⟨rfl,rfl⟩))
   |(go_at_call 130;go_must(refine(b0.o _).mono ?_;rintro e y ⟨rfl,rfl⟩))
   |(at_lookup;go_must(refine bC _ rfl _ _ 124 rfl 9 144 bJ Tryz.underlying124 Tryz.underlying9 _ (Tryz.gu _) x.mb rfl c rfl _ (hM.ai ((((aa.refl n_ w).al _).al _).al _) id) ?_;rw[HQ.o,HS.o]))
   |(go_at_call 131;go_must(refine(kU a _ (by omega)).mono ?_;rintro e y ⟨rfl,d⟩;obtain⟨a2,a3,a4,a5,a6,a7⟩:=bQ (qm d))))
  have D:aa n_ w (y.setCell ⟨w.heap.size,1,Y⟩ (O a)):=((((((aa.refl n_ w).al _).al _).al _).al _).tr d i_).st (.inl (eb _)) _;have t:=ak (i:=1) (qm d) (O a);have M:=zY d (O a);have L:=zX d (O a);have z5:w.heap.size+4<=(y.setCell ⟨w.heap.size,1,Y⟩ (O a)).heap.size:=by have:=d.size;simp at this;simp;omega
  generalize y.setCell ⟨w.heap.size,1,Y⟩ (O a)=W5 at D t M L z5;have p0:W5.cell? ⟨w.heap.size,0,Y⟩=V (Z U 0):=ae t 0;have p1:W5.cell? ⟨w.heap.size,1,Y⟩=V (O a):=ae t 1;have p2:W5.cell? ⟨w.heap.size,2,Y⟩=V (ao b):=ae t 2;have pb:W5.cell? ⟨x.eT,1,Y⟩=V (.map (V x.mb)):=D.cell (p:=⟨x.eT,1,Y⟩) c1 id;have s:QS (aa n_ w W5):=D;have b8:QS (W5.heap[w.heap.size]?=_):=t;have Q:QS (W5.heap[w.heap.size+1]?=_):=M;have N:QS (iP W5 (w.heap.size+1+1) [] [w.heap.size+1+1]):=L;have B:=λW (r:aa n_ W5 W)=>qy (w.heap.size+1+1) [] [w.heap.size+1+1] x.mb c _ q1 0 q2 a q3 b W (N.o.ai r k_) ((hM.ai s.o id).ai r id) HQ.o (by simp;omega) (by simp);clear D t M L a2 a3 a4 a5 a6 a7 d;go_region_held3(λW=>W.cell? ⟨x.eT,1,Y⟩=V (.map (V x.mb))/\W.cell? ⟨w.heap.size,0,Y⟩=V (Z U 0)/\W.cell? ⟨w.heap.size,1,Y⟩=V (O a)/\W.cell? ⟨w.heap.size,2,Y⟩=V (ao b)) (go_keep) (first
   |(go_at_call 131;refine(kU c _ (by omega)).mono ?_;rintro e w6 ⟨rfl,g⟩;obtain⟨r0,r1,r2,r3⟩:=GV ((aa.drew n_ W5).tr g i_) id id pb p0 p1 p2)
   |(go_at_call 132;refine(B _ ((aa.drew n_ W5).tr g i_)).mono ?_;rintro e o ⟨rfl,c2,C7,c4,c3,j,b4,C⟩;obtain⟨t0,t1,t2,t3⟩:=GV j b1.o b2.o r0 r1 r2 r3))
  have a0:QS (aq o {R with af:=put R.af n {x with ar:=put x.ar c ⟨0,a,b⟩}}):=aq.written (v:=⟨0,a,b⟩) ((u.o.ai s.o k_).ai ((aa.drew n_ W5).tr g i_) k_) HN.o (λk r H=>by have:=bG u.o k H;simp at r;omega) j C;have m:o.heap[w.heap.size+1]?=V (I #[Z U 0] 71 (0,0)):=by rw[j.block (w.heap.size+1) (by have:=g.size;simp at this;omega) (by rintro(z|z);(simp at z);omega)];rw[g.block (w.heap.size+1) (by simp;omega) id];exact Q.o
  have y0:o.cell? ⟨w.heap.size+1,0,Y⟩=V (Z U 0):=ae m 0;have y1:o.frozen? ⟨w.heap.size+1,0,Y⟩=false:=aj m 0;have S:QS (o.heap[w.heap.size+1]?=V (I #[Z U 0] 71 (0,0))):=m;have T:QS (aa (·∈R.fp) w o):=(((s.o.mono (λ_ _ h=>h.elim)).tr ((aa.drew n_ W5).tr g i_) (λ_ h=>h.elim))).trans j (λk r h=>by
   rcases h with h|rfl
   ·simp at h;omega
   ·exact G.2)
  clear m j C B r0 r1 r2 r3 t0 t1 t2 t3 p0 p1 p2 pb;go_wp2;refine leaves_cons (f:=129) (args:=#[X (V ⟨w.heap.size+1+1,0,Y⟩),X (V ⟨w.heap.size+1,0,Y⟩)]) (by simp) (by simp[go_sem]) ?_;have A:=ak (i:=0) S.o (Z U 0);refine(zV (w.heap.size+1+1) (w.heap.size+1) _ ?_).mono ?_
  ·exact ae A 0
  rintro e u' c5 ⟨rfl,rfl,rfl⟩;have l:aq (o.setCell ⟨w.heap.size+1,0,Y⟩ (Z U 0)) {R with af:=put R.af n {x with ar:=put x.ar c ⟨0,a,b⟩}}/\aa (·∈R.fp) w (o.setCell ⟨w.heap.size+1,0,Y⟩ (Z U 0)):=by
   refine⟨a0.o.ai (aa.setCell _ _ _) (λk r e=>?_),T.o.st (.inl (Nat.le_succ _)) _⟩;have e':k=w.heap.size+1:=e;have e2:aF.fp {R with af:=put R.af n {x with ar:=put x.ar c ⟨0,a,b⟩}}=R.fp:=by simp only[aF.fp,aF.aP,aF.bp];rw[ki (v:={x with ar:=put x.ar c ⟨0,a,b⟩}) (λp:Int×mO=>[p.2.eT,p.2.mb]) HN.o rfl]
   rw[e2]at r;have:=bG u.o k r;omega
  have hb:=ae A 0;generalize o.setCell ⟨w.heap.size+1,0,Y⟩ (Z U 0)=W3 at l hb;simp at hb;simp[Leaves,settle,results,Tryz.results72,go_sem,hb];exact l
 |false=>
  have c9:ln<30:=by
   rcases a8.o with h|h
   ·rw[hag]at h;cases h
   ·exact h
  rw[hag]at HS;clear hag;have d0:∀o1 o2 o3 o4 ty,(Builtin.len_ #[124] ty #[.map (V x.mb)]).run prog ((((w.alloc o1).alloc o2).alloc o3).alloc o4)=.ok (Z U ln) ((((w.alloc o1).alloc o2).alloc o3).alloc o4):=λo1 o2 o3 o4 ty=>by have:=(hM.ai (((((aa.refl n_ w).al o1).al o2).al o3).al o4) id).length (P:=prog) Tryz.underlying124 ty;rw[b9.o]at this;exact this
  go_enter_defers func72,ntmps72;go_wp2_with(first
   |(go_at_call 65;go_must(refine H.mono ?_;rintro e y ⟨rfl,rfl⟩))
   |(go_at_call 66;go_must(refine(a9.o _).mono ?_;rintro e y ⟨rfl,rfl⟩))
   |(go_at_call 130;go_must(refine(b0.o _).mono ?_;rintro e y ⟨rfl,rfl⟩))
   |(at_lookup;go_must(refine bC _ rfl _ _ 124 rfl 9 144 bJ Tryz.underlying124 Tryz.underlying9 _ (Tryz.gu _) x.mb rfl c rfl _ (hM.ai ((((aa.refl n_ w).al _).al _).al _) id) ?_;rw[HQ.o,HS.o]))
   |(go_at_call 131;go_must(refine(kU a _ (by omega)).mono ?_;rintro e y ⟨rfl,d⟩;obtain⟨a2,a3,a4,a5,a6,a7⟩:=bQ (qm d))))
  have D:aa n_ w (y.setCell ⟨w.heap.size,1,Y⟩ (O a)):=((((((aa.refl n_ w).al _).al _).al _).al _).tr d i_).st (.inl (eb _)) _;have t:=ak (i:=1) (qm d) (O a);have M:=zY d (O a);have L:=zX d (O a);have z5:w.heap.size+4<=(y.setCell ⟨w.heap.size,1,Y⟩ (O a)).heap.size:=by have:=d.size;simp at this;simp;omega
  generalize y.setCell ⟨w.heap.size,1,Y⟩ (O a)=W5 at D t M L z5;have p0:W5.cell? ⟨w.heap.size,0,Y⟩=V (Z U 0):=ae t 0;have p1:W5.cell? ⟨w.heap.size,1,Y⟩=V (O a):=ae t 1;have p2:W5.cell? ⟨w.heap.size,2,Y⟩=V (ao b):=ae t 2;have pb:W5.cell? ⟨x.eT,1,Y⟩=V (.map (V x.mb)):=D.cell (p:=⟨x.eT,1,Y⟩) c1 id;have s:QS (aa n_ w W5):=D;have b8:QS (W5.heap[w.heap.size]?=_):=t;have Q:QS (W5.heap[w.heap.size+1]?=_):=M;have N:QS (iP W5 (w.heap.size+1+1) [] [w.heap.size+1+1]):=L;have B:=λW (r:aa n_ W5 W)=>qy (w.heap.size+1+1) [] [w.heap.size+1+1] x.mb c _ q1 0 q2 a q3 b W (N.o.ai r k_) ((hM.ai s.o id).ai r id) HQ.o (by simp;omega) (by simp);clear D t M L a2 a3 a4 a5 a6 a7 d;go_region_held3(λW=>W.cell? ⟨x.eT,1,Y⟩=V (.map (V x.mb))/\W.cell? ⟨w.heap.size,0,Y⟩=V (Z U 0)/\W.cell? ⟨w.heap.size,1,Y⟩=V (O a)/\W.cell? ⟨w.heap.size,2,Y⟩=V (ao b)) (go_keep) (first
   |(go_at_call 131;refine(kU c _ (by omega)).mono ?_;rintro e w6 ⟨rfl,g⟩;obtain⟨r0,r1,r2,r3⟩:=GV ((aa.drew n_ W5).tr g i_) id id pb p0 p1 p2)
   |(go_at_call 132;refine(B _ ((aa.drew n_ W5).tr g i_)).mono ?_;rintro e o ⟨rfl,c2,C7,c4,c3,j,b4,C⟩;obtain⟨t0,t1,t2,t3⟩:=GV j b1.o b2.o r0 r1 r2 r3))
  have a0:QS (aq o {R with af:=put R.af n {x with ar:=put x.ar c ⟨0,a,b⟩}}):=aq.written (v:=⟨0,a,b⟩) ((u.o.ai s.o k_).ai ((aa.drew n_ W5).tr g i_) k_) HN.o (λk r H=>by have:=bG u.o k H;simp at r;omega) j C;have m:o.heap[w.heap.size+1]?=V (I #[Z U 0] 71 (0,0)):=by rw[j.block (w.heap.size+1) (by have:=g.size;simp at this;omega) (by rintro(z|z);(simp at z);omega)];rw[g.block (w.heap.size+1) (by simp;omega) id];exact Q.o
  have y0:o.cell? ⟨w.heap.size+1,0,Y⟩=V (Z U 0):=ae m 0;have y1:o.frozen? ⟨w.heap.size+1,0,Y⟩=false:=aj m 0;have S:QS (o.heap[w.heap.size+1]?=V (I #[Z U 0] 71 (0,0))):=m;have T:QS (aa (·∈R.fp) w o):=(((s.o.mono (λ_ _ h=>h.elim)).tr ((aa.drew n_ W5).tr g i_) (λ_ h=>h.elim))).trans j (λk r h=>by
   rcases h with h|rfl
   ·simp at h;omega
   ·exact G.2)
  clear m j C B r0 r1 r2 r3 t0 t1 t2 t3 p0 p1 p2 pb;go_wp2;refine leaves_cons (f:=129) (args:=#[X (V ⟨w.heap.size+1+1,0,Y⟩),X (V ⟨w.heap.size+1,0,Y⟩)]) (by simp) (by simp[go_sem]) ?_;have A:=ak (i:=0) S.o (Z U 0);refine(zV (w.heap.size+1+1) (w.heap.size+1) _ ?_).mono ?_
  ·exact ae A 0
  rintro e u' c5 ⟨rfl,rfl,rfl⟩;have l:aq (o.setCell ⟨w.heap.size+1,0,Y⟩ (Z U 0)) {R with af:=put R.af n {x with ar:=put x.ar c ⟨0,a,b⟩}}/\aa (·∈R.fp) w (o.setCell ⟨w.heap.size+1,0,Y⟩ (Z U 0)):=by
   refine⟨a0.o.ai (aa.setCell _ _ _) (λk r e=>?_),T.o.st (.inl (Nat.le_succ _)) _⟩;have e':k=w.heap.size+1:=e;have e2:aF.fp {R with af:=put R.af n {x with ar:=put x.ar c ⟨0,a,b⟩}}=R.fp:=by simp only[aF.fp,aF.aP,aF.bp];rw[ki (v:={x with ar:=put x.ar c ⟨0,a,b⟩}) (λp:Int×mO=>[p.2.eT,p.2.mb]) HN.o rfl]
   rw[e2]at r;have:=bG u.o k r;omega
  have hb:=ae A 0;generalize o.setCell ⟨w.heap.size+1,0,Y⟩ (Z U 0)=W3 at l hb;simp at hb;simp[Leaves,settle,results,Tryz.results72,go_sem,hb];exact l
def de(a b:ByteArray):Bool:=Op.bytesLess a.toList b.toList
theorem rG:∀(x y:List UInt8),Op.bytesLess x y=decide (x<y)
 |[],[]=>by simp[Op.bytesLess]
 |_::_,[]=>by simp[Op.bytesLess]
 |[],_::_=>by simp[Op.bytesLess]
 |a::x,b::y=>by rw[Op.bytesLess,rG x y];simp only[Tl];by_cases c:a<b<;>by_cases d:a=b<;>by_cases e:x<y<;>simp[c,d,e]
theorem jQ(a b:ByteArray):de a b=true↔a.data.toList<b.data.toList:=by unfold de;rw[rG,ByteArray.toList_eq,ByteArray.toList_eq];simp
theorem data_inj{b:ByteArray}(h:a.data.toList=b.data.toList):a=b:=by apply TD;exact Array.toList_inj.1 h
theorem bw(a:ByteArray):de a a=false:=by rw[SG];intro h;rw[jQ]at h;exact List.lt_irrefl _ h
theorem eO{b c:ByteArray}(d:de a b=true)(e:de b c=true):de a c=true:=by rw[jQ]at*;exact List.lt_trans d e
theorem nh{b:ByteArray}(c:de a b=false)(d:de b a=false):a=b:=by rw[SG]at c d;rw[Ne,jQ]at c d;exact data_inj (List.le_antisymm (List.not_lt.1 d) (List.not_lt.1 c))
def below(a:List ByteArray)(x:ByteArray):Nat:=(a.takeWhile (λk=>de k x)).length
def bh(c:List ByteArray):Prop:=c.Pairwise (λa b=>de a b=true)
theorem iF(a:List ByteArray)(x:ByteArray):below a x<=a.length:=(List.takeWhile_sublist _).length_le
theorem rA:∀{b:List ByteArray} {x:ByteArray} {j:Nat} (a:j<b.length),j<below b x->de b[j] x=true
 |[],x,j,a,_=>by simp at a
 |k::b,x,j,a,h=>by
  unfold below at h;rw[Sm]at h;split at h
  ·rename_i c;match j with
   |0=>exact c
   |j+1=>
    simp only[Rf];exact rA (by simpa using a) (by unfold below;simpa using h)
  ·simp at h
theorem ry:∀{b:List ByteArray} {x:ByteArray},bh b->∀{j:Nat} (c:j<b.length),below b x<=j->de b[j] x=false
 |[],x,_,j,c,_=>by simp at c
 |k::b,x,hr,j,c,h=>by
  obtain⟨e,f⟩:=BS.1 hr;unfold below at h;rw[Sm]at h;split at h
  ·match j with
   |0=>simp at h
   |j+1=>
    simp only[Rf];exact ry f (by simpa using c) (by unfold below;simpa using h)
  ·rename_i i;have a:de k x=false:=by simpa using i
   match j with
   |0=>exact a
   |j+1=>
    simp only[Rf];have d:de k (b[j]'(by simpa using c))=true:=e _ (nE _);rw[SG];intro g;rw[eO d g]at a;cases a
theorem sT{a:List ByteArray}{x:ByteArray}(f:bh a):(∃h:below a x<a.length,a[below a x]=x)↔x∈a:=by
 constructor
 ·rintro⟨h,e⟩;rw[<-e];exact nE _
 ·intro i;obtain⟨j,b,rfl⟩:=Rr i;have c:below a a[j]=j:=by
   rcases Nat.lt_trichotomy (below a a[j]) j with h|h|h
   ·have d:=ry f (x:=a[j]) (j:=below a a[j]) (by omega) (eb _);have g:=RE.1 f (below a a[j]) j (by omega) b h;rw[g]at d;cases d
   ·exact h
   ·have:=rA b h;rw[bw]at this;cases this
  exact⟨by rw[c];exact b,by simp only[c]⟩
def bR(a:List ByteArray)(x:ByteArray):Bool:=a.any (λk=>decide (k=x))
theorem bA(a:List ByteArray)(x:ByteArray):bR a x=true↔x∈a:=by
 unfold bR;rw[Rt];constructor
 ·rintro⟨k,c,e⟩;have b:k=x:=by simpa using e
  exact b▸c
 ·intro h;exact⟨x,h,by simp⟩
theorem je(v:ax)(a:List ByteArray)(x:ByteArray)(w:ab)(h:Row w 9 1 v a.length (a.map O))(o:bh a)(z:a.length<1000000000000000):ba prog 170 #[v,O x] w λe n=>e=ay (bt #[Z U (below a x:Nat),ao (bR a x)])/\aa n_ w n:=by
 rcases h.shape with⟨rfl,p⟩|⟨g,f,rfl,k,l⟩
 ·obtain rfl:a=[]:=hU p;refine(xC Y 0 x w).mono ?_;rintro e n ⟨rfl,rfl⟩;exact⟨by simp[below,bR],aa.refl _ _⟩
 ·have s:∀j,j<a.length->w.cell? ⟨g,0+j,Y⟩=V (O (a.getD j x)):=λj y=>by rw[tA,h.cellAt j (by omega)];simp[y]
  refine(Bc g 0 a.length f (λj=>a.getD j x) x w (by omega) s).mono ?_;have r:Lib.bsGo (λt=>Op.bytesLess (a.getD t x).toList x.toList) a.length 0 a.length=below a x:=by
   have d:=iF a x;refine Lib.bsGo_spec _ (below a x) (λt m=>?_) (λt m=>?_) a.length 0 a.length (by omega) (eL _) d
   ·have b:t<a.length:=by omega
    have:=rA b m;simp only[Sk,ec b,lp];exact this
   ·by_cases b:t<a.length
    ·have:=ry o b m;simp only[Sk,ec b,lp];exact this
    ·simp only[Sk,Sv (Nat.le_of_not_lt b),yg];exact bw x
  rintro e n ⟨rfl,q,rfl⟩;rw[r];refine⟨?_,?_⟩
  ·have u:decide (below a x<a.length/\a.getD (below a x) x=x)=bR a x:=by
    rw[QT];simp only[tT];rw[bA,<-sT o];constructor
    ·rintro⟨c,i⟩;refine⟨c,?_⟩;simpa[c]using i
    ·rintro⟨c,i⟩;refine⟨c,?_⟩;simpa[c]using i
   rw[u]
  ·exact⟨rfl,rfl,rfl,eb _,λ_ _ _=>rfl⟩
end Go.Proofs.YtjbkfdeldlajhaaGreatDoor
