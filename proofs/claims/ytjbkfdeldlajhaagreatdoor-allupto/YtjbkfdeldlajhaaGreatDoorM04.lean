import Derived.Test.YtjbkfdeldlajhaaGreatDoorM03
set_option linter.unusedSimpArgs false
namespace Go.Proofs.YtjbkfdeldlajhaaGreatDoor
open Go.RowKit Go.Proofs.Tryz
open Option renaming none->Y,some->V
open Go.Value renaming int->Z,string->O,slice->J
open Go.IntKind renaming i64->U
open Go.Obj renaming cells->I
open Go renaming World->ab,Value->ax,Calls->ba,TypeId->cI
open Go.Ending renaming returned->ay
def FE:Array ax->Nat->List ax->Array ax
 |c,_,[]=>c
 |c,o,v::r=>FE (c.setIfInBounds o v) (o+1) r
theorem gI:∀(a:List ax) (c:Array ax) (o:Nat),(FE c o a).size=c.size
 |[],c,o=>rfl
 |v::r,c,o=>by simp[FE,gI r]
theorem fe{e:cI}{fz:Nat×Nat}:∀(a:List ax) (w:ab) (b o:Nat) (c:Array ax),w.heap[b]?=V (I c e fz)->(w.setCells b o a).heap[b]?=V (I (FE c o a) e fz)
 |[],_,_,_,_,h=>h
 |v::r,_,b,o,_,h=>fe r _ b (o+1) _ (ak h v)
theorem gr:∀(a:List ax) (c:Array ax) (o:Nat),o+a.length<=c.size->(FE c o a).toList=c.toList.take o++a++c.toList.drop (o+a.length)
 |[],c,o,_=>by simp[FE]
 |v::r,c,o,h=>by
  simp only[fN]at h;rw[FE,gr r _ _ (by simp;omega)];have b:o<c.toList.length:=by simp;omega
  simp only[Array.toList_setIfInBounds,fN];rw[List.take_set,List.drop_set];rw[fy (by omega)];rw[eu b,List.set_append_right _ _ (by simp;omega)];have e:o-(List.take o c.toList).length=0:=by simp;omega
  rw[e];simp only[SB,mE,tI,uE];rw[show o+1+r.length=o+(r.length+1)from by omega]
theorem aa.setCells:∀(a:List ax) (w:ab) (b o:Nat),aa (·=b) w (w.setCells b o a)
 |[],_,_,_=>aa.refl _ _
 |v::r,w,b,o=>(aa.setCell w ⟨b,o,Y⟩ v).tr (aa.setCells r _ b (o+1)) i_
def eK(a:List ByteArray)(i:Nat)(x:ByteArray):List ByteArray:=a.take i++x::a.drop i
theorem iw(a:List ByteArray)(i:Nat)(x:ByteArray)(b:i<=a.length):(eK a i x).length=a.length+1:=by simp[eK];omega
theorem wE(v:ax)(b:List ByteArray)(i:Nat)(x:ByteArray)(y:Nat)(w:ab)(h:Row w 9 1 v b.length (b.map O))(hi:i<=b.length)(hl:b.length<1000000000000)(B:w.heap[y]?=V (I #[O x] 9 (0,0)))(a4:v.ownBlock≠V y):ba prog 206 #[v,Z U i,J (V ⟨y,0,Y⟩) 1 1] w λe N=>∃g c,e=ay (J (V ⟨g,0,Y⟩) (b.length+1) c)/\Row N 9 1 (J (V ⟨g,0,Y⟩) (b.length+1) c) (b.length+1) ((eK b i x).map O)/\aa (λk=>v.ownBlock=V k) w N/\(v.ownBlock=V g\/w.heap.size<=g):=by
 have t:∀j u,[O x][j]?=V u->w.cell? ⟨y,0+j,Y⟩=V u:=by intro j u s;rw[tA,ae B];simpa using s
 have r:∀u∈[O x],u.oneCell'=true:=by simp[Value.oneCell']
 have P:∀u∈b.map O,u.oneCell'=true:=by intro u hu;obtain⟨k,_,rfl⟩:=fI.1 hu;rfl
 have C:(eK b i x).map O=(b.map O).take i++[O x]++(b.map O).drop i:=by simp[eK,List.map_take,TT]
 have f:((eK b i x).map O).length=(b.length+1)*1:=by rw[hO,iw b i x hi];omega
 rcases h.2 with⟨rfl,h0⟩|⟨g,c,d,rfl,R,T,z,D,M⟩
 ·obtain rfl:b=[]:=hU h0;have a3:i=0:=by simpa using hi
  subst a3;refine(me Y 0 0 y 0 1 1 [] [O x] w (by omega) (eb _) (by omega) (by omega) rfl rfl (λ_=>rfl) (λa h=>by cases h) t r).mono ?_;rintro e N ⟨rfl,rfl⟩;have q:=grownCap_ge w (0+1) 0 9;have l:=grownCap_le_maxLen w (0+1) 0 9 (by unfold maxLen;omega);refine⟨_,_,rfl,⟨f,.inr ⟨_,_,_,rfl,Go.heap_alloc_new w.drew _,q,l,?_,?_⟩⟩,(aa.drew _ w).al _,.inr (eb _)⟩
  ·simp[size_zeroCells,Value.cells];omega
  ·simp[eK]
 ·have a5:c<=d.size:=by simpa using D
  have m:∀j u,(b.map O)[j]?=V u->w.cell? ⟨g,0+j,Y⟩=V u:=by
   intro j u s;have a6:j<b.length:=by simpa using(ej.1 s).1
   rw[tA,h.cellAt j (by omega),s]
  have Q:∀j,w.frozen? ⟨g,j,Y⟩=false:=λj=>aj R j;have W:∀j,j<c->(w.cell? ⟨g,j,Y⟩).isSome=true:=λj s=>by rw[ae R];simp;omega
  have p:d.toList.take b.length=b.map O:=by simpa using M
  have a2:g≠y:=by rintro rfl;exact a4 rfl
  by_cases n:b.length+1<=c
  ·by_cases H:i=b.length
   ·subst H;refine(sF g 0 b.length c y 0 1 1 [O x] w (by omega) n (by unfold maxLen at z;omega) rfl (λj s=>W _ (by omega)) (λj s=>Q _) t r).mono ?_;rintro e N ⟨rfl,rfl⟩;refine⟨g,c,rfl,⟨f,.inr ⟨g,c,_,rfl,fe _ w g _ d R,n,z,by rw[gI];exact D,?_⟩⟩,(aa.setCells _ _ _ _).mono (λk _ S=>by have K:k=g:=S;simp[Value.ownBlock,K]),.inl rfl⟩;rw[gr _ _ _ (by simp;omega)];simp only[tA,Nat.mul_one,p,fN,pa];rw[Ss (by simp)];simp[eK]
   ·have L:i<b.length:=by omega
    refine(xB g 0 b.length c i y 0 1 1 (b.map O) [O x] w L (by omega) n (by unfold maxLen at z;omega) (Ne.symm a2) (by simp) rfl m (λj s=>by rw[tA];exact W _ (by omega)) (λj s=>Q _) t P r 9 9 1 d.size (by simp[World.shape?,B]) (by simp[World.shape?,R]) (by omega) (aj B 0) (aj B 1)).mono ?_;rintro e N ⟨rfl,rfl⟩;have F:=fe (e:=9) (fz:=(0,0)) ((b.map O).drop i) w.drew g (0+(i+1)) d R;have G:=fe [O x] _ g (0+i) _ F;refine⟨g,c,rfl,⟨f,.inr ⟨g,c,_,rfl,G,n,z,by rw[gI,gI];exact D,?_⟩⟩,(((aa.drew (·=g) w).tr (aa.setCells _ _ _ _) i_).tr (aa.setCells _ _ _ _) i_).mono (λk _ S=>by have K:k=g:=S;simp[Value.ownBlock,K]),.inl rfl⟩;rw[gr _ _ _ (by rw[gI];simp;omega),gr _ _ _ (by simp;omega)];rw[C];simp only[tA,Nat.mul_one,fN,pa,mR,hO];have e1:List.take i d.toList=(b.map O).take i:=by rw[<-p,TR,Nat.min_eq_left (by omega)]
    have e2:List.take i (List.take (i+1) d.toList++(b.map O).drop i++List.drop (i+1+(b.length-i)) d.toList)=(b.map O).take i:=by rw[mE,RU (by simp;omega),TR,Nat.min_eq_left (by omega),e1]
    have e3:List.drop (i+1) (List.take (i+1) d.toList++(b.map O).drop i++List.drop (i+1+(b.length-i)) d.toList)=(b.map O).drop i++List.drop (i+1+(b.length-i)) d.toList:=by rw[mE,List.drop_append_of_le_length (by simp;omega),List.drop_take,RZ];simp
    rw[e2,e3,<-mE];rw[Ss (by simp;omega)]
  ·by_cases H:i=b.length
   ·subst H;refine(me (V ⟨g,0,Y⟩) b.length c y 0 1 1 (b.map O) [O x] w (by omega) T (by omega) (by omega) (by simp) rfl (λh=>by cases h) (λa ha=>by cases ha;intro j u s;rw[Addr.add_lit];exact m j u s) t r).mono ?_;rintro e N ⟨rfl,rfl⟩;have q:=grownCap_ge w (b.length+1) c 9;have l:=grownCap_le_maxLen w (b.length+1) c 9 (by unfold maxLen;omega);refine⟨_,_,rfl,⟨f,.inr ⟨_,_,_,rfl,Go.heap_alloc_new w.drew _,q,l,?_,?_⟩⟩,(aa.drew _ w).al _,.inr (eb _)⟩
    ·simp[size_zeroCells,Value.cells];omega
    ·simp only[Tz,Nat.mul_one];rw[Ss (by simp)];simp[eK]
   ·have L:i<b.length:=by omega
    refine(yI g 0 b.length c i y 0 1 1 (b.map O) [O x] w L (by omega) T (by omega) (by omega) (by simp) rfl m t P r).mono ?_;rintro e N ⟨rfl,rfl⟩;have q:=grownCap_ge w (b.length+1) c 9;have l:=grownCap_le_maxLen w (b.length+1) c 9 (by unfold maxLen;omega);generalize grownCap w (b.length+1) c 9=nc at q l;have o:(((b.map O).take i).toArray++Builtin.zeroCells (O ⟨#[]⟩).cells (b.length+1-i)++Builtin.zeroCells (O ⟨#[]⟩).cells (nc-(b.length+1))).size=nc:=by simp[size_zeroCells,Value.cells];omega
    have a0:(((b.map O).take i).toArray++Builtin.zeroCells (O ⟨#[]⟩).cells (b.length+1-i)++Builtin.zeroCells (O ⟨#[]⟩).cells (nc-(b.length+1))).toList.take i=(b.map O).take i:=by simp only[Tz,mE];rw[Ss (by simp;omega)]
    generalize ((b.map O).take i).toArray++Builtin.zeroCells (O ⟨#[]⟩).cells (b.length+1-i)++Builtin.zeroCells (O ⟨#[]⟩).cells (nc-(b.length+1))=A at o a0⊢;have a1:=az w (I A 9);have F:=fe (e:=9) (fz:=(0,0)) [O x] (w.alloc (I A 9)).drew w.heap.size i _ a1;have G:=fe (e:=9) (fz:=(0,0)) ((b.map O).drop i) (((w.alloc (I A 9)).drew.setCells w.heap.size i [O x]).drew) w.heap.size (i+1) _ F;refine⟨_,_,rfl,⟨f,.inr ⟨_,_,_,rfl,G,q,l,by rw[gI,gI,o];omega,?_⟩⟩,?_,.inr (eb _)⟩
    ·rw[gr _ _ _ (by rw[gI,o];simp;omega),gr _ _ _ (by rw[o];simp;omega),C,a0];simp only[Nat.mul_one,fN,pa];have e2:List.take (i+1) ((b.map O).take i++[O x]++List.drop (i+(0+1)) A.toList)=(b.map O).take i++[O x]:=Ss (by simp;omega);rw[e2];exact Ss (by simp;omega)
    ·refine(((((aa.refl _ w).al _).dr).trans (aa.setCells _ _ _ _) (λk S h=>?_)).dr).trans (aa.setCells _ _ _ _) (λk S h=>?_)
     ·have h':k=w.heap.size:=h;omega
     ·have h':k=w.heap.size:=h;omega
end Go.Proofs.YtjbkfdeldlajhaaGreatDoor
namespace Go.Proofs
set_option maxHeartbeats 1000000
open Go.RowKit Go.Maps Go.Sort Go.Shelf
theorem Tryz.sorts157 (m : Nat) : AnyZ.SortsIn Tryz.prog Tryz.sorted157_ren Fence.wide m :=
  ⟨fun eT off cap ss W hH hblk hsz => callsIn_wide.2 (AnyM.slices_Sort_string Tryz.sort195 eT off cap ss W hH hblk hsz),
   fun p cap W => callsIn_wide.2 (AnyM.slices_Sort_string_none Tryz.sort195 p cap W)⟩
theorem Tryz.maps_Keys_158 (mb : Option Nat) (W : World) : CallsIn Fence.wide 5 Tryz.prog 158 #[.map mb] W fun e w' => e = .returned (.func (.func 196) #[] #[.pointer (some ⟨W.heap.size, 0, none⟩)]) ∧ w' = W.alloc (.cells #[.map mb] 175) :=
  AnyZ.keys_in Tryz.keys158 Fence.wide 5 trivial rfl mb W
theorem Tryz.slices_Sorted_keys_157_158 {H : Type} (b nn : Nat) (D0 : DataW H) (R : Value → Option (DataW H × List MemPlace)) (w : World) (hown : w.ownsMap Tryz.prog 9 R b nn D0) (hmax : Maps.size D0 ≤ maxLen) (hbytes : Maps.size D0 * 16 ≤ 140737488355328) :
    CallsIn Fence.wide 5 Tryz.prog 157 #[.func (.func 196) #[] #[.pointer (some ⟨w.heap.size, 0, none⟩)]] (w.alloc (.cells #[.map (some b)] 175)) fun e w' => ∃ (v : Value) (ss : List (List UInt8)), e = .returned v ∧ ss.Perm (strKeys D0) ∧
      w'.ownsRow (w.alloc (.cells #[.map (some b)] 175)).heap.size 9 1 v ss.length ((ss.mergeSort (fun x y => decide (x ≤ y))).map encStr) ∧ (v = .slice none 0 0 ↔ ss = []) ∧ Below (w.alloc (.cells #[.map (some b)] 175)).heap.size (w.alloc (.cells #[.map (some b)] 175)) w' := by
  have hbl := hown.lt
  have hseq : SeqGives Fence.wide 2 Tryz.prog 196 #[.pointer (some ⟨w.heap.size, 0, none⟩)] encStr (fun ss => ss.Perm (strKeys D0)) (Maps.size D0) (w.alloc (.cells #[.map (some b)] 175)) :=
    AnyZ.keys_gives (ρ := Tryz.keys158_ren) { Tryz.keys158 with } Fence.wide _ trivial rfl (by omega) w.heap.size b nn D0 _ (by simp) (by simp) (by
      obtain ⟨es, clock, hb, Ft, hs, hD⟩ := hown
      exact ⟨es, clock, (Below.heap_alloc _ _ b hbl).trans hb, Ft, hs, hD⟩)
  exact AnyZ.sorted_in Tryz.sorted157 Fence.wide 5 trivial trivial trivial trivial rfl (by omega) (Tryz.sorts157 _) (enters_of Tryz.func195 (by kernel_rfl) rfl) 196 #[.pointer (some ⟨w.heap.size, 0, none⟩)] trivial (enters_of Tryz.func196 (by kernel_rfl) rfl) _ _ hmax hbytes _ hseq
theorem Tryz.maps_Keys_171 (mb : Option Nat) (W : World) : CallsIn Fence.wide 5 Tryz.prog 171 #[.map mb] W fun e w' => e = .returned (.func (.func 202) #[] #[.pointer (some ⟨W.heap.size, 0, none⟩)]) ∧ w' = W.alloc (.cells #[.map mb] 124) :=
  AnyZ.keys_in Tryz.keys171 Fence.wide 5 trivial rfl mb W
theorem Tryz.slices_Sorted_keys_157_171 {H : Type} (b nn : Nat) (D0 : DataW H) (R : Value → Option (DataW H × List MemPlace)) (w : World) (hown : w.ownsMap Tryz.prog 9 R b nn D0) (hmax : Maps.size D0 ≤ maxLen) (hbytes : Maps.size D0 * 16 ≤ 140737488355328) :
    CallsIn Fence.wide 5 Tryz.prog 157 #[.func (.func 202) #[] #[.pointer (some ⟨w.heap.size, 0, none⟩)]] (w.alloc (.cells #[.map (some b)] 124)) fun e w' => ∃ (v : Value) (ss : List (List UInt8)), e = .returned v ∧ ss.Perm (strKeys D0) ∧
      w'.ownsRow (w.alloc (.cells #[.map (some b)] 124)).heap.size 9 1 v ss.length ((ss.mergeSort (fun x y => decide (x ≤ y))).map encStr) ∧ (v = .slice none 0 0 ↔ ss = []) ∧ Below (w.alloc (.cells #[.map (some b)] 124)).heap.size (w.alloc (.cells #[.map (some b)] 124)) w' := by
  have hbl := hown.lt
  have hseq : SeqGives Fence.wide 2 Tryz.prog 202 #[.pointer (some ⟨w.heap.size, 0, none⟩)] encStr (fun ss => ss.Perm (strKeys D0)) (Maps.size D0) (w.alloc (.cells #[.map (some b)] 124)) :=
    AnyZ.keys_gives (ρ := Tryz.keys171_ren) { Tryz.keys171 with } Fence.wide _ trivial rfl (by omega) w.heap.size b nn D0 _ (by simp) (by simp) (by
      obtain ⟨es, clock, hb, Ft, hs, hD⟩ := hown
      exact ⟨es, clock, (Below.heap_alloc _ _ b hbl).trans hb, Ft, hs, hD⟩)
  exact AnyZ.sorted_in Tryz.sorted157 Fence.wide 5 trivial trivial trivial trivial rfl (by omega) (Tryz.sorts157 _) (enters_of Tryz.func195 (by kernel_rfl) rfl) 202 #[.pointer (some ⟨w.heap.size, 0, none⟩)] trivial (enters_of Tryz.func202 (by kernel_rfl) rfl) _ _ hmax hbytes _ hseq
end Go.Proofs
namespace Go.Proofs.YtjbkfdeldlajhaaGreatDoor
set_option maxRecDepth 100000
set_option maxHeartbeats 800000
open Go.RowKit Go.Maps Go.Sort Go.Shelf Go.Proofs.Tryz
open Option renaming none->Y,some->V
open Go.Value renaming string->O,pointer->X
open Go renaming World->ab,Value->ax,Calls->ba,TypeId->cI
open Go.Ending renaming returned->ay
variable{w:ab}{b:Nat}
theorem aQ.owns{l:List (ByteArray×ax)}(h:aQ Value.string w b l)(n:∀p∈l,p.1.size<=maxLen)(u:l.length<=maxLen):∃D:DataW Unit,w.ownsMap prog 9 (λ_=>V (.nil,[])) b l.length D/\(strKeys D).Perm (l.map (λp=>p.1.data.toList))/\Maps.size D=l.length:=by
 obtain⟨d,c,r,t,j⟩:=h;have m:d.size=l.length:=by have:=Rc List.length j;simpa using this
 have f:∀x∈d.toList,∃s:ByteArray,x.key=.string s/\s.size<=maxLen/\WideElems.rd (H:=Unit) prog 9 (λ_=>V (.nil,[])) x=V (.string s.data.toList,.nil):=by
  intro x g
  have:(x.key,x.val)∈l.map (λp=>(Value.string p.1,p.2)):=by rw[<-j];exact fI.2 ⟨x,g,rfl⟩
  obtain⟨p,i,k⟩:=fI.1 this;have a:x.key=.string p.1:=(TV k).1.symm;refine⟨p.1,a,n p i,?_⟩;simp[WideElems.rd,a,WideMaps.keyOf_string_mk Tryz.underlying9 (n p i)]
 refine⟨_,⟨d,c,r,⟨by omega,t,λx g=>?_⟩,by omega,rfl⟩,?_,?_⟩
 ·obtain⟨s,_,_,h⟩:=f x g;exact⟨_,h⟩
 ·simp only[strKeys];have i:=(WideShapes.sorted_perm (d.toList.map (WideElems.rg (H:=Unit) prog 9 (λ_=>V (.nil,[]))))).map (λp=>Go.strOf p.1);refine i.trans ?_;have e:(d.toList.map (WideElems.rg (H:=Unit) prog 9 (λ_=>V (.nil,[])))).map (λp=>Go.strOf p.1)=l.map (λp=>p.1.data.toList):=by
   rw[tO];have o:l.map (λp=>p.1.data.toList)=(l.map (λp=>(Value.string p.1,p.2))).map (λq=>match q.1 with|.string s=>s.data.toList|_=>[]):=by rw[tO];rfl
   rw[o,<-j,tO];apply RI;intro x g;obtain⟨s,a,_,h⟩:=f x g;simp[WideElems.rg,h,a,Go.strOf]
  rw[e]
 ·simp only[Maps.size];rw[(WideShapes.sorted_perm _).length_eq];simp[m]
theorem pT{e:cI}{a:Nat}{v:ax}{n:Nat}{f:List ax}(h:w.ownsRow b e a v n f):Row w e a v n f:=by
 refine⟨h.1,?_⟩;rcases h.2 with i|⟨g,c,d,o,_,m,j,k,p,l⟩
 ·exact .inl i
 ·exact .inr ⟨g,c,d,o,m,j,k,by omega,l⟩
def cN(a:List (List UInt8)):List ByteArray:=(a.mergeSort (λx y=>decide (x<=y))).map (λl=>⟨l.toArray⟩)
theorem nJ{e:List (List UInt8)}(l:e.Nodup):bh (cN e):=by
 unfold bh cN;rw[Rw];have k:(e.mergeSort (λx y=>decide (x<=y))).Pairwise (λx y=>decide (x<=y)=true):=List.pairwise_mergeSort (λa b c d g=>by simp at*;exact List.le_trans d g) (λa b=>by simp;exact List.le_total a b) e;have j:(e.mergeSort (λx y=>decide (x<=y))).Nodup:=(List.mergeSort_perm e _).nodup_iff.2 l;rw[List.nodup_iff_pairwise_ne]at j;refine(k.and j).imp ?_;rintro a b ⟨d,i⟩;rw[jQ];have f:a<=b:=by simpa using d
 rcases List.le_iff_lt_or_eq.1 f with h|h
 ·exact h
 ·exact absurd h i
theorem pf{b:List (List UInt8)}{a:List ByteArray}(h:b.Perm (a.map (λk=>k.data.toList))):(cN b).Perm a:=by
 unfold cN;have d:(b.mergeSort (λx y=>decide (x<=y))).Perm (a.map (λk=>k.data.toList)):=(List.mergeSort_perm b _).trans h;have c:=d.map (λl:List UInt8=>(⟨l.toArray⟩:ByteArray));have e:(a.map (λk=>k.data.toList)).map (λl:List UInt8=>(⟨l.toArray⟩:ByteArray))=a:=by
  rw[tO];conv=>rhs;rw[<-List.map_id a]
  apply RI;intro k _;simp
 rw[e]at c;exact c
theorem jS{α β:Type}{f:α->β}(c:∀a b,f a=f b->a=b):∀{l:List α},l.Nodup->(l.map f).Nodup
 |[],_=>by simp
 |x::r,h=>by simp only[ey,mU]at h⊢;refine⟨λd=>?_,jS c h.2⟩;obtain⟨y,g,e⟩:=fI.1 d;exact h.1 (c _ _ e▸g)
theorem BJ(a:List ByteArray):below a ⟨#[]⟩=0:=by
 unfold below;cases a with
 |nil=>rfl
 |cons k r=>
  have:de k ⟨#[]⟩=false:=by unfold de;rw[ByteArray.toList_eq (⟨#[]⟩:ByteArray)];cases k.toList<;>rfl
  simp[this]
theorem Jq(wb S:Nat)(l:List (ByteArray×ax))(w:ab)(hc:w.cell? ⟨wb,1,Y⟩=V (.map (V S)))(R:aQ O w S l)(N:∀p∈l,p.1.size<=maxLen)(hl:l.length<=1000000):ba prog 127 #[X (V ⟨wb,0,Y⟩),O ⟨#[]⟩] w λe m=>∃v i,e=ay v/\Row m 9 1 v i.length (i.map O)/\bh i/\i.Perm (l.map (·.1))/\aa n_ w m/\(∀k,v.ownBlock=V k->w.heap.size<k):=by
 have F:=R.nodup;obtain⟨D,u,z,q⟩:=R.owns N (by unfold maxLen;omega);have K:=λW:ab=>True;have B:=Tryz.slices_Sorted_keys_157_171 S l.length D _ w u (by rw[q];unfold maxLen;omega) (by rw[q];omega);have o:QS ((strKeys D).Perm (l.map (λp=>p.1.data.toList))):=z;have P:QS ((l.map (·.1)).Nodup):=F;have HL:QS (l.length<=1000000):=hl;clear u z q F R N hl K;refine(callsIn_wide (n:=6)).1 ?_;have a2:Fence.wide.fn 171:=trivial;have a3:Fence.wide.fn 157:=trivial;have a1:Fence.wide.fn 170:=trivial;refine callsIn_of_wp func127 rfl trivial ?_ rfl;simp only[ntmps127,vE,fN,pa,Nat.reduceAdd,Nat.reduceSub,QW,QX,Rv,Re,uE,tI];gi_wp2_with (first
  |(gi_at_call 171;go_must(refine(Tryz.maps_Keys_171 _ _).mono ?_;rintro e m ⟨rfl,rfl⟩))
  |(gi_at_call 157;go_must(refine B.mono ?_;rintro e m ⟨v,b,rfl,M,f,G,hb⟩)))
 have j:bh (cN b):=nJ ((M.trans o.o).nodup_iff.2 (by
  have:=P.o;have e:l.map (λp=>p.1.data.toList)=(l.map (·.1)).map (λk=>k.data.toList):=by rw[tO];rfl
  rw[e];exact jS (λ_ _ h=>data_inj h) this))
 have a:(cN b).Perm (l.map (·.1)):=pf (by have:=M.trans o.o;rwa[show l.map (λp=>p.1.data.toList)=(l.map (·.1)).map (λk=>k.data.toList)from by rw[tO];rfl]at this)
 have d:(cN b).length=b.length:=by simp[cN]
 have A:Row m 9 1 v (cN b).length ((cN b).map O):=by
  rw[d];have:=pT f;have e:(cN b).map O=(b.mergeSort (λx y=>decide (x<=y))).map encStr:=by simp[cN,tQ]
  rw[e];exact this
 have C:below (cN b) ⟨#[]⟩=0:=BJ _;have H:b.length=l.length:=by have:=(M.trans o.o).length_eq;simpa using this
 have L:=je v (cN b) ⟨#[]⟩ m A j (by rw[d,H];have:=HL.o;omega);rw[C]at L;have s:aa n_ w m:=((aa.refl _ w).al _).tr (aa.below hb) i_;generalize bR (cN b) ⟨#[]⟩=mb1 at L;generalize cN b=i at*;have HW:QS (∀k,v.ownBlock=V k->w.heap.size<k):=λk N=>by have:=(f.lt k N).1;simp at this;omega
 clear B M f G hb C H d;have HR:QS (Row m 9 1 v i.length (i.map O)):=A;have T:QS (bh i):=j;have HP:QS (i.Perm (l.map (·.1))):=a;have t:QS (aa n_ w m):=s;rcases A.shape with⟨rfl,h0⟩|⟨g,a0,rfl,Q,r⟩
 ·clear A j a s;gi_wp2_with (gi_at_call 170;go_must(refine(callsIn_wide.2 L).mono ?_;rintro e w2 ⟨rfl,c⟩))
  go_ret;exact⟨_,i,rfl,HR.o.ai c k_,T.o,HP.o,t.o.tr c i_,HW.o⟩
 ·clear A j a s;unfold maxLen at r;gi_wp2_with (gi_at_call 170;go_must(refine(callsIn_wide.2 L).mono ?_;rintro e w2 ⟨rfl,c⟩))
  go_ret;exact⟨_,i,rfl,HR.o.ai c k_,T.o,HP.o,t.o.tr c i_,HW.o⟩
end Go.Proofs.YtjbkfdeldlajhaaGreatDoor
namespace Go.Proofs.YtjbkfdeldlajhaaGreatDoor
open Go.RowKit
open Option renaming none->Y,some->V
open Go.Value renaming string->O,slice->J
open Go.Obj renaming cells->I
open Go renaming World->ab,Value->ax
section
variable{α β:Type} [DecidableEq α]
theorem rN:∀(l:List (α×β)) (k:α) (v:β),del (put l k v) k=del l k
 |[],k,v=>by simp[put,del]
 |(a,x)::r,k,v=>by
  unfold put;by_cases e:a=k
  ·rw[fy e];simp[del,e]
  ·rw[el e];simp[del,e,rN r k v]
theorem so:∀{l:List (α×β)} {k:α} {x:β},aD l k=V x->l.Perm ((k,x)::del l k)
 |(a,y)::r,k,x,h=>by
  unfold aD at h;unfold del;by_cases e:a=k
  ·rw[fy e]at h⊢;subst e;cases h;exact List.Perm.refl _
  ·rw[el e]at h⊢;exact((so h).cons _).trans (List.Perm.swap _ _ _)
theorem mu(l:List (α×β))(k:α)(v:β):aD (put l k v) k=V v:=by rw[ke,fy rfl]
end
def iz(a:List (ByteArray×sM))(b:ByteArray):ax:=((aD a b).map sM.sl).getD (J Y 0 0)
def aF.bY(R:aF)(a:ByteArray):List Nat:=R.sb::(R.aP++(R.vm.toList++(del R.au a).flatMap (λp=>p.2.sl.ownBlock.toList)))
theorem Jl(a:List (ByteArray×sM))(b:ByteArray):(a.flatMap (λp=>p.2.sl.ownBlock.toList)).Perm ((iz a b).ownBlock.toList++(del a b).flatMap (λp=>p.2.sl.ownBlock.toList)):=by
 unfold iz;cases h:aD a b with
 |none=>
  rw[vY h];simp[Value.ownBlock]
 |some x=>
  have:=(so h).flatMap_right (λp=>p.2.sl.ownBlock.toList);simpa using this
theorem eX(R:aF)(a:ByteArray):R.fp.Perm (R.kv.ownBlock.toList++((iz R.au a).ownBlock.toList++R.bY a)):=by
 unfold aF.fp aF.bp aF.bY;have b:=Jl R.au a;have c:(R.aP++(R.kv.ownBlock.toList++R.vm.toList++R.au.flatMap (λp=>p.2.sl.ownBlock.toList))).Perm (R.kv.ownBlock.toList++((iz R.au a).ownBlock.toList++(R.aP++(R.vm.toList++(del R.au a).flatMap (λp=>p.2.sl.ownBlock.toList))))):=by refine(Sy _ (Sy _ b)).trans ?_;generalize (del R.au a).flatMap (λp=>p.2.sl.ownBlock.toList)=D;generalize (iz R.au a).ownBlock.toList=B;generalize R.kv.ownBlock.toList=A;generalize R.vm.toList=d;generalize R.aP=F;rw[mE];refine(RK F A _).trans ?_;refine Sy _ ?_;refine(Sy F (RK d B D)).trans ?_;exact RK F B _
 refine(c.cons _).trans ?_;refine(Sf.symm).trans ?_;refine Sy _ ?_;exact Sf.symm
theorem dv{w:ab}{c:ax}{b:List ByteArray}{d:Option Nat}{a:List (ByteArray×sM)}(h:qJ w c b d a):(a.map (·.1)).Nodup:=by have:=h.ed.nodup;simpa[tO,tQ]using this
theorem aq.added{w u:ab}{R:aF}{S:Nat->Prop}(d:ByteArray){kv' sl':ax}{keys':List ByteArray}{b:Nat}{vs':List bF}(h:aq w R)(hk:aa S w u)(hS:∀k,k<w.heap.size->S k->k=R.sb\/R.kv.ownBlock=V k\/R.vm=V k\/(iz R.au d).ownBlock=V k)(ht:u.heap[R.sb]?=V (I (bo {R with kv:=kv',vm:=V b}) 61 (0,0)))(F:Row u 9 1 kv' keys'.length (keys'.map O))(hm:aQ O u b (put (R.au.map λp=>(p.1,p.2.sl)) d sl'))(T:Row u 144 3 sl' vs'.length (vs'.flatMap bF.cells))(c1:∀g,kv'.ownBlock=V g->R.kv.ownBlock=V g\/w.heap.size<=g)(c2:∀g,sl'.ownBlock=V g->(iz R.au d).ownBlock=V g\/w.heap.size<=g)(c3:R.vm=V b\/R.vm=Y/\w.heap.size<=b)(W:(kv'.ownBlock.toList++sl'.ownBlock.toList++[b]).Nodup):aq u {R with kv:=kv',keys:=keys',vm:=V b,au:=put R.au d ⟨sl',vs'⟩}:=by
 have G:=bG h;have z:=h.nodup;have y:=((eX R d).nodup_iff).1 z;rw[lf,lf]at y;obtain⟨-,⟨-,f,r⟩,q⟩:=y;have l:∀k∈R.bY d,k<w.heap.size:=λk j=>G k ((eX R d).mem_iff.2 (fx _ (fx _ j)));have a1:R.sb∈R.bY d:=by simp[aF.bY]
 have K:∀k∈R.aP,¬S k:=by
  intro k j Q;have i:k∈R.bY d:=by simp[aF.bY,j]
  rcases hS k (l k i) Q with e|e|e|e
  ·have:=f;simp only[aF.bY,ey,cQ,Th]at this;exact this.1.1 (e▸j)
  ·exact q k (by simp[e]) k (fx _ i) rfl
  ·have:=f;simp only[aF.bY,ey,lf]at this;exact this.2.2.2 k j k (by simp[e]) rfl
  ·exact r k (by simp[e]) k i rfl
 have H:∀p∈R.au,p.1≠d->∀g,p.2.sl.ownBlock=V g->¬S g:=by
  intro p L N g hg Q;have x:p∈del R.au d:=by rw[nQ _ (dv h.cg)];exact kB.2 ⟨L,by simpa using N⟩
  have s:g∈(del R.au d).flatMap (λp=>p.2.sl.ownBlock.toList):=ns.2 ⟨p,x,by simp[hg]⟩;have i:g∈R.bY d:=by simp only[aF.bY,cT,cQ];exact .inr (.inr (.inr s))
  rcases hS g (l g i) Q with e|e|e|e
  ·have:=f;simp only[aF.bY,ey,cQ,Th]at this;exact this.1.2.2 (e▸s)
  ·exact q g (by simp[e]) g (fx _ i) rfl
  ·have:=f;simp only[aF.bY,ey,lf]at this;exact this.2.2.1.2.2 g (by simp[e]) g s rfl
  ·exact r g (by simp[e]) g i rfl
 have C:=h.af.ai hk K;refine⟨ht,⟨C.cy,C.eA,C.dc,C.cU⟩,⟨F,?_,?_⟩,?_⟩
 ·show aQ _ _ _ _;have e:(put R.au d ⟨sl',vs'⟩).map (λp=>(p.1,p.2.sl))=put (R.au.map λp=>(p.1,p.2.sl)) d sl':=(oj sM.sl R.au d ⟨sl',vs'⟩).symm;rw[e];exact hm
 ·intro p L;rcases jl (dv h.cg) L with rfl|⟨A,M⟩
  ·exact T
  ·exact(h.cg.fA p A).ai hk (H p A M)
 ·refine((eX {R with kv:=kv',keys:=keys',vm:=V b,au:=put R.au d ⟨sl',vs'⟩} d).nodup_iff).2 ?_;have e1:iz (put R.au d ⟨sl',vs'⟩) d=sl':=by unfold iz;rw[mu];rfl
  have e2:aF.bY {R with kv:=kv',keys:=keys',vm:=V b,au:=put R.au d ⟨sl',vs'⟩} d=R.sb::(R.aP++(b::(del R.au d).flatMap (λp=>p.2.sl.ownBlock.toList))):=by simp only[aF.bY,rN];rfl
  show(kv'.ownBlock.toList++((iz (put R.au d ⟨sl',vs'⟩) d).ownBlock.toList++aF.bY {R with kv:=kv',keys:=keys',vm:=V b,au:=put R.au d ⟨sl',vs'⟩} d)).Nodup;rw[e1,e2];have m:(R.sb::(R.aP++(b::(del R.au d).flatMap (λp=>p.2.sl.ownBlock.toList)))).Nodup/\∀k,k∈R.sb::(R.aP++(b::(del R.au d).flatMap (λp=>p.2.sl.ownBlock.toList)))->k∈R.bY d\/k=b:=by
   constructor
   ·rcases c3 with e|⟨e,a0⟩
    ·have:aF.bY R d=R.sb::(R.aP++(b::(del R.au d).flatMap (λp=>p.2.sl.ownBlock.toList))):=by simp[aF.bY,e]
     rw[<-this];exact f
    ·have e0:aF.bY R d=R.sb::(R.aP++(del R.au d).flatMap (λp=>p.2.sl.ownBlock.toList)):=by simp[aF.bY,e]
     have D:b∉R.bY d:=λhb=>by have:=l b hb;omega
     have P:(R.sb::(R.aP++(b::(del R.au d).flatMap (λp=>p.2.sl.ownBlock.toList)))).Perm (b::R.bY d):=by rw[e0];exact(List.perm_middle.cons _).trans (List.Perm.swap _ _ _)
     rw[P.nodup_iff];exact ey.2 ⟨D,f⟩
   ·intro k j;simp only[aF.bY,cT,cQ]at j⊢;rcases j with h|h|h|h
    ·exact .inl (.inl h)
    ·exact .inl (.inr (.inl h))
    ·exact .inr h
    ·exact .inl (.inr (.inr (.inr h)))
  simp only[mE,lf]at W;obtain⟨d1,⟨d2,-,d4⟩,d5⟩:=W;refine lf.2 ⟨d1,lf.2 ⟨d2,m.1,?_⟩,?_⟩
  ·intro a t c o e;subst e;have n:sl'.ownBlock=V a:=by simpa using t
   rcases m.2 a o with B|rfl
   ·rcases c2 a n with v|v
    ·exact r a (by simp[v]) a B rfl
    ·have:=l a B;omega
   ·exact d4 a t a (by simp) rfl
  ·intro a t c o e;subst e;have n:kv'.ownBlock=V a:=by simpa using t
   rcases cQ.1 o with o|o
   ·exact d5 a t a (fQ _ o) rfl
   ·rcases m.2 a o with B|rfl
    ·rcases c1 a n with v|v
     ·exact q a (by simp[v]) a (fx _ B) rfl
     ·have:=l a B;omega
    ·exact d5 a t a (fx _ (by simp)) rfl
end Go.Proofs.YtjbkfdeldlajhaaGreatDoor
namespace Go.Proofs.YtjbkfdeldlajhaaGreatDoor
set_option maxRecDepth 100000
set_option maxHeartbeats 1000000
open Go.RowKit Go.Proofs.Tryz
open Option renaming none->Y,some->V
open Go.Value renaming int->Z,string->O,slice->J,pointer->X,bool->ao,tuple->bt
open Go.IntKind renaming i64->U
open Go.Obj renaming cells->I
open Go renaming World->ab,Value->ax,Calls->ba,TypeId->cI
open Go.Ending renaming returned->ay
variable{a:ab}{b:Nat}{u:ax}
theorem bV{P:Program}(w:ab){r:Array Oper}{o:Oper}{a:Act}{K:Act->ab->Prop}{Q:Exit->Act->ab->Prop}{a0:Prop}(D:o.guard=Y)(s x:Operand)(t:cI)(W:o.op=.call {callee:=.builtin .append,args:=#[s,x],argTypes:=#[t,t]})(e:cI)(i:TypeInfo)(z:ax)(b f:Nat)(ht:P.underlying t=V (.slice e))(S:P.info? e=V i)(hz:i.zero=V z)(l:i.size=b)(C:i.bytes=f)(F:z.cells.size=b)(v:ax)(n:Nat)(G:List ax)(hs:a.eval s=v)(q:Row w e b v n G)(A:Addr)(m c:Nat)(d:List ax)(hx:a.eval x=J (V A) m c)(T:d.length=m*b)(k:∀j u,d[j]?=V u->w.cell? (A.add j)=V u)(H:∀u∈d,u.oneCell'=true)(B:n+m<=maxLen)(g:(n+m)*f<=140737488355328)(h:∀p y,Row y e b p (n+m) (G++d)->w.grownBy y v.ownBlock->(p=J Y 0 0↔v=J Y 0 0/\m=0)->(p.ownBlock=v.ownBlock\/p.ownBlock=V w.heap.size)->K (a.put o.dst p) y):if Region.wanted o (yielded r a.tmps)=true then Oper.wp P o a w K Q else a0:=by
 have hw:Region.wanted o (yielded r a.tmps)=true:=by simp[Region.wanted,D]
 rw[fy hw];obtain⟨p,y,hr,L,M,N,R⟩:=lG (P:=P) w t o.type e i z b f ht S hz l C F v n G q A m c d T k H B g;unfold Oper.wp execOp;simp only[W,resolve,invoke,builtin,Sem.run_bind,Sem.run_pure,Result.andThen_ok,List.map_toArray,mU,RY,hs,hx,hr];exact h p y L M N R
theorem Tryz.lW:(prog.info? 144).map (λi=>(i.zero,i.size,i.bytes))=V (V (.agg #[Z U 0,O ⟨#[]⟩,ao false]),3,32):=by kernel_rfl
theorem yZ(b:Nat)(w:ab):(binOp BinOp.eql 57 (.map (V b)) (.map Y)).run prog w=.ok (ao false) w:=by kernel_rfl
theorem Jf(w:ab):(binOp BinOp.eql 57 (.map Y) (.map Y)).run prog w=.ok (ao true) w:=by kernel_rfl
def jK(R:aF)(a:ByteArray)(v:bF)(w e:ab):Prop:=
 ∃c b d,aq e {R with kv:=c,keys:=(if bR R.keys a then R.keys else eK R.keys (below R.keys a) a),vm:=V b,au:=put R.au a ⟨d,aw R.au a++[v]⟩}/\aa (·∈R.fp) w e/\(∀g,c.ownBlock=V g->R.kv.ownBlock=V g\/w.heap.size<=g)/\(∀g,d.ownBlock=V g->(iz R.au a).ownBlock=V g\/w.heap.size<=g)/\(R.vm=V b\/R.vm=Y/\w.heap.size<=b)
theorem Lb(w:ab)(o:Obj)(v:bF):∀j u,v.cells[j]?=V u->(((w.alloc o).alloc (I #[Z U v.aG,O v.value,ao v.aO] 144)).drew).cell? ((⟨w.heap.size+1,0,Y⟩:Addr).add j)=V u:=by
 intro j u b;rw[Addr.add_lit,tA];have a:(((w.alloc o).alloc (I #[Z U v.aG,O v.value,ao v.aO] 144)).drew).heap[w.heap.size+1]?=V (I #[Z U v.aG,O v.value,ao v.aO] 144 (0,0)):=by have:=az (w.alloc o) (I #[Z U v.aG,O v.value,ao v.aO] 144);simpa[World.drew]using this
 rw[ae a];simpa[bF.cells]using b
theorem Fh{W:ab}{c s:Nat}{v x y:ax}(d:aa (·=b) W a)(j:s≠b)(e:c≠b)(f:W.cell? ⟨s,8,Y⟩=V u)(g:W.cell? ⟨c,0,Y⟩=V v)(h:W.cell? ⟨c,1,Y⟩=V x)(i:W.cell? ⟨c,2,Y⟩=V y):a.cell? ⟨s,8,Y⟩=V u/\a.cell? ⟨c,0,Y⟩=V v/\a.cell? ⟨c,1,Y⟩=V x/\a.cell? ⟨c,2,Y⟩=V y:=
 ⟨d.cell (p:=⟨s,8,Y⟩) f j,d.cell (p:=⟨c,0,Y⟩) g e,d.cell (p:=⟨c,1,Y⟩) h e,d.cell (p:=⟨c,2,Y⟩) i e⟩
theorem Ii{R:aF}{w:ab}{v:bF}{r:Obj}{f:ax}{l:List (ByteArray×ax)}(h:aq w R)(c:∀g,f.ownBlock=V g->g≠R.sb/\g≠b/\g<w.heap.size)(n:aQ O w b l)(m:w.cell? ⟨R.sb,8,Y⟩=V u)(o:(((w.alloc (I #[Z U v.aG,O v.value,ao v.aO] 144)).alloc r).drew).grownBy a f.ownBlock):aa (λk=>f.ownBlock=V k) w a/\aQ O a b l/\a.cell? ⟨R.sb,8,Y⟩=V u/\a.cell? ⟨w.heap.size,0,Y⟩=V (Z U v.aG)/\a.cell? ⟨w.heap.size,1,Y⟩=V (O v.value)/\a.cell? ⟨w.heap.size,2,Y⟩=V (ao v.aO):=by
 have d:=aa.grown o;have j:aa (λk=>f.ownBlock=V k) w a:=((((aa.refl _ w).al _).al _).dr).tr d (λ_ h=>h.symm);have q:=h.lt;have i:a.heap[w.heap.size]?=V (I #[Z U v.aG,O v.value,ao v.aO] 144 (0,0)):=by rw[d.block w.heap.size (by simp;omega) (λe=>by have:=(c _ e.symm).2.2;omega)];have:=az w (I #[Z U v.aG,O v.value,ao v.aO] 144);exact(Below.heap_alloc _ _ _ (by simp)).trans this
 exact⟨j,n.ai j (λe=>(c b e).2.1 rfl),j.cell (p:=⟨R.sb,8,Y⟩) m (λe=>(c _ e).1 rfl),ae i 0,ae i 1,ae i 2⟩
theorem Ij(R:aF)(a:ByteArray)(v:bF)(x:sM)(w:ab)(h:aq w R)(C:aD R.au a=V x)(G:bR R.keys a=true)(hl:x.aE.length<1000000000000):ba prog 175 #[X (V ⟨R.sb,7,Y⟩),O a,.agg #[Z U v.aG,O v.value,ao v.aO]] w λe w'=>e=ay (bt #[])/\jK R a v w w':=by
 obtain⟨b,q⟩:∃b,R.vm=V b:=by
  cases hv:R.vm with
  |some b=>exact⟨b,rfl⟩
  |none=>
   have:=h.cg.ed;rw[hv]at this;have e:R.au=[]:=Sl.1 this;rw[e]at C;cases C
 have hM:aQ O w b (R.au.map λp=>(p.1,p.2.sl)):=by have:=h.cg.ed;rw[q]at this;exact this
 have c6:w.cell? ⟨R.sb,8,Y⟩=V (.map (V b)):=(h.cell 8).trans (by rw[<-q];rfl);have b2:=h.lt;have a7:R.sb<w.heap.size+1:=by omega
 have hR:=h.cg.fA _ (bj C);have H:aD (R.au.map λp=>(p.1,p.2.sl)) a=V x.sl:=by rw[cd,C];rfl
 have b1:=yZ;have a8:∀(x:Bool) (w:ab),(Op.unary .not (ao x)).run prog w=.ok (ao (!x)) w:=λ_ _=>rfl;have Q:QS (aD (R.au.map λp=>(p.1,p.2.sl)) a=V x.sl):=H;have c:QS (aq w R):=h;have T:QS (aD R.au a=V x):=C;have N:QS (bR R.keys a=true):=G;have f:QS (R.vm=V b):=q;have S:QS (aQ O w b (R.au.map λp=>(p.1,p.2.sl))):=hM;have HR:QS (Row w 144 3 x.sl x.aE.length (x.aE.flatMap bF.cells)):=hR;have HL:QS (x.aE.length<1000000000000):=hl;obtain⟨i0,hi,a4,a5,a6⟩:=info_parts Tryz.lW;clear H h C G q hM hR hl;go_enter func175,ntmps175;go_wp2_with(at_lookup;go_must(refine bC _ rfl _ _ 57 rfl 9 135 bJ Tryz.underlying57 Tryz.underlying9 _ (Tryz.cJ _) b rfl a rfl _ (S.o.ai (aa.alloc n_ _ _) id) ?_;rw[Q.o];simp only[lp,Ra]))
 have s:QS (∀g,x.sl.ownBlock=V g->g≠R.sb/\g≠b/\g<w.heap.size):=λg d=>by
  have r:=((eX R a).nodup_iff).1 c.o.nodup;rw[lf,lf]at r;have i:iz R.au a=x.sl:=by unfold iz;rw[T.o];rfl
  have z:=r.2.1.2.2;rw[i]at z;refine⟨λe=>z g (by simp[d]) g (by simp[aF.bY,e]) rfl,λe=>z g (by simp[d]) g (by simp[aF.bY,f.o,e]) rfl,HR.o.lt d⟩
 have D:QS (R.sb≠b):=by have r:=c.o.nodup;simp only[aF.fp,aF.bp,ey,cQ,Th]at r;exactλe=>r.1.2.1.2 (by simp[f.o,e])
 have b0:b<w.heap.size:=S.o.lt;go_region_held3(λW=>W.cell? ⟨R.sb,8,Y⟩=V (.map (V b))/\W.cell? ⟨w.heap.size,0,Y⟩=V (Z U v.aG)/\W.cell? ⟨w.heap.size,1,Y⟩=V (O v.value)/\W.cell? ⟨w.heap.size,2,Y⟩=V (ao v.aO)) (go_keep) ((refine bV _ (by rfl) _ _ 135 (by rfl) 144 i0 _ 3 32 Tryz.underlying135 hi a4 a5 a6 (by rfl) x.sl x.aE.length _ (by rfl) (HR.o.ai (((aa.refl n_ w).al _).al _).dr k_) ⟨w.heap.size+1,0,Y⟩ 1 1 v.cells (by rfl) (by rfl) (Lb w _ v) (by simp[bF.cells,Value.oneCell']) (by have:=HL.o;unfold maxLen;omega) (by have:=HL.o;omega) ?_;intro v' M n B _ u;obtain⟨l,j,rfl⟩:=n.succ;obtain⟨a1,a2,r0,r1,r2,r3⟩:=Ii c.o s.o S.o c6 B;obtain⟨L,a9,a0⟩:=a2.update (P:=prog) (t:=57) bJ Tryz.underlying57 Tryz.underlying9 a (J (V ⟨l,0,Y⟩) (x.aE.length+1) j);obtain⟨t0,t1,t2,t3⟩:=Fh (aa.setBlock M b L) D.o (by omega) r0 r1 r2 r3));go_end0;have a3:aw R.au a=x.aE:=by unfold aw;rw[T.o];rfl
 have i:iz R.au a=x.sl:=by unfold iz;rw[T.o];rfl
 have o:aa (λk=>x.sl.ownBlock=V k\/k=b) w (Go.ChangeMaps.setBlock M b L):=(a1.mono (λ_ _ h=>.inl h)).tr (aa.setBlock M b L) (λ_ h=>.inr h);have A:l≠b:=by
  rcases u with h|h
  ·exact(s.o l (by rw[<-h];rfl)).2.1
  ·have h':l=w.heap.size+1+1:=by simpa[Value.ownBlock]using h
   omega
 have m:∀g,R.kv.ownBlock=V g->g≠b/\x.sl.ownBlock≠V g/\g<w.heap.size:=λg d=>by have r:=((eX R a).nodup_iff).1 c.o.nodup;rw[lf]at r;have y:=r.2.2;rw[i]at y;refine⟨λe=>y g (by simp[d]) g (fx _ (by simp[aF.bY,f.o,e])) rfl,λe=>y g (by simp[d]) g (fQ _ (by simp[e])) rfl,c.o.cg.cW.lt d⟩
 have c2:∀g,(J (V ⟨l,0,Y⟩) (x.aE.length+1) j).ownBlock=V g->(iz R.au a).ownBlock=V g\/w.heap.size<=g:=λg d=>by
  rw[i];rcases u with h|h
  ·exact .inl (by rw[<-h];exact d)
  ·have h':l=w.heap.size+1+1:=by simpa[Value.ownBlock]using h
   have F:l=g:=by simpa[Value.ownBlock]using d
   right;omega
 refine⟨rfl,R.kv,b,J (V ⟨l,0,Y⟩) (x.aE.length+1) j,?_,?_,λg d=>.inl d,c2,.inl f.o⟩
 ·rw[fy N.o,a3];refine c.o.added a o (λk _ K=>?_) ?_ ?_ a0 ?_ (λg d=>.inl d) c2 (.inl f.o) ?_
  ·rcases K with K|K
   ·exact .inr (.inr (.inr (by rw[i];exact K)))
   ·exact .inr (.inr (.inl (by rw[f.o,K])))
  ·have e:bo {R with kv:=R.kv,vm:=V b}=bo R:=by simp[bo,f.o]
   rw[e];exact(o.block R.sb c.o.lt (by rintro(h|h);exact(s.o _ h).1 rfl;exact D.o h)).trans c.o.top
  ·exact c.o.cg.cW.ai o (λg d=>by rintro(h|h);exact(m g d).2.1 h;exact(m g d).1 h)
  ·have:=n.ai (aa.setBlock M b L) (λg d=>by
    have F:l=g:=by simpa[Value.ownBlock]using d
    exact F▸A)
   simpa[bF.cells]using this
  ·cases hkb:R.kv.ownBlock with
   |none=>simp[Value.ownBlock,A]
   |some g=>
    have h1:=m g hkb;have h2:g≠l:=by
     rcases u with h|h
     ·exactλe=>h1.2.1 (by rw[<-h,e];rfl)
     ·have h':l=w.heap.size+1+1:=by simpa[Value.ownBlock]using h
      omega
    simp[Value.ownBlock,A,h1.1,h2]
 ·refine o.mono (λk hk h=>?_);rw[(eX R a).mem_iff,i];rcases h with h|rfl
  ·exact fx _ (fQ _ (by simp[h]))
  ·exact fx _ (fx _ (by simp[aF.bY,f.o]))
end Go.Proofs.YtjbkfdeldlajhaaGreatDoor
