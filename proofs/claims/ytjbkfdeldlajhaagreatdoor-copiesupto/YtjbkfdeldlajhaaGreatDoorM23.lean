import Derived.Test.YtjbkfdeldlajhaaGreatDoorM22
set_option linter.unusedSimpArgs false
namespace Go.Proofs.YtjbkfdeldlajhaaGreatDoor
set_option maxRecDepth 100000
set_option maxHeartbeats 16000000
open Go.RowKit Go.Shelf Go.Proofs.Tryz
open Option renaming none->Y,some->V
open Go.Value renaming int->Z,string->O,slice->J,bool->ao
open Go.IntKind renaming i64->U
open Go renaming World->ab,Value->ax,Calls->ba
open Go.Ending renaming returned->ay
variable{r:an}
section
attribute [local go_sem] Oper.semAt_some
theorem Tryz.se:(prog.info? 9).map (λi=>(i.zero,i.size,i.bytes))=V (V (O ⟨#[]⟩),1,16):=by kernel_rfl
def eh(b:ByteArray):List ax:=[O b]
def pj(l:List an)(x:Nat):ByteArray:=aU (dW ((bu l x).map an.bS))
def dZ(l:List an)(n:Nat):List ByteArray:=(List.range n).map (pj l)
theorem rE(l:List an)(n:Nat):dZ l (n+1)=dZ l n++[pj l n]:=by unfold dZ;rw[TE,xT];rfl
theorem gV(l:List an)(n:Nat):(dZ l n).length=n:=by unfold dZ;simp
theorem FL(a:ByteArray)(r:an):aU (oN a.data.toList r.bS)=aU (bf (common a.data.toList r.key.data.toList))++aU (bf (r.key.size-common a.data.toList r.key.data.toList))++r.key.extract (common a.data.toList r.key.data.toList) r.key.size++aU (ky r.bS):=by unfold oN;rw[extract_drop,bz,bz,bz];congr 1;simp[an.bS]
theorem Kx(h:r.aO=true):ky r.bS=bf 0:=by unfold ky an.bS;rw[fy h]
theorem Gf(h:r.aO=false):aU (ky r.bS)=aU (bf (1+r.value.size))++r.value:=by unfold ky an.bS;rw[el (by simp[h])];rw[<-bz,pO];rfl
theorem JM(l:List an){k:Nat}(a:l[k]?=V r):aU (dN l (k+1))=aU (dN l k)++aU (oN (bL l k).data.toList r.bS):=by obtain⟨h,rfl⟩:=ej.1 a;rw[qW h,bz]
theorem Mw(l:List an):dN l l.length=qR (l.map an.bS):=by unfold dN qR;rw[RG,hO]
theorem Ew(l:List an)(x:Nat):aU (dN (bu l x) (bu l x).length)++aU (bM (dN (bu l x) (bu l x).length))=pj l x:=by rw[Mw,bz];rfl
theorem yD(oa:Option Addr)(f2:Nat)(l:List an)(w:ab)(hr:cG w oa l)(hl:l.length<=1000)(hs:Small l):ba prog 150 #[J oa l.length f2] w λe w'=>∃v',e=ay v'/\Made 9 1 eh w w' v' (dZ l ((l.length+3)/4)):=by
 obtain⟨i0,hi,g9,h0,h3⟩:=info_parts Tryz.se;have HR:=E hr;have HL:=E hl;have Q:=E hs;have i9:(l.length:Int)<=1000:=by omega
 clear hr hl hs;go_enter func150,ntmps150;go_wp2_with fail;go_loopw [3,4] (λv' i wr=>∃x:Nat,4*x<=l.length+3/\i=Z U ((4*x:Nat):Int)/\Made 9 1 eh w wr v' (dZ l x)) (λ_ i _=>l.length+4-(intOf i).toNat)
 case atStart=>exact⟨0,by omega,rfl,Made.nil (aa.refl _ _)⟩
 case round=>
  obtain⟨x,hx,rfl,hM⟩:=hrel;obtain⟨ob,cb,rfl,-,-⟩:=hM.row.form;have HM:=E hM;clear hM;obtain⟨j,b4⟩:∃j,j=4*x:=⟨_,rfl⟩
  rw[<-b4];have n:=E b4;by_cases g0:j<l.length
  ·have i3:(j:Int)<l.length:=by omega
   obtain⟨s,d9⟩:∃s:Nat,s=min (j+4) l.length:=⟨_,rfl⟩
   have b3:(bu l x).length=s-j:=by unfold bu;rw[js,mR];omega
   have H:=E b3;have j3:(j:Int)<s:=by omega
   have j4:(s:Int)<=l.length:=by omega
   have K:=E d9;have i5:(s:Int)-j=((s-j:Nat):Int):=by omega
   have a8:=E (λW=>di 0 (s-j) W (by omega) (by omega));have c5:QS (aU (bf (s-j))=aU (dN (bu l x) 0)):=by show _=_;unfold dN;rw[b3];simp[pQ]
   rw[c5.o]at a8;have b7:=E HM.o.keep;clear hx g0 b4 d9 b3;go_upto_if 20 with fail;go_cut [5]from 9 to 100 (λt wc=>t=Z U s/\wc=wr)
   case first=>
    by_cases h8:(j:Int)+4>l.length
    ·obtain rfl:s=l.length:=by have:=K.o;omega
     go_wp2_with fail;go_meet;exact⟨rfl,rfl⟩
    ·obtain rfl:s=j+4:=by have:=K.o;omega
     go_wp2_with fail;go_meet;exact⟨by go_num,rfl⟩
   case rest=>
   obtain⟨rfl,rfl⟩:=hcut;go_wp2_with fail;refine(a8.o _).mono ?_;rintro e w1 ⟨rfl,k1⟩;have c6:=E (HM.o.keep.tr k1 i_);have b8:=E (HM.o.ai k1);clear k1 a8 c5;go_wp2_with fail;go_loopw [6,7] (λsv i W=>∃b:Nat,j<=b/\b<=s/\sv=O (aU (dN (bu l x) (b-j)))/\i=Z U b/\aa n_ w1 W) (λ_ i _=>s-(intOf i).toNat)
   case atStart=>exact⟨j,eb _,by omega,by rw[RZ],rfl,aa.refl _ _⟩
   case round=>
    obtain⟨b,h1,h2,rfl,rfl,kr⟩:=hrel;have B:=E kr;clear kr;by_cases f9:b<s
    ·obtain⟨⟨f,o,G⟩,hx⟩:∃r,l[b]?=V r:=⟨l[b]'(by omega),ec (by omega)⟩
     have e4:(bu l x)[b-j]?=V ⟨f,o,G⟩:=by unfold bu;rw[SC (by have:=n.o;have:=K.o;omega),Sa,<-n.o,show j+(b-j)=b by omega];exact hx
     obtain⟨a3,e5⟩:=ej.1 hx;obtain⟨g,m,g1,c0,c1,c2⟩:=(HR.o.ai (c6.o.tr B.o i_)) b a3;rw[e5]at c0 c1 c2;subst g1;have c0:wr.cell? ⟨g,m+b*3,Y⟩=V (O f):=c0;have c1:wr.cell? ⟨g,m+b*3+1,Y⟩=V (O o):=c1;have c2:wr.cell? ⟨g,m+b*3+2,Y⟩=V (ao G):=c2;have b5:=Q.o ⟨f,o,G⟩ (hH hx);have S:=nk (l:=bu l x) (iZ Q.o x) (by rw[H.o];omega) (b-j) (by rw[H.o];omega);have c9:=jC (bL (bu l x) (b-j)).data.toList f.data.toList;have y:=JM (bu l x) e4;rw[FL]at y;have C:QS (b=j\/∃p pr,b=p+1/\j<=p/\l[p]?=V pr/\bL (bu l x) (b-j)=pr.key):=by
      rcases Nat.eq_or_lt_of_le h1 with e|e
      ·exact .inl e.symm
      ·obtain⟨pr,L⟩:∃r,l[b-1]?=V r:=⟨l[b-1]'(by omega),ec (by omega)⟩
       refine .inr ⟨b-1,pr,by omega,by omega,L,?_⟩;have f4:(bu l x)[b-1-j]?=V pr:=by unfold bu;rw[SC (by have:=n.o;have:=K.o;omega),Sa,<-n.o,show j+(b-1-j)=b-1 by omega];exact L
       obtain⟨h5,h6⟩:=ej.1 f4;rw[show b-j=(b-1-j)+1 by omega,jy h5,h6]
     have a5:QS (b=j->common (bL (bu l x) (b-j)).data.toList f.data.toList=0):=λe=>by rw[e,RZ];rfl
     have R:QS ((G=true->aU (ky (an.bS ⟨f,o,G⟩))=aU (bf 0))/\(G=false->aU (ky (an.bS ⟨f,o,G⟩))=aU (bf (1+o.size))++o)):=⟨λe=>by rw[Kx e],λe=>Gf e⟩
     have d7:f.size<=1000:=b5.1;have d8:o.size<=1000:=b5.2;have f6:common (bL (bu l x) (b-j)).data.toList f.data.toList<=f.size:=c9.2;have d6:(aU (dN (bu l x) (b-j))).size<=100000:=by rw[bn];have:b-j<=4:=(by have:=n.o;have:=K.o;omega);omega
     generalize aU (ky (an.bS ⟨f,o,G⟩))=TL at y R;generalize hPP:aU (dN (bu l x) (b-j))=PP at*;rw[show b-j+1=b+1-j by omega]at y;obtain⟨PQ,b1⟩:∃PQ,PQ=aU (dN (bu l x) (b+1-j)):=⟨_,rfl⟩
     rw[<-b1]at y;have P:=E b1;clear b1;generalize hcc:common (bL (bu l x) (b-j)).data.toList f.data.toList=c at*;obtain⟨d,hd⟩:∃d,d=f.size-c:=⟨_,rfl⟩
     rw[<-hd]at y;have F:=E (λW=>di 1 c W (by omega) (by omega));have c3:=E (λW=>di 1 d W (by omega) (by omega));have T:QS (∀W,ba prog 151 #[Z U 0] W λe w'=>e=ay (O (aU (bf 0)))/\aa n_ W w'):=λW=>di 1 0 W (by omega) (by omega);have c4:=E (λW=>di 1 (1+o.size) W (by omega) (by omega));have s1:(aU (bf c)).size<=2:=by rw[bn];exact cj 1 c (by omega)
     have s2:(aU (bf d)).size<=2:=by rw[bn];exact cj 1 d (by omega)
     have s3:(aU (bf (1+o.size))).size<=2:=by rw[bn];exact cj 1 _ (by omega)
     have s0:(aU (bf 0)).size<=2:=by rw[bn];exact cj 1 _ (by omega)
     have s4:(f.extract c f.size).size<=1000:=by rw[QU];omega
     generalize aU (bf c)=N1 at*;generalize aU (bf d)=N2 at*;generalize aU (bf (1+o.size))=N3 at*;generalize aU (bf 0)=N0 at*;have hw:IntKind.i64.wrap ((f.size:Int)-c)=(d:Int):=by rw[IntWalk.i64_in _ ⟨by omega,by omega⟩];omega
     have j5:IntKind.i64.wrap (1+(o.size:Int))=((1+o.size:Nat):Int):=by rw[IntWalk.i64_in _ ⟨by omega,by omega⟩];omega
     have f5:(c:Int)<=f.size:=by omega
     have g4:∀W,(Op.stringOp .add PP N1).run prog W=.ok (O (PP++N1)) W:=λW=>run_string_add_sum W _ _ (by omega);have j2:∀W,(Op.stringOp .add (PP++N1) N2).run prog W=.ok (O (PP++N1++N2)) W:=λW=>run_string_add_sum W _ _ (by simp only[nW];omega);have g5:∀W,(Op.stringOp .add (PP++N1++N2) (f.extract c f.size)).run prog W=.ok (O (PP++N1++N2++f.extract c f.size)) W:=λW=>run_string_add_sum W _ _ (by simp only[nW];omega);have g6:∀W,(Op.stringOp .add (PP++N1++N2++f.extract c f.size) N3).run prog W=.ok (O (PP++N1++N2++f.extract c f.size++N3)) W:=λW=>run_string_add_sum W _ _ (by simp only[nW];omega);have g7:∀W,(Op.stringOp .add (PP++N1++N2++f.extract c f.size++N3) o).run prog W=.ok (O (PP++N1++N2++f.extract c f.size++N3++o)) W:=λW=>run_string_add_sum W _ _ (by simp only[nW];omega);have g8:∀W,(Op.stringOp .add (PP++N1++N2++f.extract c f.size) N0).run prog W=.ok (O (PP++N1++N2++f.extract c f.size++N0)) W:=λW=>run_string_add_sum W _ _ (by simp only[nW];omega);have v:QS ((G=true->PQ=PP++N1++N2++f.extract c f.size++N0)/\(G=false->PQ=PP++N1++N2++f.extract c f.size++N3++o)):=⟨λe=>by rw[y,R.o.1 e];simp only[ByteArray.append_assoc],λe=>by rw[y,R.o.2 e];simp only[ByteArray.append_assoc]⟩
     have i1:(b:Int)<s:=by omega
     have i2:(b:Int)<l.length:=by omega
     have i7:(j:Int)<=b:=by omega
     have e7:(b:Int)<1000:=by omega
     clear y R c9 b5 S e4 e5 a3 hx HM b7 s1 s2 s3 s0 s4 d6 f6 H;rcases C.o with e|⟨p,pr,e,f8,L,b2⟩
     ·have f3:c=0:=a5.o e;subst f3;have a9:QS (∀W,ba prog 151 #[Z U 0] W λe w'=>e=ay (O N1)/\aa n_ W w'):=F.o;have f7:d=f.size:=by omega
      subst f7;have j7:IntKind.i64.wrap (f.size:Int)=(f.size:Int):=IntWalk.i64_in _ ⟨by omega,by omega⟩;have i4:¬((b:Int)>j):=by omega
      have e3:f.extract 0 f.size=f:=by rw[extract_drop];exact pO f
      rw[e3]at g5 g6 g7 g8 v;clear e3;have u:QS (∀W,aa n_ wr W->W.cell? ⟨g,m+b*3,Y⟩=V (O f)/\W.cell? ⟨g,m+b*3+1,Y⟩=V (O o)/\W.cell? ⟨g,m+b*3+2,Y⟩=V (ao G)):=λW k=>⟨k.cell c0 id,k.cell c1 id,k.cell c2 id⟩;clear F C a5 hcc f5 e d7 d8 hd hw;go_wp2_with fail;go_region_held3(λW=>W.cell? ⟨g,m+b*3,Y⟩=V (O f)) (go_keep) (first
       |(go_at_call 151;have hh:=z.o;clear hh;refine(c3.o _).mono ?_;rintro e w4 ⟨rfl,k4⟩;have A:=E (z.o.tr k4 i_);obtain⟨e0,e1,e2⟩:=u.o _ A.o;clear k4)
       |(go_at_call 151;refine(a9.o _).mono ?_;rintro e w3 ⟨rfl,k3⟩;have z:=E (((aa.refl n_ wr).dr).tr k3 i_);obtain⟨d0,d1,d2⟩:=u.o _ z.o;clear k3))
      clear c0 c1 c2 d0 d1 d2;cases G with
      |true=>
       have HF:=E (v.o.1 rfl);go_wp2_with fail;refine(T.o _).mono ?_;rintro e w5 ⟨rfl,N⟩;have q:=E (A.o.tr N i_);clear N;go_wp2;exact⟨⟨b+1,by omega,by omega,by rw[<-P.o,HF.o],by go_num,B.o.tr q.o i_⟩,by simp only[intOf];omega⟩
      |false=>
       have HF:=E (v.o.2 rfl);go_wp2_with fail;go_region_held3(λW=>W.cell? ⟨g,m+b*3+1,Y⟩=V (O o)) (go_keep) (first|(go_at_call 151;refine(c4.o _).mono ?_;rintro e w5 ⟨rfl,N⟩;have q:=E (A.o.dr.tr N i_);obtain⟨q0,q1,q2⟩:=u.o _ q.o;clear N));go_wp2;exact⟨⟨b+1,by omega,by omega,by rw[<-P.o,HF.o],by go_num,B.o.tr q.o i_⟩,by simp only[intOf];omega⟩
     ·have b0:=E e;obtain⟨pk,pv,pg⟩:=pr;have g3:=b2;obtain⟨d4,d5⟩:=ej.1 L;obtain⟨g2,e6,a4,cp,-,-⟩:=(HR.o.ai (c6.o.tr B.o i_)) p d4;rw[d5]at cp;have cp:wr.cell? ⟨g2,e6+p*3,Y⟩=V (O pk):=cp;simp only[vv,Addr.mk.injEq]at a4;obtain⟨rfl,rfl,-⟩:=a4;have e8:QS (∀W,ba prog 185 #[O pk,O f] W λe w'=>e=ay (Z U (c:Nat))/\aa n_ W w'):=λW=>by have:=Ik pk f W (by have h9:pk.size<=1000:=(Q.o ⟨pk,pv,pg⟩ (hH L)).1;unfold maxLen;omega);rw[<-hcc,b2];exact this
      have a9:=F;have i8:((b:Int)>j):=by omega
      have j1:(p:Int)<l.length:=by omega
      have u:QS (∀W,aa n_ wr W->W.cell? ⟨g,m+b*3,Y⟩=V (O f)/\W.cell? ⟨g,m+b*3+1,Y⟩=V (O o)/\W.cell? ⟨g,m+b*3+2,Y⟩=V (ao G)):=λW k=>⟨k.cell c0 id,k.cell c1 id,k.cell c2 id⟩;have e9:QS (∀W,aa n_ wr W->W.cell? ⟨g,m+p*3,Y⟩=V (O pk)):=λW k=>k.cell cp id;clear F C a5 hcc b2 g3 L d5 d4 e f8 d7 d8 hd;have j6:IntKind.i64.wrap ((b:Int)-1)=(p:Int):=by rw[IntWalk.i64_in ((b:Int)-1) ⟨by have:=b0.o;omega,by have:=b0.o;omega⟩];have:=b0.o;omega
      go_wp2_with fail;go_region_held3(λW=>W.cell? ⟨g,m+p*3,Y⟩=V (O pk)/\W.cell? ⟨g,m+b*3,Y⟩=V (O f)) (go_keep) (first|(go_at_call 185;refine(e8.o _).mono ?_;rintro e w2 ⟨rfl,k2⟩;have a7:=E ((aa.refl n_ wr).dr.tr k2 i_);obtain⟨a0,a1,a2⟩:=u.o _ a7.o;have ap:=e9.o _ a7.o;clear k2));clear c0 c1 c2 cp;go_wp2_with fail;go_region_held3(λW=>W.cell? ⟨g,m+b*3,Y⟩=V (O f)) (go_keep) (first
       |(go_at_call 151;have hh:=z.o;clear hh;refine(c3.o _).mono ?_;rintro e w4 ⟨rfl,k4⟩;have A:=E (z.o.tr k4 i_);obtain⟨e0,e1,e2⟩:=u.o _ A.o;clear k4)
       |(go_at_call 151;refine(a9.o _).mono ?_;rintro e w3 ⟨rfl,k3⟩;have z:=E ((a7.o.dr).tr k3 i_);obtain⟨d0,d1,d2⟩:=u.o _ z.o;clear k3))
      clear a0 a1 a2 ap d0 d1 d2;cases G with
      |true=>
       have HF:=E (v.o.1 rfl);go_wp2_with fail;refine(T.o _).mono ?_;rintro e w5 ⟨rfl,N⟩;have q:=E (A.o.tr N i_);clear N;go_wp2;exact⟨⟨b+1,by omega,by omega,by rw[<-P.o,HF.o],by go_num,B.o.tr q.o i_⟩,by simp only[intOf];omega⟩
      |false=>
       have HF:=E (v.o.2 rfl);go_wp2_with fail;go_region_held3(λW=>W.cell? ⟨g,m+b*3+1,Y⟩=V (O o)) (go_keep) (first|(go_at_call 151;refine(c4.o _).mono ?_;rintro e w5 ⟨rfl,N⟩;have q:=E (A.o.dr.tr N i_);obtain⟨q0,q1,q2⟩:=u.o _ q.o;clear N));go_wp2;exact⟨⟨b+1,by omega,by omega,by rw[<-P.o,HF.o],by go_num,B.o.tr q.o i_⟩,by simp only[intOf];omega⟩
    ·have HE:QS (b=s):=by show _=_;omega
     have j0:¬((b:Int)<s):=by have:=HE.o;omega
     have d3:b-j=(bu l x).length:=by rw[H.o,HE.o]
     have S:=nk (l:=bu l x) (iZ Q.o x) (by rw[H.o];omega) (b-j) (by omega);rw[d3]at S⊢;have c8:=Ew l x;have a6:=E (λW=>iy (aU (dN (bu l x) (bu l x).length)) W (by rw[bn];unfold maxLen;omega));rw[iK]at a6;have sb:(aU (dN (bu l x) (bu l x).length)).size<=100000:=by rw[bn];have:=H.o;have:=n.o;have:=K.o;omega
     have sc:(aU (bM (dN (bu l x) (bu l x).length))).size=4:=by rw[bn];rfl
     generalize aU (bM (dN (bu l x) (bu l x).length))=CK at*;generalize aU (dN (bu l x) (bu l x).length)=BB at*;have g4:∀W,(Op.stringOp .add BB CK).run prog W=.ok (O (pj l x)) W:=λW=>by rw[<-c8];exact run_string_add_sum W _ _ (by omega)
     have f0:=E (b8.o.ai B.o);have i6:((dZ l x).length:Int)<=1000:=by rw[gV];have:=n.o;omega
     have b6:QS ((dZ l x).length<=1000):=by show _<=_;omega
     have f1:QS (dZ l (x+1)=dZ l x++[pj l x]):=rE l x;have h4:(j:Int)<1000:=by omega
     clear c8 sb sc S d3 b8 HM b7 h1 h2 f9;generalize pj l x=BT at*;generalize hob:(dZ l x).length=nb at*;generalize dZ l x=bs at*;go_wp2_with fail;refine(a6.o _).mono ?_;rintro e w2 ⟨rfl,k2⟩;have b9:=E (f0.o.ai k2);clear k2 a6;subst hob;go_wp2_with(first|(at_builtin;go_must(refine aL _ rfl _ _ 25 rfl 9 i0 _ 1 16 Tryz.underlying25 hi g9 h0 h3 rfl (J ob bs.length cb) bs.length _ rfl (b9.o.row.ai (aa.alloc n_ _ _) k_) ⟨w2.heap.size,0,Y⟩ 1 1 [O BT] rfl rfl (br _ #[O BT] _) (by simp[Value.oneCell']) (by have:=b6.o;unfold maxLen;omega) (by have:=b6.o;omega) ?_;intro v' w3 D M _ c7;obtain⟨g',h7,rfl⟩:=D.succ;have HN:=E (b9.o.push (a:=BT) (aa.alloc n_ _ _) D M c7);clear D M c7))|fail)
     refine⟨⟨x+1,by have:=n.o;omega,by have:=n.o;congr 1;omega,by rw[f1.o];exact HN.o.slice (by simp)⟩,?_⟩;simp only[intOf];have:=n.o;omega
  ·go_wp2;go_ret;refine⟨_,rfl,?_⟩;have e:x=(l.length+3)/4:=by omega
   rw[<-e];exact HM.o
end
end Go.Proofs.YtjbkfdeldlajhaaGreatDoor
