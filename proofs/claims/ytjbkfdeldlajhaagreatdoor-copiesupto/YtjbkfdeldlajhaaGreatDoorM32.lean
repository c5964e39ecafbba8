import Derived.Test.YtjbkfdeldlajhaaGreatDoorM31
set_option linter.unusedSimpArgs false
namespace Go.Proofs.YtjbkfdeldlajhaaGreatDoor
set_option maxRecDepth 100000
set_option maxHeartbeats 4000000
open Go.RowKit Go.Shelf Go.Proofs.Tryz
open Option renaming none->Y,some->V
open Go.Value renaming int->Z,string->O,slice->J,pointer->X,bool->ao,tuple->bt
open Go.IntKind renaming i64->U
open Go.Obj renaming cells->I
open Go renaming World->ab,Value->ax,Calls->ba
open Go.Ending renaming returned->ay
section
attribute [local go_sem] Oper.semAt_some
theorem zL(b:Nat)(a:ByteArray)(s:Rd Unit)(w:ab)(h:rq w b a s)(c:a.size<=1000000000000):ba prog 102 #[X (V ⟨b,0,Y⟩),Z U 0,Z U 34359738367] w (oZ b a w (gF 0 34359738367 s)):=ny b a s 0 34359738367 w h c (by omega) (by omega)
theorem xm(c:ByteArray)(w:ab)(h4:4<=c.size)(c0:c.size<=1000000000)(d1:c.data.toList.drop (c.data.toList.length-4)=bM (c.data.toList.take (c.data.toList.length-4))):ba prog 43 #[O c] w (nI (rK c.data.toList (ju (c.data.toList.take (c.data.toList.length-4)))) w):=by
 obtain⟨i0,hi,m2,m3,m4⟩:=info_parts Tryz.kP;have B:c.data.toList.length=c.size:=rfl;rw[B]at d1⊢;obtain⟨n,hn⟩:∃n:Nat,c.size=n+4:=⟨c.size-4,by omega⟩
 have n1:(c.size:Int)-4=(n:Int):=by omega
 rw[show c.size-4=n by omega]at d1⊢;have i6:∀W,ba prog 100 #[O (c.extract 0 n)] W λe w'=>e=ay (O (c.extract n c.size))/\aa n_ W w':=λW=>by have:=iy (c.extract 0 n) W (by rw[QU];unfold maxLen;omega);rw[iv c n,<-d1,<-extract_drop c n]at this;exact this
 have HC:=E i6;have o1:(n:Int)<=1000000000:=by omega
 have o3:(n:Int)<=c.size:=by omega
 have HN:=E hn;have h0:QS (n<=1000000000):=by show _<=_;omega
 have HX:QS ((c.extract 0 n).data.toList=c.data.toList.take n):=iv c n;have c5:QS ((c.extract 0 n).size=n):=by show _=_;rw[QU];omega
 obtain⟨o,d5⟩:∃o,o=c.extract 0 n:=⟨_,rfl⟩
 obtain⟨l,hl⟩:∃l,l=c.data.toList.take n:=⟨_,rfl⟩
 rw[<-d5,<-hl]at HX;rw[<-d5]at c5;have l2:=E d5;obtain⟨F,b7⟩:∃F,F=rK c.data.toList (ju l):=⟨_,rfl⟩
 rw[<-hl,<-b7];have HR:=E b7;clear i6 d1 c0 h4 B hn b7 hl d5;go_enter func43,ntmps43;go_wp2;go_region_held3(λ_=>True) (go_keep) (first|(go_at_call 100;refine(HC.o _).mono ?_;rintro e R ⟨rfl,k2⟩;have D2:QS (qK R w.heap.size):=(k2.block w.heap.size (by simp;omega) id).trans (((aa.alloc n_ (w.alloc (I #[ao false,Z U 0,Z U 0,J Y 0 0] 28)) (I #[ao false,Z U 0,Z U 0,J Y 0 0] 28)).block w.heap.size (by simp) id).trans (az w _));have E2:QS (qK R (w.heap.size+1)):=(k2.block (w.heap.size+1) (by simp) id).trans (by have:=az (w.alloc (I #[ao false,Z U 0,Z U 0,J Y 0 0] 28)) (I #[ao false,Z U 0,Z U 0,J Y 0 0] 28);rw[World.size_alloc]at this;exact this);have g1:QS (aa n_ w R):=((((aa.refl n_ w).al _).al _).dr).tr k2 i_;have h7:QS (w.heap.size+2<=R.heap.size):=(by have:=k2.size;simp at this;show _<=_;omega);clear k2));clear HC;go_wp2_with fail;rw[<-l2.o];have S:QS (jq w R.heap.size (R.heap.size+1) o false 0 0 (J Y 0 0) [] (.ok () l) ((R.alloc (I #[O o,Z U 0,Z U (-1)] 170)).alloc (I #[ao false,Z U 0,Z U 0,J Y 0 0] 28))):=by
  have ka:=aa.alloc n_ R (I #[O o,Z U 0,Z U (-1)] 170);have kb:=aa.alloc n_ (R.alloc (I #[O o,Z U 0,Z U (-1)] 170)) (I #[ao false,Z U 0,Z U 0,J Y 0 0] 28);have kc:=ka.tr kb i_;have hz:=h7.o;refine⟨?_,?_,Row.nil _ _ _,λg hg=>(by cases hg),D2.o.ai kc id,E2.o.ai kc id,g1.o.tr kc i_,by omega,by omega⟩
  ·have hp:Place o o.data.toList:=lC (text:=o) (at_:=0) (eL _);have hL:o.data.toList.length=o.size:=rfl;rw[<-HX.o];refine⟨hp,?_⟩;rw[hL,RZ];exact(kb.block _ (by simp) id).trans (az R _)
  ·have:=az (R.alloc (I #[O o,Z U 0,Z U (-1)] 170)) (I #[ao false,Z U 0,Z U 0,J Y 0 0] 28);rw[World.size_alloc]at this;exact this
 have c3:QS (l.length=n/\n=o.size):=⟨by rw[<-HX.o,<-c5.o];rfl,c5.o.symm⟩
 generalize (R.alloc (I #[O o,Z U 0,Z U (-1)] 170)).alloc (I #[ao false,Z U 0,Z U 0,J Y 0 0] 28)=W3 at*;clear D2 E2 g1 h7;obtain⟨xb,j1⟩:∃xb,xb=R.heap.size+1:=⟨_,rfl⟩
 rw[<-j1]at S⊢;generalize R.heap.size=t at*;clear j1;obtain⟨x,s1,e1⟩:∃x s1,ig 4 (.ok () l)=(x,s1):=⟨_,_,rfl⟩
 have c0:o.size<=1000000000000:=by have h1:=c3.o;have h2:=h0.o;omega
 have Q:=E c0;have HT:=E (oy t o (.ok () l) 4 W3 S.o.scan c0 (by omega));rw[e1]at HT;have c1:=E e1;clear e1 c0;by_cases M:¬(x=gg true\/x=gg false)
 ·have b1:((aU x).toList==[65,78,78,70])=false:=by have:=AR (b:=#[65,78,78,70]) (λe=>M (.inl e));rwa[ByteArray.toList_eq (⟨#[65,78,78,70]⟩:ByteArray)]at this
  have b2:((aU x).toList==[65,78,78,68])=false:=by have:=AR (b:=#[65,78,78,68]) (λe=>M (.inr e));rwa[ByteArray.toList_eq (⟨#[65,78,78,68]⟩:ByteArray)]at this
  have er:F=.bad 0:=by rw[HR.o];unfold ju;rw[Js c1.o (λe=>M (.inl e)) (λe=>M (.inr e)),Rd.iG];unfold rK;simp only;congr 1;have h1:=c3.o.1;have h2:c.data.toList.length=n+4:=HN.o;omega
  subst er;clear M HR;refine HT.o.mono ?_;rintro e w4 ⟨rfl,b8,k4⟩;have C:=E (S.o.call k4 b8);obtain⟨a0,a1,a2,a3,b0,n4,e6,b3,q0,q1,q2,q3⟩:=C.o.res.facts;obtain⟨x0,x1,x2,x3,-,-,-,-,-,-,-,-⟩:=C.o.none_.facts;clear b8 k4 HT S;go_wp2;refine bodyPost_ret (v:=bt #[eC,Z U 0,Z U 6]) ?_ rfl ?_
  ·unfold eC;rw[cr rfl];go_simp
  ·exact⟨rfl,C.o.keep⟩
 have g9:QS ((∃H,iH l=.ok true H/\ba prog 101 #[X (V ⟨t,0,Y⟩),Z U 4] W3 λe w'=>e=ay (O ⟨#[65,78,78,70]⟩)/\rq w' t o (.ok () H)/\aa (·=t) W3 w')\/(∃H,iH l=.ok false H/\ba prog 101 #[X (V ⟨t,0,Y⟩),Z U 4] W3 λe w'=>e=ay (O ⟨#[65,78,78,68]⟩)/\rq w' t o (.ok () H)/\aa (·=t) W3 w')):=by
  rcases Classical.not_not.1 M with h|h
  ·obtain⟨H,h1,h2⟩:=Cw c1.o h;subst h h2;exact .inl ⟨H,h1,HT.o⟩
  ·obtain⟨H,h1,h2⟩:=Cw c1.o h;subst h h2;exact .inr ⟨H,h1,HT.o⟩
 clear HT c1 M;rcases g9.o with⟨H,f5,hT⟩|⟨H,f5,hT⟩;all_goals
  have e4:=E f5;have HT:=E hT;clear g9 hT f5;refine HT.o.mono ?_;rintro e w4 ⟨rfl,b8,k4⟩;have C:=E (S.o.call k4 b8);have t0:=ae C.o.top 0;have f0:=aj C.o.top 0;simp at t0;clear b8 k4 HT S;go_wp2_with fail;first
   |(have h5:∃D W5,w4.setCell ⟨xb,0,Y⟩ (ao true)=W5/\QS (iH l=.ok D H)/\QS (jq w t xb o D 0 0 (J Y 0 0) [] (.ok () H) W5):=by exact⟨true,_,rfl,e4,C.o.Hh _⟩)
   |(have h5:∃D W5,w4.setCell ⟨xb,0,Y⟩ (ao false)=W5/\QS (iH l=.ok D H)/\QS (jq w t xb o D 0 0 (J Y 0 0) [] (.ok () H) W5):=by exact⟨false,_,rfl,e4,C.o.Hh _⟩)
  obtain⟨D,W5,i3,j9,d9⟩:=h5;clear e4;have d8:=E (zL t o (.ok () H) W5 d9.o.scan Q.o);obtain⟨a,s2,e2⟩:∃a s2,gF 0 34359738367 (.ok () H)=(a,s2):=⟨_,_,rfl⟩
  obtain⟨b,s3,e3⟩:∃b s3,gF 0 34359738367 s2=(b,s3):=⟨_,_,rfl⟩
  rw[e2]at d8;have j6:=E e2;have j7:=E e3;have f6:QS (∀W,rq W t o s2->ba prog 102 #[X (V ⟨t,0,Y⟩),Z U 0,Z U 34359738367] W (oZ t o W (b,s3))):=λW hW=>by have:=zL t o s2 W hW Q.o;rw[e3]at this;exact this
  clear e2 e3 t0 f0;rw[i3];refine d8.o.mono ?_;rintro e w5 ⟨rfl,i9,k5⟩;have a4:=E (d9.o.call k5 i9);have t1:=ae a4.o.top 1;have f1:=aj a4.o.top 1;simp at t1;have f7:=E (f6.o _ (a4.o.Qs a).scan);have p:=E (a4.o.Qs a);clear i9 k5 d8 d9 i3 f6;go_wp2_with fail;refine f7.o.mono ?_;rintro e w6 ⟨rfl,j0,k6⟩;have d:=E (p.o.call k6 j0);have t2:=ae d.o.top 2;have f2:=aj d.o.top 2;simp at t2;have e0:=E (d.o.QH b);have k1:QS (KS (l.length+1) s3 true [] s3):=KS.zero (λl3 e=>by subst e;have h1:=e0.o.scan.1.len;have h2:=c3.o;omega)
  have k0:QS (∀l3,s3=.ok () l3->l3.length<=1000000000):=λl3 e=>by subst e;have h1:=e0.o.scan.1.len;have h2:=c3.o;have h3:=h0.o;omega
  clear j0 k6 f7 p a4 C t1 f1;go_wp2_with fail;go_loopw [10] (λm wr=>∃z f v s,m=ao z/\jq w t xb o D a b v f s wr/\KS (l.length+1) s3 z f s) (λm wr=>PK o t m wr)
  case atStart=>exact⟨true,[],_,s3,rfl,e0.o,k1.o⟩
  case round=>
   obtain⟨wo,rfl⟩:∃wo,wo=wr:=⟨_,rfl⟩
   obtain⟨z,f,v,s,rfl,hD,e8⟩:=hrel;have d7:=e8.EY k0.o;obtain⟨ob,cb,rfl,-,-⟩:=hD.row.form;have HD:=E hD;have a7:=E e8;have a6:=E d7;have n8:(f.length:Int)<=4000000004:=by omega
   clear hD e8 d7 t2 f2;by_cases d3:z=true/\∃l',s=.ok () l'
   ·obtain⟨rfl,l',rfl⟩:=d3;obtain⟨-,-,d2,-,-⟩:=HD.o.scan.2.facts;have f9:=E (Di t o l' wo HD.o.scan Q.o);go_wp2_with fail;refine f9.o.mono ?_;rintro e G ⟨vx,x,s',rfl,hX,b9,hB⟩;have o4:=hB.1;obtain⟨ox,cx,rfl,-,sx⟩:=hX.row.form;have j5:=E (HD.o.call hX.keep b9);have l5:=E hX;have HB:=E hB;have SX:=E sx;have n2:(x.length:Int)<=4:=by omega
    have l7:QS (∀g,(J ob f.length cb).ownBlock=V g->(J ox x.length cx).ownBlock≠V g):=λg hg e=>by have h1:=hX.own g e;have h2:=HD.o.row.lt hg;omega
    clear hX b9 hB sx d2 f9;go_wp2_with fail;go_loopw [12] (λi wq=>∃(k:Nat) (v2:ax),k<=x.length/\i=Z U (k:Nat)/\jq w t xb o D a b v2 (f++x.take k) s' wq/\Row wq 70 3 (J ox x.length cx) x.length (x.flatMap an.cells)/\∀g,v2.ownBlock=V g->(J ox x.length cx).ownBlock≠V g) (λi _=>x.length-(intOf i).toNat)
    case atStart=>exact⟨0,_,eL _,rfl,by rw[List.take_zero,Kp];exact j5.o,l5.o.row,l7.o⟩
    case round=>
     obtain⟨k,v2,hk,rfl,a8,c6,e9⟩:=hrel;have n9:(k:Int)<=x.length:=by omega
     by_cases d4:k<x.length
     ·obtain⟨gx,rfl⟩:=SX.o (by omega);obtain⟨r0,r1,r2⟩:=jI (l:=x) c6 k d4;obtain⟨o2,c2,rfl,-,-⟩:=a8.row.form;have n0:(k:Int)<x.length:=by omega
      obtain⟨y,hy⟩:∃y,y=x[k]:=⟨_,rfl⟩
      rw[<-hy]at r0 r1 r2;have k9:QS (f++x.take (k+1)=(f++x.take k)++[y]):=by show _=_;rw[hy,mE,eu d4]
      have K:=E a8;have g8:=E c6;have g5:=E e9;have i5:(f++x.take k).length<=4000000008:=by rw[hQ,js];have:=a6.o;omega
      have f8:=E i5;have m9:((f++x.take k).length:Int)<=4000000008:=by omega
      clear a8;generalize f++x.take k=al at*;have t3:=ae K.o.top 3;simp at t3;have t4:=(aa.alloc n_ wr (I #[O y.key,O y.value,ao y.aO] 70)).cell t3 id;have g3:=E d4;clear c6 e9 hy i5 hk d4;go_wp2_with fail;go_region_law((refine bV _ (by rfl) _ _ 26 (by rfl) 70 i0 _ 3 40 Tryz.underlying26 hi m2 m3 m4 (by rfl) (J o2 al.length c2) al.length _ (by rfl) (K.o.row.ai ((aa.refl n_ wr).al _).dr k_) ⟨wr.heap.size,0,Y⟩ 1 1 [O y.key,O y.value,ao y.aO] (by rfl) (by rfl) (br wr #[O y.key,O y.value,ao y.aO] _) (by simp[Value.oneCell']) (by have:=f8.o;unfold maxLen;omega) (by have:=f8.o;omega) ?_;intro v' w8 N L _ b4;obtain⟨g',m8,rfl⟩:=N.succ;have hp:=K.o.push (x:=y) (((aa.refl n_ wr).al _).dr) N L b4;have q3:=ae hp.1 3;have p3:=aj hp.1 3;simp at q3;have HP:=E hp.2;have l0:=E hp.1;have j8:=E L;have j4:=E b4;clear N L b4 hp));all_goals
       go_wp2;have m6:=g8.o.ai (((aa.refl n_ wr).al (I #[O y.key,O y.value,ao y.aO] 70)).dr) k_;have j3:=m6.ai (aa.grown j8.o) (λg hg e=>g5.o g e.symm hg);refine⟨⟨k+1,_,g3.o,by go_num,by rw[k9.o];exact HP.o,j3.ai (aa.setCell w8 ⟨xb,3,Y⟩ _) (λg hg e=>(j3.aR hg).ne (e':=28) (by decide) ((show g=xb from e)▸⟨_,l0.o⟩)),λg hg e=>?_⟩,by simp only[intOf];have:=g3.o;omega⟩;rcases j4.o with h9|h9
       ·exact g5.o g (h9▸hg) e
       ·rw[hg]at h9;have h8:=g8.o.lt e;simp at h9;omega
     ·have K:=E a8;have o0:¬((k:Int)<x.length):=by omega
      have e:x.take k=x:=ep (by omega);rw[e]at K;have g4:=E (a7.o.next HD.o.scan.1 HB.o);have k3:QS (PK o t (ao (decide (0<x.length))) wr<PK o t (ao true) wo):=by show _<_;rw[MP HD.o.scan];exact MO K.o.scan (Hv.short HD.o.scan.1 HB.o)
      clear a8 c6 e9 e;go_wp2;exact⟨⟨_,_,_,s',rfl,K.o,g4.o⟩,k3.o⟩
   ·have b6:z=true->∃j,s=.bad j:=λh=>by
     rcases s with j|⟨u,l'⟩
     ·exact⟨j,rfl⟩
     ·exact absurd ⟨h,l',rfl⟩ d3
    obtain⟨l8,b4,hA⟩:=HD.o.scan.facts;obtain⟨-,-,d2,-,-⟩:=hA.facts;obtain⟨bd,f4⟩:∃bd,bd=Lk o s:=⟨_,rfl⟩
    rw[<-f4]at d2;obtain⟨m5,s5,e5⟩:∃m s5,gF f.length f.length s=(m,s5):=⟨_,_,rfl⟩
    have A:=E (IM j9.o j6.o j7.o a7.o b6 e5);have g6:QS (ba prog 102 #[X (V ⟨t,0,Y⟩),Z U (f.length:Nat),Z U (f.length:Nat)] wo (oZ t o wo (m5,s5))):=by have:=ny t o s f.length f.length wo HD.o.scan Q.o (by have:=a6.o;omega) (by have:=a6.o;omega);rw[e5]at this;exact this
    have b5:z=false\/(z=true/\¬(bd<0)):=by
     cases z with
     |false=>exact .inl rfl
     |true=>
      refine .inr ⟨rfl,λh3=>?_⟩;rw[f4,GF]at h3;exact d3 ⟨rfl,h3⟩
    have t3:=ae HD.o.top 3;simp at t3;have d6:QS (c.data.toList.length-4=o.size):=by show c.size-4=_;have h1:=HN.o;have h2:=c5.o;omega
    clear b6 hA b4 f4 d3 e5;rcases b5 with rfl|⟨rfl,b5⟩;all_goals
     go_wp2_with fail;refine g6.o.mono ?_;rintro e G ⟨rfl,b9,k7⟩;have p:=E (HD.o.call k7 b9);clear g6 d2 t3 b9 k7;obtain⟨a0,a1,a2,a3,b0,b1,b2,b3,q0,q1,q2,q3⟩:=p.o.res.facts;obtain⟨x0,x1,x2,x3,-,-,-,-,-,-,-,-⟩:=p.o.none_.facts;rcases s5 with j|⟨u,r⟩
     ·have er:F=.bad (o.size-j):=by rw[HR.o,A.o.1 j rfl];unfold rK;simp only;rw[d6.o]
      subst er;obtain⟨n3,-,i2⟩:=p.o.scan.facts;obtain⟨-,-,e6,-,-⟩:=i2.facts;obtain⟨q,P⟩:∃q,q=o.size-j:=⟨_,rfl⟩
      have HQ:QS (o.size-j=q):=P.symm;have i1:G.cell? ⟨t,2,Y⟩=V (Z U (q:Nat)):=by rw[P];exact e6
      have f3:¬((q:Int)<0):=by omega
      have l9:(q:Int)>=0:=by omega
      have dq:decide ((q:Int)<0)=false:=kg f3;clear i2 e6 P HR A a7 f3;go_wp2_with fail;go_quiet(fail);go_wp2_with fail;have d:=E (p.o.quiet ((aa.refl n_ G).lU nq));have n5:(G.drewN nq).cell? ⟨t,2,Y⟩=V (Z U (q:Nat)):=i1;clear a0 a1 a2 a3 b0 b1 b2 b3 q0 q1 q2 q3 x0 x1 x2 x3 i1;generalize G.drewN nq=w8 at*;obtain⟨a0,a1,a2,a3,b0,b1,b2,b3,q0,q1,q2,q3⟩:=d.o.res.facts;obtain⟨x0,x1,x2,x3,-,-,-,-,-,-,-,-⟩:=d.o.none_.facts;go_region;all_goals
       go_wp2;refine bodyPost_ret (v:=bt #[eC,Z U (q:Nat),Z U 6]) ?_ rfl ?_
       ·unfold eC;rw[cr rfl];go_simp
       ·exact⟨by rw[HQ.o],d.o.keep.dr⟩
     ·obtain⟨n6,e7,n7,-,-⟩:=p.o.scan.2.facts;have i8:=p.o.scan.1.len;have d0:decide ((-1:Int)<0)=true:=by decide
      by_cases hr:r=[]
      ·subst hr;have m7:G.cell? ⟨t,1,Y⟩=V (Z U (o.size:Nat)):=e7;have da:decide ((o.size:Int)<o.size)=false:=kg (by omega);obtain⟨o6,hX,c9,c7,c8,a9⟩:=A.o.2 [] (by unfold wh;simp);have T:QS (F=if cC D a b f=true/\cB ⟨D,a,b,f.map an.bS⟩=c.data.toList then .ok o6 else .bad 0):=by show _=_;rw[HR.o,hX];unfold rK wG;simp only;obtain⟨xf,xa,o5,xr⟩:=o6;simp only at c9 c7 c8 a9;rw[a9,zF,c9,c7,c8]
       have l6:QS (o6.full=D/\o6.a=a/\o6.b=b/\f=o6.aW.map bX):=⟨c9,c7,c8,a9⟩
       have c4:QS (∀r∈f,r.key.size<=maxLen/\r.value.size<=maxLen):=λr hr=>by rw[a9]at hr;obtain⟨r',m1,rfl⟩:=fI.1 hr;obtain⟨h1,h2⟩:=ub hX r' m1;have e1:(bX r').key.size=r'.key.length:=bn _;have e2:(bX r').value.size=r'.value.length:=bn _;unfold maxLen;omega
       have t0:=ae p.o.top 0;have t1:=ae p.o.top 1;have t2:=ae p.o.top 2;have t3:=ae p.o.top 3;simp at t0 t1 t2 t3;clear hX c9 c7 c8 a9 HR A a7 i8 e7;cases hj:cC D a b f with
       |false=>
        have er:F=.bad 0:=by rw[T.o,hj,el (by simp)]
        subst er;have g0:=E (λW (hW:aa n_ G W)=>mx D a b ob cb f W (cG.ofRow (p.o.row.ai hW k_)) c4.o hj);clear T hj c4;go_wp2_with fail;go_quiet(fail);go_wp2_with fail;refine(g0.o _ ((aa.refl n_ G).lU nq)).mono ?_;rintro e w8 ⟨rfl,k8⟩;have d:=E ((p.o.quiet ((aa.refl n_ G).lU nq)).quiet k8);clear a0 a1 a2 a3 b0 b1 b2 b3 q0 q1 q2 q3 x0 x1 x2 x3 g0 k8 t0 t1 t2 t3;obtain⟨a0,a1,a2,a3,b0,b1,b2,b3,q0,q1,q2,q3⟩:=d.o.res.facts;obtain⟨x0,x1,x2,x3,-,-,-,-,-,-,-,-⟩:=d.o.none_.facts;go_wp2;refine bodyPost_ret (v:=bt #[eC,Z U 0,Z U 6]) ?_ rfl ?_
        ·unfold eC;rw[cr rfl];go_simp
        ·exact⟨rfl,d.o.keep⟩
       |true=>
        have a5:=E (λW (hW:aa n_ G W)=>lF D a b ob cb f W (cG.ofRow (p.o.row.ai hW k_)) hj);by_cases P:cB ⟨D,a,b,f.map an.bS⟩=c.data.toList
        ·have er:F=.ok o6:=by rw[T.o,fy ⟨hj,P⟩]
         subst er;have l4:QS (aU (cB ⟨D,a,b,f.map an.bS⟩)=c):=by show _=_;rw[P,pO]
         clear T hj c4 P;go_wp2_with fail;go_quiet(fail);go_wp2_with fail;refine(a5.o _ ((aa.refl n_ G).lU nq)).mono ?_;rintro e w8 ⟨e1,k8⟩;rw[l4.o]at e1;subst e1;have d:=E ((p.o.quiet ((aa.refl n_ G).lU nq)).quiet k8);clear a0 a1 a2 a3 b0 b1 b2 b3 q0 q1 q2 q3 x0 x1 x2 x3 a5 k8 t0 t1 t2 t3;obtain⟨a0,a1,a2,a3,b0,b1,b2,b3,-,-,-,-⟩:=d.o.res.facts;have t0:=ae d.o.top 0;have t1:=ae d.o.top 1;have t2:=ae d.o.top 2;have t3:=ae d.o.top 3;simp at t0 t1 t2 t3;generalize B:f.length=j2 at*;go_wp2;refine bodyPost_ret (v:=bt #[.agg #[ao D,Z U (a:Nat),Z U (b:Nat),J ob j2 cb],Z U 0,Z U 0]) ?_ rfl ?_
         ·rw[cr rfl];go_simp
         ·obtain⟨z1,z2,z3,z4⟩:=l6.o;refine⟨⟨ob,cb,?_,?_,λg hg=>d.o.own g ((qj ob _ _ cb).trans hg)⟩,d.o.keep.trans (fw w8 w.heap.size _ _ _ _) (λk hk e=>by have e':k=w.heap.size:=e;omega)⟩
          ·rw[z1,z2,z3,<-B,z4,hO]
          ·have h9:=d.o.row;rw[B]at h9;have h8:o6.aW.length=j2:=by rw[<-B,z4,hO]
           rw[h8,<-z4];exact h9.ai (fw w8 w.heap.size _ _ _ _) (λi hi e=>(h9.aR hi).ne (e':=28) (by decide) ⟨_,(show i=w.heap.size from e)▸d.o.res⟩)
        ·have er:F=.bad 0:=by rw[T.o,el (λh=>P h.2)]
         subst er;have m0:((aU (cB ⟨D,a,b,f.map an.bS⟩)).toList==c.toList)=false:=(Lib.bytes_beq_false_iff _ _).2 (λe=>P (by have:=Rc (λx:ByteArray=>x.data.toList) e;exact this));obtain⟨ag,i4⟩:∃ag,ag=aU (cB ⟨D,a,b,f.map an.bS⟩):=⟨_,rfl⟩
         rw[<-i4]at m0 a5;clear T hj c4 P i4;go_wp2_with fail;go_quiet(fail);go_wp2_with fail;refine(a5.o _ ((aa.refl n_ G).lU nq)).mono ?_;rintro e w8 ⟨rfl,k8⟩;have d:=E ((p.o.quiet ((aa.refl n_ G).lU nq)).quiet k8);clear a0 a1 a2 a3 b0 b1 b2 b3 q0 q1 q2 q3 x0 x1 x2 x3 a5 k8 t0 t1 t2 t3;obtain⟨a0,a1,a2,a3,b0,b1,b2,b3,q0,q1,q2,q3⟩:=d.o.res.facts;obtain⟨x0,x1,x2,x3,-,-,-,-,-,-,-,-⟩:=d.o.none_.facts;go_wp2;refine bodyPost_ret (v:=bt #[eC,Z U 0,Z U 6]) ?_ rfl ?_
         ·unfold eC;rw[cr rfl];go_simp
         ·exact⟨rfl,d.o.keep⟩
      ·have i7:0<r.length:=Rq.2 hr;have er:F=.bad (o.size-r.length):=by rw[HR.o,A.o.1 r.length (by unfold wh;simp[hr])];unfold rK;simp only;rw[d6.o]
       subst er;obtain⟨q,P⟩:∃q,q=o.size-r.length:=⟨_,rfl⟩
       rw[<-P]at e7⊢;have HQ:QS (o.size-r.length=q):=P.symm;have h6:=E (λW (hW:aa n_ G W)=>lL t o q q W (by have h9:=p.o.scan.2;rw[<-P]at h9;exact h9.ai hW id));have da:decide ((q:Int)<o.size)=true:=mI (by omega);have dn:decide (q<o.size)=true:=mI (by omega);have g7:QS (q<=o.size):=by show _<=_;omega
       have l9:(q:Int)>=0:=by omega
       have dq:decide ((q:Int)<0)=false:=kg (by omega);have f3:¬((q:Int)<0):=by omega
       clear HR A a7 hr i7 P i8;go_wp2_with fail;go_quiet(fail);go_wp2_with fail;have g2:QS (aa n_ G (G.drewN nq)):=(aa.refl n_ G).lU nq;generalize G.drewN nq=w9 at*;refine(h6.o _ g2.o).mono ?_;rintro e w8 ⟨rfl,h8,k8⟩;have d:=E ((p.o.quiet g2.o).call (s':=.bad (o.size-q)) k8 ⟨q,g7.o,by rw[show o.size-(o.size-q)=q by have:=g7.o;omega];exact h8⟩);obtain⟨-,-,y2,-,-⟩:=h8.facts;clear a0 a1 a2 a3 b0 b1 b2 b3 q0 q1 q2 q3 x0 x1 x2 x3 h6 h8 k8;obtain⟨a0,a1,a2,a3,b0,b1,b2,b3,q0,q1,q2,q3⟩:=d.o.res.facts;obtain⟨x0,x1,x2,x3,-,-,-,-,-,-,-,-⟩:=d.o.none_.facts;go_wp2_with fail;go_region;all_goals
        go_wp2;refine bodyPost_ret (v:=bt #[eC,Z U (q:Nat),Z U 6]) ?_ rfl ?_
        ·unfold eC;rw[cr rfl];go_simp
        ·exact⟨by rw[HQ.o],d.o.keep.dr⟩
end
end Go.Proofs.YtjbkfdeldlajhaaGreatDoor
