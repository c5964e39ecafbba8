import Derived.Test.YtjbkfdeldlajhaaGreatDoorM30
set_option linter.unusedSimpArgs false
namespace Go.Proofs.YtjbkfdeldlajhaaGreatDoor
set_option maxRecDepth 100000
set_option maxHeartbeats 4000000
open Go.RowKit Go.Shelf Go.Proofs.Tryz
open Option renaming none->Y,some->V
open Go.Value renaming int->Z,string->O,slice->J,pointer->X,bool->ao,tuple->bt
open Go.IntKind renaming i64->U
open Go.Obj renaming cells->I
open Go renaming World->ab,Calls->ba,Value->ax
open Go.Ending renaming returned->ay
variable{s:Rd Unit}{w wr:ab}{a b f g e F m:Nat}{c:Bool}{v:ax}{l x:List UInt8}{d:List an}{i:ByteArray}
section
attribute [local go_sem] Oper.semAt_some
theorem Ba(f:Nat)(b:ByteArray)(l l1:List UInt8)(n:Nat)(w:ab)(h:KV w f b l)(d7:b.size<=1000000000000)(hb:dg 0 4 l=.ok n l1)(hn:n≠0):ba prog 103 #[X (V ⟨f,0,Y⟩)] w (OE f b l w):=by
 have HN:=E (tP f b l 0 4 w h d7 (by omega) (by omega));rw[hb]at HN;obtain⟨i0,hi,h7,h8,i1⟩:=info_parts Tryz.kP;obtain⟨c0,c1,c2,f1,f2⟩:=h.2.facts;have g9:f<w.heap.size:=(QY.1 h.2).1;obtain⟨p0,T⟩:∃p0,p0=b.size-l.length:=⟨_,rfl⟩
 rw[<-T]at c1;have i4:=E T;have c7:=E h.1;have R:=E d7;have b8:=E hb;have e7:=E hn;obtain⟨-,-,g2,-⟩:=h.1.Nq hb;have g3:(n:Int)<=4:=by omega
 have j9:((n:Int)==0)=false:=by rw[mK];omega
 have e8:=E g2;have y:QS (∀k,k=f->k<w.heap.size):=λk e=>e▸g9;have k8:(b.size:Int)<=1000000000000:=by omega
 clear h d7 hb hn T f1 f2 g2;go_enter func103,ntmps103;go_wp2_with fail;refine HN.o.mono ?_;rintro e w1 ⟨⟨rfl,h1⟩,k1⟩;obtain⟨d0,d1,d2,-,-⟩:=h1.2.facts;have H1:=E h1;have K1:=E k1;clear h1 k1 HN c0 c1 c2;go_wp2_with fail;go_loopw [5,6,7] (λv kv i wr=>∃k r done s,i=Z U (k:Nat)/\kv=O r/\k<=n/\uC n l1 k r done s/\rq wr f b s/\mG (·=f) 70 3 an.cells w wr v done) (λ_ _ i _=>n-(intOf i).toNat)
 case atStart=>exact⟨0,⟨#[]⟩,[],.ok () l1,rfl,rfl,eL _,uC.zero n l1,H1.o,mG.nil K1.o⟩
 case round=>
  obtain⟨k,r,done,s,rfl,rfl,g1,hM,hs,hX⟩:=hrel;have b6:=hM.EY e8.o;obtain⟨ob,cb,rfl,-,-⟩:=hX.row.form;have HM:=E hM;have HS:=E hs;have HX:=E hX;have i3:=E g1;have j5:(r.size:Int)<=10:=by omega
  have j7:(k:Int)<=n:=by omega
  have l5:(done.length:Int)<=4:=by omega
  have N:=E b6;clear hM hX g1 b6 d0 d1 d2;by_cases a7:k<n/\∃l',s=.ok () l'
  ·obtain⟨hk,l',rfl⟩:=a7;obtain⟨C,d4,hA⟩:=hs.facts;obtain⟨d0,d1,d2,-,-⟩:=hA.facts;have i5:wr.cell? ⟨f,2,Y⟩=V (Z U (-1)):=d2;have l6:(k:Int)<n:=by omega
   obtain⟨c,s1,e1⟩:∃c s1,gF 0 r.size (.ok () l')=(c,s1):=⟨_,_,rfl⟩
   obtain⟨m,s2,e2⟩:∃m s2,gF (1-c) (10-c) s1=(m,s2):=⟨_,_,rfl⟩
   obtain⟨x,s3,e3⟩:∃x s3,ig m s2=(x,s3):=⟨_,_,rfl⟩
   obtain⟨z,s4,e4⟩:∃z s4,gF 0 41 s3=(z,s4):=⟨_,_,rfl⟩
   obtain⟨v,s5,e5⟩:∃v s5,DQ z s4=(v,s5):=⟨_,_,rfl⟩
   have hc:c<=r.size:=by have:=(AQ (eL r.size) (.ok () l')).2;rw[e1]at this;exact this
   have f7:c<=10:=by have:=N.o;omega
   have hm:m<=10:=by have:=(AQ (lo:=1-c) (hi:=10-c) (by omega) s1).2;rw[e2]at this;simp only at this;omega
   have hx:x.length<=10:=by have:=Kz m s2;rw[e3]at this;simp only at this;omega
   have h5:z<=41:=by have:=(AQ (lo:=0) (hi:=41) (by omega) s3).2;rw[e4]at this;exact this
   have Q:=E (HM.o.next HS.o.1 hk e8.o e1 e2 e3 e4 e5);have b9:=E (ny f b (.ok () l') 0 r.size wr HS.o R.o (by omega) (by omega));rw[e1]at b9;have c3:QS (∀W,rq W f b s1->ba prog 102 #[X (V ⟨f,0,Y⟩),Z U ((1-c:Nat):Int),Z U (10-(c:Int))] W (oZ f b W (m,s2))):=λW hW=>by have:=ny f b s1 (1-c) (10-c) W hW R.o (by omega) (by omega);rw[e2,show((10-c:Nat):Int)=10-(c:Int) by omega]at this;exact this
   have e0:QS (∀W,rq W f b s2->ba prog 101 #[X (V ⟨f,0,Y⟩),Z U (m:Nat)] W (uX f b W (x,s3))):=λW hW=>by have:=oy f b s2 m W hW R.o (by omega);rw[e3]at this;exact this
   have e6:QS (∀W,rq W f b s3->ba prog 102 #[X (V ⟨f,0,Y⟩),Z U 0,Z U 41] W (oZ f b W (z,s4))):=λW hW=>by have:=ny f b s3 0 41 W hW R.o (by omega) (by omega);rw[e4]at this;exact this
   have c4:QS (0<z->∀W,rq W f b s4->ba prog 101 #[X (V ⟨f,0,Y⟩),Z U ((z:Int)-1)] W (uX f b W (v,s5))):=λh0 W hW=>by have:=oy f b s4 (z-1) W hW R.o (by omega);unfold DQ at e5;rw[el (by omega)]at e5;rw[e5,show((z-1:Nat):Int)=(z:Int)-1 by omega]at this;exact this
   have c9:QS (z=0->v=[]/\s5=s4):=λh0=>by unfold DQ at e5;rw[fy h0,tB]at e5;exact⟨e5.1.symm,e5.2.symm⟩
   have l4:(c:Int)<=r.size:=by omega
   have i6:(c:Int)<=10:=by omega
   have l7:(m:Int)<=10:=by omega
   have k6:(z:Int)<=41:=by omega
   have j1:(aU x).size<=10:=by rw[bn];exact hx
   have j4:∀W,(Op.stringOp .add (r.extract 0 c) (aU x)).run prog W=.ok (O (r.extract 0 c++aU x)) W:=λW=>run_string_add_sum W _ _ (by rw[QU];omega);have HK:=E hk;have l0:=E h5;clear e1 e2 e3 e4 e5 hs hA d2 d4 hk hc f7 hm hx h5 j1;go_wp2_with fail;refine b9.o.mono ?_;rintro e w2 ⟨rfl,F,k2⟩;have B:=E F;have a4:=E k2;clear F k2 b9 d0 d1 i5;rcases Ry c with f6|f6;all_goals first
    |(have f8:((c:Int)==0)=true:=(by rw[TS];omega);have a1:QS (ba prog 102 #[X (V ⟨f,0,Y⟩),Z U 1,Z U (10-(c:Int))] w2 (oZ f b w2 (m,s2))):=(by have:=c3.o w2 B.o;rw[show((1-c:Nat):Int)=1 by omega]at this;exact this))
    |(have f8:((c:Int)==0)=false:=(by rw[mK];omega);have a1:QS (ba prog 102 #[X (V ⟨f,0,Y⟩),Z U 0,Z U (10-(c:Int))] w2 (oZ f b w2 (m,s2))):=(by have:=c3.o w2 B.o;rw[show((1-c:Nat):Int)=0 by omega]at this;exact this))
   all_goals
    clear f6 c3 B;go_wp2_with fail;refine a1.o.mono ?_;rintro e w3 ⟨rfl,g6,k3⟩;have a8:=E (e0.o w3 g6);have K3:=E (a4.o.tr k3 i_);clear g6 k3 a1 e0;go_wp2_with fail;refine a8.o.mono ?_;rintro e w4 ⟨rfl,g7,k4⟩;have a9:=E (e6.o w4 g7);have K4:=E (K3.o.tr k4 i_);clear g7 k4 a8 e6 K3;go_wp2_with fail;refine a9.o.mono ?_;rintro e A ⟨rfl,g8,k5⟩;have a5:=E g8;have K5:=E (K4.o.tr k5 i_);clear g8 k5 a9 K4 f8;by_cases hz:z=0
    ·obtain⟨j0,g5⟩:=c9.o hz;subst j0;rw[<-g5]at a5;have j2:((z:Int)==0)=true:=by rw[TS];omega
     have j3:decide (0<z)=false:=kg (by omega);have d3:QS (decide (z=0)=true):=mI hz;have a2:QS (rq (A.alloc (I #[O ⟨#[]⟩,O ⟨#[]⟩,ao true] 70)) f b s5):=a5.o.ai (aa.alloc n_ _ _) id;have G:QS (rq (A.alloc (I #[O (r.extract 0 c++aU x),O ⟨#[]⟩,ao true] 70)) f b s5):=a5.o.ai (aa.alloc n_ _ _) id;have M:=E (HX.o.ai y.o (K5.o.al (I #[O (r.extract 0 c++aU x),O ⟨#[]⟩,ao true] 70)));obtain⟨f0,-,H⟩:=a2.o.facts;obtain⟨-,-,S,-,-⟩:=H.facts;clear H hz g5 c4 c9;rcases Q.o with⟨j,rfl,L⟩|⟨P,rfl,t⟩
     ·have a0:=E L;obtain⟨q,hq⟩:∃q,q=b.size-j:=⟨_,rfl⟩
      have a6:(A.alloc (I #[O ⟨#[]⟩,O ⟨#[]⟩,ao true] 70)).cell? ⟨f,2,Y⟩=V (Z U (q:Nat)):=by rw[hq];exact S
      have f4:¬((q:Int)<0):=by omega
      clear S hq L Q G M;go_wp2;exact⟨⟨k+1,r,done,.bad j,by go_num,rfl,HK.o,a0.o,a2.o,HX.o.ai y.o (K5.o.al _)⟩,by simp only[intOf];have:=HK.o;omega⟩
     ·have c5:=E t;have a6:(A.alloc (I #[O ⟨#[]⟩,O ⟨#[]⟩,ao true] 70)).cell? ⟨f,2,Y⟩=V (Z U (-1)):=S;clear S t Q;go_wp2_with(first|(at_builtin;go_must(refine aL _ rfl _ _ 26 rfl 70 i0 _ 3 40 Tryz.underlying26 hi h7 h8 i1 rfl (J ob done.length cb) done.length _ rfl (M.o.row.ai (aa.alloc n_ _ _) k_) ⟨A.heap.size+1,0,Y⟩ 1 1 [O (r.extract 0 c++aU x),O ⟨#[]⟩,ao true] rfl rfl (AM _ #[O (r.extract 0 c++aU x),O ⟨#[]⟩,ao true] _ (by simp)) (by simp[Value.oneCell']) (by unfold maxLen;omega) (by omega) ?_;intro v' w9 o g _ K;obtain⟨g',f3,rfl⟩:=o.succ;have c6:=E (M.o.push (a:=⟨r.extract 0 c++aU x,⟨#[]⟩,true⟩) (aa.alloc (·=f) _ _) o g K);have c8:=E ((G.o.ai (aa.alloc n_ _ _) id).ai (aa.grown g) (λe=>by have:=HX.o.own f e.symm;omega));clear o g K))|fail)
      have hg:=c5.o;rw[d3.o]at hg;exact⟨⟨k+1,_,_,.ok () P,by go_num,rfl,HK.o,hg,c8.o,c6.o⟩,by simp only[intOf];have:=HK.o;omega⟩
    ·have j2:((z:Int)==0)=false:=by rw[mK];omega
     have j3:decide (0<z)=true:=mI (by omega);have m0:(z:Int)>0:=by omega
     have d3:QS (decide (z=0)=false):=kg hz;have h6:wr.heap.size<=A.heap.size:=K5.o.size;have l9:w.heap.size<=wr.heap.size:=HX.o.keep.size;have b3:=E (c4.o (by omega) (A.alloc (I #[O ⟨#[]⟩,O ⟨#[]⟩,ao false] 70)) (a5.o.ai (aa.alloc n_ _ _) id));clear c4 c9 hz;go_wp2_with fail;refine b3.o.mono ?_;rintro e w7 ⟨rfl,d6,k7⟩;have xd:=(k7.block A.heap.size (by simp) (λe=>by have e':A.heap.size=f:=e;omega)).trans (az A _);have x0:=ae xd 0;have x1:=ae xd 1;have x2:=ae xd 2;have y0:=aj xd 0;have y1:=aj xd 1;simp at x0 x1 x2;have a2:QS (rq (w7.setCell ⟨A.heap.size,1,Y⟩ (O (aU v))) f b s5):=d6.ai (aa.setCell _ _ _) (λe=>by have e':f=A.heap.size:=e;omega);have G:QS (rq ((w7.setCell ⟨A.heap.size,1,Y⟩ (O (aU v))).setCell ⟨A.heap.size,0,Y⟩ (O (r.extract 0 c++aU x))) f b s5):=a2.o.ai (aa.setCell _ _ _) (λe=>by have e':f=A.heap.size:=e;omega);have K7:QS (aa (·=f) wr (w7.setCell ⟨A.heap.size,1,Y⟩ (O (aU v)))):=((K5.o.al _).tr k7 i_).st (p:=⟨A.heap.size,1,Y⟩) (.inl h6) _;have M:=E (HX.o.ai y.o (K7.o.st (p:=⟨A.heap.size,0,Y⟩) (.inl h6) (O (r.extract 0 c++aU x))));obtain⟨f0,-,H⟩:=d6.facts;obtain⟨-,-,S,-,-⟩:=H.facts;have g4:¬(f=A.heap.size):=by omega
     have k0:¬(A.heap.size=f):=by omega
     clear H d6 k7 b3 xd;rcases Q.o with⟨j,rfl,L⟩|⟨P,rfl,t⟩
     ·have a0:=E L;obtain⟨q,hq⟩:∃q,q=b.size-j:=⟨_,rfl⟩
      have a6:w7.cell? ⟨f,2,Y⟩=V (Z U (q:Nat)):=by rw[hq];exact S
      have f4:¬((q:Int)<0):=by omega
      clear S hq L Q G M;go_wp2;exact⟨⟨k+1,r,done,.bad j,by go_num,rfl,HK.o,a0.o,a2.o,HX.o.ai y.o K7.o⟩,by simp only[intOf];have:=HK.o;omega⟩
     ·have c5:=E t;have a6:w7.cell? ⟨f,2,Y⟩=V (Z U (-1)):=S;clear S t Q;go_wp2_with(first|(at_builtin;go_must(refine aL _ rfl _ _ 26 rfl 70 i0 _ 3 40 Tryz.underlying26 hi h7 h8 i1 rfl (J ob done.length cb) done.length _ rfl (M.o.row.ai (aa.alloc n_ _ _) k_) ⟨w7.heap.size,0,Y⟩ 1 1 [O (r.extract 0 c++aU x),O (aU v),ao false] rfl rfl (AM _ #[O (r.extract 0 c++aU x),O (aU v),ao false] _ (by simp)) (by simp[Value.oneCell']) (by unfold maxLen;omega) (by omega) ?_;intro v' w9 o g _ K;obtain⟨g',f3,rfl⟩:=o.succ;have c6:=E (M.o.push (a:=⟨r.extract 0 c++aU x,(aU v),false⟩) (aa.alloc (·=f) _ _) o g K);have c8:=E ((G.o.ai (aa.alloc n_ _ _) id).ai (aa.grown g) (λe=>by have:=HX.o.own f e.symm;omega));clear o g K))|fail)
      have hg:=c5.o;rw[d3.o]at hg;exact⟨⟨k+1,_,_,.ok () P,by go_num,rfl,HK.o,hg,c8.o,c6.o⟩,by simp only[intOf];have:=HK.o;omega⟩
  ·have b7:(∃l',s=.ok () l')->k=n:=λh=>by
    have:=i3.o;by_cases h2:k<n
    ·exact absurd ⟨h2,h⟩ a7
    ·omega
   have a4:=E b7;obtain⟨C,d4,hA,b5⟩:=hs.at_;obtain⟨d0,d1,d2,-,-⟩:=hA.facts;obtain⟨x,s',e'⟩:∃x s',ig 4 s=(x,s'):=⟨_,_,rfl⟩
   have HT:QS (ba prog 101 #[X (V ⟨f,0,Y⟩),Z U 4] wr (uX f b wr (x,s'))):=by have:=oy f b s 4 wr hs R.o (by omega);rw[e']at this;exact this
   have HE:=E e';have d8:=E b5;have k9:=E hs;have j6:(C:Int)<=b.size:=by omega
   obtain⟨bd,d5⟩:∃bd,bd=Lk b s:=⟨_,rfl⟩
   rw[<-d5]at d2;have D:¬((k:Int)<n)\/((k:Int)<n/\¬(bd<0)):=by
    by_cases h2:k<n
    ·refine .inr ⟨by omega,λh3=>a7 ⟨h2,?_⟩⟩;rw[d5,GF]at h3;exact h3
    ·exact .inl (by omega)
   clear e' b5 hs hA d4 d5 a7 b7;rcases D with D|⟨j8,D⟩;all_goals
    go_wp2_with fail;refine HT.o.mono ?_;rintro e w2 ⟨rfl,F,k2⟩;have K2:=E k2;clear k2 HT d0 d1 d2 D;rcases s' with j|⟨u,l3⟩
    ·obtain⟨f0,-,H⟩:=F.facts;obtain⟨-,-,S,-,-⟩:=H.facts;have B:=E F;obtain⟨q,hq⟩:∃q,q=b.size-j:=⟨_,rfl⟩
     have a6:w2.cell? ⟨f,2,Y⟩=V (Z U (q:Nat)):=by rw[hq];exact S
     have f4:¬((q:Int)<0):=by omega
     clear S hq H F;go_wp2;go_ret;exact⟨_,done,.bad j,rfl,HX.o.ai y.o K2.o,B.o,N.o.1,by rw[NN b8.o e7.o HM.o a4.o HE.o]⟩
    ·obtain⟨P,d,rfl,hd,i9,f5⟩:=Pk b8.o e7.o HM.o a4.o HE.o;have HD:=E hd;have b4:=d8.o P rfl;obtain⟨-,-,-,i7⟩:=c7.o.Nq b8.o;have i8:=c7.o.len;have T:=i4.o;have l8:(p0:Int)<=C:=by omega
     have g0:b.extract p0 C=aU (l.take (l.length-P.length)):=by have:=iu b p0 (l.length-P.length);rw[show p0+(l.length-P.length)=C by omega]at this;rw[this,T,<-c7.o]
     have a3:QS (∀W,ba prog 100 #[O (b.extract p0 C)] W λe w'=>e=ay (O (aU (bM (l.take (l.length-P.length)))))/\aa n_ W w'):=λW=>by have:=iy (b.extract p0 C) W (by rw[QU];unfold maxLen;omega);rwa[show(b.extract p0 C).data.toList=l.take (l.length-P.length) by rw[g0];rfl]at this
     obtain⟨b0,b1,S,-,-⟩:=F.2.facts;have B:=E F;have d9:=E f5;have i2:=E b4;clear F f5 b4 hd i9 i7 i8 T g0 g3;by_cases hy:x=bM (l.take (l.length-P.length))
     ·have HY:=E hy;rw[<-hy]at a3;clear hy;go_wp2_with(go_at_call 100;go_must(refine(a3.o _).mono ?_;rintro e w3 ⟨rfl,k3⟩))
      go_ret;refine⟨_,done,.ok () l3,rfl,(HX.o.ai y.o K2.o).ai y.o (k3.mono (λ_ _ h=>h.elim)),⟨B.o.1,B.o.2.ai k3 id⟩,N.o.1,?_⟩;rw[d9.o,fy HY.o];exact⟨rfl,HD.o⟩
     ·have HY:=E hy;have g4:((aU x).toList==(aU (bM (l.take (l.length-P.length)))).toList)=false:=(Lib.bytes_beq_false_iff _ _).2 (λe=>hy (by have:=Rc (λx:ByteArray=>x.data.toList) e;exact this));have e9:=E (λW (hW:aa n_ w2 W)=>lL f b _ C W (B.o.2.ai hW id));clear hy;obtain⟨ck,f9⟩:∃ck,ck=aU (bM (l.take (l.length-P.length))):=⟨_,rfl⟩
      rw[<-f9]at g4 a3;clear f9;go_wp2_with(go_at_call 100;go_must(refine(a3.o _).mono ?_;rintro e w3 ⟨rfl,k3⟩;have K3:=E k3;clear k3))
      refine(e9.o _ K3.o).mono ?_;rintro e w4 ⟨rfl,h4,k4⟩;have H4:=E h4;have K4:=E k4;clear h4 k4 e9;go_wp2;go_ret;refine⟨_,done,.bad P.length,rfl,((HX.o.ai y.o K2.o).ai y.o (K3.o.mono (λ_ _ h=>h.elim))).ai y.o K4.o,⟨b.size-l3.length,Nat.sub_le _ _,by have h9:=H4.o;rw[i2.o]at h9;exact h9⟩,N.o.1,?_⟩;rw[d9.o,el HY.o]
theorem Di(c:Nat)(a:ByteArray)(l:List UInt8)(w:ab)(h:KV w c a l)(b:a.size<=1000000000000):ba prog 103 #[X (V ⟨c,0,Y⟩)] w (OE c a l w):=by
 rcases hb:dg 0 4 l with k|⟨n,r⟩
 ·refine(sC c a l w h b (λn r e=>by rw[hb]at e;cases e)).mono ?_;rintro e j ⟨rfl,d,f⟩;rw[hb]at d;have g:=BN hb;subst g;have e:eS l=.bad l.length:=by unfold eS;rw[hb,Rd.iG]
  exact⟨_,[],.bad l.length,rfl,mG.nil f,d,by simp,by rw[e]⟩
 ·by_cases i:n=0
  ·subst i;refine(sC c a l w h b (λn m e=>by rw[hb]at e;cases e;rfl)).mono ?_;rintro e j ⟨rfl,d,f⟩;rw[hb]at d;have e:eS l=.ok [] r:=by unfold eS;rw[hb,Rd.bT,fy rfl]
   exact⟨_,[],.ok () r,rfl,mG.nil f,d,by simp,by rw[e];exact⟨rfl,rfl⟩⟩
  ·exact Ba c a l r n w h b hb i
theorem uP(a:ByteArray)(w:ab)(c:a.size<4):ba prog 43 #[O a] w (nI .sum w):=by
 have b:(a.size:Int)-4<0:=by omega
 have d:-4<=(a.size:Int)-4:=by omega
 clear c;go_enter func43,ntmps43;go_wp2;go_region;go_wp2;refine bodyPost_ret (v:=bt #[eC,Z U 0,Z U 7]) ?_ rfl ?_
 ·unfold eC;rw[cr rfl];go_simp
 ·exact⟨rfl,(((aa.refl n_ w).al _).al _).dr⟩
theorem yE(a:ByteArray)(w:ab)(p:4<=a.size)(i:a.size<=10000000000)(c:a.data.toList.drop (a.data.toList.length-4)≠bM (a.data.toList.take (a.data.toList.length-4))):ba prog 43 #[O a] w (nI .sum w):=by
 have b:a.data.toList.length=a.size:=rfl;rw[b]at c;obtain⟨n,q⟩:∃n:Nat,a.size=n+4:=⟨a.size-4,by omega⟩
 have m:(a.size:Int)-4=(n:Int):=by omega
 have d:∀W,ba prog 100 #[O (a.extract 0 n)] W λe u=>e=ay (O (aU (bM (a.data.toList.take n))))/\aa n_ W u:=λW=>by have:=iy (a.extract 0 n) W (by rw[QU];unfold maxLen;omega);rwa[iv a n]at this
 have t:((a.extract n a.size).toList==(aU (bM (a.data.toList.take n))).toList)=false:=(Lib.bytes_beq_false_iff _ _).2 (λe=>c (by have:=Rc (λx:ByteArray=>x.data.toList) e;rw[extract_drop a n]at this;rw[show a.size-4=n by omega];exact this))
 have o:=E d;have r:(n:Int)<=10000000000:=by omega
 have s:(n:Int)<=a.size:=by omega
 clear d c i p b q;generalize aU (bM (a.data.toList.take n))=ck at*;go_enter func43,ntmps43;go_wp2;go_region_held3(λ_=>True) (go_keep) (first|(go_at_call 100;refine(o.o _).mono ?_;rintro e j ⟨rfl,f⟩;have k:qK j w.heap.size:=(f.block w.heap.size (by simp;omega) id).trans (((aa.alloc n_ (w.alloc (I #[ao false,Z U 0,Z U 0,J Y 0 0] 28)) (I #[ao false,Z U 0,Z U 0,J Y 0 0] 28)).block w.heap.size (by simp) id).trans (az w _));have l:qK j (w.heap.size+1):=(f.block (w.heap.size+1) (by simp) id).trans (by have:=az (w.alloc (I #[ao false,Z U 0,Z U 0,J Y 0 0] 28)) (I #[ao false,Z U 0,Z U 0,J Y 0 0] 28);rw[World.size_alloc]at this;exact this);obtain⟨y,z,A,B,C,D,F,G,H,K,L,M⟩:=k.facts;obtain⟨N,P,Q,R,-,-,-,-,-,-,-,-⟩:=l.facts;have g:QS (aa n_ w j):=((((aa.refl n_ w).al _).al _).dr).tr f i_;clear f k l));go_wp2;refine bodyPost_ret (v:=bt #[eC,Z U 0,Z U 7]) ?_ rfl ?_
 ·unfold eC;rw[cr rfl];go_simp
 ·exact⟨rfl,g.o⟩
end
structure jq(w:ab)(sb xb:Nat)(tx:ByteArray)(full:Bool)(a b:Nat)(v:ax)(acc:List an)(s:Rd Unit)(wr:ab):Prop where
 scan:rq wr sb tx s
 top:wr.heap[xb]?=V (I #[ao full,Z U (a:Nat),Z U (b:Nat),v] 28 (0,0))
 row:Row wr 70 3 v acc.length (cP acc)
 own:∀g,v.ownBlock=V g->w.heap.size<=g
 res:qK wr w.heap.size
 none_:qK wr (w.heap.size+1)
 keep:aa n_ w wr
 Qv:w.heap.size+2<=sb
 Gz:w.heap.size+2<=xb
theorem rq.aR{d:ByteArray}(h:rq w a d s):bD w a 170:=by obtain⟨b,-,c⟩:=h.facts;exact⟨_,c⟩
theorem jq.ne(h:jq w f g i c a b v d s wr):g≠f:=λe=>
 bD.ne (w:=wr) (k:=f) (e:=170) (e':=28) h.scan.aR (by decide) (e▸⟨_,h.top⟩)
theorem jq.call{d n:Nat}{l:ByteArray}{i:List an}{s':Rd Unit}{m:ab}(h:jq w d n l c a b v i s wr)(f:aa (·=d) wr m)(q:rq m d l s'):jq w d n l c a b v i s' m:=by have r:=h.Qv;have o:=h.ne;refine⟨q,(f.block n (lg h.top) o).trans h.top,h.row.ai f (λg p e=>(h.row.aR p).ne (e':=170) (by decide) ((show g=d from e)▸h.scan.aR)),h.own,h.res.ai f (λe=>by have j:w.heap.size=d:=e;omega),h.none_.ai f (λe=>by have j:w.heap.size+1=d:=e;omega),h.keep.trans f (λk f e=>by have j:k=d:=e;omega),h.Qv,h.Gz⟩
theorem jq.quiet{e:List an}{j:ab}(h:jq w g f i c a b v e s wr)(d:aa n_ wr j):jq w g f i c a b v e s j:=
 ⟨h.scan.ai d id,(d.block f (lg h.top) id).trans h.top,h.row.ai d k_,h.own,h.res.ai d id,h.none_.ai d id,h.keep.tr d i_,h.Qv,h.Gz⟩
theorem jq.put{d:Nat}{q:ByteArray}{j:Bool}{o p:Nat}{i:List an}{n:ab}(h:jq w m d q j a b v i s wr)(f:aa (·=d) wr n)(u:n.heap[d]?=V (I #[ao c,Z U (o:Nat),Z U (p:Nat),v] 28 (0,0))):jq w m d q c o p v i s n:=by have x:=h.Gz;have r:=h.ne;refine⟨h.scan.ai f (λe=>r (show m=d from e).symm),u,h.row.ai f (λg t e=>(h.row.aR t).ne (e':=28) (by decide) ((show g=d from e)▸⟨_,h.top⟩)),h.own,h.res.ai f (λe=>by have l:w.heap.size=d:=e;omega),h.none_.ai f (λe=>by have l:w.heap.size+1=d:=e;omega),h.keep.trans f (λk f e=>by have l:k=d:=e;omega),h.Qv,h.Gz⟩
theorem jq.Hh{d:Bool}{c:List an}(h:jq w g e i d a b v c s wr)(f:Bool):jq w g e i f a b v c s (wr.setCell ⟨e,0,Y⟩ (ao f)):=
 h.put (aa.setCell wr ⟨e,0,Y⟩ _) ((ak h.top _).trans (by simp))
theorem jq.Qs{g:ByteArray}(h:jq w f e g c a b v d s wr)(n:Nat):jq w f e g c n b v d s (wr.setCell ⟨e,1,Y⟩ (Z U (n:Nat))):=
 h.put (aa.setCell wr ⟨e,1,Y⟩ _) ((ak h.top _).trans (by simp))
theorem jq.QH{g:ByteArray}(h:jq w f e g c a b v d s wr)(n:Nat):jq w f e g c a n v d s (wr.setCell ⟨e,2,Y⟩ (Z U (n:Nat))):=
 h.put (aa.setCell wr ⟨e,2,Y⟩ _) ((ak h.top _).trans (by simp))
theorem jq.push{u i:Nat}{z:ByteArray}{o:ax}{f:List an}{x:an}{q p:ab}(h:jq w u i z c a b v f s wr)(C:aa n_ wr q)(y:Row p 70 3 o (f.length+1) (cP f++x.cells))(D:q.grownBy p v.ownBlock)(G:o.ownBlock=v.ownBlock\/o.ownBlock=V q.heap.size):p.heap[i]?=V (I #[ao c,Z U (a:Nat),Z U (b:Nat),v] 28 (0,0))/\jq w u i z c a b o (f++[x]) s (p.setCell ⟨i,3,Y⟩ o):=by
 have d:=h.quiet C;have r:=aa.grown D;have m:∀k,V k=v.ownBlock->bD q k 70:=λk e=>d.row.aR e.symm;have A:=h.Qv;have B:=h.Gz;have H:=d.keep.size;have j:p.heap[i]?=V (I #[ao c,Z U (a:Nat),Z U (b:Nat),v] 28 (0,0)):=(r.block i (lg d.top) (λe=>(m i e).ne (e':=28) (by decide) ⟨_,d.top⟩)).trans d.top;have t:=aa.setCell p ⟨i,3,Y⟩ o;refine⟨j,?_⟩;refine⟨(d.scan.ai r (λe=>(m u e).ne (e':=170) (by decide) d.scan.aR)).ai t (λe=>d.ne (show u=i from e).symm),(ak j _).trans (by simp),?_,λg l=>?_,?_,?_,?_,A,B⟩
 ·have e:cP (f++[x])=cP f++x.cells:=by simp[cP]
  rw[e,hQ,Ro];exact y.ai t (λg l e=>(y.aR l).ne (e':=28) (by decide) ((show g=i from e)▸⟨_,j⟩))
 ·rcases G with e|e
  ·exact h.own g (e▸l)
  ·rw[l]at e;have n:g=q.heap.size:=by simpa using e
   omega
 ·refine(d.res.ai r (λe=>(m _ e).ne (e':=28) (by decide) ⟨_,d.res⟩)).ai t (λe=>?_);have n:w.heap.size=i:=e;omega
 ·refine(d.none_.ai r (λe=>(m _ e).ne (e':=28) (by decide) ⟨_,d.none_⟩)).ai t (λe=>?_);have n:w.heap.size+1=i:=e;omega
 ·refine(d.keep.trans r (λk F e=>?_)).trans t (λk F e=>?_)
  ·have:=d.own k e.symm;omega
  ·have n:k=i:=e;omega
def PK(c:ByteArray)(a:Nat)(z:ax)(w:ab):Nat:=match z with
 |.bool true=>match w.cell? ⟨a,2,Y⟩with
  |some (Z _ b)=>if b<0 then c.size+1-posOf w a else 0
  |_=>0
 |_=>0
theorem MP{b:ByteArray}(h:KV w a b l):PK b a (ao true) w=l.length+1:=by obtain⟨-,c,d,-,-⟩:=h.2.facts;have e:=h.1.len;unfold PK posOf;simp only[c,d];rw[fy (by omega)];simp only[Int.toNat_natCast];omega
theorem MO{b:ByteArray}{c:Nat}{a:Bool}(h:rq w c b s)(g:∀r,s=.ok () r->r.length<l.length):PK b c (ao a) w<l.length+1:=by
 cases a with
 |false=>exact Nat.succ_pos _
 |true=>
  rcases s with k|⟨u,r⟩
  ·obtain⟨d,-,f⟩:=h.facts;obtain⟨-,-,e,-,-⟩:=f.facts;unfold PK;simp only[e];rw[el (λh=>by have i:((b.size-k:Nat):Int)<0:=h;omega)];omega
  ·rw[MP (l:=r) h];have:=g r rfl;omega
theorem Cw{d:Rd Unit}{a:Bool}(h:ig 4 (.ok () l)=(x,d))(b:x=gg a):∃c,iH l=.ok a c/\d=.ok () c:=by
 rcases nB h with⟨r,e,rfl⟩|⟨k,e,-,rfl⟩
 ·refine⟨r,?_,rfl⟩;unfold iH;rw[e,Rd.bT,b];cases a with
  |true=>rw[fy rfl]
  |false=>rw[el (by decide),fy rfl]
 ·cases a<;>cases b
theorem Js{c:Rd Unit}(h:ig 4 (.ok () l)=(x,c))(a:x≠gg true)(b:x≠gg false):iH l=.bad l.length:=by
 unfold iH;rcases nB h with⟨r,e,-⟩|⟨k,e,-,-⟩
 ·rw[e,Rd.bT,el a,el b]
 ·rw[e,Rd.iG];unfold ee at e;split at e
  ·cases e
  ·cases e;rfl
def KS(F:Nat)(c:Rd Unit)(b:Bool)(a:List an)(s:Rd Unit):Prop:=match c with
 |.inl j=>s=.bad j/\a=[]
 |.inr (_,l3)=>Aa (dY F [] l3) l3.length b a s
theorem KS.zero{b:Rd Unit}(h:∀a,b=.ok () a->a.length<F):KS F b true [] b:=by
 rcases b with j|⟨u,a⟩
 ·exact⟨rfl,rfl⟩
 ·exact Aa.zero (h a rfl)
theorem KS.next{e:ByteArray}{b:Rd Unit}{a x:List an}(h:KS F b true a (.ok () l))(d:Place e l)(c:Hv (eS l) x s):KS F b (decide (0<x.length)) (a++x) s:=by
 rcases b with j|⟨u,f⟩
 ·cases h.1
 ·exact Aa.next h d c
theorem KS.EY{N:Nat}{d:Rd Unit}{b:Bool}{a:List an}(h:KS F d b a s)(f:∀c,d=.ok () c->c.length<=N):a.length<=4*N+4:=by
 rcases d with j|⟨u,c⟩
 ·rw[h.2];exact eL _
 ·have:=f c rfl;rcases s with k|⟨u,l⟩
  ·have e:=h.2;omega
  ·have e:=h.1;omega
theorem Hv.short{c:ByteArray}{x:List an}(b:Place c l)(h:Hv (eS l) x s):∀r,s=.ok () r->r.length<l.length:=by
 intro r e;obtain⟨-,h⟩:=h;rcases hb:eS l with k|⟨y,d⟩
 ·rw[hb]at h;rw[h]at e;cases e
 ·rw[hb]at h;have a:=h.1;rw[e]at a;cases a;exact(lR b hb).2.1
theorem IM{o:List UInt8}{n:Bool}{p g f i:Rd Unit}(w:iH l=.ok n o)(q:gF 0 34359738367 (.ok () o)=(a,p))(s:gF 0 34359738367 p=(b,g))(k:KS (l.length+1) g c d f)(v:c=true->∃j,f=.bad j)(t:gF d.length d.length f=(m,i)):(∀j,wh i=.bad j->ju l=.bad j)/\(∀r,wh i=.ok () r->∃F:kG,ju l=.ok F []/\F.full=n/\F.a=a/\F.b=b/\d=F.aW.map bX):=by
 have h:=Lx (more:=c) w q s (s4:=f) (acc:=d) (by
  rcases g with j|⟨u,D⟩
  ·exact k.1
  ·exact⟨k,v⟩) t
 rcases hc:ju l with j|⟨F,r⟩
 ·rw[hc]at h;refine⟨λx e=>?_,λr e=>?_⟩
  ·rw[h]at e;cases e;rfl
  ·rw[h]at e;cases e
 ·rw[hc]at h;obtain⟨y,rfl,z,A,B,C⟩:=h;refine⟨λx e=>?_,λr e=>⟨F,rfl,z,A,B,C⟩⟩;rw[y]at e;cases e
end Go.Proofs.YtjbkfdeldlajhaaGreatDoor
