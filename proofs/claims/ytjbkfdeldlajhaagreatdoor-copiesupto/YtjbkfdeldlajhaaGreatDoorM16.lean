import Derived.Test.YtjbkfdeldlajhaaGreatDoorM15
set_option linter.unusedSimpArgs false
namespace Go.Proofs.YtjbkfdeldlajhaaGreatDoor
set_option maxRecDepth 100000
set_option maxHeartbeats 2000000
open Go.RowKit Go.Shelf Go.Proofs.Tryz
open Option renaming none->Y,some->V
open Go.Value renaming int->Z,string->O,pointer->X,bool->ao,tuple->bt,slice->J
open Go.IntKind renaming i64->U
open Go renaming World->ab,Calls->ba,Value->ax
open Go.Ending renaming returned->ay
open Go.Obj renaming cells->I
variable{N b:Nat}{w:ab}{F:List Nat}{R:aF}
def aX.zero:aX:=⟨0,0,0,[],[],0,[],[],λ_=>[]⟩
theorem Qn(w:ab):ba prog 6 #[] w λe b=>e=ay (X (V ⟨w.heap.size,0,Y⟩))/\ml 0 b w.heap.size aX.zero [w.heap.size]/\aa n_ w b:=by refine(He w).mono ?_;rintro e b ⟨rfl,h,c⟩;refine⟨rfl,⟨aF.zero w.heap.size,⟨h,za _,zR _,ya _,by simp[aF.zero],by simp[aF.zero],by simp[aF.zero,aF.total],λp a=>(by cases a),by simp[aF.zero,aF.cF],by simp[aF.zero],λp a=>(by cases a),by simp[aF.zero]⟩,rfl,rfl,by simp[aF.zero,aF.fp,aF.aP,aF.bp,cL,Value.ownBlock]⟩,c⟩
theorem jZ(n:Int):aD R.gE.af n=(aD R.af n).map (λy=>(y.aI,y.ar)):=by have e:R.gE.af=R.af.map (λp=>(p.1,(λy:mO=>(y.aI,y.ar)) p.2)):=rfl;rw[e,cd (λy:mO=>(y.aI,y.ar))]
def aX.opened(A:aX):aX:={A with aJ:=A.aJ+1,af:=A.af++[(A.aJ+1,(A.now,[]))]}
def aX.dQ(A:aX):Int×Int:=if A.af.length<8 then(A.aJ+1,0)else(0,3)
def aX.fq(A:aX):aX:=if A.af.length<8 then A.opened else A
theorem NJ{A:aX}(h:ml N w b A F)(H:N<=100000000000):ba prog 18 #[X (V ⟨b,0,Y⟩)] w λe i=>e=ay (bt #[Z U A.dQ.1,Z U A.dQ.2])/\gT (N+1) b A.fq F w i:=by
 have C:=h;obtain⟨R,a,rfl,rfl,rfl⟩:=h;have c:R.gE.af.length=R.af.length:=by simp[aF.gE]
 by_cases g:R.af.length<8
 ·have o:R.aJ<1000000000000000:=by have:=a.dR;omega
  have f:aD R.af (R.aJ+1)=Y:=dU.2 (λp G e=>by have:=a.cD.numbers p G;omega);have d:ba prog 18 #[X (V ⟨R.sb,0,Y⟩)] w λe i=>e=ay (bt #[Z U (R.aJ+1),Z U 0])/\mD R w i:=by
   cases hwm:R.wm with
   |none=>exact Eu R w a.st hwm a.cD.aJ.1 (by omega)
   |some b0=>exact Ev R w a.st b0 hwm g a.cD.aJ.1 (by omega) f
  have l:R.gE.dQ=(R.aJ+1,0):=by unfold aX.dQ;rw[c,fy g];rfl
  have n:R.gE.fq=R.gE.opened:=by unfold aX.fq;rw[c,fy g]
  rw[l,n];refine d.mono ?_;rintro e i ⟨rfl,s,m,t,u,v,x,y,z⟩;have D:=a.dR;refine⟨rfl,_,⟨_,⟨u,a.cD.vh g o s m t,⟨a.tied.bP,a.tied.keys,a.tied.filled⟩,a.aK,by show R.aJ+1<=_;omega,by have:=a.mX;show R.keys.length<=_;omega,by have:=a.xL;show R.total<=_;omega,a.aN,by have:=a.du;show R.cF<=_;omega,⟨a.fG.1,by have:=a.fG.2;show R.aB<=_;omega⟩,a.ji,a.kH⟩,rfl,?_,rfl⟩,v,?_⟩
  ·simp[aF.gE,aX.opened]
  ·intro k j;have r:k=R.sb\/k∈t.toList\/k∈R.fp\/k=s\/k=m:=by
    simp only[aF.fp,aF.aP,aF.bp,cT,cQ,List.flatMap_append,Rh,List.flatMap_nil,Kp,RQ,TP]at j⊢;rcases j with h|((h|h)|h|h)|h
    ·exact .inl h
    ·exact .inr (.inl h)
    ·exact .inr (.inr (.inl (.inr (.inl (.inl (.inr h))))))
    ·exact .inr (.inr (.inl (.inr (.inl (.inr h)))))
    ·exact .inr (.inr (.inr h))
    ·exact .inr (.inr (.inl (.inr (.inr h))))
   rcases r with rfl|h|h|rfl|rfl
   ·exact .inl (by simp[aF.fp])
   ·rcases x with rfl|⟨q,rfl,K⟩
    ·exact .inl (by simp only[aF.fp,aF.aP,cT,cQ];exact .inr (.inl (.inl (.inl h))))
    ·have:k=q:=by simp at h;omega
     exact .inr (by omega)
   ·exact .inl h
   ·exact .inr y
   ·exact .inr z
 ·have B:R.af.length=8:=by have:=a.cD.dm;omega
  have l:R.gE.dQ=(0,3):=by unfold aX.dQ;rw[c,el g]
  have n:R.gE.fq=R.gE:=by unfold aX.fq;rw[c,el g]
  rw[l,n];refine(Et R w a.st B).mono ?_;rintro e i ⟨rfl,j⟩;exact⟨rfl,C.after (by omega) j⟩
def aX.kO(A:aX)(n:Int)(a:ByteArray):ByteArray×Int:=
 match aD A.af n with
 |none=>(ByteArray.empty,1)
 |some x=>
  if dw a=true then
   if gQ (fT x.2 (A.aE a) x.1 a)=true then(((fT x.2 (A.aE a) x.1 a).getD bF.zero).value,0)else(ByteArray.empty,1)
  else(ByteArray.empty,2)
theorem Qk{A:aX}(n:Int)(a:ByteArray)(h:ml N w b A F)(i:a.size<=maxLen):ba prog 24 #[X (V ⟨b,0,Y⟩),Z U n,O a] w λe d=>e=ay (bt #[O (A.kO n a).1,Z U (A.kO n a).2])/\gT N b A F w d:=by
 have g:=h;obtain⟨R,c,rfl,rfl,rfl⟩:=h;refine(NW R n a w c.st c.cD i).mono ?_;rintro e d ⟨rfl,f⟩;have e:pG R n a=R.gE.kO n a:=by unfold pG aX.kO;rw[jZ];cases aD R.af n<;>rfl
 rw[e];exact⟨rfl,g.after (eb _) f⟩
def aX.cz(A:aX)(n:Int)(a b:ByteArray):Int:=
 match aD A.af n with
 |none=>1
 |some x=>if(dw a&&fM b)=true then(if((aD x.2 a).isSome||decide (x.2.length<30))=true then 0 else 3)else 2
def aX.dT(A:aX)(n:Int)(b c:ByteArray)(a:Bool):aX:=
 match aD A.af n with
 |none=>A
 |some x=>if A.cz n b c=0 then{A with af:=put A.af n (x.1,put x.2 b ⟨0,c,a⟩)}else A
theorem Ht{A:aX}(n:Int)(a c:ByteArray)(d:Bool)(h:ml N w b A F)(u:a.size<=maxLen)(C:c.size<=maxLen):ba prog 72 #[X (V ⟨b,0,Y⟩),Z U n,O a,.agg #[Z U 0,O c,ao d]] w λe r=>e=ay (Z U (A.cz n a c))/\gT N b (A.dT n a c d) F w r:=by
 have t:=h;obtain⟨R,f,rfl,rfl,rfl⟩:=h;cases hx:aD R.af n with
 |none=>
  have j:R.gE.cz n a c=1:=by unfold aX.cz;rw[jZ,hx];rfl
  have l:R.gE.dT n a c d=R.gE:=by unfold aX.dT;rw[jZ,hx];rfl
  rw[j,l];refine(Gx R n a c d w f.st hx).mono ?_;rintro e r ⟨rfl,m⟩;exact⟨rfl,t.after (eb _) m⟩
 |some x=>
  have i:aD R.gE.af n=V (x.aI,x.ar):=by rw[jZ,hx];rfl
  cases hb:(dw a&&fM c)with
  |false=>
   have j:R.gE.cz n a c=2:=by unfold aX.cz;rw[i];simp[hb]
   have l:R.gE.dT n a c d=R.gE:=by unfold aX.dT;rw[i,j];simp
   rw[j,l];refine(Gy R n x a c d w f.st hx u C (Bool.and_eq_false_iff.1 hb)).mono ?_;rintro e r ⟨rfl,m⟩;exact⟨rfl,t.after (eb _) m⟩
  |true=>
   obtain⟨o,p⟩:=Tu.1 hb;cases hf:((aD x.ar a).isSome||decide (x.ar.length<30))with
   |false=>
    have g:=Bool.or_eq_false_iff.1 hf;have z:aD x.ar a=Y:=by cases z:aD x.ar a with|none=>rfl|some v=>rw[z]at g;simp at g
    have s:=f.cD.writes30 _ (bj hx);have q:x.ar.length=30:=by have:=of_decide_eq_false g.2;simp only at s;omega
    have j:R.gE.cz n a c=3:=by unfold aX.cz;rw[i];simp only[hb,Rz,hf];rfl
    have l:R.gE.dT n a c d=R.gE:=by unfold aX.dT;rw[i,j];simp
    rw[j,l];refine(Gw R n x a c d w f.st hx o p z q).mono ?_;rintro e r ⟨rfl,m⟩;exact⟨rfl,t.after (eb _) m⟩
   |true=>
    have g:(aD x.ar a).isSome=true\/x.ar.length<30:=by simpa[TF]using hf
    have j:R.gE.cz n a c=0:=by unfold aX.cz;rw[i];simp only[hb,Rz,hf]
    have l:R.gE.dT n a c d={R.gE with af:=put R.gE.af n (x.aI,put x.ar a ⟨0,c,d⟩)}:=by unfold aX.dT;rw[i,j];simp
    rw[j,l];refine(No R n x a c d w f.st hx o p g (f.cD.writes30 _ (bj hx))).mono ?_;rintro e r ⟨rfl,m,B⟩;refine⟨rfl,_,⟨_,⟨m,f.cD.written hx (mi f.st) (kT f.st (bj hx)) o p g,⟨f.tied.bP,f.tied.keys,f.tied.filled⟩,f.aK,f.dR,f.mX,f.xL,f.aN,f.du,f.fG,f.ji,f.kH⟩,rfl,?_,rfl⟩,B,?_⟩
    ·simp only[aF.gE];have:=oj (λy:mO=>(y.aI,y.ar)) R.af n {x with ar:=put x.ar a ⟨0,c,d⟩};rw[<-this]
    ·rw[Fc hx];exactλk u=>.inl u
theorem Qt{A:aX}(n:Int)(a c:ByteArray)(h:ml N w b A F)(d:a.size<=maxLen)(f:c.size<=maxLen):ba prog 26 #[X (V ⟨b,0,Y⟩),Z U n,O a,O c] w λe j=>e=ay (Z U (A.cz n a c))/\gT N b (A.dT n a c false) F w j:=by
 have g:=E (Ht n a c false h d f);clear h d f;go_enter func26,ntmps26;go_wp2_with(go_at_call 72;go_must(refine(g.o).mono ?_;rintro e k ⟨rfl,i⟩))
 go_ret;exact⟨rfl,i⟩
theorem LC{A:aX}(n:Int)(a:ByteArray)(h:ml N w b A F)(c:a.size<=maxLen):ba prog 28 #[X (V ⟨b,0,Y⟩),Z U n,O a] w λe g=>e=ay (Z U (A.cz n a ByteArray.empty))/\gT N b (A.dT n a ByteArray.empty true) F w g:=by
 have d:=E (Ht n a ByteArray.empty true h c (by decide+kernel));clear h c;go_enter func28,ntmps28;go_wp2_with(go_at_call 72;go_must(refine(d.o).mono ?_;rintro e i ⟨rfl,f⟩))
 go_ret;exact⟨rfl,f⟩
def aX.ended(A:aX)(n:Int):aX:={A with af:=del A.af n}
theorem oS.del{N:Nat}{w a:ab}{R:aF}{n:Int}(h:oS N w R)(b:aq a {R with af:=del R.af n}):oS N a {R with af:=del R.af n}:=
 ⟨b,h.cD.del n,⟨h.tied.bP,h.tied.keys,h.tied.filled⟩,h.aK,h.dR,h.mX,h.xL,h.aN,h.du,h.fG,h.ji,h.kH⟩
theorem AE(R:aF)(n:Int):aF.gE {R with af:=del R.af n}=R.gE.ended n:=by simp only[aF.gE,aX.ended];have:=nR (λy:mO=>(y.aI,y.ar)) R.af n;rw[<-this]
def aX.gN(A:aX)(n:Int):Int:=if(aD A.af n).isSome then 0 else 1
def aX.gd(A:aX)(n:Int):aX:=if(aD A.af n).isSome then A.ended n else A
theorem Nw{A:aX}(n:Int)(h:ml N w b A F):ba prog 31 #[X (V ⟨b,0,Y⟩),Z U n] w λe d=>e=ay (Z U (A.gN n))/\gT N b (A.gd n) F w d:=by
 have g:=h;obtain⟨R,c,rfl,rfl,rfl⟩:=h;unfold aX.gN aX.gd;rw[jZ];cases hx:aD R.af n with
 |none=>
  refine(Ee R n w c.st hx).mono ?_;rintro e d ⟨rfl,a⟩;exact⟨rfl,g.after (eb _) a⟩
 |some x=>
  refine(Ef R n x w c.st hx).mono ?_;rintro e d ⟨rfl,a,f⟩;exact⟨rfl,_,⟨_,c.del a,rfl,AE R n,rfl⟩,f,λk i=>.inl (pF.subset i)⟩
def pz(A:aX)(a:Int)(b:List (ByteArray×bF)):Bool:=b.any (λp=>decide (a<eE (A.aE p.1)))
def aX.nL(A:aX)(n:Int)(a:List (ByteArray×bF)):aX:=
 {A with now:=A.now+1,af:=del A.af n,keys:=ib A.keys (a.map (·.1)),aE:=λk=>if(aD a k).isSome then A.aE k++[km a (A.now+1) k]else A.aE k}
def aX.bZ(A:aX)(n:Int):Int×Int:=
 match aD A.af n with
 |none=>(0,1)
 |some x=>if x.2=[]then(x.1,0)else if A.now<1000000000 then(if pz A x.1 x.2=true then(0,4)else(A.now+1,0))else(0,3)
def aX.dS(A:aX)(n:Int):aX:=
 match aD A.af n with
 |none=>A
 |some x=>if x.2=[]then A.ended n else if A.now<1000000000 then(if pz A x.1 x.2=true then A.ended n else A.nL n x.2)else A
theorem Lu{A:aX}(n:Int)(h:ml N w b A F)(hN:N<=100000000000):ba prog 29 #[X (V ⟨b,0,Y⟩),Z U n] w λe K=>e=ay (bt #[Z U (A.bZ n).1,Z U (A.bZ n).2])/\gT (N+30) b (A.dS n) F w K:=by
 have hG:=h;obtain⟨R,a,rfl,rfl,rfl⟩:=h;unfold aX.bZ aX.dS;rw[jZ];cases hx:aD R.af n with
 |none=>
  refine(Cb R n w a.st hx).mono ?_;rintro e K ⟨rfl,m⟩;exact⟨rfl,hG.after (by omega) m⟩
 |some x=>
  simp only[uW];have B:=bj hx;by_cases z:x.ar=[]
  ·rw[fy z,fy z];refine(Aw R n x w a.st hx z).mono ?_;rintro e K ⟨rfl,m,f⟩;exact⟨rfl,_,⟨_,(a.del m).more (by omega),rfl,AE R n,rfl⟩,f,λk d=>.inl (pF.subset d)⟩
  ·rw[el z,el z];by_cases i:R.gE.now<1000000000
   ·have j:R.now<1000000000:=i;have a7:=a.mX;have a9:=a.xL;rw[fy i,fy i];refine(Cc R n x w a.st a.cD a.tied hx z j (by omega)).mono ?_;rintro e K ⟨ks,hr,hp,H⟩;have l:∀k,k∈ks↔k∈x.ar.map (·.1):=λk=>hp.mem_iff;have a5:ks.length<=30:=by have m:=hp.length_eq;have f:=a.cD.writes30 _ B;simp at m f;omega
    have s:∀k∈ks,dw k=true/\fM ((aD x.ar k).getD bF.zero).value=true:=λk d=>by have u:=(l k).1 d;obtain⟨v,hv⟩:=QV.1 ((ff x.ar k).2 u);obtain⟨q1,q2,_⟩:=a.cD.nF _ B _ (bj hv);exact⟨q1,by rw[hv];exact q2⟩
    rcases H with⟨⟨k,d,a1⟩,rfl,r,m,f,M,T,h5⟩|⟨a0,rfl,c,m,f,M,T⟩
    ·have o:pz R.gE x.aI x.ar=true:=by unfold pz;rw[Rt];obtain⟨q,hq,e⟩:=fI.1 ((l k).1 d);exact⟨q,hq,by rw[e];exact mI a1⟩
     rw[fy o,fy o];have g:=f.same;have e1:r.af=Go.Proofs.YtjbkfdeldlajhaaGreatDoor.del R.af n:=by rw[g]
     have C:aw r.au=aw R.au:=by funext k;rw[f.aE];simp[bR]
     have D:r.keys=R.keys:=jd f.tied.bP a.tied.bP (λk=>by
      rw[<-bA,<-bA,f.tied.keys,a.tied.keys];have hh:∀(L:aF),il L->((aD L.au k).isSome=true↔aw L.au k≠[]):=λL t=>by
       constructor
       ·intro a4;exact oE t ((bA _ _).1 (by rw[t.keys];exact a4))
       ·intro a3;rw[<-t.keys];exact(bA _ _).2 (fJ t a3)
      rw[hh r f.tied,hh R a.tied,C])
     have et:r.total=R.total:=by unfold aF.total;rw[D,C]
     have P:=(a.cD.del n).jr f (dv m.cg) R.now ⟨ya _,a.cD.now.2⟩ (λk d=>(by cases d)) (λk d=>(by cases d));have en:{r with now:=R.now}=r:=by
      have a2:r.now=R.now:=by rw[g]
      rw[<-a2]
     rw[en]at P;refine⟨rfl,_,⟨r,⟨m,P,f.tied,?_,?_,by rw[D];omega,by rw[et];omega,?_,?_,?_,?_,?_⟩,?_,?_,rfl⟩,M,T⟩
     ·rw[g];exact a.aK
     ·rw[g];have:=a.dR;show R.aJ<=_;omega
     ·rw[g];exact a.aN
     ·have:r.cF=R.cF:=by unfold aF.cF;rw[g]
      rw[this];have:=a.du;omega
     ·rw[g];exact⟨a.fG.1,by have:=a.fG.2;show R.aB<=_;omega⟩
     ·rw[g];exact a.ji
     ·rw[g];exact a.kH
     ·rw[g]
     ·rw[<-AE];simp only[aF.gE,e1,C,D];rw[g]
    ·have o:pz R.gE x.aI x.ar=false:=by rw[SG];intro H;unfold pz at H;rw[Rt]at H;obtain⟨q,hq,e⟩:=H;have h5:=a0 q.1 ((l q.1).2 (fI.2 ⟨q,hq,rfl⟩));have h6:x.aI<eE (aw R.au q.1):=RC e;omega
     rw[el (by rw[o];simp),el (by rw[o];simp)];have g:=f.same;have ew:c.af=R.af:=by rw[g]
     have a8:=xM a.tied f;have P:=a.cD.jr f (dv m.cg) (R.now+1) ⟨by omega,by omega⟩ (λk d=>(s k d).1) (λk d=>⟨(s k d).2,rfl,by omega⟩);have W:=P.del n;have C:aw c.au=λk=>if(aD x.ar k).isSome then aw R.au k++[km x.ar (R.now+1) k]else aw R.au k:=by funext k;rw[f.aE,JC hp]
     have D:c.keys=ib R.keys (x.ar.map (·.1)):=jd f.tied.bP (eY _ a.tied.bP) (λk=>by
      rw[gy];constructor
      ·intro d;rcases zb a.tied f d with h|h
       ·exact .inr ((l k).1 h)
       ·exact .inl h
      ·intro d;refine fJ f.tied ?_;rw[C];simp only;rcases d with d|d
       ·have:=oE a.tied d;split
        ·simp
        ·exact this
       ·rw[fy ((ff _ _).2 d)];simp)
     have a6:c.keys.length<=R.keys.length+30:=by rw[D];have Q:=qz (x.ar.map (·.1)) R.keys;have S:=a.cD.writes30 _ B;simp at Q S;omega
     refine⟨rfl,_,⟨_,⟨m,?_,⟨f.tied.bP,f.tied.keys,f.tied.filled⟩,?_,?_,?_,?_,?_,?_,?_,?_,?_⟩,?_,?_,rfl⟩,M,?_⟩
     ·rw[<-ew];exact W
     ·show 0<=c.aK;rw[g];exact a.aK
     ·show c.aJ<=_;rw[g];have:=a.dR;show R.aJ<=_;omega
     ·show c.keys.length<=_;omega
     ·show c.total<=_;omega
     ·show∀p∈c.aN,_;rw[g];exact a.aN
     ·show c.cF<=_
      have:c.cF=R.cF:=by unfold aF.cF;rw[g]
      rw[this];have:=a.du;omega
     ·show 0<=c.aB/\c.aB<=_;rw[g];exact⟨a.fG.1,by have:=a.fG.2;show R.aB<=_;omega⟩
     ·show∀p∈c.aA,_/\p.1<=c.aB/\_;rw[g];exact a.ji
     ·show c.aA.length<=4;rw[g];exact a.kH
     ·show c.sb=R.sb;rw[g]
     ·have G:c.aK=R.aK/\c.aJ=R.aJ/\c.aN=R.aN/\c.aB=R.aB/\c.aA=R.aA:=by rw[g];exact⟨rfl,rfl,rfl,rfl,rfl⟩
      simp only[aF.gE,aX.nL,C,D,G.1,G.2.1,G.2.2.1,G.2.2.2.1,G.2.2.2.2];have:=nR (λy:mO=>(y.aI,y.ar)) R.af n;rw[<-this]
     ·intro k d;have u:k∈aF.fp {c with af:=Go.Proofs.YtjbkfdeldlajhaaGreatDoor.del c.af n}:=by rw[ew];exact d
      exact T k (pF.subset u)
   ·have j:R.now=1000000000:=by have:=a.cD.now.2;have M:¬R.now<1000000000:=i;omega
    rw[el i,el i];refine(Ca R n x w a.st hx z j).mono ?_;rintro e K ⟨rfl,m⟩;exact⟨rfl,hG.after (by omega) m⟩
def aX.seen(A:aX)(c:Int)(b:List (ByteArray×bF))(a:ByteArray):List (ByteArray×ByteArray):=
 ((ib A.keys (b.map (·.1))).filter (λk=>!de k a)).filterMap (gA b A.aE c)
def aX.gi(A:aX)(n:Int)(a:ByteArray)(b:Int):List (ByteArray×ByteArray)×Int:=
 match aD A.af n with
 |none=>([],1)
 |some x=>if a.size<=10 then(nA b (A.seen x.1 x.2 a),0)else([],2)
theorem PM{A:aX}(n:Int)(a:ByteArray)(c:Int)(h:ml N w b A F)(G:N<=100000000000)(q:-9223372036854775808<=c)(r:c<=9223372036854775807):ba prog 62 #[X (V ⟨b,0,Y⟩),Z U n,O a,Z U c] w λe i=>∃v,e=ay (bt #[v,Z U (A.gi n a c).2])/\Row i 68 2 v (A.gi n a c).1.length ((A.gi n a c).1.flatMap df)/\(∀g,v.ownBlock=V g->w.heap.size<=g)/\ml N i b A F/\aa n_ w i:=by
 have m:=h;obtain⟨R,d,rfl,rfl,rfl⟩:=h;unfold aX.gi;rw[jZ];cases hx:aD R.af n with
 |none=>
  refine(Kg R n a c w d.st hx).mono ?_;rintro e i ⟨rfl,j⟩;exact⟨_,rfl,Row.nil _ _ _,λg o=>by simp[Value.ownBlock]at o,m.ai j k_,j⟩
 |some x=>
  simp only[uW];by_cases s:a.size<=10
  ·rw[fy s];have B:=d.mX;refine(Kf R n x a c w d.st d.cD d.tied hx (by omega) s q r).mono ?_;rintro e i ⟨v,D,H,rfl,p,C,u,f,l,y⟩;have z:D=(ib R.keys (x.ar.map (·.1))).filter (λk=>!de k a):=by
    refine jd u.come ((eY _ d.tied.bP).sublist qs) (λk=>?_);have:=u.all k;simp only[RQ,TP]at this;rw[this,qT d.tied.bP,qT p,kB,kB,kB,gy,C.mem_iff];constructor
    ·rintro(h|h)
     ·exact⟨.inl h.1,h.2⟩
     ·exact⟨.inr h.1,h.2⟩
    ·rintro⟨h|h,t⟩
     ·exact .inl ⟨h,t⟩
     ·exact .inr ⟨h,t⟩
   rw[z]at f;exact⟨v,rfl,f,l,m.ai y k_,y⟩
  ·rw[el s];refine(Kh R n x a c w d.st hx (by omega)).mono ?_;rintro e i ⟨rfl,j⟩;exact⟨_,rfl,Row.nil _ _ _,λg o=>by simp[Value.ownBlock]at o,m.ai j k_,j⟩
theorem sH:∀(l:List (Int×Int)) (s v:Int),((put l s v).map (·.2)).sum=(l.map (·.2)).sum-(aD l s).getD 0+v
 |[],s,v=>by simp[put,aD]
 |(a,x)::r,s,v=>by
  unfold put aD;by_cases e:a=s
  ·rw[fy e,fy e];simp;omega
  ·rw[el e,el e];have:=sH r s v;simp only[mU,RH,this];omega
theorem xE:∀(l:List (Int×Int)) (s:Int),((del l s).map (·.2)).sum=(l.map (·.2)).sum-(aD l s).getD 0
 |[],s=>by simp[del,aD]
 |(a,x)::r,s=>by
  unfold del aD;by_cases e:a=s
  ·rw[fy e,fy e];simp;omega
  ·rw[el e,el e];have:=xE r s;simp only[mU,RH,this];omega
theorem pK:∀{l:List (Int×Int)} (s:Int),(∀p∈l,1<=p.2/\0<=p.1)->0<=(aD l s).getD 0/\(aD l s).getD 0<=(l.map (·.2)).sum
 |[],s,_=>by simp[aD]
 |(a,x)::r,s,h=>by
  have b:=h (a,x) (by simp);have d:=pK (l:=r) s (λp c=>h p (by simp[c]));unfold aD;simp only at b;by_cases e:a=s
  ·rw[fy e];simp only[lp,mU,RH];omega
  ·rw[el e];simp only[mU,RH];omega
theorem oS.pinned{d:ab}{aN:List (Int×Int)}{a:Option Nat}(h:oS N w R)(g:N<=b)(f:aq d {R with pm:=a,aN:=aN})(e:∀p∈aN,1<=p.2/\0<=p.1)(c:(aN.map (·.2)).sum<=b):oS b d {R with pm:=a,aN:=aN}:=
 ⟨f,⟨h.cD.now,h.cD.aJ,h.cD.dm,h.cD.numbers,h.cD.aI,h.cD.writes30,h.cD.nF,h.cD.rising,h.cD.fH,h.cD.filled,h.cD.hkeys,h.cD.wy,h.cD.sorted,h.cD.keys⟩,⟨h.tied.bP,h.tied.keys,h.tied.filled⟩,h.aK,
  by have:=h.dR;show R.aJ<=_;omega,by have:=h.mX;show R.keys.length<=_;omega,by have:=h.xL;show R.total<=_;omega,e,c,⟨h.fG.1,by have:=h.fG.2;show R.aB<=_;omega⟩,h.ji,h.kH⟩
theorem AD{c:Option Nat}{a:List (Int×Int)}{n:Nat}(h:c=R.pm\/∃q,c=V q/\n<=q):∀k∈aF.fp {R with pm:=c,aN:=a},k∈R.fp\/n<=k:=λk b=>by
 rcases h with rfl|⟨q,rfl,d⟩
 ·exact .inl b
 ·rw[(bH _).mem_iff]at b;rw[(bH R).mem_iff];simp only[cL,cT,cQ,RM]at b⊢;rcases b with h|(h|h)|h
  ·exact .inl (.inl h)
  ·right;simp at h;omega
  ·exact .inl (.inr (.inl (.inr h)))
  ·exact .inl (.inr (.inr h))
def aX.hasB(A:aX)(s:Int):Bool:=decide (A.aK<=s)&&decide (s<=A.now)
def aX.oM(A:aX)(s:Int):Int:=if A.hasB s=true then 0 else 5
def aX.nu(A:aX)(s:Int):aX:=if A.hasB s=true then{A with aN:=put A.aN s ((aD A.aN s).getD 0+1)}else A
theorem CD{l:List (Int×Int)}{s v:Int}{p:Int×Int}(a:(l.map (·.1)).Nodup)(h:p∈put l s v):p=(s,v)\/p∈l:=by
 rcases jl a h with h|⟨h,_⟩
 ·exact .inl h
 ·exact .inr h
theorem Qr{A:aX}(s:Int)(h:ml N w b A F)(r:N<=100000000000):ba prog 33 #[X (V ⟨b,0,Y⟩),Z U s] w λe f=>e=ay (Z U (A.oM s))/\gT (N+1) b (A.nu s) F w f:=by
 have o:=h;obtain⟨R,a,rfl,rfl,rfl⟩:=h;have g:R.gE.hasB s=(decide (R.aK<=s)&&decide (s<=R.now)):=rfl;unfold aX.oM aX.nu;cases hb:(decide (R.aK<=s)&&decide (s<=R.now))with
 |false=>
  rw[g,hb];refine(Oj R s w a.st hb).mono ?_;rintro e f ⟨rfl,c⟩;exact⟨rfl,o.after (by omega) c⟩
 |true=>
  rw[g,hb];simp only[Rz];have j:=pK s a.aN;have l:=a.du;unfold aF.cF at l;have m:0<=s:=by have c:=(Tu.1 hb).1;have i:=RC c;have:=a.aK;omega
  have d:ba prog 33 #[X (V ⟨R.sb,0,Y⟩),Z U s] w λe f=>e=ay (Z U 0)/\kJ R (put R.aN s ((aD R.aN s).getD 0+1)) w f:=by
   cases hpm:R.pm with
   |some b0=>exact MC R s w a.st b0 hpm hb j.1 (by omega)
   |none=>
    refine(Om R s w a.st hpm hb).mono ?_;rintro e f ⟨rfl,c,i⟩;refine⟨rfl,?_⟩;rw[c];exact i
  refine d.mono ?_;rintro e f ⟨rfl,t,c,i,n⟩;have k:∀p∈put R.aN s ((aD R.aN s).getD 0+1),1<=p.2/\0<=p.1:=λp q=>by
   rcases CD (qY a.st) q with rfl|h
   ·exact⟨by show 1<=(aD R.aN s).getD 0+1;omega,m⟩
   ·exact a.aN p h
  exact⟨rfl,_,⟨_,a.pinned (by omega) c k (by rw[sH];omega),rfl,rfl,rfl⟩,i,AD n⟩
def aX.mC(A:aX)(s:Int):Int:=if(aD A.aN s).getD 0=0 then 1 else 0
def aX.iW(A:aX)(s:Int):aX:=if(aD A.aN s).getD 0=0 then A else if(aD A.aN s).getD 0=1 then{A with aN:=del A.aN s}else{A with aN:=put A.aN s ((aD A.aN s).getD 0-1)}
theorem Oy{A:aX}(s:Int)(h:ml N w b A F)(t:N<=100000000000):ba prog 35 #[X (V ⟨b,0,Y⟩),Z U s] w λe f=>e=ay (Z U (A.mC s))/\gT N b (A.iW s) F w f:=by
 have o:=h;obtain⟨R,a,rfl,rfl,rfl⟩:=h;have q:=pK s a.aN;have j:=a.du;unfold aF.cF at j;have n:R.gE.aN=R.aN:=rfl;unfold aX.mC aX.iW;rw[n];by_cases c:(aD R.aN s).getD 0=0
 ·rw[fy c,fy c];refine(Gr R s w a.st c).mono ?_;rintro e f ⟨rfl,d⟩;exact⟨rfl,o.after (eb _) d⟩
 ·rw[el c,el c];by_cases d:(aD R.aN s).getD 0=1
  ·rw[fy d];refine(Gp R s w a.st d).mono ?_;rintro e f ⟨rfl,r,k,l,m⟩;exact⟨rfl,_,⟨_,a.pinned (eb _) k (λp g=>a.aN p ((dC _ _).subset g)) (by rw[xE];omega),rfl,rfl,rfl⟩,l,AD m⟩
  ·rw[el d];refine(Gq R s _ w a.st rfl (by omega) (by omega)).mono ?_;rintro e f ⟨rfl,r,k,l,m⟩;have i:∀p∈put R.aN s ((aD R.aN s).getD 0-1),1<=p.2/\0<=p.1:=λp g=>by
    rcases CD (qY a.st) g with rfl|h
    ·refine⟨by show 1<=(aD R.aN s).getD 0-1;omega,?_⟩;cases hl:aD R.aN s with
     |none=>rw[hl]at c;exact absurd rfl c
     |some v=>exact(a.aN _ (bj hl)).2
    ·exact a.aN p h
   exact⟨rfl,_,⟨_,a.pinned (eb _) k i (by rw[sH];omega),rfl,rfl,rfl⟩,l,AD m⟩
theorem Mg{A:aX}(h:ml N w b A F)(m:N<=100000000000):ba prog 10 #[X (V ⟨b,0,Y⟩)] w λe f=>e=ay (.agg #[Z U A.now,Z U A.aK,Z U A.af.length,Z U A.cF,Z U A.total,Z U A.aA.length])/\ml N f b A F/\aa n_ w f:=by
 have i:=h;obtain⟨R,d,rfl,rfl,rfl⟩:=h;have k:=d.du;have l:=d.xL;refine(JA R w d.st (·=R.cF) (·=(R.total:Int)) (λW a=>?_) (λW a=>?_)).mono ?_
 ·refine(Bx R W (d.st.ai a k_) (λp j=>by have:=(d.aN p j).1;omega) (by omega)).mono ?_;rintro e f ⟨rfl,a⟩;exact⟨_,rfl,rfl,a⟩
 ·refine(IP R W (d.st.ai a k_) d.tied (by omega)).mono ?_;rintro e f ⟨rfl,a⟩;exact⟨_,rfl,rfl,a⟩
 ·rintro e f ⟨⟨p,c,rfl,rfl,rfl⟩,a⟩;have g:R.gE.af.length=R.af.length:=by simp[aF.gE]
  rw[g];exact⟨rfl,i.ai a k_,a⟩
def leastOf(c:Int)(d:List Int):Int:=d.foldl (λa b=>if b<a then b else a) c
theorem jG:∀(c:List Int) (a:Int),jL a c (leastOf a c)
 |[],a=>⟨ya _,λb j=>(by cases j),.inl rfl⟩
 |b::c,a=>by
  obtain⟨m,f⟩:∃m,m=if b<a then b else a:=⟨_,rfl⟩
  have h:=jG c m;have e:leastOf a (b::c)=leastOf m c:=by rw[f];rfl
  rw[e];obtain⟨k,i,d⟩:=h;generalize leastOf m c=M at*;refine⟨by split at f<;>omega,λx g=>?_,?_⟩
  ·rcases cT.1 g with rfl|g
   ·split at f<;>omega
   ·exact i x g
  ·rcases d with d|d
   ·split at f
    ·exact .inr (by rw[d,f];simp)
    ·exact .inl (by rw[d,f])
   ·exact .inr (ef _ d)
theorem sh{c:Int}{f:List Int}{a b:Int}(h:jL c f a)(k:jL c f b):a=b:=by
 obtain⟨g,i,d⟩:=h;obtain⟨j,l,e⟩:=k;have m:a<=b:=by rcases e with rfl|e;exact g;exact i b e
 have n:b<=a:=by rcases d with rfl|d;exact j;exact l a d
 omega
def aX.least(A:aX):Int:=leastOf A.now A.held
def aX.mB(A:aX):Int:=((A.keys.map (λk=>cO (A.aE k) A.least)).sum:Nat)
def aX.dX(A:aX):aX:={A with aK:=A.least,keys:=A.keys.filter (λk=>decide (cO (A.aE k) A.least<(A.aE k).length)),aE:=λk=>(A.aE k).drop (cO (A.aE k) A.least)}
theorem Ow{A:aX}(h:ml N w b A F)(hN:N<=100000000000):ba prog 37 #[X (V ⟨b,0,Y⟩)] w λe S=>e=ay (Z U A.mB)/\gT N b A.dX F w S:=by
 obtain⟨R,c,rfl,rfl,rfl⟩:=h;have a0:=c.mX;have a2:=c.xL;refine(Kw R w c.st c.cD c.tied (by omega) (by omega)).mono ?_;rintro e S ⟨L,rfl,M,a,vl,H,h2,h3,t,h5,h6⟩;have o:R.gE.least=L:=by have K:=jG R.gE.held R.gE.now;rw[Cr]at K;unfold aX.least;rw[Cr];exact sh K M
 have z:0<=L:=by
  rcases M.2.2 with rfl|j
  ·exact c.cD.now.1
  ·unfold aF.held at j;rcases cQ.1 j with j|j
   ·rcases cQ.1 j with j|j
    ·obtain⟨p,i,rfl⟩:=fI.1 j;exact(c.cD.aI p i).1
    ·obtain⟨p,i,rfl⟩:=fI.1 j;exact(c.aN p i).2
   ·obtain⟨p,i,rfl⟩:=fI.1 j;have:=(c.ji p i).2.2;unfold bB.lQ;split
    ·exact this.PR.1
    ·exact this.aH.1
 have y:∀k,aw a k=(aw R.au k).drop (cO (aw R.au k) L):=λk=>by
  rw[h2 k];cases j:bR R.keys k with
  |true=>simp
  |false=>
   have e:aw R.au k=[]:=by apply RF;intro C;have:=(bA _ _).2 (fJ c.tied C);rw[j]at this;cases this
   simp[e]
 have B:=dv H.cg;have m:∀p∈a,p.2.aE=(aw R.au p.1).drop (cO (aw R.au p.1) L):=λp i=>by rw[<-y];exact(mg B i).2.symm
 have q:∀k,k∈eF R L R.keys.length↔(aD a k).isSome=true:=λk=>by
  unfold eF;rw[RG,kB];constructor
  ·rintro⟨_,u⟩;have a1:cO (aw R.au k) L<(aw R.au k).length:=by simpa[ku]using u
   cases hl:aD a k with
   |some x=>rfl
   |none=>
    have e:=y k;have T:aw a k=[]:=by unfold aw;rw[hl];rfl
    rw[T]at e;have:=Rc List.length e;simp at this;omega
  ·intro u;obtain⟨x,Q⟩:=QV.1 u;have D:=h3 k u;refine⟨(bA _ _).1 (by rw[c.tied.keys];exact D),?_⟩;have r:=t _ (bj Q);have e:=m _ (bj Q);simp only at r e;have s:0<x.aE.length:=Rq.2 r;rw[e,mR]at s;simp only[ku,tT];omega
 have g:(eF R L R.keys.length).Sublist R.keys:=by unfold eF;rw[RG];exact qs
 have d:=λk=>qd c.cD k;have W:eF R L R.keys.length=R.gE.dX.keys:=by unfold eF aX.dX;rw[RG,o];rfl
 have ev:aw a=R.gE.dX.aE:=by funext k;rw[y k];unfold aX.dX;rw[o];rfl
 have er:R.gE.mB=(jV R L R.keys.length:Nat):=by unfold aX.mB jV;rw[RG,o];rfl
 have P:(((eF R L R.keys.length).map (λk=>(aw a k).length)).sum)<=R.total:=by have q1:=kl (f:=λk=>(aw a k).length) (l:=eF R L R.keys.length) (l0:=R.keys) ((fK c.tied.bP).sublist g) (λk hk _=>g.subset hk);have q2:=rh (λk=>(aw a k).length) (λk=>(aw R.au k).length) (λk=>by rw[y k,mR];omega) R.keys;unfold aF.total;omega
 refine⟨by rw[er],_,⟨_,⟨H,?_,?_,z,c.dR,?_,?_,c.aN,c.du,c.fG,c.ji,c.kH⟩,rfl,?_,rfl⟩,h5,h6⟩
 ·refine⟨c.cD.now,c.cD.aJ,c.cD.dm,c.cD.numbers,c.cD.aI,c.cD.writes30,c.cD.nF,λp i=>?_,λp i v n=>?_,t,λp i=>?_,λp i v n=>?_,c.cD.sorted.sublist g,λk=>?_⟩
  ·rw[m p i];exact(d p.1).1.sublist (Tm _ _)
  ·rw[m p i]at n;exact((d p.1).2.1 v ((Tm _ _).subset n)).1
  ·refine(d p.1).2.2 (λe=>?_);have G:=m p i;rw[e]at G;exact t p i (by simpa using G)
  ·rw[m p i]at n;exact((d p.1).2.1 v ((Tm _ _).subset n)).2
  ·rw[q k];exact QV
 ·refine⟨c.tied.bP.sublist g,λk=>?_,t⟩;rw[QT,bA];exact q k
 ·have:=g.length_le;show(eF R L R.keys.length).length<=N;omega
 ·show((eF R L R.keys.length).map (λk=>(aw a k).length)).sum<=N;omega
 ·show(⟨R.now,L,R.aJ,R.af.map (λp=>(p.1,(p.2.aI,p.2.ar))),R.aN,R.aB,R.aA,eF R L R.keys.length,aw a⟩:aX)=R.gE.dX;rw[W,ev];unfold aX.dX;rw[o];rfl
theorem nY(s:ByteArray)(w:ab)(a:s.size<=maxLen):ba prog 69 #[O s] w λe b=>e=ay (ao (dw s))/\b=w:=by
 unfold maxLen at a;go_enter func69,ntmps69;go_wp2;all_goals go_ret
 all_goals
  refine⟨cR ?_,rfl⟩;unfold dw;rw[QT];simp;omega
theorem nZ(s:ByteArray)(w:ab)(a:s.size<=maxLen):ba prog 73 #[O s] w λe b=>e=ay (ao (fM s))/\b=w:=by
 unfold maxLen at a;go_enter func73,ntmps73;go_wp2;all_goals go_ret
 refine⟨cR ?_,rfl⟩;unfold fM;rw[QT];simp;omega
theorem pP(l:List an)(r:an):(aS l r).length<=l.length+1:=by
 have:=jn l r;unfold aS;cases h:(fa l r).2 with
 |true=>rw[h]at this;simpa using this
 |false=>rw[h]at this;simp at this⊢;omega
def Bp(a to:Int)(v:bq):Bool:=decide (a<v.aG)&&decide (v.aG<=to)
def aT(b:List bq)(a to:Int):List an:=(b.filter (Bp a to)).foldl (λl v=>aS l v.r) []
theorem yj(b:List bq)(v:bq)(a to:Int):aT (b++[v]) a to=if Bp a to v=true then aS (aT b a to) v.r else aT b a to:=by unfold aT;rw[yv,Ri];cases h:Bp a to v<;>simp[h]
theorem kI:∀(l:List bq) (s:List an),(l.foldl (λl v=>aS l v.r) s).length<=s.length+l.length
 |[],s=>by simp
 |v::l,s=>by have a:=kI l (aS s v.r);have b:=pP s v.r;simp only[yk,fN];omega
theorem gC(b:List bq)(a to:Int):(aT b a to).length<=b.length:=by have:=kI (b.filter (Bp a to)) [];have c:=Rp (Bp a to) b;unfold aT;simp only[pa]at this;omega
theorem eo{α:Type}{l:List α}{k:Nat}{x:α}(b:l[k]?=V x):l.take (k+1)=l.take k++[x]:=by obtain⟨a,rfl⟩:=ej.1 b;exact eu a
theorem ph(R:aM)(a to:Int)(w:ab)(h:aY w R)(L:R.all.length<1000000000000):ba prog 113 #[X (V ⟨R.b,0,Y⟩),Z U a,Z U to] w λe w'=>∃v,e=ay v/\jg w w' v (aT R.all a to):=by
 obtain⟨oa,S,f,M,N⟩:=h.all.form;have G:w.cell? ⟨R.b,0,Y⟩=V (J oa R.all.length S):=(h.cell 0).trans (by rw[<-f];rfl);have t:=E h.all;rw[f]at t;have u:=E N;have H:=h.blt;unfold maxLen at M;obtain⟨l,n⟩:∃l,l=R.all:=⟨_,rfl⟩
 rw[<-n]at G t u M L⊢;have Q:=E L;clear h f n N;generalize R.b=b at*;go_enter func113,ntmps113;go_wp2_with fail;go_loopw [7,8] (λv i wr=>∃k:Nat,k<=l.length/\i=Z U k/\jg w wr v (aT (l.take k) a to)) (λ_ i _=>l.length-(intOf i).toNat)
 case atStart=>exact⟨0,eL _,rfl,Made.nil (aa.refl _ _)⟩
 case round=>
  obtain⟨k,hk,rfl,s⟩:=hrel;obtain⟨ob,cb,rfl,-,-⟩:=s.row.form;have d0:=s.keep.cell (p:=⟨b,0,Y⟩) G id;have j:=E s;clear s;by_cases A:k<l.length
  ·obtain⟨g,rfl⟩:=u.o (by omega);obtain⟨x,B⟩:∃x,l[k]?=V x:=⟨l[k],ec A⟩
   obtain⟨T,W,e2,e3,e4⟩:=tW t.o j.o.keep B;have r:=E (show aT (l.take (k+1)) a to=_ by rw[eo B,yj]);have a1:=gC (l.take k) a to;have a0:=wj k l;obtain⟨o,⟨D,F,C⟩,th⟩:=x;have d:=E (lD _ (aT (l.take k) a to) ⟨D,F,C⟩ wr j.o.row (by have:=Q.o;omega));simp only[an.val]at d T W e2 e3 e4;generalize aT (l.take k) a to=out at*;clear B u;by_cases c:a<o/\o<=to
   ·have q:QS (aT (l.take (k+1)) a to=aS out ⟨D,F,C⟩):=by show _=_;rw[r.o];simp[Bp,c.1,c.2]
    obtain⟨m,z⟩:=c;clear r;go_wp2_with(go_at_call 74;go_must(refine(d.o).mono ?_;rintro e w1 ⟨v1,rfl,y⟩))
    exact⟨⟨k+1,by omega,by go_num,by rw[q.o];exact y.from j.o.keep⟩,by simp only[intOf];omega⟩
   ·have q:QS (aT (l.take (k+1)) a to=out):=by
     show _=_;rw[r.o]
     have:(Bp a to ⟨o,⟨D,F,C⟩,th⟩)=false:=by rw[SG];intro K;simp only[Bp,ss,tT]at K;exact c K
     rw[this];rfl
    clear r d;by_cases m:a<o
    ·have z:¬o<=to:=λh=>c ⟨m,h⟩;clear c;go_wp2;exact⟨⟨k+1,by omega,by go_num,by rw[q.o];exact j.o⟩,by simp only[intOf];omega⟩
    ·clear c;go_wp2;exact⟨⟨k+1,by omega,by go_num,by rw[q.o];exact j.o⟩,by simp only[intOf];omega⟩
  ·have e:aT l a to=aT (l.take k) a to:=by rw[ep (by omega)]
   have P:=E e;clear e;go_wp2;go_ret;rw[P.o];exact⟨_,rfl,j.o⟩
def iL(c:List bq)(b:Int)(a:List an):List an:=bc (a.foldl aS (aT c (-1) b))
theorem gX:∀(l s:List an),(l.foldl aS s).length<=s.length+l.length
 |[],s=>by simp
 |v::l,s=>by have a:=gX l (aS s v);have b:=pP s v;simp only[yk,fN];omega
theorem Dm(R:aM)(s a:Int)(N:ax)(b:List an)(w:ab)(h:aY w R)(L:R.all.length<100000000000)(D:fE w N b)(q:b.length<100000000000):ba prog 71 #[X (V ⟨R.b,0,Y⟩),.agg #[Z U s,Z U a,N]] w λe w'=>∃v,e=ay v/\jg w w' v (iL R.all a b):=by
 obtain⟨G,B,rfl,hm,M⟩:=Row.form D;have j:aa n_ w (w.alloc (I #[Z U s,Z U a,J G b.length B] 128)):=aa.alloc _ _ _;have t:=E (ph R (-1) a _ (h.ai j k_) (by omega));have y:=E (az w (I #[Z U s,Z U a,J G b.length B] 128));have Q:=E (Row.ai D j k_);have o:=gC R.all (-1) a;obtain⟨c,f⟩:∃c,c=aT R.all (-1) a:=⟨_,rfl⟩
 rw[<-f]at t o;have u:=E f;have K:=E M;have H:=E (And.intro L q);clear f;unfold maxLen at hm;clear h D M L q;go_enter func71,ntmps71;go_wp2_with(go_at_call 113;go_must(refine(t.o).mono ?_;rintro e w1 ⟨v1,rfl,n⟩))
 have z:=E n;clear n t;go_loopw [5,6] (λv i wr=>∃k:Nat,k<=b.length/\i=Z U k/\jg (w.alloc (I #[Z U s,Z U a,J G b.length B] 128)) wr v ((b.take k).foldl aS c)) (λ_ i _=>b.length-(intOf i).toNat)
 case atStart=>exact⟨0,eL _,rfl,z.o⟩
 case round=>
  obtain⟨k,hk,rfl,r⟩:=hrel;obtain⟨ob,cb,rfl,-,-⟩:=r.row.form;have p:=(r.keep.block w.heap.size (by simp) id).trans y.o;have T:=ae p 2;simp at T;have l:=E r;have a1:=gX (b.take k) c;have a0:=wj k b;clear r p;by_cases C:k<b.length
  ·obtain⟨g,rfl⟩:=K.o (by omega);obtain⟨x,F⟩:∃x,b[k]?=V x:=⟨b[k],ec C⟩
   obtain⟨W,e1,e2⟩:=ot Q.o l.o.keep F;have S:=E (show(b.take (k+1)).foldl aS c=aS ((b.take k).foldl aS c) x by rw[eo F,Ri];rfl);obtain⟨rk,rv,rg⟩:=x;have m:=E (lD _ ((b.take k).foldl aS c) ⟨rk,rv,rg⟩ wr l.o.row (by have:=H.o;omega));simp only[an.val]at m W e1 e2;generalize (b.take k).foldl aS c=out at*;clear F K;go_wp2_with(go_at_call 74;go_must(refine(m.o).mono ?_;rintro e w2 ⟨v2,rfl,d⟩))
   exact⟨⟨k+1,by omega,by go_num,by rw[S.o];exact d.from l.o.keep⟩,by simp only[intOf];omega⟩
  ·have e:iL R.all a b=bc ((b.take k).foldl aS c):=by unfold iL;rw[<-u.o,ep (by omega)]
   have P:=E e;have A:=E (kS _ _ wr l.o.row (by have:=H.o;omega));clear e;generalize (b.take k).foldl aS c=out at*;go_wp2_with(go_at_call 108;go_must(refine(A.o).mono ?_;rintro e w2 ⟨v2,rfl,d⟩))
   go_ret;rw[P.o];exact⟨_,rfl,(d.from l.o.keep).from j⟩
def GQ:Option an->ByteArray×Int
 |some r=>(r.value,0)
 |none=>(ByteArray.empty,1)
def wv(l:List an)(a:ByteArray):ByteArray×Int:=GQ (cV l a)
theorem oz(b:List bq)(a:Int)(c:List an):(iL b a c).length<=b.length+c.length:=by unfold iL bc;have d:=Rp (λr:an=>!r.aO) (c.foldl aS (aT b (-1) a));have e:=gX c (aT b (-1) a);have f:=gC b (-1) a;omega
theorem Jg(R:aM)(b:Int)(c:ByteArray)(w:ab)(h:aY w R)(g:R.af.length<1000000000000)(f:fc R.af b=Y):ba prog 25 #[X (V ⟨R.b,0,Y⟩),Z U b,O c] w λe i=>e=ay (bt #[O ByteArray.empty,Z U 1])/\aa n_ w i:=by
 have a:=fj R b w h g;rw[f]at a;have d:=E a;clear a f h;simp only[rZ]at d;go_enter func25,ntmps25;go_wp2_with(go_at_call 68;go_must(refine(d.o).mono ?_;rintro e j ⟨rfl,rfl⟩))
 go_ret2;exact⟨rfl,aa.refl _ _⟩
theorem Jh(R:aM)(B:Int)(a:ByteArray)(k:Nat)(x:iY)(w:ab)(h:aY w R)(hl:R.af.length<100000000000)(P:R.all.length<100000000000)(F:fc R.af B=V k)(y:R.af[k]?=V x)(hw:x.ar.length<100000000000)(G:a.size<=maxLen):ba prog 25 #[X (V ⟨R.b,0,Y⟩),Z U B,O a] w λe t=>e=ay (bt #[O (if dw a=true then wv (iL R.all x.aI x.ar) a else(ByteArray.empty,2)).1,Z U (if dw a=true then wv (iL R.all x.aI x.ar) a else(ByteArray.empty,2)).2])/\aa n_ w t:=by
 have m:=fj R B w h (by omega);rw[F]at m;have u:=E m;simp only[rZ]at u;have p:x∈R.af:=hH y;have Q:k<R.af.length:=(ej.1 y).1;obtain⟨oa,K,o,S,H⟩:=h.af.form;obtain⟨g,rfl⟩:=H (by omega);have c3:w.cell? ⟨R.b,3,Y⟩=V (J (V ⟨g,0,Y⟩) R.af.length K):=(h.cell 3).trans (by rw[<-o];rfl);have j:=h.af;rw[o]at j;obtain⟨d0,d1,N⟩:=pX j (aa.refl _ w) y;have f:=E (Dm R x.id x.aI x.sl x.ar w h P (h.ar x p) hw);have A:=oz R.all x.aI x.ar;have c:QS (∀W,ba prog 69 #[O a] W λe t=>e=ay (ao (dw a))/\t=W):=λW=>nY a W G;unfold maxLen at S;obtain⟨L,D⟩:∃L,L=iL R.all x.aI x.ar:=⟨_,rfl⟩
 rw[<-D]at f A⊢;obtain⟨a0,M,l,-,-⟩:=Row.form (h.ar x p);rw[l]at f N;clear m F h y p H o j G D l;generalize x.aI=bg at*;generalize x.id=xi at*;generalize x.ar.length=wl at*;cases hkb:dw a with
 |false=>
  rw[hkb]at c;clear hkb f;go_enter func25,ntmps25;go_wp2_with(first
   |(go_at_call 68;go_must(refine(u.o).mono ?_;rintro e s ⟨rfl,rfl⟩))
   |(go_at_call 69;go_must(refine(c.o _).mono ?_;rintro e s ⟨rfl,rfl⟩)))
  go_ret2;exact⟨rfl,aa.refl _ _⟩
 |true=>
  rw[hkb]at c;simp only[Rz];clear hkb;obtain⟨q,z⟩:∃q,q=cV L a:=⟨_,rfl⟩
  have C:QS (wv L a=GQ q):=by show _=_;rw[z];rfl
  have b:QS (∀v W,fE W v L->ba prog 70 #[v,O a] W λe t=>e=ay (bt #[(q.getD an.zero).val,ao q.isSome])/\aa n_ W t):=λv W T=>by rw[z];exact rX v L a W T (by omega)
  rw[C.o];clear z C;cases q with
  |none=>
   simp only[yg,Rk,an.val,an.zero]at b;go_enter func25,ntmps25;go_wp2_with(first
    |(go_at_call 68;go_must(refine(u.o).mono ?_;rintro e s ⟨rfl,rfl⟩))
    |(go_at_call 69;go_must(refine(c.o _).mono ?_;rintro e s ⟨rfl,rfl⟩))
    |(go_at_call 71;go_must(refine(f.o).mono ?_;rintro e s ⟨v1,rfl,i⟩;have d:=E i;clear i))
    |(go_at_call 70;go_must(refine(b.o _ _ d.o.row).mono ?_;rintro e w2 ⟨rfl,n⟩)))
   go_ret2;exact⟨rfl,(d.o.keep.tr n i_).al _⟩
  |some r=>
   obtain⟨rk,rv,rg⟩:=r;simp only[lp,Ra,an.val]at b;go_enter func25,ntmps25;go_wp2_with(first
    |(go_at_call 68;go_must(refine(u.o).mono ?_;rintro e s ⟨rfl,rfl⟩))
    |(go_at_call 69;go_must(refine(c.o _).mono ?_;rintro e s ⟨rfl,rfl⟩))
    |(go_at_call 71;go_must(refine(f.o).mono ?_;rintro e s ⟨v1,rfl,i⟩;have d:=E i;clear i))
    |(go_at_call 70;go_must(refine(b.o _ _ d.o.row).mono ?_;rintro e w2 ⟨rfl,n⟩)))
   go_ret2;exact⟨rfl,(d.o.keep.tr n i_).al _⟩
def ma(l:List an):List (ByteArray×ByteArray):=l.map (λr=>(r.key,r.value))
def fF(l:List an)(a:ByteArray)(b:Int):List (ByteArray×ByteArray):=nA b (ma (l.filter (λr=>!de r.key a)))
theorem Dj(l:List an)(r:an)(b:ByteArray)(a:Int)(g:-9223372036854775808<=a):fF (l++[r]) b a=if de r.key b=false/\(a<0\/((fF l b a).length:Int)<a)then fF l b a++[(r.key,r.value)]else fF l b a:=by
 have _:=g;unfold fF;rw[yv];cases h:de r.key b with
 |true=>simp[h]
 |false=>
  simp only[h,RS,TO,Rz,List.filter_nil,true_and];generalize l.filter (λr=>!de r.key b)=m;unfold ma nA;rw[xT];generalize m.map (λr=>(r.key,r.value))=z;simp only[mU,RY];by_cases e:a<0
  ·simp[e]
  ·simp only[e,RL,false_or];rw[List.take_append];by_cases c:((z.take a.toNat).length:Int)<a
   ·rw[fy c];have f:z.length<a.toNat:=by rw[js]at c;omega
    have d:a.toNat-z.length=(a.toNat-z.length-1)+1:=by omega
    rw[d];simp
   ·rw[el c];have f:a.toNat<=z.length:=by rw[js]at c;omega
    have d:a.toNat-z.length=0:=by omega
    rw[d];simp
theorem yH(l:List an)(a:ByteArray)(b:Int):(fF l a b).length<=l.length:=by
 unfold fF nA ma;have:=Rp (λr:an=>!de r.key a) l;split
 ·simpa using this
 ·rw[js,hO];omega
abbrev mH(w W:ab)(v:ax)(l:List (ByteArray×ByteArray)):Prop:=Made 68 2 df w W v l
theorem FT(R:aM)(d:Int)(a:ByteArray)(c:Int)(w:ab)(h:aY w R)(i:R.af.length<1000000000000)(g:fc R.af d=Y):ba prog 63 #[X (V ⟨R.b,0,Y⟩),Z U d,O a,Z U c] w λe j=>e=ay (bt #[J Y 0 0,Z U 1])/\aa n_ w j:=by
 have b:=fj R d w h i;rw[g]at b;have f:=E b;clear b g h;simp only[rZ]at f;go_enter func63,ntmps63;go_wp2_with(go_at_call 68;go_must(refine(f.o).mono ?_;rintro e k ⟨rfl,rfl⟩))
 go_ret2;exact⟨rfl,aa.refl _ _⟩
theorem FV(R:aM)(f:Int)(a:ByteArray)(c:Int)(k:Nat)(w:ab)(h:aY w R)(j:R.af.length<1000000000000)(i:fc R.af f=V k)(n:10<a.size)(d:a.size<=maxLen):ba prog 63 #[X (V ⟨R.b,0,Y⟩),Z U f,O a,Z U c] w λe l=>e=ay (bt #[J Y 0 0,Z U 2])/\aa n_ w l:=by
 have b:=fj R f w h j;rw[i]at b;have g:=E b;clear b i h;simp only[rZ]at g;unfold maxLen at d;have m:decide (10<(a.size:Int))=true:=mI (by omega);go_enter func63,ntmps63;go_wp2_with(go_at_call 68;go_must(refine(g.o).mono ?_;rintro e o ⟨rfl,rfl⟩))
 go_ret2;exact⟨rfl,aa.refl _ _⟩
theorem FU(R:aM)(id:Int)(b:ByteArray)(c:Int)(k:Nat)(x:iY)(w:ab)(h:aY w R)(hl:R.af.length<100000000000)(ha:R.all.length<100000000000)(hf:fc R.af id=V k)(hx:R.af[k]?=V x)(hw:x.ar.length<100000000000)(hs:b.size<=10)(a2:-9223372036854775808<=c)(b1:c<=9223372036854775807):ba prog 63 #[X (V ⟨R.b,0,Y⟩),Z U id,O b,Z U c] w λe w'=>∃v,e=ay (bt #[v,Z U 0])/\mH w w' v (fF (iL R.all x.aI x.ar) b c):=by
 have C:=fj R id w h (by omega);rw[hf]at C;have HF:=E C;simp only[rZ]at HF;have F:x∈R.af:=hH hx;have b0:k<R.af.length:=(ej.1 hx).1;obtain⟨oa,ca,D,hm,sa⟩:=h.af.form;obtain⟨g,rfl⟩:=sa (by omega);have c3:w.cell? ⟨R.b,3,Y⟩=V (J (V ⟨g,0,Y⟩) R.af.length ca):=(h.cell 3).trans (by rw[<-D];rfl);have n:=h.af;rw[D]at n;obtain⟨d0,d1,d2⟩:=pX n (aa.refl _ w) hx;have q:=E (Dm R x.id x.aI x.sl x.ar w h ha (h.ar x F) hw);have a3:=oz R.all x.aI x.ar;unfold maxLen at hm;obtain⟨L,hL⟩:∃L,L=iL R.all x.aI x.ar:=⟨_,rfl⟩
 rw[<-hL]at q a3⊢;obtain⟨b3,a4,z,-,-⟩:=Row.form (h.ar x F);rw[z]at q d2;have a8:decide (10<(b.size:Int))=false:=kg (by omega);obtain⟨i0,hi,P,Q,S⟩:=info_parts Tryz.wC;have N:L.length<1000000000000:=by omega
 have HL:=E N;clear C hf h hx F sa D n hL z N;generalize x.aI=bg at*;generalize x.id=xi at*;generalize x.ar.length=wl at*;go_enter func63,ntmps63;go_wp2_with(first
  |(go_at_call 68;go_must(refine(HF.o).mono ?_;rintro e w1 ⟨rfl,rfl⟩))
  |(go_at_call 71;go_must(refine(q.o).mono ?_;rintro e w1 ⟨v1,rfl,A⟩;obtain⟨ol,cl,rfl,a0,sl⟩:=A.row.form;have p:=E A;clear A)))
 have SL:=E sl;unfold maxLen at a0;clear sl q HF;go_loopw [12,13] (λv i wr=>∃k:Nat,k<=L.length/\i=Z U k/\mH w1 wr v (fF (L.take k) b c)) (λ_ i _=>L.length-(intOf i).toNat)
 case atStart=>exact⟨0,eL _,rfl,by have:fF (L.take 0) b c=[]:=(by simp[fF,ma,nA]);rw[this];exact Made.nil (aa.refl _ _)⟩
 case round=>
  obtain⟨j,a9,rfl,hM⟩:=hrel;obtain⟨ob,cb,rfl,-,-⟩:=hM.row.form;have t:=E hM;clear hM;by_cases a1:j<L.length
  ·obtain⟨gl,rfl⟩:=SL.o (by omega);obtain⟨y,hy⟩:∃y,L[j]?=V y:=⟨L[j],ec a1⟩
   obtain⟨e0,e1,e2⟩:=ot p.o.row t.o.keep hy;have H:=E (show fF (L.take (j+1)) b c=_ by rw[eo hy,Dj _ _ _ _ a2]);have b2:=yH (L.take j) b c;have a5:=wj j L;obtain⟨l,o,rg⟩:=y;simp only at e0 e1 e2;generalize fF (L.take j) b c=out at*;have r:∀W,(binOp BinOp.geq 9 (O l) (O b)).run prog W=.ok (ao (!de l b)) W:=λW=>mc l b W;have HY:=E hy;clear hy SL;cases hq:de l b with
   |true=>
    have G:QS (fF (L.take (j+1)) b c=out):=by show _=_;rw[H.o];simp[hq]
    rw[hq]at r;simp only[TU]at r;clear H hq;go_wp2;exact⟨⟨j+1,by omega,by go_num,by rw[G.o];exact t.o⟩,by simp only[intOf];omega⟩
   |false=>
    rw[hq]at r;simp only[TO]at r;by_cases B:c<0\/(out.length:Int)<c
    ·have G:QS (fF (L.take (j+1)) b c=out++[(l,o)]):=by show _=_;rw[H.o,fy ⟨hq,B⟩]
     clear H hq;have u:∀(T:ax) (w':ab),mH w1 w' T (out++[(l,o)])->mH w1 w' T (fF (L.take (j+1)) b c):=λT w' h=>by rw[G.o];exact h
     have s:=E u;clear u G;by_cases a6:c<0
     ·clear B;go_wp2_with fail;go_region_held3(λW=>W.cell? ⟨gl,j*3,Y⟩=V (O l)/\W.cell? ⟨gl,j*3+1,Y⟩=V (O o)) (go_keep) ((refine bV _ (by rfl) _ _ 66 (by rfl) 68 i0 _ 2 32 Tryz.underlying66 hi P Q S (by rfl) (J ob out.length cb) out.length _ (by rfl) (t.o.row.ai ((aa.refl n_ wr).al _).dr k_) ⟨wr.heap.size,0,Y⟩ 1 1 [O l,O o] (by rfl) (by rfl) (br wr #[O l,O o] _) (by simp[Value.oneCell']) (by have:=HL.o;unfold maxLen;omega) (by have:=HL.o;omega) ?_;intro T w2 d f _ m;obtain⟨g',M,rfl⟩:=d.succ;have K:=E (t.o.push (a:=(l,o)) ((aa.refl n_ wr).al _).dr d f m);obtain⟨r0,r1,r2⟩:=ot p.o.row K.o.keep HY.o;clear d f m));go_wp2;exact⟨⟨j+1,by omega,by go_num,s.o _ _ (K.o.slice (by simp))⟩,by simp only[intOf];omega⟩
     ·have a7:(out.length:Int)<c:=by omega
      clear B;go_wp2_with fail;go_region_held3(λW=>W.cell? ⟨gl,j*3,Y⟩=V (O l)/\W.cell? ⟨gl,j*3+1,Y⟩=V (O o)) (go_keep) ((refine bV _ (by rfl) _ _ 66 (by rfl) 68 i0 _ 2 32 Tryz.underlying66 hi P Q S (by rfl) (J ob out.length cb) out.length _ (by rfl) (t.o.row.ai ((aa.refl n_ wr).al _).dr k_) ⟨wr.heap.size,0,Y⟩ 1 1 [O l,O o] (by rfl) (by rfl) (br wr #[O l,O o] _) (by simp[Value.oneCell']) (by have:=HL.o;unfold maxLen;omega) (by have:=HL.o;omega) ?_;intro T w2 d f _ m;obtain⟨g',M,rfl⟩:=d.succ;have K:=E (t.o.push (a:=(l,o)) ((aa.refl n_ wr).al _).dr d f m);obtain⟨r0,r1,r2⟩:=ot p.o.row K.o.keep HY.o;clear d f m));go_wp2;exact⟨⟨j+1,by omega,by go_num,s.o _ _ (K.o.slice (by simp))⟩,by simp only[intOf];omega⟩
    ·have G:QS (fF (L.take (j+1)) b c=out):=by show _=_;rw[H.o,el (λh=>B h.2)]
     have h1:¬c<0:=λh=>B (.inl h);have h2:¬(out.length:Int)<c:=λh=>B (.inr h);clear H hq B;go_wp2;exact⟨⟨j+1,by omega,by go_num,by rw[G.o];exact t.o⟩,by simp only[intOf];omega⟩
  ·have e:fF L b c=fF (L.take j) b c:=by rw[ep (by omega)]
   have HE:=E e;clear e;go_wp2;go_ret2;rw[HE.o];exact⟨_,rfl,t.o.from p.o.keep⟩
end Go.Proofs.YtjbkfdeldlajhaaGreatDoor
