import Derived.Test.YtjbkfdeldlajhaaGreatDoorM28
import Derived.Test.YtjbkfdeldlajhaaGreatDoorM29
set_option linter.unusedSimpArgs false
namespace Go.Proofs.YtjbkfdeldlajhaaGreatDoor
open Go.RowKit Go.Shelf Go.Proofs.Tryz
open Option renaming none->Y,some->V
open Go.Value renaming int->Z,slice->J,pointer->X,tuple->bt,string->O
open Go.IntKind renaming i64->U
open Go renaming World->ab,Calls->ba,Value->ax,TypeId->cI
open Go.Ending renaming returned->ay
open Go.Obj renaming cells->I
variable{w W:ab}{N b n k c m j:Nat}{s y:Rd Unit}{F:List Nat}{l x:List UInt8}{a:ByteArray}{S:Nat->Prop}{L done:List an}{v:ax}{r:an}{e:cI}{M:List (ByteArray×an)}{full:Bool}
structure aZ where
 all:List bq
 now:Int
 aK:Int
 af:List (Int×Int×List an)
 aJ:Int
 aN:List Int
 aC:List (Int×Int×List ByteArray)
 aB:Int
def iY.tell(x:iY):Int×Int×List an:=(x.id,x.aI,x.ar)
def aM.dF(R:aM):aZ:=⟨R.all,R.now,R.aK,R.af.map iY.tell,R.aJ,R.aN,R.aC.map (λx=>(x.id,x.least,x.pieces)),R.aB⟩
structure sO(N:Nat)(w:ab)(R:aM):Prop where
 at_:aY w R
 mq:R.all.length<=N
 dm:R.af.length<=8
 ar:∀x∈R.af,x.ar.length<=30
 gO:0<=R.aJ
 dR:R.aJ<=N
 du:R.aN.length<=N
 eJ:R.aC.length<=4
 pN:0<=R.now
def oO(N:Nat)(w:ab)(b:Nat)(A:aZ)(F:List Nat):Prop:=∃R,sO N w R/\R.b=b/\R.dF=A/\R.fp=F
def dO(N:Nat)(b:Nat)(A:aZ)(F:List Nat)(w c:ab):Prop:=∃a,oO N c b A a/\aa (·∈F) w c/\∀k∈a,k∈F\/w.heap.size<=k
theorem sO.more{M:Nat}{R:aM}(h:sO N w R)(a:N<=M):sO M w R:=⟨h.at_,mA h.mq a,h.dm,h.ar,h.gO,by have:=h.dR;omega,mA h.du a,h.eJ,h.pN⟩
theorem sO.ai{a:ab}{R:aM}(h:sO N w R)(b:aa n_ w a):sO N a R:=⟨h.at_.ai b k_,h.mq,h.dm,h.ar,h.gO,h.dR,h.du,h.eJ,h.pN⟩
theorem sO.same{b:ab}{R:aM}(h:sO N w R)(a:aa n_ w b):dO (N+1) R.b R.dF R.fp w b:=
 ⟨R.fp,⟨R,(h.ai a).more (by omega),rfl,rfl,rfl⟩,a.mono (λ_ _ h=>h.elim),λ_ h=>.inl h⟩
theorem gv.o{a:ab}{R R':aM}(h:gv R R' w a)(b:sO N a R'):dO N R.b R'.dF R.fp w a:=
 ⟨R'.fp,⟨R',b,h.2.1,rfl,rfl⟩,h.2.2.1,h.2.2.2⟩
def aZ.dQ(A:aZ):Int×Int:=if A.af.length<8 then(A.aJ+1,0)else(0,3)
def aZ.fq(A:aZ):aZ:=if A.af.length<8 then{A with af:=A.af++[(A.aJ+1,A.now,[])],aJ:=A.aJ+1}else A
theorem NI{A:aZ}(h:oO N w b A F)(n:N<=10000000000):ba prog 19 #[X (V ⟨b,0,Y⟩)] w λe j=>e=ay (bt #[Z U A.dQ.1,Z U A.dQ.2])/\dO (N+1) b A.fq F w j:=by
 obtain⟨R,a,rfl,rfl,rfl⟩:=h;have c:R.dF.af.length=R.af.length:=by simp[aM.dF]
 by_cases d:R.af.length<8
 ·have f:R.dF.dQ=(R.aJ+1,0):=by unfold aZ.dQ;rw[c,fy d];rfl
  have g:∀v,R.dF.fq=(R.opened v).dF:=λv=>by unfold aZ.fq;rw[c,fy d];simp[aM.dF,aM.opened,iY.tell]
  rw[f];have l:=a.dR;refine(Es R w a.at_ d ⟨a.gO,by omega⟩).mono ?_;rintro e j ⟨rfl,v,k⟩;rw[g v];refine⟨rfl,k.after.o ⟨k.1,RD a.mq,by simp[aM.opened];omega,λx m=>?_,by have:=a.gO;show 0<=R.aJ+1;omega,by show R.aJ+1<=_;omega,RD a.du,a.eJ,a.pN⟩⟩;rcases cQ.1 m with i|i
  ·exact a.ar x i
  ·have:x=⟨R.aJ+1,R.now,J Y 0 0,[]⟩:=by simpa using i
   subst this;simp
 ·have f:R.dF.dQ=(0,3):=by unfold aZ.dQ;rw[c,el d]
  have g:R.dF.fq=R.dF:=by unfold aZ.fq;rw[c,el d]
  rw[f,g];refine(BH R w a.at_ (by omega)).mono ?_;rintro e j ⟨rfl,rfl⟩;exact⟨rfl,a.same (aa.refl _ _)⟩
def aZ.there(A:aZ)(s:Int):Bool:=decide (A.aK<=s)&&decide (s<=A.now)
def aZ.oM(A:aZ)(s:Int):Int:=if A.there s=true then 0 else 5
def aZ.nu(A:aZ)(s:Int):aZ:=if A.there s=true then{A with aN:=A.aN++[s]}else A
theorem Qq{A:aZ}(s:Int)(h:oO N w b A F)(k:N<=10000000000):ba prog 34 #[X (V ⟨b,0,Y⟩),Z U s] w λe g=>e=ay (Z U (A.oM s))/\dO (N+1) b (A.nu s) F w g:=by
 obtain⟨R,a,rfl,rfl,rfl⟩:=h;have c:R.dF.there s=R.there s:=rfl;cases hq:R.there s with
 |false=>
  have d:R.dF.oM s=5:=by unfold aZ.oM;rw[c,hq];rfl
  have f:R.dF.nu s=R.dF:=by unfold aZ.nu;rw[c,hq];rfl
  rw[d,f];refine(MA R s w a.at_ hq).mono ?_;rintro e g ⟨rfl,rfl⟩;exact⟨rfl,a.same (aa.refl _ _)⟩
 |true=>
  have d:R.dF.oM s=0:=by unfold aZ.oM;rw[c,hq];rfl
  have f:∀v,R.dF.nu s=(R.pinned v (R.aN++[s])).dF:=λv=>by unfold aZ.nu;rw[c,hq];rfl
  rw[d];have j:=a.du;refine(Oi R s w a.at_ hq (by omega)).mono ?_;rintro e g ⟨rfl,v,i⟩;rw[f v];exact⟨rfl,i.after.o ⟨i.1,RD a.mq,a.dm,a.ar,a.gO,by have:=a.dR;show R.aJ<=_;omega,by simp[aM.pinned];omega,a.eJ,a.pN⟩⟩
def aZ.iW(A:aZ)(s:Int):aZ:={A with aN:=A.aN.erase s}
theorem Ox{A:aZ}(s:Int)(h:oO N w b A F)(i:N<=10000000000):ba prog 36 #[X (V ⟨b,0,Y⟩),Z U s] w λe f=>e=ay (Z U (nD A.aN s))/\dO (N+1) b (A.iW s) F w f:=by obtain⟨R,c,rfl,rfl,rfl⟩:=h;have g:=c.du;refine(Gn R s w c.at_ (by omega)).mono ?_;rintro e f ⟨rfl,v,d⟩;refine⟨rfl,d.after.o (R':=R.pinned v (R.aN.erase s)) ⟨d.1,RD c.mq,c.dm,c.ar,c.gO,by have:=c.dR;show R.aJ<=_;omega,?_,c.eJ,c.pN⟩⟩;have:=List.length_erase_le (a:=s) (l:=R.aN);show(R.aN.erase s).length<=_;omega
def aZ.held(A:aZ):Int:=gS (gS (gS A.now (A.af.map (λx=>x.2.1))) A.aN) (A.aC.map (λx=>x.2.1))
def aZ.dX(A:aZ):aZ:={A with aK:=A.held,all:=kx A.all A.held}
theorem De(R:aM):R.dF.held=R.held:=by unfold aZ.held aM.held;simp[aM.dF,tQ,iY.tell]
theorem Ov{A:aZ}(h:oO N w b A F)(l:N<=10000000000):ba prog 38 #[X (V ⟨b,0,Y⟩)] w λe d=>e=ay (Z U (tS A.all A.held))/\dO (N+1) b A.dX F w d:=by
 obtain⟨R,a,rfl,rfl,rfl⟩:=h;have g:=a.mq;have i:=a.dm;have j:=a.du;have k:=a.eJ;have f:R.dF.dX=(R.zP R.held).dF:=by unfold aZ.dX;rw[De];rfl
 rw[De,f];refine(Ge R w a.at_ (by omega) (by omega) (by omega) (by omega)).mono ?_;rintro e d ⟨rfl,c⟩;refine⟨rfl,c.after.o ⟨c.1,?_,a.dm,a.ar,a.gO,by have:=a.dR;show R.aJ<=_;omega,RD a.du,a.eJ,a.pN⟩⟩;show(kx R.all R.held).length<=_;unfold kx;rw[hO];omega
theorem Px{A:aZ}(h:oO N w b A F)(g:N<=10000000000):ba prog 11 #[X (V ⟨b,0,Y⟩)] w λe c=>e=ay (.agg #[Z U A.now,Z U A.aK,Z U A.af.length,Z U A.aN.length,Z U (gW A.all),Z U A.aC.length])/\dO (N+1) b A F w c:=by obtain⟨R,a,rfl,rfl,rfl⟩:=h;have f:=a.mq;refine(zh R w a.at_ (by omega)).mono ?_;rintro e c ⟨rfl,d⟩;exact⟨by simp[aM.dF],a.same d⟩
def aZ.find(A:aZ)(a:Int):Option Nat:=A.af.findIdx? (λx=>decide (x.1=a))
theorem eV(R:aM)(a:Int):R.dF.find a=fc R.af a:=by unfold aZ.find fc;show(R.af.map iY.tell).findIdx? _=_;rw[List.findIdx?_map];rfl
def aZ.gN(A:aZ)(a:Int):Int:=if(A.find a).isSome=true then 0 else 1
def aZ.over(A:aZ)(k:Nat):aZ:={A with af:=A.af.eraseIdx k}
def aZ.gd(A:aZ)(a:Int):aZ:=if(A.find a).isSome=true then A.over ((A.find a).getD 0)else A
theorem tm{α β:Type}(f:α->β):∀(l:List α) (k:Nat),(l.eraseIdx k).map f=(l.map f).eraseIdx k
 |[],_=>rfl
 |_::_,0=>rfl
 |a::l,k+1=>by simp[tm f l k]
theorem xx(R:aM)(k:Nat)(v:ax):(R.iC k v).dF=R.dF.over k:=by simp[aM.dF,aM.iC,aZ.over,tm]
theorem sO.over{b:ab}{R:aM}(a:sO N w R)(h:aY b (R.iC k v)):sO (N+1) b (R.iC k v):=by have d:(R.af.eraseIdx k).length<=R.af.length:=Te _ _;have e:=a.dm;exact⟨h,RD a.mq,by show(R.af.eraseIdx k).length<=8;omega,λx c=>a.ar x (RX c),a.gO,by have:=a.dR;show R.aJ<=_;omega,RD a.du,a.eJ,a.pN⟩
theorem Nv{A:aZ}(a:Int)(h:oO N w b A F)(_hN:N<=10000000000):ba prog 32 #[X (V ⟨b,0,Y⟩),Z U a] w λe g=>e=ay (Z U (A.gN a))/\dO (N+1) b (A.gd a) F w g:=by
 obtain⟨R,c,rfl,rfl,rfl⟩:=h;have j:=c.dm;cases hf:fc R.af a with
 |none=>
  have d:R.dF.gN a=1:=by unfold aZ.gN;rw[eV,hf];rfl
  have f:R.dF.gd a=R.dF:=by unfold aZ.gd;rw[eV,hf];rfl
  rw[d,f];refine(Bu R a w c.at_ (by omega) hf).mono ?_;rintro e g ⟨rfl,rfl⟩;exact⟨rfl,c.same (aa.refl _ _)⟩
 |some k=>
  have d:R.dF.gN a=0:=by unfold aZ.gN;rw[eV,hf];rfl
  have f:∀v,R.dF.gd a=(R.iC k v).dF:=λv=>by unfold aZ.gd;rw[eV,hf,xx];rfl
  rw[d];refine(Bv R a k w c.at_ (by omega) hf).mono ?_;rintro e g ⟨rfl,v,i⟩;rw[f v];exact⟨rfl,gv.o (R':=R.iC k v) i (c.over i.1)⟩
def aZ.work(A:aZ)(k:Nat):Int×Int×List an:=(A.af[k]?).getD (0,0,[])
def aZ.vT(A:aZ)(x:Int×Int×List an):Int×Int:=if x.2.2.length=0 then(x.2.1,0)else if 1000000000<=A.now then(0,3)else if fP A.all x.2.1 x.2.2=true then(0,4)else(A.now+1,0)
def aZ.sY(A:aZ)(k:Nat)(x:Int×Int×List an):aZ:={A with af:=A.af.eraseIdx k,now:=A.now+1,all:=A.all++eU x.2.2 (A.now+1)}
def aZ.mP(A:aZ)(k:Nat)(x:Int×Int×List an):aZ:=if x.2.2.length=0 then A.over k else if 1000000000<=A.now then A else if fP A.all x.2.1 x.2.2=true then A.over k else A.sY k x
def aZ.bZ(A:aZ)(a:Int):Int×Int:=if(A.find a).isSome=true then A.vT (A.work ((A.find a).getD 0))else(0,1)
def aZ.dS(A:aZ)(a:Int):aZ:=if(A.find a).isSome=true then A.mP ((A.find a).getD 0) (A.work ((A.find a).getD 0))else A
theorem nv(R:aM){x:iY}(a:R.af[k]?=V x):R.dF.work k=(x.id,x.aI,x.ar):=by unfold aZ.work;show((R.af.map iY.tell)[k]?).getD _=_;rw[vk,a];rfl
theorem Lt{A:aZ}(d:Int)(h:oO N w b A F)(P:N<=10000000000):ba prog 30 #[X (V ⟨b,0,Y⟩),Z U d] w λe i=>e=ay (bt #[Z U (A.bZ d).1,Z U (A.bZ d).2])/\dO (N+100) b (A.dS d) F w i:=by
 obtain⟨R,a,rfl,rfl,rfl⟩:=h;have L:=a.dm;have K:=a.mq;have D:=a.dR;have f:∀{o:aZ} {i:ab},dO (N+1) R.b o R.fp w i->dO (N+100) R.b o R.fp w i:=λ⟨s,⟨t,z,B⟩,C⟩=>⟨s,⟨t,z.more (by omega),B⟩,C⟩;cases hf:fc R.af d with
 |none=>
  have l:R.dF.bZ d=(0,1):=by unfold aZ.bZ;rw[eV,hf];rfl
  have m:R.dF.dS d=R.dF:=by unfold aZ.dS;rw[eV,hf];rfl
  rw[l,m];refine(As R d w a.at_ (by omega) hf).mono ?_;rintro e i ⟨rfl,rfl⟩;exact⟨rfl,f (a.same (aa.refl _ _))⟩
 |some k=>
  obtain⟨x,j,-⟩:=lk hf;have n:x∈R.af:=hH j;have Q:=a.ar x n;have l:R.dF.bZ d=Go.Proofs.YtjbkfdeldlajhaaGreatDoor.bZ R x:=by unfold aZ.bZ;rw[eV,hf];show R.dF.vT (R.dF.work k)=_;rw[nv R j];rfl
  have m:R.dF.dS d=R.dF.mP k (x.id,x.aI,x.ar):=by unfold aZ.dS;rw[eV,hf];show R.dF.mP k (R.dF.work k)=_;rw[nv R j]
  rw[l,m];refine(Au R d k x w a.at_ (by omega) hf j (by omega) (by omega) a.pN).mono ?_;rintro e i ⟨rfl,c⟩;refine⟨rfl,?_⟩;unfold db at c;unfold aZ.mP;show dO _ _ (if x.ar.length=0 then _ else if 1000000000<=R.now then _ else if fP R.all x.aI x.ar=true then _ else _) _ _ _;by_cases p:x.ar.length=0
  ·rw[fy p]at c⊢;obtain⟨v,g⟩:=c;rw[<-xx R k v];exact f (g.o (a.over g.1))
  ·rw[el p]at c⊢;by_cases q:1000000000<=R.now
   ·rw[fy q]at c⊢;exact c.o ⟨c.1,by omega,a.dm,a.ar,a.gO,by omega,by have:=a.du;omega,a.eJ,a.pN⟩
   ·rw[el q]at c⊢;by_cases r:fP R.all x.aI x.ar=true
    ·rw[fy r]at c⊢;obtain⟨v,g⟩:=c;rw[<-xx R k v];exact f (g.o (a.over g.1))
    ·rw[el r]at c⊢;obtain⟨v,H,g⟩:=c;have u:R.dF.sY k (x.id,x.aI,x.ar)=(R.done k x v H).dF:=by simp[aZ.sY,aM.dF,aM.done,tm]
     rw[u];have M:(R.af.eraseIdx k).length<=R.af.length:=Te _ _;exact g.o ⟨g.1,by simp[aM.done,eU];omega,by show(R.af.eraseIdx k).length<=8;omega,λy G=>a.ar y (RX G),a.gO,by show R.aJ<=_;omega,by have:=a.du;show R.aN.length<=_;omega,a.eJ,by have:=a.pN;show 0<=R.now+1;omega⟩
def aZ.seen(A:aZ)(x:Int×Int×List an):List an:=iL A.all x.2.1 x.2.2
def aZ.kO(A:aZ)(b:Int)(a:ByteArray):ByteArray×Int:=if(A.find b).isSome=true then(if dw a=true then wv (A.seen (A.work ((A.find b).getD 0))) a else(ByteArray.empty,2))else(ByteArray.empty,1)
theorem Qj{A:aZ}(c:Int)(a:ByteArray)(h:oO N w b A F)(o:N<=10000000000)(l:a.size<=maxLen):ba prog 25 #[X (V ⟨b,0,Y⟩),Z U c,O a] w λe j=>e=ay (bt #[O (A.kO c a).1,Z U (A.kO c a).2])/\dO (N+1) b A F w j:=by
 obtain⟨R,d,rfl,rfl,rfl⟩:=h;have m:=d.mq;have n:=d.dm;cases hf:fc R.af c with
 |none=>
  have g:R.dF.kO c a=(ByteArray.empty,1):=by unfold aZ.kO;rw[eV,hf];rfl
  rw[g];refine(Jg R c a w d.at_ (by omega) hf).mono ?_;rintro e j ⟨rfl,f⟩;exact⟨rfl,d.same f⟩
 |some k=>
  obtain⟨x,i,-⟩:=lk hf;have p:=d.ar x (hH i);have g:R.dF.kO c a=if dw a=true then wv (iL R.all x.aI x.ar) a else(ByteArray.empty,2):=by unfold aZ.kO;rw[eV,hf];show(if dw a=true then wv (R.dF.seen (R.dF.work k)) a else(ByteArray.empty,2))=_;rw[nv R i];rfl
  rw[g];refine(Jh R c a k x w d.at_ (by omega) (by omega) hf i (by omega) l).mono ?_;rintro e j ⟨rfl,f⟩;exact⟨rfl,d.same f⟩
def aZ.gi(A:aZ)(c:Int)(a:ByteArray)(b:Int):List (ByteArray×ByteArray)×Int:=if(A.find c).isSome=true then(if a.size<=10 then(fF (A.seen (A.work ((A.find c).getD 0))) a b,0)else([],2))else([],1)
theorem PL{A:aZ}(f:Int)(a:ByteArray)(c:Int)(h:oO N w b A F)(t:N<=10000000000)(q:a.size<=maxLen)(m:-9223372036854775808<=c)(n:c<=9223372036854775807):ba prog 63 #[X (V ⟨b,0,Y⟩),Z U f,O a,Z U c] w λe j=>∃v,e=ay (bt #[v,Z U (A.gi f a c).2])/\mH w j v (A.gi f a c).1/\dO (N+1) b A F w j:=by
 obtain⟨R,g,rfl,rfl,rfl⟩:=h;have r:=g.mq;have s:=g.dm;cases hf:fc R.af f with
 |none=>
  have i:R.dF.gi f a c=([],1):=by unfold aZ.gi;rw[eV,hf];rfl
  rw[i];refine(FT R f a c w g.at_ (by omega) hf).mono ?_;rintro e j ⟨rfl,d⟩;exact⟨_,rfl,Made.nil d,g.same d⟩
 |some k=>
  obtain⟨x,o,-⟩:=lk hf;have u:=g.ar x (hH o);by_cases l:a.size<=10
  ·have i:R.dF.gi f a c=(fF (iL R.all x.aI x.ar) a c,0):=by unfold aZ.gi;rw[eV,hf];show(if a.size<=10 then(fF (R.dF.seen (R.dF.work k)) a c,(0:Int))else([],2))=_;rw[nv R o,fy l];rfl
   rw[i];refine(FU R f a c k x w g.at_ (by omega) (by omega) hf o (by omega) l m n).mono ?_;rintro e j ⟨v,rfl,p⟩;exact⟨v,rfl,p,g.same p.keep⟩
  ·have i:R.dF.gi f a c=([],2):=by unfold aZ.gi;rw[eV,hf];show(if a.size<=10 then _ else(([]:List (ByteArray×ByteArray)),(2:Int)))=_;rw[el l]
   rw[i];refine(FV R f a c k w g.at_ (by omega) hf (by omega) q).mono ?_;rintro e j ⟨rfl,d⟩;exact⟨_,rfl,Made.nil d,g.same d⟩
theorem JQ(l:List an)(r:an):(aS l r).length<=l.length+1:=by
 have h:=jn l r;unfold aS;cases hb:(fa l r).2 with
 |true=>rw[hb]at h;simpa using h
 |false=>rw[hb]at h;simp at h⊢;exact h
theorem sr(r x:an)(s:List an×Bool):(aV r s x).1.length+s.2.toNat<=s.1.length+1+(aV r s x).2.toNat/\(s.2=true->(aV r s x).2=true):=by obtain⟨o,t⟩:=s;cases t<;>simp only[aV]<;>(repeat' split)<;>simp_all
theorem yC(r x:an)(s:List an×Bool)(h:x.key=r.key):(aV r s x).2=true/\(aV r s x).1.length+s.2.toNat=s.1.length+1:=by obtain⟨o,t⟩:=s;cases t<;>simp[aV,h,bw]
theorem AU(r:an):∀(l:List an) (s:List an×Bool),(s.2=true->(l.foldl (aV r) s).2=true)/\(l.foldl (aV r) s).1.length+s.2.toNat<=s.1.length+l.length+(l.foldl (aV r) s).2.toNat:=by
 intro l;induction l with
 |nil=>intro s;simp
 |cons x l ih=>
  intro s;obtain⟨c,d⟩:=ih (aV r s x);have a:=sr r x s;refine⟨λb=>c (a.2 b),?_⟩;simp only[yk,fN];omega
theorem uo(r:an):∀(l:List an) (s:List an×Bool),(∃x∈l,x.key=r.key)->(l.foldl (aV r) s).2=true/\(l.foldl (aV r) s).1.length+s.2.toNat<=s.1.length+l.length
 |[],s,h=>by obtain⟨x,a,_⟩:=h;cases a
 |y::l,s,h=>by
  simp only[yk,fN];by_cases f:y.key=r.key
  ·obtain⟨b,j⟩:=yC r y s f;obtain⟨g,c⟩:=AU r l (aV r s y);have d:=g b;rw[b,d]at c;refine⟨d,?_⟩;simp only[Bool.toNat_true]at c;omega
  ·have k:=sr r y s;obtain⟨i,m⟩:=uo r l (aV r s y) (by
    obtain⟨x,a,e⟩:=h;rcases cT.1 a with rfl|a
    ·exact absurd e f
    ·exact⟨x,a,e⟩)
   refine⟨i,?_⟩;omega
theorem FD{l:List an}(h:(cV l r.key).isSome=true):(aS l r).length<=l.length:=by
 obtain⟨x,c⟩:=QV.1 h;have f:=List.mem_of_find?_eq_some c;have g:=List.find?_some c;obtain⟨d,e⟩:=uo r l ([],false) ⟨x,f,RC g⟩;have a:(fa l r).2=true:=d;have b:(fa l r).1.length<=l.length:=by simpa[fa]using e
 unfold aS;rw[fy a];exact b
theorem placed_30{l:List an}(a:l.length<=30)(h:(cV l r.key).isSome=true\/l.length<30):(aS l r).length<=30:=by
 rcases h with h|h
 ·exact mA (FD h) a
 ·have:=JQ l r;omega
def aZ.oF(x:Int×Int×List an)(r:an):Int:=if(dw r.key&&fM r.value)=true then(if(cV x.2.2 r.key).isSome=true\/x.2.2.length<30 then 0 else 3)else 2
def aZ.cz(A:aZ)(a:Int)(r:an):Int:=if(A.find a).isSome=true then aZ.oF (A.work ((A.find a).getD 0)) r else 1
def aZ.wrote(A:aZ)(k:Nat)(r:an):aZ:={A with af:=A.af.set k ((A.work k).1,(A.work k).2.1,aS (A.work k).2.2 r)}
def aZ.dT(A:aZ)(a:Int)(r:an):aZ:=if A.cz a r=0 then A.wrote ((A.find a).getD 0) r else A
theorem Hs{A:aZ}(c:Int)(r:an)(h:oO N w b A F)(_hN:N<=10000000000)(s:r.key.size<=maxLen)(t:r.value.size<=maxLen):ba prog 27 #[X (V ⟨b,0,Y⟩),Z U c,r.val] w λe o=>e=ay (Z U (A.cz c r))/\dO (N+1) b (A.dT c r) F w o:=by
 obtain⟨R,a,rfl,rfl,rfl⟩:=h;have C:=a.dm;have g:R.dF.cz c r≠0->R.dF.dT c r=R.dF:=λh=>el h;cases hf:fc R.af c with
 |none=>
  have d:R.dF.cz c r=1:=by unfold aZ.cz;rw[eV,hf];rfl
  rw[g (by rw[d];decide),d];refine(DV R c r w a.at_ (by omega) hf).mono ?_;rintro e o ⟨rfl,f⟩;exact⟨rfl,a.same f⟩
 |some k=>
  obtain⟨x,n,-⟩:=lk hf;have z:=a.ar x (hH n);have p:R.dF.cz c r=aZ.oF (x.id,x.aI,x.ar) r:=by unfold aZ.cz;rw[eV,hf];show aZ.oF (R.dF.work k) r=_;rw[nv R n]
  cases hb:(dw r.key&&fM r.value)with
  |false=>
   have d:R.dF.cz c r=2:=by rw[p];unfold aZ.oF;rw[hb];rfl
   rw[g (by rw[d];decide),d];refine(DW R c r k w a.at_ (by omega) hf s t hb).mono ?_;rintro e o ⟨rfl,f⟩;exact⟨rfl,a.same f⟩
  |true=>
   obtain⟨i,j⟩:=Tu.1 hb;by_cases l:(cV x.ar r.key).isSome=true\/x.ar.length<30
   ·have d:R.dF.cz c r=0:=by rw[p];unfold aZ.oF;rw[fy hb];exact fy l
    have u:∀v,R.dF.dT c r=(R.wrote k x v (aS x.ar r)).dF:=λv=>by unfold aZ.dT;rw[fy d,eV,hf];show R.dF.wrote k r=_;unfold aZ.wrote;rw[nv R n];simp[aM.dF,aM.wrote,iY.wrote,iY.tell,List.map_set]
    rw[d];refine(KN R c r k x w a.at_ (by omega) hf n s t i j (by omega) l).mono ?_;rintro e o ⟨rfl,v,m⟩;rw[u v];refine⟨rfl,m.after.o ⟨m.1,RD a.mq,by simp[aM.wrote];omega,λy B=>?_,a.gO,by have:=a.dR;show R.aJ<=_;omega,RD a.du,a.eJ,a.pN⟩⟩;rcases St B with q|q
    ·exact a.ar y q
    ·subst q;exact placed_30 z l
   ·have d:R.dF.cz c r=3:=by rw[p];unfold aZ.oF;rw[fy hb];exact el l
    rw[g (by rw[d];decide),d];refine(DU R c r k x w a.at_ (by omega) hf n s t i j (by omega) (by
     cases hq:cV x.ar r.key with
     |none=>rfl
     |some y=>exact absurd (.inl (by rw[hq];rfl)) l) (by omega)).mono ?_
    rintro e o ⟨rfl,f⟩;exact⟨rfl,a.same f⟩
def eD(l:List an):Prop:=l.Pairwise (λa b=>de a.key b.key=true)
theorem sw(r:an):∀(l s:List an),l.foldl (aV r) (s,true)=(s++l.filter (λx=>decide (x.key≠r.key)),true)
 |[],s=>by simp
 |x::l,s=>by
  rw[yk];by_cases h:x.key=r.key
  ·have e:aV r (s,true) x=(s,true):=by simp[aV,h]
   rw[e,sw r l s];simp[h]
  ·have e:aV r (s,true) x=(s++[x],true):=by simp[aV,h]
   rw[e,sw r l (s++[x])];simp[h]
theorem zx(r:an):∀(l s:List an),l.foldl (aV r) (s,false)=if l.dropWhile (λx=>de x.key r.key)=[]then(s++l.takeWhile (λx=>de x.key r.key),false)else(s++l.takeWhile (λx=>de x.key r.key)++r::(l.dropWhile (λx=>de x.key r.key)).filter (λx=>decide (x.key≠r.key)),true)
 |[],s=>by simp
 |x::l,s=>by
  rw[yk];cases h:de x.key r.key with
  |true=>
   have b:x.key≠r.key:=λe=>by rw[e,bw]at h;cases h
   have e:aV r (s,false) x=(s++[x],false):=by simp[aV,h,b]
   rw[e,zx r l (s++[x])];simp[h]
  |false=>
   by_cases a:x.key=r.key
   ·have e:aV r (s,false) x=(s++[r],true):=by simp[aV,a,bw]
    rw[e,sw r l (s++[r])];simp[a,bw]
   ·have e:aV r (s,false) x=(s++[r]++[x],true):=by simp[aV,h,a]
    rw[e,sw r l (s++[r]++[x])];simp[h,a]
theorem oh(l:List an)(r:an):aS l r=l.takeWhile (λx=>de x.key r.key)++r::(l.dropWhile (λx=>de x.key r.key)).filter (λx=>decide (x.key≠r.key)):=by
 unfold aS fa;rw[zx r l []];by_cases h:l.dropWhile (λx=>de x.key r.key)=[]
 ·rw[fy h,h];simp
 ·rw[el h];simp
theorem iI{α:Type}{p:α->Bool}:∀{l:List α} {x:α},x∈l.takeWhile p->p x=true/\x∈l
 |[],x,h=>by simp at h
 |a::l,x,h=>by
  rw[Sm]at h;cases ha:p a with
  |true=>
   rw[ha]at h;rcases cT.1 h with rfl|h
   ·exact⟨ha,by simp⟩
   ·exact⟨(iI h).1,ef _ (iI h).2⟩
  |false=>rw[ha]at h;simp at h
theorem qZ(l:List an)(r:an)(k:ByteArray):cV (aS l r) k=if r.key=k then V r else cV l k:=by
 rw[oh];unfold cV;rw[TQ,List.find?_cons];by_cases h:r.key=k
 ·rw[fy h];have c:(l.takeWhile (λx=>de x.key r.key)).find? (λx=>decide (x.key=k))=Y:=by
   rw[List.find?_eq_none];intro x a f;have b:x.key=k:=by simpa using f
   have:=(iI a).1;rw[b,<-h,bw]at this;cases this
  rw[c];simp[h]
 ·rw[el h];have d:decide (r.key=k)=false:=by simp[h]
  rw[d];conv=>rhs;rw[<-Td (p:=λx:an=>de x.key r.key) (l:=l),TQ]
  congr 1;show List.find? _ (List.filter _ _)=_;rw[List.find?_filter];congr 1;funext x;by_cases a:x.key=k
  ·have:x.key≠r.key:=λe=>h (e▸a)
   simp[a,Ne.symm h]
  ·simp[a]
theorem rO{r:an}:∀{l:List an},eD l->∀x∈l.dropWhile (λx=>de x.key r.key),de x.key r.key=false
 |[],_,x,h=>by simp at h
 |a::l,hr,x,h=>by
  obtain⟨b,c⟩:=BS.1 hr;rw[List.dropWhile_cons]at h;cases ha:de a.key r.key with
  |true=>
   rw[ha]at h;exact rO c x h
  |false=>
   rw[ha]at h;rcases cT.1 h with rfl|h
   ·exact ha
   ·cases hx:de x.key r.key with
    |false=>rfl
    |true=>
     have:=eO (b x h) hx;rw[ha]at this;cases this
theorem oi{l:List an}(h:eD l)(r:an):eD (aS l r):=by
 rw[oh];have d:eD (l.takeWhile (λx=>de x.key r.key)):=h.sublist (List.takeWhile_sublist _);have e:eD ((l.dropWhile (λx=>de x.key r.key)).filter (λx=>decide (x.key≠r.key))):=h.sublist (qs.trans (List.dropWhile_sublist _));have a:∀y∈(l.dropWhile (λx=>de x.key r.key)).filter (λx=>decide (x.key≠r.key)),de r.key y.key=true:=λy b=>by
  obtain⟨c,f⟩:=kB.1 b;have g:=rO h y c;have i:y.key≠r.key:=by simpa using f
  cases h5:de r.key y.key with
  |true=>rfl
  |false=>exact absurd (nh g h5) i
 refine Rg.2 ⟨d,BS.2 ⟨a,e⟩,λx j y b=>?_⟩;have c:=(iI j).1;rcases cT.1 b with rfl|b
 ·exact c
 ·exact eO c (a y b)
theorem wx{l:List an}{k:ByteArray}(h:cV l k=V r):r∈l/\r.key=k:=by unfold cV at h;exact⟨List.mem_of_find?_eq_some h,by simpa using List.find?_some h⟩
theorem jE:∀{l:List an},eD l->∀{r:an},r∈l->cV l r.key=V r
 |[],_,r,h=>by cases h
 |a::l,hr,r,h=>by
  obtain⟨c,d⟩:=BS.1 hr;unfold cV;rw[List.find?_cons];rcases cT.1 h with rfl|h
  ·simp
  ·have b:a.key≠r.key:=λe=>by have:=c r h;rw[e,bw]at this;cases this
   have:decide (a.key=r.key)=false:=by simp[b]
   rw[this];exact jE d h
theorem nX(l:List an)(k:ByteArray):(cV l k).isSome=true↔k∈l.map an.key:=by unfold cV;rw[List.find?_isSome];simp
theorem zM{l:List an}(h:eD l)(k:ByteArray):cV (bc l) k=(cV l k).filter (λr=>!r.aO):=by
 have f:eD (bc l):=h.sublist qs;apply Option.ext;intro r;rw[Option.filter_eq_some_iff];constructor
 ·intro e;obtain⟨a,b⟩:=wx e;obtain⟨c,d⟩:=kB.1 a;exact⟨b▸jE h c,d⟩
 ·rintro⟨a,b⟩;obtain⟨c,d⟩:=wx a;rw[<-d];exact jE f (kB.2 ⟨c,b⟩)
theorem nV{α:Type}(f:α->an):∀(l:List α) {s:List an},eD s->eD (l.foldl (λa v=>aS a (f v)) s)
 |[],_,h=>h
 |v::l,_,h=>nV f l (oi h (f v))
theorem rU{α:Type}(f:α->an)(k:ByteArray):∀(l:List α) (s:List an),cV (l.foldl (λa v=>aS a (f v)) s) k=(((l.filter (λv=>decide ((f v).key=k))).getLast?).map f).or (cV s k)
 |[],s=>by simp
 |v::l,s=>by
  rw[yk,rU f k l,qZ];by_cases h:(f v).key=k
  ·rw[fy h,RS,fy (by simp[h]),List.getLast?_cons];cases(l.filter (λv=>decide ((f v).key=k))).getLast?<;>simp
  ·rw[el h,RS,el (by simp[h])]
theorem xA(a:List bq)(c:Int){b:List an}:eD (b.foldl aS (aT a (-1) c)):=
 nV id b (nV bq.r _ List.Pairwise.nil)
theorem Mf{c:List an}(h:eD c)(k:ByteArray):(c.filter (λv=>decide (v.key=k))).getLast?=cV c k:=by
 have e:(c.filter (λv=>decide (v.key=k))).length<=1:=by
  have f:eD (c.filter (λv=>decide (v.key=k))):=h.sublist qs;have d:∀x∈c.filter (λv=>decide (v.key=k)),x.key=k:=λx i=>by simpa using(kB.1 i).2
  revert f d;cases c.filter (λv=>decide (v.key=k))with
  |nil=>intros;simp
  |cons a t=>
   cases t with
   |nil=>intros;simp
   |cons b t=>
    intro f d;have g:=(BS.1 f).1 b (by simp);rw[d a (by simp),d b (by simp),bw]at g;cases g
 unfold cV;rw[<-List.head?_filter];revert e;cases c.filter (λv=>decide (v.key=k))with
 |nil=>intro;rfl
 |cons a t=>
  cases t with
  |nil=>intro;rfl
  |cons b t=>intro e;simp at e
theorem Dn(b:List bq)(c:Int){rs:List an}(h:eD rs)(k:ByteArray):cV (iL b c rs) k=((cV rs k).or ((((b.filter (Bp (-1) c)).filter (λv=>decide (v.r.key=k))).getLast?).map bq.r)).filter (λr=>!r.aO):=by unfold iL;rw[zM (xA b c)];congr 1;have d:=rU id k rs (aT b (-1) c);have e:=rU bq.r k (b.filter (Bp (-1) c)) [];show cV (rs.foldl (λa v=>aS a (id v)) (aT b (-1) c)) k=_;rw[d];show(((rs.filter (λv=>decide (v.key=k))).getLast?).map id).or _=_;rw[Mf h,Option.map_id,id_eq];unfold aT;rw[e];simp[cV]
theorem ux(a:List bq)(b:Int)(c:List an):eD (iL a b c):=(xA a b).sublist qs
def rq(w:ab)(b:Nat)(a:ByteArray):Rd Unit->Prop
 |.inl k=>vG w b a (a.size-k)
 |.inr (_,l)=>KV w b a l
def Lk(a:ByteArray):Rd Unit->Int
 |.inl k=>((a.size-k:Nat):Int)
 |.inr (_,_)=>-1
def gF(a b:Nat):Rd Unit->Nat×Rd Unit
 |.inl k=>(a,.bad k)
 |.inr (_,l)=>match dg a b l with
  |.inr (n,r)=>(n,.ok () r)
  |.inl _=>(a,.bad l.length)
def ig(n:Nat):Rd Unit->List UInt8×Rd Unit
 |.inl k=>([],.bad k)
 |.inr (_,l)=>match ee n l with
  |.inr (x,r)=>(x,.ok () r)
  |.inl k=>([],.bad k)
theorem AQ{lo hi:Nat}(h:lo<=hi)(s:Rd Unit):lo<=(gF lo hi s).1/\(gF lo hi s).1<=hi:=by
 rcases s with k|⟨u,l⟩
 ·exact⟨eb _,h⟩
 ·rcases hx:dg lo hi l with k|⟨n,r⟩
  ·simp only[gF,hx];exact⟨eb _,h⟩
  ·simp only[gF,hx];exact⟨(GH hx).2.1,(GH hx).2.2⟩
theorem Kz(n:Nat)(s:Rd Unit):(ig n s).1.length<=n:=by
 rcases s with k|⟨u,l⟩
 ·exact eL _
 ·by_cases h:n<=l.length
  ·simp only[ig,ee,fy h,js];omega
  ·simp only[ig,ee,el h];exact eL _
theorem rq.facts(h:rq w c a s):∃b,b<=a.size/\kK w c a b (Lk a s):=by
 rcases s with k|⟨u,l⟩
 ·exact h
 ·exact⟨_,Nat.sub_le _ _,h.2⟩
theorem rq.ai{f:ab}(h:rq w c a s)(e:aa S w f)(d:¬S c):rq f c a s:=by
 rcases s with k|⟨u,l⟩
 ·obtain⟨b,g,i⟩:=h;exact⟨b,g,i.ai e d⟩
 ·exact⟨h.1,h.2.ai e d⟩
theorem GF(a:ByteArray)(s:Rd Unit):Lk a s<0↔∃l,s=.ok () l:=by
 rcases s with k|⟨u,l⟩
 ·refine⟨λh=>absurd (show((a.size-k:Nat):Int)<0 from h) (by omega),?_⟩;rintro⟨l,h⟩;cases h
 ·exact⟨λ_=>⟨l,rfl⟩,λ_=>show(-1:Int)<0 by omega⟩
def oZ(b:Nat)(a:ByteArray)(w:ab)(x:Nat×Rd Unit)(e:Ending)(c:ab):Prop:=e=ay (Z U (x.1:Nat))/\rq c b a x.2/\aa (·=b) w c
def uX(b:Nat)(a:ByteArray)(w:ab)(x:List UInt8×Rd Unit)(e:Ending)(c:ab):Prop:=e=ay (O (aU x.1))/\rq c b a x.2/\aa (·=b) w c
theorem ny(f:Nat)(a:ByteArray)(s:Rd Unit)(d c:Nat)(w:ab)(h:rq w f a s)(j:a.size<=1000000000000)(g:c<=34359738367)(i:d<=34359738367):ba prog 102 #[X (V ⟨f,0,Y⟩),Z U (d:Nat),Z U (c:Nat)] w (oZ f a w (gF d c s)):=by
 rcases s with k|⟨u,l⟩
 ·refine(Ke f a _ d c w h).mono ?_;rintro e o ⟨rfl,rfl⟩;exact⟨rfl,h,aa.refl _ _⟩
 ·refine(tP f a l d c w h j g i).mono ?_;rintro e o ⟨b,m⟩;rcases hx:dg d c l with k|⟨n,r⟩
  ·rw[hx]at b;simp only[gF,hx];exact⟨b.1,b.2,m⟩
  ·rw[hx]at b;simp only[gF,hx];exact⟨b.1,b.2,m⟩
theorem oy(c:Nat)(a:ByteArray)(s:Rd Unit)(n:Nat)(w:ab)(h:rq w c a s)(f:a.size<=1000000000000)(g:n<=1000000000000):ba prog 101 #[X (V ⟨c,0,Y⟩),Z U (n:Nat)] w (uX c a w (ig n s)):=by
 rcases s with k|⟨u,l⟩
 ·refine(FR c a _ n w h).mono ?_;rintro e i ⟨rfl,b,d⟩;exact⟨rfl,b,d.mono (λ_ _ h=>h.elim)⟩
 ·refine(FQ c a l n w h f g).mono ?_;rintro e i ⟨b,d⟩;rcases hx:ee n l with k|⟨x,r⟩
  ·rw[hx]at b;simp only[ig,hx];exact⟨b.1,b.2,d⟩
  ·rw[hx]at b;simp only[ig,hx];exact⟨b.1,b.2,d⟩
theorem qh{a:Nat}(h:gF a b (.ok () l)=(n,s)):(∃r,dg a b l=.ok n r/\s=.ok () r)\/(∃k,dg a b l=.bad k/\s=.bad k/\n=a):=by
 rcases hx:dg a b l with k|⟨m,r⟩
 ·simp only[gF,hx,tB]at h;obtain⟨rfl,rfl⟩:=h;exact .inr ⟨k,rfl,by rw[BN hx],rfl⟩
 ·simp only[gF,hx,tB]at h;obtain⟨rfl,rfl⟩:=h;exact .inl ⟨r,rfl,rfl⟩
theorem nB(h:ig n (.ok () l)=(x,s)):(∃r,ee n l=.ok x r/\s=.ok () r)\/(∃k,ee n l=.bad k/\s=.bad k/\x=[]):=by
 rcases hx:ee n l with k|⟨m,r⟩
 ·simp only[ig,hx,tB]at h;obtain⟨rfl,rfl⟩:=h;exact .inr ⟨k,rfl,rfl,rfl⟩
 ·simp only[ig,hx,tB]at h;obtain⟨rfl,rfl⟩:=h;exact .inl ⟨r,rfl,rfl⟩
def DQ(a:Nat)(s:Rd Unit):List UInt8×Rd Unit:=if a=0 then([],s)else ig (a-1) s
theorem sK(a k:Nat):DQ a (.bad k)=([],.bad k):=by unfold DQ;split<;>rfl
theorem Oq{i v:List UInt8}{t u w r:Rd Unit}(z:gF 0 i.length (.ok () l)=(c,t))(q:gF (1-c) (10-c) t=(m,u))(h:ig m u=(x,w))(b:gF 0 41 w=(n,y))(a:DQ n y=(v,r)):(∃k,kR i l=.bad k/\r=.bad k)\/∃s,kR i l=.ok ⟨i.take c++x,v,decide (n=0)⟩ s/\r=.ok () s:=by
 rcases qh z with⟨C,d,rfl⟩|⟨k,d,rfl,rfl⟩
 ·rcases qh q with⟨D,f,rfl⟩|⟨k,f,rfl,rfl⟩
  ·rcases nB h with⟨F,j,rfl⟩|⟨k,j,rfl,rfl⟩
   ·rcases qh b with⟨A,o,rfl⟩|⟨k,o,rfl,rfl⟩
    ·have e:=ML d f j o;unfold DQ at a;unfold xP at e;by_cases g:n=0
     ·rw[fy g,tB]at a;obtain⟨rfl,rfl⟩:=a;rw[fy g]at e;exact .inr ⟨A,by rw[e,mI g],rfl⟩
     ·rw[el g]at a e;rcases nB a with⟨B,p,rfl⟩|⟨k,p,rfl,rfl⟩
      ·rw[p]at e;exact .inr ⟨B,by rw[e,kg g];rfl,rfl⟩
      ·rw[p]at e;exact .inl ⟨k,e,rfl⟩
    ·rw[sK,tB]at a;exact .inl ⟨k,JX d f j o,a.2.symm⟩
   ·simp only[gF,tB]at b;obtain⟨-,rfl⟩:=b;rw[sK,tB]at a;exact .inl ⟨k,JW d f j,a.2.symm⟩
  ·simp only[ig,tB]at h;obtain⟨-,rfl⟩:=h;simp only[gF,tB]at b;obtain⟨-,rfl⟩:=b;rw[sK,tB]at a;exact .inl ⟨k,JV d f,a.2.symm⟩
 ·simp only[gF,tB]at q;obtain⟨-,rfl⟩:=q;simp only[ig,tB]at h;obtain⟨-,rfl⟩:=h;simp only[gF,tB]at b;obtain⟨-,rfl⟩:=b;rw[sK,tB]at a;exact .inl ⟨k,JU d,a.2.symm⟩
def dh(a:Bool)(M:List (ByteArray×an))(r:an):List (ByteArray×an):=if a&&r.aO then del M r.key else put M r.key r
def Dl(a:Bool)(o:Option an):Option an:=if a then o.filter (λr=>!r.aO)else o
def tF(a:Bool)(L:List an):List an:=if a then bc L else L
structure qH(full:Bool)(M:List (ByteArray×an))(L:List an):Prop where
 bP:eD L
 nodup:(M.map (·.1)).Nodup
 same:∀k,aD M k=Dl full (cV L k)
theorem qH.zero(a:Bool):qH a [] []:=⟨List.Pairwise.nil,List.nodup_nil,λk=>by cases a<;>rfl⟩
theorem IU{β:Type}:∀{M:List (ByteArray×β)} (k:ByteArray),(M.map (·.1)).Nodup->((del M k).map (·.1)).Nodup:=λ{M} k h=>by rw[nQ M h k];exact h.sublist (List.filter_sublist.map _)
theorem JR{β:Type}{M:List (ByteArray×β)}(k:ByteArray)(v:β)(h:(M.map (·.1)).Nodup):((put M k v).map (·.1)).Nodup:=by
 cases hx:aD M k with
 |some x=>rw[jP hx];exact h
 |none=>
  rw[kj hx,xT,lf];refine⟨h,by simp,λa d b c e=>?_⟩;obtain⟨p,f,rfl⟩:=fI.1 d;simp at c;exact dU.1 hx p f (by rw[e,c])
theorem qH.step{a:Bool}(h:qH a M L)(r:an):qH a (dh a M r) (aS L r):=by
 refine⟨oi h.bP r,?_,λk=>?_⟩
 ·unfold dh;split
  ·exact IU _ h.nodup
  ·exact JR _ _ h.nodup
 ·rw[qZ];unfold dh;split
  ·rename_i b;simp only[ss]at b;rw[mZ M h.nodup];by_cases e:r.key=k
   ·rw[fy e,fy e];unfold Dl;rw[fy b.1,Option.filter_some,b.2];rfl
   ·rw[el e,el e,h.same]
  ·rename_i b;rw[ke];by_cases e:r.key=k
   ·rw[fy e,fy e];unfold Dl;cases a with
    |false=>rfl
    |true=>
     have c:r.aO=false:=by simpa using b
     rw[fy rfl,Option.filter_some,c];rfl
   ·rw[el e,el e,h.same]
theorem qH.steps:∀(a:List an) {M:List (ByteArray×an)} {L:List an},qH full M L->qH full (a.foldl (dh full) M) (a.foldl aS L)
 |[],_,_,h=>h
 |r::a,_,_,h=>qH.steps a (h.step r)
theorem Fz(h:eD L):eD (tF full L):=by
 unfold tF;split
 ·exact h.sublist qs
 ·exact h
theorem Mt{a:Bool}(h:eD L)(k:ByteArray):cV (tF a L) k=Dl a (cV L k):=by
 unfold tF Dl;split
 ·exact zM h k
 ·rfl
theorem qH.o{a:Bool}(h:qH a M L){c:List ByteArray}(f:bh c)(l:c.Perm (M.map (·.1))):c.map (aD M)=(tF a L).map V:=by
 have i:=Fz (full:=a) h.bP;have j:∀k,aD M k=cV (tF a L) k:=λk=>by rw[h.same,Mt h.bP]
 have b:c=(tF a L).map an.key:=by
  refine jd f (Rw.2 i) (λk=>?_);rw[l.mem_iff,<-nX,<-j];constructor
  ·intro b;cases g:aD M k with
   |some x=>rfl
   |none=>
    obtain⟨p,d,e⟩:=fI.1 b;exact absurd e (dU.1 g p d)
  ·intro b;obtain⟨x,g⟩:=QV.1 b;exact fI.2 ⟨_,bj g,rfl⟩
 rw[b,tO];apply RI;intro r f;show aD M r.key=V r;rw[j,jE i f]
def Aa(R:Rd (List Rec))(d:Nat)(c:Bool)(b:List an):Rd Unit->Prop
 |.inl k=>R=.bad k/\b.length<=4*d+4
 |.inr (_,l)=>b.length+4*l.length<=4*d/\∃a:List Rec,b=a.map bX/\(if c=true then∃f,l.length<f/\R=dY f a l else R=.ok a l)
theorem Aa.zero{f:Nat}(h:l.length<f):Aa (dY f [] l) l.length true [] (.ok () l):=
 ⟨by simp,[],rfl,by rw[fy rfl];exact⟨f,h,rfl⟩⟩
def Hv(B:Rd (List Rec))(x:List an)(s:Rd Unit):Prop:=x.length<=4/\match B with
 |.inl k=>s=.bad k
 |.inr (y,r)=>s=.ok () r/\x=y.map bX
theorem Aa.next{d:ByteArray}{R:Rd (List Rec)}{c x:List an}(h:Aa R j true c (.ok () l))(m:Place d l)(b:Hv (eS l) x s):Aa R j (decide (0<x.length)) (c++x) s:=by
 obtain⟨n,a,rfl,i⟩:=h;rw[fy rfl]at i;obtain⟨f,o,rfl⟩:=i;obtain⟨q,b⟩:=b;obtain⟨f,rfl⟩:∃g,f=g+1:=⟨f-1,by omega⟩
 rcases hB:eS l with k|⟨y,r⟩
 ·rw[hB]at b;subst b;exact⟨by rw[dY,hB];rfl,by rw[hQ];omega⟩
 ·rw[hB]at b;obtain⟨rfl,rfl⟩:=b;have p:=(lR m hB).2;refine⟨by rw[hQ];omega,a++y,by rw[xT],?_⟩;rw[hO];by_cases e:y=[]
  ·subst e;rw[el (by simp),dY,hB,Rd.bT,fy rfl,Kp]
  ·rw[fy (by simpa using Rq.2 e)];exact⟨f,by omega,by rw[dY,hB,Rd.bT,el e]⟩
def wh:Rd Unit->Rd Unit
 |.inl k=>.bad k
 |.inr (_,r)=>if r=[]then .ok () r else .bad r.length
theorem Nd(h:gF n n (.ok () l)=(m,s)):wh s=lK n l:=by
 unfold lK;rcases qh h with⟨r,e,rfl⟩|⟨k,e,rfl,-⟩
 ·rw[GI]at e;rcases hx:lY l with k|⟨q,b⟩
  ·rw[hx]at e;cases e
  ·rw[hx,Rd.bT]at e;rw[Rd.bT];split at e
   ·rename_i a;simp only[Sum.inr.injEq,tB]at e;rw[fy a,<-e.2];unfold wh;simp only
   ·cases e
 ·rw[GI]at e;rcases hx:lY l with q|⟨q,b⟩
  ·rw[hx]at e;rw[Rd.iG]at e⊢;unfold wh;simp only;cases e;rfl
  ·rw[hx,Rd.bT]at e;rw[Rd.bT];split at e
   ·cases e
   ·rename_i a;rw[el a];unfold wh;simp only;cases e;rfl
theorem Lx{p:List UInt8}{k more:Bool}{a:Nat}{q s4 g:Rd Unit}{acc:List an}(z:iH l=.ok k p)(t:gF 0 34359738367 (.ok () p)=(a,q))(h:gF 0 34359738367 q=(b,s))(c:match s with|.inl j=>s4=.bad j|.inr (_,l3)=>Aa (dY (l.length+1) [] l3) l3.length more acc s4/\(more=true->∃j,s4=.bad j))(d:gF acc.length acc.length s4=(m,g)):match ju l with|.inl j=>wh g=.bad j|.inr (x,r)=>wh g=.ok () []/\r=[]/\x.full=k/\x.a=a/\x.b=b/\acc=x.aW.map bX:=by
 unfold ju;rw[z,Rd.bT];rcases qh t with⟨B,e,rfl⟩|⟨j,e,rfl,-⟩
 ·rw[uZ]at e;rw[e,Rd.bT];rcases qh h with⟨C,f,rfl⟩|⟨j,f,rfl,-⟩
  ·rw[uZ]at f;rw[f,Rd.bT];obtain⟨c,v⟩:=c;rcases s4 with j|⟨u,A⟩
   ·rw[c.1,Rd.iG];simp only[gF,tB]at d;rw[<-d.2];rfl
   ·obtain⟨-,y,rfl,n⟩:=c;cases more with
    |true=>obtain⟨j,w⟩:=v rfl;cases w
    |false=>
     rw[el (by simp)]at n;have i:=Nd d;rw[hO]at i;rw[n,Rd.bT,<-i];rcases g with j|⟨u,r⟩
     ·rfl
     ·unfold wh at i⊢;by_cases o:r=[]
      ·subst o;simp only[Rz];simp[Rd.bind]
      ·simp only[el o];simp[Rd.bind]
  ·rw[uZ]at f;rw[f,Rd.iG];simp only at c;subst c;simp only[gF,tB]at d;rw[<-d.2];rfl
 ·rw[uZ]at e;rw[e,Rd.iG];simp only[gF,tB]at h;obtain⟨-,rfl⟩:=h;simp only at c;subst c;simp only[gF,tB]at d;rw[<-d.2];rfl
structure mG{α:Type}(S:Nat->Prop)(e:cI)(size:Nat)(f:α->List ax)(w W:ab)(v:ax)(l:List α):Prop where
 row:Row W e size v l.length (l.flatMap f)
 own:∀g,v.ownBlock=V g->w.heap.size<=g
 keep:aa S w W
theorem mG.nil{α:Type}{a:Nat}{f:α->List ax}(c:aa S w W):mG S e a f w W (J Y 0 0) ([]:List α):=
 ⟨Row.nil _ _ _,λg b=>by simp[Value.ownBlock]at b,c⟩
theorem mG.ai{α:Type}{a:Nat}{f:α->List ax}{b:ab}{l:List α}(h:mG S e a f w W v l)(d:∀k,S k->k<w.heap.size)(c:aa S W b):mG S e a f w b v l:=
 ⟨h.row.ai c (λg i j=>by have:=h.own g i;have:=d g j;omega),h.own,h.keep.tr c i_⟩
theorem mG.push{α:Type}{f:α->List ax}{j m:ab}{i:ax}{l:List α}{a:α}(h:mG S e b f w W v l)(n:aa S W j)(q:Row m e b i (l.length+1) (l.flatMap f++f a))(o:j.grownBy m v.ownBlock)(p:i.ownBlock=v.ownBlock\/i.ownBlock=V j.heap.size):mG S e b f w m i (l++[a]):=by
 have t:=h.keep.size;have r:=n.size;refine⟨by simpa using q,λg c=>?_,(h.keep.tr n i_).trans (aa.grown o) (λk s e=>?_)⟩
 ·rcases p with d|d
  ·exact h.own g (by rw[<-d];exact c)
  ·rw[c]at d;simp at d;omega
 ·have:=h.own k e.symm;omega
theorem AM(w:ab)(a:Array ax)(t:cI)(c:b=w.heap.size):∀j u,a.toList[j]?=V u->(w.alloc (I a t)).cell? ((⟨b,0,Y⟩:Addr).add j)=V u:=by subst c;exact br w a t
theorem rq.at_(h:rq w c a s):∃b,b<=a.size/\kK w c a b (Lk a s)/\∀l,s=.ok () l->b=a.size-l.length:=by
 rcases s with k|⟨u,l⟩
 ·obtain⟨b,d,f⟩:=h;exact⟨b,d,f,λl e=>by cases e⟩
 ·exact⟨_,Nat.sub_le _ _,h.2,λg e=>by cases e;rfl⟩
def uC(n:Nat)(b:List UInt8)(k:Nat)(a:ByteArray)(done:List an):Rd Unit->Prop
 |.inl j=>fC n [] b=.bad j/\done.length<=4/\a.size<=10
 |.inr (_,l)=>∃d,done=d.map bX/\vD n b k a d l
theorem uC.zero(n:Nat)(a:List UInt8):uC n a 0 ⟨#[]⟩ [] (.ok () a):=⟨[],rfl,vD.zero n a⟩
theorem uC.EY{c:List UInt8}{b:ByteArray}(h:uC n c k b done s)(e:n<=4):done.length<=4/\b.size<=10:=by
 rcases s with j|⟨u,l⟩
 ·exact h.2
 ·obtain⟨d,rfl,a⟩:=h;rw[hO,a.len];exact⟨by have:=a.le;omega,a.key⟩
theorem uC.next{g:ByteArray}{o v:List UInt8}{q:Nat}{w z A p:Rd Unit}(h:uC n o k a done (.ok () l))(H:Place g l)(t:k<n)(K:n<=4)(r:gF 0 a.size (.ok () l)=(c,w))(B:gF (1-c) (10-c) w=(m,y))(C:ig m y=(x,z))(D:gF 0 41 z=(q,A))(F:DQ q A=(v,p)):(∃j,p=.bad j/\uC n o (k+1) a done (.bad j))\/∃i,p=.ok () i/\uC n o (k+1) (a.extract 0 c++aU x) (done++[⟨a.extract 0 c++aU x,aU v,decide (q=0)⟩]) (.ok () i):=by
 obtain⟨d,rfl,f⟩:=h;have u:a.size=a.data.toList.length:=RA.symm;rw[u]at r;rcases Oq r B C D F with⟨j,e,rfl⟩|⟨i,e,rfl⟩
 ·refine .inl ⟨j,rfl,f.bad t e,?_,f.key⟩;rw[hO,f.len];omega
 ·have s:=qk (by rw[<-u];exact f.key) H e;have G:=f.next t e s.2.1 s.2.2.2;have b:aU (a.data.toList.take c++x)=a.extract 0 c++aU x:=(pI a c x).symm;refine .inr ⟨i,rfl,_,?_,by rw[<-b];exact G⟩;rw[xT,List.map_singleton];unfold bX;rw[b]
theorem NN{c:List UInt8}{f:ByteArray}(g:dg 0 4 l=.ok n c)(p:n≠0)(h:uC n c k f done s)(m:(∃l',s=.ok () l')->k=n)(b:ig 4 s=(x,.bad j)):eS l=.bad j:=by
 unfold eS;rw[g,Rd.bT,el p];rcases s with i|⟨u,q⟩
 ·simp only[ig,tB,Sum.inl.injEq]at b;rw[h.1,Rd.iG,b.2]
 ·obtain rfl:=m ⟨q,rfl⟩;obtain⟨d,rfl,o⟩:=h;rw[o.Nz,Rd.bT];unfold yt;rcases nB b with⟨r,e,a⟩|⟨i,e,a,-⟩
  ·cases a
  ·cases a;rw[e,Rd.iG]
theorem Pk{f j:List UInt8}{m:ByteArray}(o:dg 0 4 l=.ok n f)(q:n≠0)(h:uC n f k m done s)(p:(∃l',s=.ok () l')->k=n)(c:ig 4 s=(x,.ok () j)):∃a d,s=.ok () a/\done=d.map bX/\a.length<=f.length/\eS l=if x=bM (l.take (l.length-a.length))then .ok d j else .bad a.length:=by
 rcases s with i|⟨u,a⟩
 ·simp only[ig,tB]at c;cases c.2
 ·obtain rfl:=p ⟨a,rfl⟩;obtain⟨d,rfl,g⟩:=h;refine⟨a,d,rfl,rfl,g.short,?_⟩;unfold eS;rw[o,Rd.bT,el q,g.Nz,Rd.bT];unfold yt;rcases nB c with⟨r,e,b⟩|⟨i,e,b,-⟩
  ·cases b;rw[e,Rd.bT]
  ·cases b
def OE(b:Nat)(a:ByteArray)(l:List UInt8)(w:ab)(e:Ending)(c:ab):Prop:=∃v x s,e=ay v/\mG (·=b) 70 3 an.cells w c v x/\rq c b a s/\Hv (eS l) x s
end Go.Proofs.YtjbkfdeldlajhaaGreatDoor
