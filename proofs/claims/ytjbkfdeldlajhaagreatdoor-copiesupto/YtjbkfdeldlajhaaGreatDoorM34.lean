import Derived.Test.YtjbkfdeldlajhaaGreatDoorM30
set_option linter.unusedSimpArgs false
namespace Go.Proofs.YtjbkfdeldlajhaaGreatDoor
open Go.RowKit Go.Shelf
open Option renaming none->Y,some->V
open Go renaming World->ab,Value->ax,TypeId->cI
variable{A:aX}{b d f g s L:Int}{k:Nat}{l:List (Int×Int)}{a:List bF}
def bq.eW(v:bq):bF:=⟨v.aG,v.r.value,v.r.aO⟩
def an.eW(r:an):bF:=⟨0,r.value,r.aO⟩
def fB(k:ByteArray)(v:bq):Bool:=decide (v.r.key=k)&&!v.bK
def oX{α β:Type}(R:α->β->Prop):List α->List β->Prop
 |[],[]=>True
 |a::l,b::m=>R a b/\oX R l m
 |_,_=>False
structure qo(ws:List (ByteArray×bF))(rs:List an):Prop where
 bP:eD rs
 nodup:(ws.map (·.1)).Nodup
 same:∀k,aD ws k=(cV rs k).map an.eW
def im(p:Int×(Int×List (ByteArray×bF)))(q:Int×Int×List an):Prop:=p.1=q.1/\p.2.1=q.2.1/\qo p.2.2 q.2.2
structure kZ(all:List bq)(now aK:Int):Prop where
 rising:all.Pairwise (λa b=>a.r.key=b.r.key->a.aG<b.aG)
 fH:∀v∈all,0<=v.aG/\v.aG<=now
 bK:∀v∈all,v.bK=true->v.aG<=aK/\(dI all v aK=true\/v.r.aO=true)
 closed:∀v∈all,v.bK=true->∀u∈all,u.r.key=v.r.key->u.aG<=v.aG->u.bK=true
structure ik(A:aX)(B:aZ):Prop where
 now:A.now=B.now
 aK:A.aK=B.aK
 mr:0<=B.aK
 pE:B.aK<=B.now
 aJ:A.aJ=B.aJ
 af:oX im A.af B.af
 aI:∀x∈B.af,B.aK<=x.2.1/\x.2.1<=B.now
 aE:∀k,A.aE k=(B.all.filter (fB k)).map bq.eW
 lq:bh A.keys
 keys:∀k,k∈A.keys↔A.aE k≠[]
 all:kZ B.all B.now B.aK
 aN:∀s,(aD A.aN s).getD 0=(B.aN.count s:Int)
 du:(A.aN.map (·.1)).Nodup
 um:∀p∈A.aN,1<=p.2
 cF:A.cF=(B.aN.length:Int)
 pinned:∀s∈B.aN,B.aK<=s/\s<=B.now
 aC:A.aA.map (λp=>(p.1,p.2.lQ))=B.aC.map (λx=>(x.1,x.2.1))
 copied:∀x∈B.aC,B.aK<=x.2.1/\x.2.1<=B.now
 aB:A.aB=B.aB
theorem qD(h:dP a)(t:Int):a.takeWhile (λv=>decide (v.aG<=t))=a.filter (λv=>decide (v.aG<=t)):=by
 induction a with
 |nil=>rfl
 |cons v a ih=>
  obtain⟨c,d⟩:=BS.1 h;rw[Sm,RS];by_cases b:v.aG<=t
  ·have e:decide (v.aG<=t)=true:=by simp[b]
   rw[e,fy rfl,fy rfl,ih d]
  ·have e:decide (v.aG<=t)=false:=by simp[b]
   rw[e,el (by decide),el (by decide)];symm;rw[RR];intro u f;have:=c u f;simp;omega
theorem qO{c:List bF}(h:dP c)(t:Int):cX c t=(c.filter (λv=>decide (v.aG<=t))).getLast?:=by
 rw[<-qD h];unfold cX lN;generalize hp:(λv:bF=>decide (v.aG<=t))=p;have e:=Td (p:=p) (l:=c);generalize c.takeWhile p=a at*;generalize c.dropWhile p=b at*;subst e;by_cases d:a.length=0
 ·rw[fy d,Sg.1 d];rfl
 ·rw[el d,Rb (by omega),Ty]
theorem kZ.mh{d:List bq}{c:Int}(h:kZ d f c)(k:ByteArray):dP ((d.filter (fB k)).map bq.eW):=by unfold dP;rw[Rw];have j:=h.rising.sublist (qs (p:=fB k));refine j.imp_of_mem ?_;intro a b l m e;have g:=(kB.1 l).2;have i:=(kB.1 m).2;simp only[fB,ss,tT]at g i;exact e (g.1.trans i.1.symm)
def Bi(a:List bq)(b:Int)(k:ByteArray):List bq:=(a.filter (Bp (-1) b)).filter (λv=>decide (v.r.key=k))
theorem qg{a:List bq}{k:ByteArray}{v:bq}:v∈Bi a b k↔v∈a/\-1<v.aG/\v.aG<=b/\v.r.key=k:=by unfold Bi Bp;rw[kB,kB];simp only[ss,tT];exact⟨λh=>⟨h.1.1,h.1.2.1,h.1.2.2,h.2⟩,λh=>⟨⟨h.1,h.2.1,h.2.2.1⟩,h.2.2.2⟩⟩
theorem kZ.last{c:List bq}{w:Int}(h:kZ c w d)(y:d<=g)(k:ByteArray):((Bi c g k).getLast?.map bq.r).filter (λr=>!r.aO)=(((Bi c g k).filter (λv=>!v.bK)).getLast?.map bq.r).filter (λr=>!r.aO):=by
 have D:(Bi c g k).Pairwise (λa b=>a.aG<b.aG):=by have l:=h.rising.sublist (qs.trans qs:(Bi c g k).Sublist c);refine l.imp_of_mem ?_;intro a b C y q;exact q ((qg.1 C).2.2.2.trans (qg.1 y).2.2.2.symm)
 have t:∀v,v∈Bi c g k↔v∈c/\-1<v.aG/\v.aG<=g/\v.r.key=k:=λv=>qg;generalize Bi c g k=F at*;rcases Sw F with rfl|⟨f,v,rfl⟩
 ·rfl
 ·rw[Sx]at*;rw[SE,yv];cases ht:v.bK with
  |false=>
   have e:[v].filter (λv=>!v.bK)=[v]:=by simp[ht]
   rw[e,SE]
  |true=>
   have p:=(t v).1 (by simp);have i:∀u∈f++[v],u.aG<=v.aG:=λu j=>by
    rcases cQ.1 j with l|l
    ·exact Int.le_of_lt ((Rg.1 D).2.2 u l v (by simp))
    ·have:u=v:=by simpa using l
     rw[this];exact ya _
   have m:∀u∈f++[v],u.bK=true:=λu j=>by have n:=(t u).1 j;exact h.closed v p.1 ht u n.1 (n.2.2.2.trans p.2.2.2.symm) (i u j)
   have B:(f++[v]).filter (λv=>!v.bK)=[]:=by rw[RR];intro u j;simp[m u j]
   rw[<-yv,B];have s:v.r.aO=true:=by
    rcases(h.bK v p.1 ht).2 with z|s
    ·unfold dI at z;obtain⟨x,A,o⟩:=Rt.1 z;simp only[jF,ss,tT]at o;have:=i x ((t x).2 ⟨A,by have:=(h.fH x A).1;omega,by omega,o.1.1.trans p.2.2.2⟩);omega
    ·exact s
   simp[s,Option.filter]
theorem kZ.Hr{d:List bq}(h:kZ d g f)(i:Int)(k:ByteArray):((d.filter (fB k)).map bq.eW).filter (λv=>decide (v.aG<=i))=((Bi d i k).filter (λv=>!v.bK)).map bq.eW:=by
 rw[SH];congr 1;unfold Bi;rw[RN,RN,RN];apply Tb;intro v l;have:=(h.fH v l).1;have e:decide (-1<v.aG)=true:=by simp;omega
 simp only[Function.comp,fB,Bp,e,Bool.true_and];have j:∀a b c:Bool,(a&&(b&&!c))=(!c&&b&&a):=by decide
 exact j _ _ _
def mz(c:List (ByteArray×bF))(a:ByteArray->List bF)(b:Int)(k:ByteArray):Option ByteArray:=((fT c (a k) b k).filter (λv=>!v.aO)).map bF.value
theorem Dt{a:List bq}{j:List (ByteArray×bF)}{g:List an}{c:ByteArray->List bF}(h:kZ a f b)(m:∀k,c k=(a.filter (fB k)).map bq.eW)(i:qo j g)(l:b<=d)(k:ByteArray):(cV (iL a d g) k).map an.value=mz j c d k:=by
 rw[Dn a d i.bP];unfold mz fT;rw[i.same k];cases hr:cV g k with
 |some r=>
  simp only[uW,Option.some_or];cases hg:r.aO<;>simp[an.eW,hg,Option.filter]
 |none=>
  simp only[Tj,Option.none_or];have e:=h.last l k;unfold Bi at e;rw[e,m k,qO (h.mh k),h.Hr d k,TM];unfold Bi;cases(((a.filter (Bp (-1) d)).filter (λv=>decide (v.r.key=k))).filter (λv=>!v.bK)).getLast? with
  |none=>rfl
  |some v=>cases hg:v.r.aO<;>simp[bq.eW,hg,Option.filter]
theorem FZ(c:List (ByteArray×bF))(a:ByteArray->List bF)(b:Int)(k:ByteArray):gA c a b k=(mz c a b k).map (λv=>(k,v)):=by
 unfold gA mz;cases fT c (a k) b k with
 |none=>rfl
 |some v=>cases hg:v.aO<;>simp[gQ,hg,Option.filter]
theorem Kn(c:List (ByteArray×bF))(a:ByteArray->List bF)(b:Int)(k:ByteArray):(if gQ (fT c (a k) b k)=true then(((fT c (a k) b k).getD bF.zero).value,(0:Int))else(ByteArray.empty,1))=match mz c a b k with|some v=>(v,0)|none=>(ByteArray.empty,1):=by
 unfold mz;cases fT c (a k) b k with
 |none=>rfl
 |some v=>cases hg:v.aO<;>simp[gQ,hg,Option.filter]
theorem xR:∀{l:List (Int×(Int×List (ByteArray×bF)))} {m:List (Int×Int×List an)},oX im l m->∀n,(aD l n=Y/\m.findIdx? (λx=>decide (x.1=n))=Y)\/∃k x y,aD l n=V x/\m.findIdx? (λx=>decide (x.1=n))=V k/\m[k]?=V y/\y.1=n/\y∈m/\x.1=y.2.1/\qo x.2 y.2.2/\oX im (del l n) (m.eraseIdx k)/\∀f e,qo f e->oX im (put l n (x.1,f)) (m.set k (y.1,y.2.1,e))
 |[],[],_,n=>.inl ⟨rfl,rfl⟩
 |p::l,q::m,⟨hpq,hlm⟩,n=>by
  obtain⟨c,d,g⟩:=hpq;obtain⟨a,x⟩:=p;simp only at c d g;by_cases b:a=n
  ·refine .inr ⟨0,x,q,by simp[aD,b],by simp[SR,<-c,b],rfl,by rw[<-c,b],by simp,d,g,by simpa[del,b]using hlm,λf e j=>?_⟩;simp only[put,b,Rz,SB];exact⟨⟨by rw[<-c,b],d,j⟩,hlm⟩
  ·have o:¬q.1=n:=by rw[<-c];exact b
   rcases xR hlm n with⟨h,i⟩|⟨k,A,y,h,i,r,s,t,u,v,w,z⟩
   ·exact .inl ⟨by simp[aD,b,h],by simp[SR,o,i]⟩
   ·refine .inr ⟨k+1,A,y,by simp[aD,b,h],by simp[SR,o,i],by simpa using r,s,by simp[t],u,v,?_,λf e j=>?_⟩
    ·simp only[del,b,RL,List.eraseIdx_cons_succ];exact⟨⟨c,d,g⟩,w⟩
    ·simp only[put,b,RL,Sz];exact⟨⟨c,d,g⟩,z f e j⟩
theorem nG:∀{l:List (Int×(Int×List (ByteArray×bF)))} {m:List (Int×Int×List an)},oX im l m->l.length=m.length
 |[],[],_=>rfl
 |_::_,_::_,h=>by simp[nG h.2]
theorem xS:∀{l:List (Int×(Int×List (ByteArray×bF)))} {m:List (Int×Int×List an)},oX im l m->∀{p:Int×(Int×List (ByteArray×bF))} {q:Int×Int×List an},im p q->oX im (l++[p]) (m++[q])
 |[],[],_,_,_,hp=>⟨hp,trivial⟩
 |_::_,_::_,h,_,_,hp=>⟨h.1,xS h.2 hp⟩
theorem uB:∀{l:List (Int×(Int×List (ByteArray×bF)))} {m:List (Int×Int×List an)},oX im l m->l.map (λp=>p.2.1)=m.map (λq=>q.2.1)
 |[],[],_=>rfl
 |_::_,_::_,h=>by simp[uB h.2,h.1.2.1]
theorem qo.nil:qo [] []:=⟨.nil,.nil,λ_=>rfl⟩
theorem qo.len{f:List (ByteArray×bF)}{d:List an}(h:qo f d):f.length=d.length:=by
 have g:(d.map an.key).Nodup:=by rw[List.Nodup,Rw];exact h.bP.imp (λ{a b} c e=>by rw[e,bw]at c;cases c)
 have i:(f.map (·.1)).Perm (d.map an.key):=by refine(List.perm_ext_iff_of_nodup h.nodup g).2 (λk=>?_);rw[<-ff,<-nX,h.same k];cases cV d k<;>simp
 have:=i.length_eq;simpa using this
theorem qo.put{d:List (ByteArray×bF)}{f:List an}(h:qo d f)(r:an):qo (put d r.key r.eW) (aS f r):=by
 refine⟨oi h.bP r,?_,λk=>?_⟩
 ·cases hl:aD d r.key with
  |none=>
   rw[kj hl];rw[xT];refine lf.2 ⟨h.nodup,by simp,λa g b i=>?_⟩;have c:b=r.key:=by simpa using i
   rintro rfl;obtain⟨p,j,e⟩:=fI.1 g;exact dU.1 hl p j (e.trans c)
  |some x=>
   rw[jP hl];exact h.nodup
 ·rw[ke,qZ];split
  ·rfl
  ·exact h.same k
theorem ik.find{B:aZ}(h:ik A B)(n:Int):(aD A.af n=Y/\B.find n=Y)\/∃k x y,aD A.af n=V x/\B.find n=V k/\B.work k=y/\y.1=n/\y∈B.af/\x.1=y.2.1/\qo x.2 y.2.2/\oX im (del A.af n) (B.af.eraseIdx k)/\∀b a,qo b a->oX im (put A.af n (x.1,b)) (B.af.set k (y.1,y.2.1,a)):=by
 rcases xR h.af n with o|⟨k,x,y,c,d,e,f,g,i,j,l,m⟩
 ·exact .inl o
 ·exact .inr ⟨k,x,y,c,d,by unfold aZ.work;rw[e];rfl,f,g,i,j,l,m⟩
theorem ik.dQ{B:aZ}(h:ik A B):A.dQ=B.dQ:=by unfold aX.dQ aZ.dQ;rw[nG h.af,h.aJ]
theorem ik.fq{B:aZ}(h:ik A B):ik A.fq B.fq:=by
 unfold aX.fq aZ.fq;rw[nG h.af];split
 ·refine{h with aJ:=by show A.aJ+1=B.aJ+1;rw[h.aJ],af:=?_,aI:=λx b=>?_}
  ·show oX im (A.af++[(A.aJ+1,(A.now,[]))]) (B.af++[(B.aJ+1,B.now,[])]);exact xS h.af ⟨by rw[h.aJ],h.now,qo.nil⟩
  ·rcases cQ.1 b with a|a
   ·exact h.aI x a
   ·have:x=(B.aJ+1,B.now,[]):=by simpa using a
    subst this;exact⟨h.pE,ya _⟩
 ·exact h
theorem ik.kO{B:aZ}(h:ik A B)(n:Int)(a:ByteArray):A.kO n a=B.kO n a:=by
 unfold aX.kO aZ.kO;rcases h.find n with⟨b,c⟩|⟨k,x,y,b,c,d,l,e,f,g,-,-⟩
 ·rw[b,c];rfl
 ·rw[b,c];simp only[Ra,Rz,lp,d];split
  ·have i:=(h.aI y e).1;have j:=Dt h.all h.aE g i a;rw[Kn,f];unfold aZ.seen wv;rw[<-j];cases cV (iL B.all y.2.1 y.2.2) a<;>rfl
  ·rfl
theorem ik.cz{B:aZ}(h:ik A B)(n:Int)(a c:ByteArray)(b:Bool):A.cz n a c=B.cz n ⟨a,c,b⟩:=by
 unfold aX.cz aZ.cz;rcases h.find n with⟨d,f⟩|⟨k,x,y,d,f,i,j,l,m,g,-,-⟩
 ·rw[d,f];rfl
 ·rw[d,f];simp only[Ra,Rz,lp,i];unfold aZ.oF;have e:(aD x.2 a).isSome=(cV y.2.2 a).isSome:=by rw[g.same a];cases cV y.2.2 a<;>rfl
  rw[e,g.len];simp only[TF,tT]
theorem ik.dT{B:aZ}(h:ik A B)(n:Int)(b c:ByteArray)(a:Bool):ik (A.dT n b c a) (B.dT n ⟨b,c,a⟩):=by
 have o:=h.cz n b c a;unfold aX.dT aZ.dT;rcases h.find n with⟨d,e⟩|⟨k,x,y,d,e,i,q,j,r,l,-,m⟩
 ·have g:B.cz n ⟨b,c,a⟩=1:=by unfold aZ.cz;rw[e];rfl
  rw[d,g,el (by decide)];exact h
 ·rw[d,<-o];simp only;split
  ·rw[e,lp];unfold aZ.wrote;rw[i];refine{h with af:=m _ _ (l.put ⟨b,c,a⟩),aI:=λz p=>?_};rcases St p with f|f
   ·exact h.aI z f
   ·subst f;exact h.aI y j
  ·exact h
theorem Dc{l m:List (ByteArray×ByteArray)}(o:bh (l.map (·.1)))(r:bh (m.map (·.1)))(h:∀p,p∈l↔p∈m):l=m:=by
 induction l generalizing m with
 |nil=>
  cases m with
  |nil=>rfl
  |cons p m=>have:=(h p).2 (by simp);cases this
 |cons p l ih=>
  cases m with
  |nil=>have:=(h p).1 (by simp);cases this
  |cons q m=>
   obtain⟨i,j⟩:=fS o;obtain⟨k,n⟩:=fS r;have b:∀x∈l,de p.1 x.1=true:=λx a=>i _ (Sn a);have c:∀x∈m,de q.1 x.1=true:=λx a=>k _ (Sn a);have e:p=q:=by
    rcases cT.1 ((h p).1 (by simp))with e|d
    ·exact e
    ·rcases cT.1 ((h q).2 (by simp))with e|f
     ·exact e.symm
     ·have:=eO (c p d) (b q f);rw[bw]at this;cases this
   subst e;congr 1;refine ih j n (λx=>⟨λa=>?_,λa=>?_⟩)
   ·rcases cT.1 ((h x).1 (ef _ a))with e|g
    ·have:=b x a;rw[e,bw]at this;cases this
    ·exact g
   ·rcases cT.1 ((h x).2 (ef _ a))with e|g
    ·have:=c x a;rw[e,bw]at this;cases this
    ·exact g
theorem pD{f:ByteArray->Option ByteArray}:∀(a:List ByteArray),(a.filterMap (λk=>(f k).map (λv=>(k,v)))).map (·.1)=a.filter (λk=>(f k).isSome)
 |[]=>rfl
 |x::a=>by cases h:f x<;>simp[h,pD a]
theorem ik.seen{B:aZ}(h:ik A B){d:List (ByteArray×bF)}{j:List an}(u:qo d j)(q:B.aK<=b)(a:ByteArray):A.seen b d a=ma ((iL B.all b j).filter (λr=>!de r.key a)):=by
 have s:gA d A.aE b=λk=>(mz d A.aE b k).map (λv=>(k,v)):=funext (FZ d A.aE b);unfold aX.seen;rw[s];have f:=λk=>Dt h.all h.aE u q k;have o:=ux B.all b j;refine Dc ?_ ?_ ?_
 ·rw[pD];exact((eY _ h.lq).sublist qs).sublist qs
 ·unfold ma bh;rw[tO,Rw];exact(o.sublist qs)
 ·rintro⟨k,v⟩;rw[List.mem_filterMap];unfold ma;rw[fI];constructor
  ·rintro⟨i,m,e⟩;cases c:mz d A.aE b i with
   |none=>rw[c]at e;cases e
   |some v'=>
    rw[c]at e;obtain⟨rfl,rfl⟩:i=k/\v'=v:=by simpa using e
    have:=f i;rw[c]at this;cases hh:cV (iL B.all b j) i with
    |none=>rw[hh]at this;cases this
    |some r=>
     rw[hh]at this;have n:r.value=v':=by simpa using this
     obtain⟨l,g⟩:=wx hh;exact⟨r,kB.2 ⟨l,by rw[g];exact(kB.1 m).2⟩,by rw[g,n]⟩
  ·rintro⟨r,t,e⟩;obtain⟨rfl,rfl⟩:r.key=k/\r.value=v:=by simpa using e
   obtain⟨l,g⟩:=kB.1 t;have:=f r.key;rw[jE o l]at this;have c:mz d A.aE b r.key=V r.value:=this.symm;refine⟨r.key,kB.2 ⟨(gy _ _ _).2 ?_,g⟩,by rw[c];rfl⟩;unfold mz fT at c;cases hl:aD d r.key with
   |some x=>exact .inr ((ff _ _).1 (by rw[hl];rfl))
   |none=>
    rw[hl]at c;refine .inl ((h.keys r.key).2 (λp=>?_));rw[p]at c;cases c
theorem ik.gi{B:aZ}(h:ik A B)(n:Int)(a:ByteArray)(b:Int):A.gi n a b=B.gi n a b:=by
 unfold aX.gi aZ.gi;rcases h.find n with⟨c,d⟩|⟨k,x,y,c,d,e,j,f,g,i,-,-⟩
 ·rw[c,d];rfl
 ·rw[c,d];simp only[Ra,Rz,lp,e];split
  ·rw[g,h.seen i (h.aI y f).1 a];rfl
  ·rfl
theorem ik.gN{B:aZ}(h:ik A B)(n:Int):A.gN n=B.gN n:=by
 unfold aX.gN aZ.gN;rcases h.find n with⟨a,b⟩|⟨k,x,y,a,b,-⟩
 ·rw[a,b];rfl
 ·rw[a,b];rfl
theorem ik.over{B:aZ}(h:ik A B){n:Int}(a:oX im (del A.af n) (B.af.eraseIdx k)):ik (A.ended n) (B.over k):=
 {h with af:=a,aI:=λx b=>h.aI x (RX b)}
theorem ik.gd{B:aZ}(h:ik A B)(n:Int):ik (A.gd n) (B.gd n):=by
 unfold aX.gd aZ.gd;rcases h.find n with⟨a,b⟩|⟨k,x,y,a,b,d,e,f,g,i,c,-⟩
 ·rw[a,b];exact h
 ·rw[a,b];exact h.over c
theorem Fk(h:dP a){v:bF}(c:v∈a):v.aG<=eE a:=by
 unfold eE;rcases Sw a with rfl|⟨d,u,rfl⟩
 ·cases c
 ·rw[Sx]at*;rw[SE];show v.aG<=u.aG;rcases cQ.1 c with b|b
  ·exact Int.le_of_lt ((Rg.1 h).2.2 v b u (by simp))
  ·have:v=u:=by simpa using b
   rw[this];exact ya _
theorem ik.OH{B:aZ}(h:ik A B){g:List (ByteArray×bF)}{m:List an}(l:qo g m)(z:B.aK<=b):pz A b g=fP B.all b m:=by
 rw[QT];unfold pz fP;rw[Rt,Rt];constructor
 ·rintro⟨p,i,s⟩;have a:b<eE (A.aE p.1):=by simpa using s
  have y:=h.mr;unfold eE at a;cases hg:(A.aE p.1).getLast? with
  |none=>rw[hg]at a;simp at a;omega
  |some v=>
   rw[hg]at a;have c:=SF hg;rw[h.aE]at c;obtain⟨x,f,rfl⟩:=fI.1 c;obtain⟨r,k⟩:=kB.1 f;simp only[fB,ss,tT]at k;refine⟨x,r,?_⟩;rw[ss];refine⟨?_,by simpa[bq.eW]using a⟩;have d:(aD g x.r.key).isSome=true:=(ff _ _).2 (by rw[k.1];exact Sn i);rw[l.same]at d;simpa using d
 ·rintro⟨x,f,j⟩;obtain⟨n,o⟩:=Tu.1 j;have q:b<x.aG:=by simpa using o
  have u:x.bK=false:=by
   cases hq:x.bK with
   |false=>rfl
   |true=>have:=(h.all.bK x f hq).1;omega
  have d:(aD g x.r.key).isSome=true:=by rw[l.same];simpa using n
  obtain⟨p,i,e⟩:=fI.1 ((ff _ _).1 d);refine⟨p,i,?_⟩;have c:x.eW∈A.aE p.1:=by rw[h.aE,e];exact Sn (kB.2 ⟨f,by simp[fB,u]⟩)
  have t:dP (A.aE p.1):=by rw[h.aE];exact h.all.mh _
  have:=Fk t c;have w:x.eW.aG=x.aG:=rfl;simp;omega
theorem zC{a:List an}(h:eD a)(s:Int)(k:ByteArray):((eU a s).filter (fB k)).map bq.eW=match cV a k with|some r=>[⟨s,r.value,r.aO⟩]|none=>[]:=by
 have e:(eU a s).filter (fB k)=(a.filter (λr=>decide (r.key=k))).map (λr=>⟨s,r,false⟩):=by unfold eU;rw[SH];congr 1;apply Tb;intro r _;simp[fB]
 rw[e,tO];induction a with
 |nil=>rfl
 |cons r a ih=>
  obtain⟨f,g⟩:=BS.1 h;unfold cV;rw[RS,List.find?_cons];by_cases b:r.key=k
  ·have d:a.filter (λr=>decide (r.key=k))=[]:=by
    rw[RR];intro u j i;have c:u.key=k:=by simpa using i
    have:=f u j;rw[b,c,bw]at this;cases this
   rw[d];simp[b,bq.eW]
  ·have:=ih g (by unfold eU;rw[SH];congr 1;apply Tb;intro r _;simp[fB])
   rw[el (by simp[b])];simp only[b,decide_false];exact this
theorem kZ.PI{j:List bq}{m t:Int}{o:List an}(h:kZ j m d)(A:eD o)(G:0<=t)(z:m<t):kZ (j++eU o t) t d:=by
 have l:∀v∈eU o t,v.aG=t/\v.bK=false:=λv f=>by unfold eU at f;obtain⟨r,_,rfl⟩:=fI.1 f;exact⟨rfl,rfl⟩
 refine⟨Rg.2 ⟨h.rising,?_,λa w b x _=>?_⟩,λv f=>?_,λv f i=>?_,λv f i u C y B=>?_⟩
 ·unfold eU;rw[Rw];exact A.imp (λ{a b} k e=>by have p:a.key=b.key:=e;rw[p,bw]at k;cases k)
 ·have:=(h.fH a w).2;have:=(l b x).1;omega
 ·rcases cQ.1 f with c|c
  ·have:=h.fH v c;omega
  ·have:=(l v c).1;omega
 ·rcases cQ.1 f with c|c
  ·obtain⟨q,s⟩:=h.bK v c i;refine⟨q,s.imp (λg=>?_) id⟩;unfold dI at g⊢;rw[TH,g];rfl
  ·rw[(l v c).2]at i;cases i
 ·rcases cQ.1 f with c|c
  ·rcases cQ.1 C with n|n
   ·exact h.closed v c i u n y B
   ·have D:=(l u n).1;have F:=(h.fH v c).2;omega
  ·rw[(l v c).2]at i;cases i
theorem ik.bZ{B:aZ}(h:ik A B)(n:Int):A.bZ n=B.bZ n:=by
 unfold aX.bZ aZ.bZ;rcases h.find n with⟨d,f⟩|⟨k,x,y,d,f,m,p,o,i,j,q,-⟩
 ·rw[d,f];rfl
 ·rw[d,f];simp only[Ra,Rz,lp,m];unfold aZ.vT;have l:=j.len;by_cases c:x.2=[]
  ·have a:y.2.2.length=0:=by rw[<-l,c];rfl
   rw[fy c,fy a,i]
  ·have a:¬y.2.2.length=0:=λe=>c (Sg.1 (l.trans e));rw[el c,el a,h.now,i,h.OH j (h.aI y o).1];by_cases g:B.now<1000000000
   ·have b:¬1000000000<=B.now:=by omega
    rw[fy g,el b]
   ·have b:1000000000<=B.now:=by omega
    rw[el g,fy b]
theorem ik.dS{B:aZ}(h:ik A B)(n:Int):ik (A.dS n) (B.dS n):=by
 unfold aX.dS aZ.dS;rcases h.find n with⟨g,i⟩|⟨k,x,y,g,i,p,v,q,r,d,j,-⟩
 ·rw[g,i];exact h
 ·rw[g,i];simp only[Ra,Rz,lp,p];unfold aZ.mP;have o:=d.len;by_cases f:x.2=[]
  ·have b:y.2.2.length=0:=by rw[<-o,f];rfl
   rw[fy f,fy b];exact h.over j
  ·have b:¬y.2.2.length=0:=λe=>f (Sg.1 (o.trans e));rw[el f,el b,h.now,r,h.OH d (h.aI y q).1];by_cases m:B.now<1000000000
   ·have c:¬1000000000<=B.now:=by omega
    rw[fy m,el c];split
    ·exact h.over j
    ·have w:=h.mr;have C:=h.pE;have u:∀a,(A.nL n x.2).aE a=((B.all++eU y.2.2 (B.now+1)).filter (fB a)).map bq.eW:=λa=>by show(if(aD x.2 a).isSome then A.aE a++[km x.2 (A.now+1) a]else A.aE a)=_;rw[yv,xT,zC d.bP,<-h.aE a,h.now];unfold km;rw[d.same a];cases cV y.2.2 a<;>simp[an.eW]
     refine{h with now:=?_,pE:=?_,af:=j,aI:=λz l=>?_,aE:=u,lq:=eY _ h.lq,keys:=λa=>?_,all:=h.all.PI d.bP (by omega) (by omega),pinned:=λs t=>?_,copied:=λz l=>?_}
     ·show A.now+1=B.now+1;rw[h.now]
     ·show B.aK<=B.now+1;omega
     ·have:=h.aI z (RX l);refine⟨this.1,?_⟩;show z.2.1<=B.now+1;omega
     ·show a∈ib A.keys (x.2.map (·.1))↔(if(aD x.2 a).isSome then A.aE a++[km x.2 (A.now+1) a]else A.aE a)≠[];rw[gy,<-ff,h.keys];cases(aD x.2 a).isSome<;>simp
     ·have:=h.pinned s t;refine⟨this.1,?_⟩;show s<=B.now+1;omega
     ·have:=h.copied z l;refine⟨this.1,?_⟩;show z.2.1<=B.now+1;omega
   ·have c:1000000000<=B.now:=by omega
    rw[el m,fy c];exact h
theorem ik.oM{B:aZ}(h:ik A B)(s:Int):A.oM s=B.oM s:=by unfold aX.oM aZ.oM aX.hasB aZ.there;rw[h.now,h.aK]
theorem qA(l:List (Int×Int))(s v t:Int):(aD (put l s v) t).getD 0=if s=t then v else(aD l t).getD 0:=by rw[ke];split<;>rfl
theorem zq(h:(l.map (·.1)).Nodup)(s v:Int):((put l s v).map (·.1)).Nodup:=by
 cases hl:aD l s with
 |none=>
  rw[kj hl,xT];refine lf.2 ⟨h,by simp,λa d b f=>?_⟩;have c:b=s:=by simpa using f
  rintro rfl;obtain⟨p,g,e⟩:=fI.1 d;exact dU.1 hl p g (e.trans c)
 |some x=>rw[jP hl];exact h
theorem wP{v:Int}{p:Int×Int}:p∈put l s v->p=(s,v)\/p∈l:=by
 induction l with
 |nil=>intro b;left;simpa[put]using b
 |cons q l ih=>
  obtain⟨a,x⟩:=q;intro b;unfold put at b;split at b
  ·rcases cT.1 b with e|b
   ·exact .inl e
   ·exact .inr (ef _ b)
  ·rcases cT.1 b with e|b
   ·exact .inr (by rw[e];simp)
   ·exact(ih b).imp id (ef _)
theorem ug:(del l s).Sublist l:=by
 induction l with
 |nil=>exact RV _
 |cons q l ih=>
  obtain⟨a,x⟩:=q;unfold del;split
  ·exact List.sublist_cons_self _ _
  ·exact ih.cons_cons _
theorem ik.nu{B:aZ}(h:ik A B)(s:Int):ik (A.nu s) (B.nu s):=by
 unfold aX.nu aZ.nu;have e:A.hasB s=B.there s:=by unfold aX.hasB aZ.there;rw[h.now,h.aK]
 rw[e];split
 ·rename_i f;have d:=h.aN s;have g:0<=(aD A.aN s).getD 0:=by rw[d];omega
  refine{h with aN:=λt=>?_,du:=zq h.du _ _,um:=λp b=>?_,cF:=?_,pinned:=λt c=>?_}
  ·rw[qA];show _=((B.aN++[s]).count t:Int)
   rw[List.count_append];split
   ·rename_i e;subst e;rw[d];simp
   ·rename_i e;rw[h.aN t];simp[e]
  ·rcases wP b with rfl|b
   ·show 1<=(aD A.aN s).getD 0+1;omega
   ·exact h.um p b
  ·show((put A.aN s ((aD A.aN s).getD 0+1)).map (·.2)).sum=((B.aN++[s]).length:Int)
   have:=h.cF;unfold aX.cF at this;rw[sH,this];simp;omega
  ·rcases cQ.1 c with a|a
   ·exact h.pinned t a
   ·have e:t=s:=by simpa using a
    subst e;unfold aZ.there at f;simpa using f
 ·exact h
theorem ik.mC{B:aZ}(h:ik A B)(s:Int):A.mC s=nD B.aN s:=by
 unfold aX.mC nD;rw[h.aN s];by_cases a:s∈B.aN
 ·have:=List.count_pos_iff.2 a;rw[el (by omega),fy a]
 ·rw[fy (by rw[List.count_eq_zero.2 a];rfl),el a]
theorem ik.iW{B:aZ}(h:ik A B)(s:Int):ik (A.iW s) (B.iW s):=by
 unfold aX.iW aZ.iW;have g:=h.aN s;have b:=h.cF;unfold aX.cF at b;by_cases c:s∈B.aN
 ·have k:=List.count_pos_iff.2 c;have i:=List.length_erase_of_mem c;have j:0<B.aN.length:=List.length_pos_of_mem c;have a:∀t,(((B.aN.erase s).count t:Nat):Int)=if s=t then(B.aN.count s:Int)-1 else B.aN.count t:=λt=>by
   rw[List.count_erase];by_cases e:s=t
   ·subst e;rw[fy rfl];simp;omega
   ·rw[el e];simp[e]
  rw[el (by rw[g];omega)];by_cases f:(aD A.aN s).getD 0=1
  ·rw[fy f];refine{h with aN:=λt=>?_,du:=h.du.sublist (ug.map _),um:=λp b=>h.um p (ug.subset b),cF:=?_,pinned:=λt d=>h.pinned t (List.mem_of_mem_erase d)}
   ·show(aD (del A.aN s) t).getD 0=((B.aN.erase s).count t:Nat)
    rw[a t,mZ _ h.du];split
    ·simp;omega
    ·exact h.aN t
   ·show((del A.aN s).map (·.2)).sum=((B.aN.erase s).length:Int)
    rw[xE,b];omega
  ·rw[el f];refine{h with aN:=λt=>?_,du:=zq h.du _ _,um:=λp b=>?_,cF:=?_,pinned:=λt d=>h.pinned t (List.mem_of_mem_erase d)}
   ·show(aD (put A.aN s _) t).getD 0=((B.aN.erase s).count t:Nat)
    rw[a t,qA];split
    ·omega
    ·exact h.aN t
   ·rcases wP b with rfl|b
    ·show 1<=(aD A.aN s).getD 0-1;omega
    ·exact h.um p b
   ·show((put A.aN s ((aD A.aN s).getD 0-1)).map (·.2)).sum=((B.aN.erase s).length:Int)
    rw[sH,b];omega
 ·rw[fy (by rw[g,List.count_eq_zero.2 c];rfl),List.erase_of_not_mem c];exact h
theorem sI{α:Type}(f:α->Nat):∀(l:List α),(∀k∈l,f k=0)->(l.map f).sum=0
 |[],_=>rfl
 |a::l,h=>by simp[h a (by simp),sI f l (λk b=>h k (by simp[b]))]
theorem Hn(x:ByteArray):∀(l:List ByteArray),l.Nodup->x∈l->(l.map (λk=>if x=k then 1 else 0)).sum=1
 |[],_,h=>by cases h
 |a::l,hn,h=>by
  obtain⟨b,c⟩:=ey.1 hn;simp only[mU,RH];by_cases e:x=a
  ·subst e;rw[sI _ l (λk d=>el (λe:x=k=>b (e▸d)))];simp
  ·rw[el e,Hn x l c ((cT.1 h).resolve_left e)]
theorem rf{a:List ByteArray}(b:a.Nodup)(p:bq->Bool):∀(l:List bq),(∀v∈l,p v=true->v.r.key∈a)->(a.map (λk=>l.countP (λv=>decide (v.r.key=k)&&p v))).sum=l.countP p
 |[],_=>sI _ _ (λk _=>rfl)
 |v::l,h=>by
  have ih:=rf b p l (λu c=>h u (by simp[c]));have e:(a.map (λk=>(v::l).countP (λv=>decide (v.r.key=k)&&p v)))=a.map (λk=>l.countP (λv=>decide (v.r.key=k)&&p v)+(if(decide (v.r.key=k)&&p v)=true then 1 else 0)):=by apply RI;intro k _;rw[List.countP_cons]
  rw[e,sum_add,ih,List.countP_cons];congr 1;cases hp:p v with
  |false=>exact sI _ _ (λk _=>by simp)
  |true=>
   have:=Hn v.r.key a b (h v (by simp) hp);simpa using this
theorem ik.total{B:aZ}(h:ik A B):A.total=gW B.all:=by
 unfold aX.total gW;have e:A.keys.map (λk=>(A.aE k).length)=A.keys.map (λk=>B.all.countP (λv=>decide (v.r.key=k)&&!v.bK)):=by apply RI;intro k _;rw[h.aE,hO,List.countP_eq_length_filter];rfl
 rw[e];refine rf (fK h.lq) (λv=>!v.bK) B.all (λv d c=>?_);rw[h.keys,h.aE];intro b;have a:v.eW∈(B.all.filter (fB v.r.key)).map bq.eW:=Sn (kB.2 ⟨d,by simp[fB];simpa using c⟩);rw[b]at a;cases a
theorem ik.OQ{B:aZ}(h:ik A B):A.af.length=B.af.length:=nG h.af
theorem ik.Qc{B:aZ}(h:ik A B):A.aA.length=B.aC.length:=by simpa using Rc List.length h.aC
theorem tu(n:Int)(l:List Int):gS n l=leastOf n l:=rfl
theorem kQ(n:Int)(l m:List Int):leastOf (leastOf n l) m=leastOf n (l++m):=by unfold leastOf;rw[Ri]
theorem ik.least{B:aZ}(h:ik A B):A.least=B.held:=by
 unfold aZ.held aX.least;rw[tu,tu,tu,kQ,kQ];have m:=jG A.held A.now;have d:=jG (B.af.map (λx=>x.2.1)++(B.aN++B.aC.map (λx=>x.2.1))) B.now;refine sh m ?_;have e:∀s,s∈A.held↔s∈B.af.map (λx=>x.2.1)++(B.aN++B.aC.map (λx=>x.2.1)):=λs=>by
  unfold aX.held;rw[uB h.af,mE];have j:A.aA.map (λp=>p.2.lQ)=B.aC.map (λx=>x.2.1):=by have:=Rc (List.map Prod.snd) h.aC;simpa[tO,tQ]using this
  have k:s∈A.aN.map (λp=>p.1)↔s∈B.aN:=by
   rw[<-List.count_pos_iff (l:=B.aN)];have a:=h.aN s;constructor
   ·intro i;obtain⟨p,f,rfl⟩:=fI.1 i;have c:=jc h.du f;rw[c]at a;have:=h.um p f;simp only[lp]at a;omega
   ·intro i;cases c:aD A.aN s with
    |none=>rw[c]at a;simp at a;omega
    |some v=>exact fI.2 ⟨(s,v),bj c,rfl⟩
  rw[cQ,cQ,cQ,cQ,j,k]
 rw[h.now];exact⟨d.1,λb n=>d.2.1 b ((e b).1 n),d.2.2.imp id (λg=>(e _).2 g)⟩
theorem ik.NY{B:aZ}(h:ik A B):B.aK<=B.held/\B.held<=B.now/\(∀x∈B.af,B.held<=x.2.1)/\(∀s∈B.aN,B.held<=s)/\∀x∈B.aC,B.held<=x.2.1:=by
 have e:B.held=leastOf B.now (B.af.map (λx=>x.2.1)++(B.aN++B.aC.map (λx=>x.2.1))):=by unfold aZ.held;rw[tu,tu,tu,kQ,kQ]
 obtain⟨d,c,a⟩:=jG (B.af.map (λx=>x.2.1)++(B.aN++B.aC.map (λx=>x.2.1))) B.now;rw[<-e]at d c a;refine⟨?_,d,λx b=>c _ (cQ.2 (.inl (fI.2 ⟨x,b,rfl⟩))),λs f=>c _ (cQ.2 (.inr (cQ.2 (.inl f)))),λx b=>c _ (cQ.2 (.inr (cQ.2 (.inr (fI.2 ⟨x,b,rfl⟩)))))⟩;rcases a with a|a
 ·rw[a];exact h.pE
 ·rcases cQ.1 a with a|a
  ·obtain⟨x,b,e⟩:=fI.1 a;rw[<-e];exact(h.aI x b).1
  ·rcases cQ.1 a with a|a
   ·exact(h.pinned _ a).1
   ·obtain⟨x,b,e⟩:=fI.1 a;rw[<-e];exact(h.copied x b).1
theorem EK{F:List bq}{c:bq->Bool}(w:F.Pairwise (λa b=>a.aG<b.aG))(m:∀v∈F,c v=(decide (v.aG<=L)&&(F.any (λx=>decide (v.aG<x.aG)&&decide (x.aG<=L))||v.r.aO))):F.filter (λv=>!c v)=F.drop (cO (F.map bq.eW) L)/\F.countP c=cO (F.map bq.eW) L:=by
 have t:dP (F.map bq.eW):=by unfold dP;rw[Rw];exact w
 have o:=qO t L;have q:lN (F.map bq.eW) L=(F.filter (λv=>decide (v.aG<=L))).length:=by unfold lN;rw[qD t,SH,hO];rfl
 have p:((F.map bq.eW).filter (λv=>decide (v.aG<=L)))=(F.filter (λv=>decide (v.aG<=L))).map bq.eW:=by rw[SH];rfl
 obtain⟨P,Q,rfl,j,k⟩:∃P Q,F=P++Q/\(∀v∈P,v.aG<=L)/\∀v∈Q,L<v.aG:=by
  clear m o q p t;induction F with
  |nil=>exact⟨[],[],rfl,λ_ h=>(by cases h),λ_ h=>(by cases h)⟩
  |cons v F ih=>
   obtain⟨r,s⟩:=BS.1 w;by_cases f:v.aG<=L
   ·obtain⟨P,Q,rfl,j,k⟩:=ih s;exact⟨v::P,Q,rfl,λu d=>by rcases cT.1 d with rfl|d;exact f;exact j u d,k⟩
   ·exact⟨[],v::F,rfl,λ_ h=>(by cases h),λu d=>by
     rcases cT.1 d with rfl|d
     ·omega
     ·have:=r u d;omega⟩
 have H:(P++Q).filter (λv=>decide (v.aG<=L))=P:=by rw[yv];have B:P.filter (λv=>decide (v.aG<=L))=P:=RT.2 (λv f=>by simp[j v f]);have C:Q.filter (λv=>decide (v.aG<=L))=[]:=RR.2 (λv f=>by have:=k v f;simp;omega);rw[B,C,Kp]
 rw[H]at q p;rw[p]at o;have A:∀v∈Q,c v=false:=λv f=>by
  rw[m v (by simp[f])];have:=k v f;have e:decide (v.aG<=L)=false:=by simp;omega
  rw[e];rfl
 have N:Q.filter (λv=>!c v)=Q:=RT.2 (λv f=>by simp[A v f]);have G:Q.countP c=0:=List.countP_eq_zero.2 (λv f=>by simp[A v f]);rw[yv,TI,N,G];unfold cO;rw[o,q];rcases Sw P with rfl|⟨R,v,rfl⟩
 ·simp
 ·rw[Sx]at*;have i:(List.map bq.eW (R++[v])).getLast?=V v.eW:=by rw[TM,SE];rfl
  rw[i];have l:=j v (by simp);have y:∀u∈R,u.aG<v.aG:=λu d=>(Rg.1 (Rg.1 w).1).2.2 u d v (by simp);have z:∀u∈R,c u=true:=λu d=>by rw[m u (by simp[d])];have r:=j u (by simp[d]);have s:=y u d;have e:((R++[v])++Q).any (λx=>decide (u.aG<x.aG)&&decide (x.aG<=L))=true:=Rt.2 ⟨v,by simp,by simp[s,l]⟩;rw[e];simp[r]
  have n:c v=v.r.aO:=by
   rw[m v (by simp)];have e:((R++[v])++Q).any (λx=>decide (v.aG<x.aG)&&decide (x.aG<=L))=false:=by
    rw[List.any_eq_false];intro x g;rcases cQ.1 g with g|g
    ·rcases cQ.1 g with g|g
     ·have:=y x g;simp;omega
     ·have:x=v:=by simpa using g
      subst this;simp
    ·have:=k x g;simp;omega
   rw[e];simp[l]
  have M:R.filter (λv=>!c v)=[]:=RR.2 (λu d=>by simp[z u d]);have D:R.countP c=R.length:=List.countP_eq_length.2 z;rw[yv,TI,M,D];have K:v.eW.aO=v.r.aO:=rfl;simp only[K];cases hg:v.r.aO with
  |true=>
   rw[hg]at n;simp[n]
  |false=>
   rw[hg]at n;simp[n]
theorem jo(l:List bq)(f:Int)(v:bq):(ij l f v).aG=v.aG/\(ij l f v).r=v.r/\(ij l f v).bK=(v.bK||cZ l f v):=by
 unfold ij;cases h:cZ l f v with
 |true=>exact⟨rfl,rfl,by simp[bq.off]⟩
 |false=>exact⟨rfl,rfl,by simp⟩
theorem Cy(l:List bq)(f:Int)(v:bq):dI (kx l f) (ij l f v) f=dI l v f:=by unfold dI kx;rw[List.any_map];congr 1;funext x;obtain⟨a,b,-⟩:=jo l f x;obtain⟨c,d,-⟩:=jo l f v;simp only[Function.comp,jF,a,b,c,d]
theorem ui{α:Type}{R:α->α->Prop}:∀{l:List α},l.Pairwise R->∀a∈l,∀b∈l,a=b\/R a b\/R b a
 |[],_,a,h,_,_=>by cases h
 |x::l,hp,a,ha,b,hb=>by
  obtain⟨g,i⟩:=BS.1 hp;rcases cT.1 ha with f|d
  ·rcases cT.1 hb with e|c
   ·exact .inl (f.trans e.symm)
   ·exact .inr (.inl (f▸g b c))
  ·rcases cT.1 hb with e|c
   ·exact .inr (.inr (e▸g a d))
   ·exact ui i a d b c
theorem kZ.zP{g:List bq}{p:Int}(h:kZ g p d)(B:d<=L):kZ (kx g L) p L:=by
 have f:=jo g L;have k:∀v,dI g v d=true->dI g v L=true:=λv q=>by unfold dI at q⊢;obtain⟨x,i,o⟩:=Rt.1 q;refine Rt.2 ⟨x,i,?_⟩;simp only[jF,ss,tT]at o⊢;exact⟨o.1,by omega⟩
 refine⟨?_,λv n=>?_,λv n c=>?_,λv n c u z l s=>?_⟩
 ·unfold kx;rw[Rw];refine h.rising.imp (λ{a b} r=>?_);rw[(f a).1,(f b).1,(f a).2.1,(f b).2.1];exact r
 ·obtain⟨x,i,rfl⟩:=fI.1 n;rw[(f x).1];exact h.fH x i
 ·obtain⟨x,i,rfl⟩:=fI.1 n;rw[Cy,(f x).1,(f x).2.1];rw[(f x).2.2]at c;rcases Bool.or_eq_true_iff.1 c with c|c
  ·obtain⟨A,w⟩:=h.bK x i c;exact⟨by omega,w.imp (k x) id⟩
  ·simp only[cZ,ss,TF,tT]at c;exact⟨c.1.2,c.2⟩
 ·obtain⟨x,i,rfl⟩:=fI.1 n;obtain⟨y,t,rfl⟩:=fI.1 z;rw[(f x).2.2]at c;rw[(f x).2.1,(f y).2.1]at l;rw[(f x).1,(f y).1]at s;rw[(f y).2.2];rcases Bool.or_eq_true_iff.1 c with c|c
  ·rw[h.closed x i c y t l s];rfl
  ·rcases ui h.rising y t x i with rfl|j|j
   ·rw[c];simp
   ·have m:=j l;cases hyt:y.bK with
    |true=>rfl
    |false=>
     simp only[cZ,ss,TF,tT]at c;have q:dI g y L=true:=Rt.2 ⟨x,i,by simp[jF,l,m,c.1.2]⟩;have e:decide (y.aG<=L)=true:=by have:=c.1.2;simp;omega
     simp[cZ,hyt,q];omega
   ·have:=j l.symm;omega
theorem ik.lQ{B:aZ}(h:ik A B)(L:Int)(k:ByteArray):(B.all.filter (fB k)).filter (λv=>!cZ B.all L v)=(B.all.filter (fB k)).drop (cO (A.aE k) L)/\(B.all.filter (fB k)).countP (cZ B.all L)=cO (A.aE k) L:=by
 rw[h.aE k];refine EK ?_ (λv g=>?_)
 ·have:=h.all.mh k;unfold dP at this;rw[Rw]at this;exact this
 ·obtain⟨f,b⟩:=kB.1 g;simp only[fB,ss,tT,Bool.not_eq_true']at b;unfold cZ;rw[b.2];simp only[TO,Bool.true_and];congr 1;congr 1;rw[QT];unfold dI;rw[Rt,Rt];constructor
  ·rintro⟨x,c,a⟩;simp only[jF,ss,tT]at a;refine⟨x,kB.2 ⟨c,?_⟩,by simp[a.1.2,a.2]⟩
   have:x.bK=false:=by
    cases hq:x.bK with
    |false=>rfl
    |true=>
     have:=h.all.closed x c hq v f a.1.1.symm (by have:=a.1.2;omega);rw[b.2]at this;cases this
   simp[fB,a.1.1,b.1,this]
  ·rintro⟨x,c,a⟩;obtain⟨e,d⟩:=kB.1 c;simp only[fB,ss,tT,Bool.not_eq_true']at d a;exact⟨x,e,by simp[jF,d.1,b.1,a.1,a.2]⟩
theorem ik.mB{B:aZ}(h:ik A B):A.mB=(tS B.all B.held:Nat):=by
 unfold aX.mB tS;rw[h.least];congr 1;have e:A.keys.map (λk=>cO (A.aE k) B.held)=A.keys.map (λk=>B.all.countP (λv=>decide (v.r.key=k)&&cZ B.all B.held v)):=by
  apply RI;intro k _;rw[<-(h.lQ B.held k).2,List.countP_filter];apply List.countP_congr;intro v _
  have:cZ B.all B.held v=(!v.bK&&cZ B.all B.held v):=by unfold cZ;cases v.bK<;>simp
  rw[this];unfold fB;cases v.bK<;>cases cZ B.all B.held v<;>simp
 rw[e];refine rf (fK h.lq) _ B.all (λv f a=>?_);rw[h.keys,h.aE];intro d;have b:v.bK=false:=by unfold cZ at a;cases hq:v.bK with|false=>rfl|true=>rw[hq]at a;simp at a
 have c:v.eW∈(B.all.filter (fB v.r.key)).map bq.eW:=Sn (kB.2 ⟨f,by simp[fB,b]⟩);rw[d]at c;cases c
theorem ik.dX{B:aZ}(h:ik A B):ik A.dX B.dX:=by
 obtain⟨g,i,j,l,m⟩:=h.NY;have n:∀k,A.dX.aE k=((kx B.all B.held).filter (fB k)).map bq.eW:=λk=>by
  show(A.aE k).drop (cO (A.aE k) A.least)=_;rw[h.least];conv=>lhs;arg 2;rw[h.aE k]
  rw[<-TT,<-(h.lQ B.held k).1];unfold kx;rw[SH,tO,RN];have f:B.all.filter (fB k∘ij B.all B.held)=B.all.filter (λv=>!cZ B.all B.held v&&fB k v):=by apply Tb;intro v _;obtain⟨-,c,p⟩:=jo B.all B.held v;simp only[Function.comp,fB,c,p];cases v.bK<;>cases cZ B.all B.held v<;>simp
  rw[f];apply RI;intro v _;obtain⟨o,c,-⟩:=jo B.all B.held v;simp only[Function.comp,bq.eW,o,c]
 refine{h with aK:=h.least,mr:=?_,pE:=i,aI:=λx a=>⟨j x a,(h.aI x a).2⟩,aE:=n,lq:=?_,keys:=λk=>?_,all:=h.all.zP g,pinned:=λs d=>⟨l s d,(h.pinned s d).2⟩,copied:=λx a=>⟨m x a,(h.copied x a).2⟩}
 ·show 0<=B.held;have:=h.mr;omega
 ·exact h.lq.sublist qs
 ·show k∈A.keys.filter (λk=>decide (cO (A.aE k) A.least<(A.aE k).length))↔(A.aE k).drop (cO (A.aE k) A.least)≠[];rw[kB,h.keys];simp only[tT,ne_eq,List.drop_eq_nil_iff];constructor
  ·rintro⟨-,b⟩;omega
  ·intro b;refine⟨λe=>?_,by omega⟩;rw[e]at b;simp at b
def aZ.zero:aZ:=⟨[],0,0,[],0,[],[],0⟩
theorem MY:ik aX.zero aZ.zero where
 now:=rfl;aK:=rfl;mr:=ya _;pE:=ya _;aJ:=rfl;af:=trivial;aI:=λ_ h=>by cases h
 aE:=λ_=>rfl;lq:=.nil;keys:=λk=>⟨λh=>(by cases h),λh=>absurd rfl h⟩;all:=⟨.nil,λ_ h=>(by cases h),λ_ h=>(by cases h),λ_ h=>(by cases h)⟩
 aN:=λ_=>rfl;du:=.nil;um:=λ_ h=>by cases h
 cF:=rfl;pinned:=λ_ h=>by cases h
 aC:=rfl;copied:=λ_ h=>by cases h
 aB:=rfl
theorem Made.OM{α:Type}{e:cI}{a:Nat}{f:α->List ax}{w c W:ab}{v:ax}{l:List α}(h:Made e a f c W v l)(b:aa n_ w c):Made e a f w W v l:=
 ⟨h.row,λg d=>mA b.size (h.own g d),b.tr h.keep i_⟩
def kC(x:bB)(v:bF):Bool:=if x.full=true then !v.aO else decide (x.gY<v.aG)
def nC(x:bB)(k:ByteArray):Option bF->Option an
 |some v=>if kC x v=true then V ⟨k,v.value,v.aO⟩else Y
 |none=>Y
def fD(x:bB)(a:ByteArray->List bF)(k:ByteArray):Option an:=nC x k (cX (a k) x.to)
def cK(a:List ByteArray)(b:ByteArray->List bF)(x:bB):List an:=(a.drop (below a x.next)).filterMap (fD x b)
theorem qq{α β:Type}{f:α->Option β}(l:List α)(a:k<l.length):(l.take (k+1)).filterMap f=(l.take k).filterMap f++(f l[k]).toList:=by rw[eu a,Su];rfl
theorem qp{α β:Type}{f:α->Option β}(l:List α){m:Nat}(h:((l.take k).filterMap f).length=m):(l.take k).filterMap f=(l.filterMap f).take m:=by
 conv=>rhs;rw[<-RJ k l,Su]
 rw[RU (by omega),<-h,RG]
end Go.Proofs.YtjbkfdeldlajhaaGreatDoor
