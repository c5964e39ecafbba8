import Derived.Test.YtjbkfdeldlajhaaGreatDoorM33
import Derived.Test.YtjbkfdeldlajhaaGreatDoorM40
set_option linter.unusedSimpArgs false
namespace Go.Proofs.YtjbkfdeldlajhaaGreatDoor
set_option maxRecDepth 100000
set_option maxHeartbeats 4000000
open Go.RowKit Go.Shelf Go.Proofs.Tryz
open Option renaming none->Y,some->V
open Go.Value renaming int->Z,pointer->X,bool->ao,tuple->bt,string->O,slice->J
open Go.IntKind renaming i64->U
open Go renaming World->ab,Calls->ba
open Go.Ending renaming returned->ay
open Go.Obj renaming cells->I
variable{l:List (Int×bB)}{w:ab}{b N:Nat}{F:List Nat}{m:List (Int×Int×List ByteArray)}{x:bB}{t n:Int}{c:Bool}
def aZ.ie(B:aZ)(c:Bool)(a b:Int):List an:=if c=true then bc (aT B.all (-1) b)else aT B.all a b
def aZ.lH(B:aZ)(c:Bool)(a b:Int):Int:=
 if B.there b=false\/c=false/\B.there a=false then 5
 else if c=true/\a≠0\/c=false/\b<=a then 6
 else if 4<=B.aC.length\/1000<(B.ie c a b).length then 3 else 0
def aZ.eH(B:aZ)(c:Bool)(a b:Int):Int×Int:=if B.lH c a b=0 then(B.aB+1,0)else(0,B.lH c a b)
def aZ.jJ(B:aZ)(c:Bool)(a b:Int):aZ:=if B.lH c a b=0 then{B with aB:=B.aB+1,aC:=B.aC++[(B.aB+1,pL c a b,bI c a.toNat b.toNat (B.ie c a b))]}else B
theorem Ot{A:aZ}(c:Bool)(x y:Int)(h:oO N w b A F)(hN:N<=10000000000)(u:0<=A.aB/\A.aB<=1000000000000)(Q:0<=A.aK)(T:A.now<=1000000000)(s:A.lH c x y=0->Small (A.ie c x y)):ba prog 48 #[X (V ⟨b,0,Y⟩),ao c,Z U x,Z U y] w λe m=>e=ay (bt #[Z U (A.eH c x y).1,Z U (A.eH c x y).2])/\dO (N+1) b (A.jJ c x y) F w m:=by
 obtain⟨R,d,rfl,rfl,rfl⟩:=h;have o:R.dF.aC.length=R.aC.length:=by simp[aM.dF]
 have M:=d.mq;have k:∀j:Int,R.dF.lH c x y=j->j≠0->(ba prog 48 #[X (V ⟨R.b,0,Y⟩),ao c,Z U x,Z U y] w λe m=>e=ay (bt #[Z U 0,Z U j])/\aa n_ w m)->ba prog 48 #[X (V ⟨R.b,0,Y⟩),ao c,Z U x,Z U y] w λe m=>e=ay (bt #[Z U (R.dF.eH c x y).1,Z U (R.dF.eH c x y).2])/\dO (N+1) R.b (R.dF.jJ c x y) R.fp w m:=λj e D p=>by unfold aZ.eH aZ.jJ;rw[e,el D,el D];refine p.mono ?_;rintro e m ⟨rfl,P⟩;exact⟨rfl,d.same P⟩
 by_cases l:R.there y=false\/c=false/\R.there x=false
 ·exact k 5 (fy l) (by decide) (Dy R c x y w d.at_ l)
 have f:R.there y=true:=by cases h:R.there y;exact absurd (.inl h) l;rfl
 have g:c=true\/R.there x=true:=by
  cases i:c with
  |true=>exact .inl rfl
  |false=>cases h:R.there x;exact absurd (.inr ⟨i,h⟩) l;exact .inr rfl
 by_cases n:c=true/\x≠0\/c=false/\y<=x
 ·exact k 6 ((el l).trans (fy n)) (by decide) (Dw R c x y w d.at_ f g n)
 have i:c=true/\x=0\/c=false/\x<y:=by
  cases i:c with
  |true=>exact .inl ⟨rfl,RF λh=>n (.inl ⟨i,h⟩)⟩
  |false=>exact .inr ⟨rfl,Int.not_le.1 λh=>n (.inr ⟨i,h⟩)⟩
 by_cases q:4<=R.aC.length\/1000<(R.ie c x y).length
 ·exact k 3 ((el l).trans ((el n).trans (fy (by rw[o];exact q)))) (by decide) (Dx R c x y w d.at_ (by omega) f g i q)
 have C:R.dF.lH c x y=0:=(el l).trans ((el n).trans (el (by rw[o];exact q)));have a0:R.aK<=y/\y<=R.now:=by unfold aM.there at f;simpa using f
 have S:0<=R.aK:=Q;have W:R.now<=1000000000:=T;have B:0<=x:=by
  rcases i with⟨_,rfl⟩|⟨r,_⟩
  ·exact ya _
  ·rcases g with h|h
   ·rw[r]at h;cases h
   ·unfold aM.there at h
    have:R.aK<=x/\x<=R.now:=by simpa using h
    omega
 obtain⟨a,rfl⟩:=RB B;obtain⟨t,rfl⟩:=RB (show 0<=y by omega);unfold aZ.eH aZ.jJ;rw[C,fy rfl,fy rfl];refine(Ko R c a t w d.at_ (by omega) f g (i.imp (λh=>⟨h.1,by omega⟩) (λh=>⟨h.1,by omega⟩)) (by omega) (by omega) (by omega) (s C) u).mono ?_;rintro e m ⟨rfl,v,z,H,K,L,p⟩;have G:({R.dF with aB:=R.dF.aB+1,aC:=R.dF.aC++[(R.dF.aB+1,pL c a t,bI c (a:Int).toNat (t:Int).toNat (R.dF.ie c a t))]}:aZ)=(R.Aj v z).dF:=by simp[aM.dF,aM.Aj,H,K,L];rfl
 refine⟨rfl,?_⟩;show dO _ _ ({R.dF with aB:=R.dF.aB+1,aC:=R.dF.aC++[(R.dF.aB+1,pL c a t,bI c (a:Int).toNat (t:Int).toNat (R.dF.ie c a t))]}:aZ) _ _ _;rw[G];exact p.after.o ⟨p.1,RD d.mq,d.dm,d.ar,d.gO,by have:=d.dR;show R.aJ<=_;omega,RD d.du,by simp[aM.Aj];omega,d.pN⟩
def mF(A:aX)(p:Int×bB)(x:Int×Int×List ByteArray):Prop:=p.1=x.1/\p.2.lQ=x.2.1/\uD A p.2 x.2.2
structure dH(A:aX)(B:aZ):Prop extends ik A B where
 zw:oX (mF A) A.aA B.aC
 ids:(A.aA.map (·.1)).Nodup
theorem oX.imp{α β:Type}{R S:α->β->Prop}:∀{l:List α} {m:List β},(∀p∈l,∀x,R p x->S p x)->oX R l m->oX S l m
 |[],[],_,_=>trivial
 |p::_,x::_,h,hp=>⟨h p (by simp) x hp.1,oX.imp (λq a=>h q (by simp[a])) hp.2⟩
theorem oX.snoc{α β:Type}{R:α->β->Prop}{p:α}{x:β}(h:R p x):∀{l:List α} {m:List β},oX R l m->oX R (l++[p]) (m++[x])
 |[],[],_=>⟨h,trivial⟩
 |_::_,_::_,hp=>⟨hp.1,oX.snoc h hp.2⟩
theorem oX.maps{α β γ:Type}{R:α->β->Prop}{f:α->γ}{g:β->γ}(h:∀p x,R p x->f p=g x):∀{l:List α} {m:List β},oX R l m->l.map f=m.map g
 |[],[],_=>rfl
 |p::_,x::_,hp=>by rw[mU,mU,h p x hp.1,oX.maps h hp.2]
theorem mF.maps{A:aX}(h:oX (mF A) l m):l.map (λp=>(p.1,p.2.lQ))=m.map (λx=>(x.1,x.2.1)):=oX.maps (λ_ _ h=>by rw[h.1,h.2.1]) h
theorem dH.step{A c:aX}{B d:aZ}(h:dH A B)(s:ik c d)(f:c.aA=A.aA)(g:d.aC=B.aC)(i:A.now<=c.now)(k:∀p∈A.aA,∀a b:Nat,(b:Int)<=A.now->a<=b->p.2.gY=a->p.2.to=b->cK c.keys c.aE (bB.new p.2.full a b)=cK A.keys A.aE (bB.new p.2.full a b)):dH c d:=
 ⟨s,by rw[f,g];exact h.zw.imp (λp j x e=>⟨e.1,e.2.1,e.2.2.same i (k p j)⟩),by rw[f];exact h.ids⟩
def aX.PV(A a:aX):Prop:=a.aA=A.aA/\a.keys=A.keys/\a.aE=A.aE/\a.now=A.now
theorem dH.quiet{A a:aX}{B b:aZ}(h:dH A B)(s:ik a b)(q:A.PV a)(c:b.aC=B.aC):dH a b:=
 h.step s q.1 c (by rw[q.2.2.2];exact ya _) (λ_ _ _ _ _ _ _ _=>by rw[q.2.1,q.2.2.1])
theorem aZ.uf(B:aZ)(n:Int):(B.dS n).aC=B.aC:=by
 unfold aZ.dS aZ.mP;repeat' split
 all_goals rfl
theorem dH.fq{A:aX}{B:aZ}(h:dH A B):dH A.fq B.fq:=
 h.quiet h.toik.fq (by unfold aX.fq;split<;>exact⟨rfl,rfl,rfl,rfl⟩) (by unfold aZ.fq;split<;>rfl)
theorem dH.dT{A:aX}{B:aZ}(h:dH A B)(n:Int)(b c:ByteArray)(a:Bool):dH (A.dT n b c a) (B.dT n ⟨b,c,a⟩):=
 h.quiet (h.toik.dT n b c a) (by unfold aX.dT;(repeat' split)<;>exact⟨rfl,rfl,rfl,rfl⟩) (by unfold aZ.dT;split<;>rfl)
theorem dH.gd{A:aX}{B:aZ}(h:dH A B)(n:Int):dH (A.gd n) (B.gd n):=
 h.quiet (h.toik.gd n) (by unfold aX.gd;split<;>exact⟨rfl,rfl,rfl,rfl⟩) (by unfold aZ.gd;split<;>rfl)
theorem dH.nu{A:aX}{B:aZ}(h:dH A B)(n:Int):dH (A.nu n) (B.nu n):=
 h.quiet (h.toik.nu n) (by unfold aX.nu;split<;>exact⟨rfl,rfl,rfl,rfl⟩) (by unfold aZ.nu;split<;>rfl)
theorem dH.iW{A:aX}{B:aZ}(h:dH A B)(n:Int):dH (A.iW n) (B.iW n):=
 h.quiet (h.toik.iW n) (by unfold aX.iW;(repeat' split)<;>exact⟨rfl,rfl,rfl,rfl⟩) rfl
theorem aX.Av(A:aX)(n:Int):A.PV (A.dS n)\/∃a,A.dS n=A.nL n a:=by unfold aX.dS;(repeat' split)<;>first|exact .inl ⟨rfl,rfl,rfl,rfl⟩|exact .inr ⟨_,rfl⟩
theorem dH.dS{A:aX}{B:aZ}(h:dH A B)(g:yK A)(n:Int):dH (A.dS n) (B.dS n):=by
 have s:=h.toik.dS n;rcases A.Av n with e|⟨d,e⟩
 ·exact h.quiet s e (B.uf n)
 ·rw[e]at s⊢;exact h.step s rfl (B.uf n) (by show A.now<=A.now+1;omega) (λp _ a b c _ _ _=>Bg g c n _)
theorem Jw{A:aX}{p:Int×bB}(h:p∈A.aA):A.least<=p.2.lQ:=
 (jG _ _).2.1 _ (fx _ (fI.2 ⟨p,h,rfl⟩))
theorem dH.dX{A:aX}{B:aZ}(h:dH A B)(g:yK A):dH A.dX B.dX:=
 h.step h.toik.dX rfl rfl (ya _) (λp f a b i e c d=>uz g (by omega) (by have:=Jw f;unfold bB.lQ at this;rw[c,d]at this;exact this))
theorem dH.zc{A:aX}{B:aZ}(h:dH A B)(g:yK A)(c:Bool)(a b:Int):A.tq c a b=B.lH c a b/\(B.lH c a b=0->B.ie c a b=cK A.keys A.aE (bB.new c a b)):=by
 have k:A.hasB b=B.there b:=by unfold aX.hasB aZ.there;rw[h.now,h.aK]
 have l:A.hasB a=B.there a:=by unfold aX.hasB aZ.there;rw[h.now,h.aK]
 have m:A.aA.length=B.aC.length:=by have:=Rc List.length h.aC;simpa using this
 have q:=g.now.2;have p:=h.mr;have n:=h.now;unfold aX.tq jk aZ.lH;rw[k,l,m];show(if B.there b=false\/c=false/\B.there a=false then(5:Int)else if kN c a b=false then 6 else _)=_/\_;by_cases d:B.there b=false\/c=false/\B.there a=false
 ·rw[fy d,fy d];exact⟨rfl,λh=>by cases h⟩
 rw[el d,el d];have o:B.aK<=b/\b<=B.now:=by
  have:B.there b=true:=by cases h:B.there b;exact absurd (.inl h) d;rfl
  unfold aZ.there at this;simpa using this
 cases c with
 |true=>
  have f:kN true a b=decide (a=0):=by unfold kN gB;by_cases e:a=0<;>simp[e];omega
  have i:B.ie true a b=cK A.keys A.aE (bB.new true a b):=h.Qy o.1;rw[i];refine⟨?_,λ_=>rfl⟩;rw[f];by_cases e:a=0<;>simp[e]
 |false=>
  have e:B.aK<=a/\a<=B.now:=by
   have:B.there a=true:=by cases h:B.there a;exact absurd (.inr ⟨rfl,h⟩) d;rfl
   unfold aZ.there at this;simpa using this
  have f:kN false a b=decide (a<b):=by
   unfold kN gB
   have:0<=a/\a<=1000000000/\0<=b/\b<=1000000000:=by omega
   simp[this]
  have i:B.ie false a b=cK A.keys A.aE (bB.new false a b):=h.Qx e.1;rw[i];refine⟨?_,λ_=>rfl⟩;rw[f];by_cases j:a<b<;>simp[j]<;>omega
theorem dH.eH{A:aX}{B:aZ}(h:dH A B)(g:yK A)(c:Bool)(a b:Int):A.eH c a b=B.eH c a b:=by unfold aX.eH aZ.eH;rw[(h.zc g c a b).1,h.aB]
theorem Dv{B:aZ}{a b:Int}(h:B.lH c a b=0):(B.aK<=b/\b<=B.now)/\(c=true/\a=0\/c=false/\B.aK<=a/\a<b)/\B.aC.length<4/\(B.ie c a b).length<=1000:=by
 unfold aZ.lH at h;split at h
 ·omega
 rename_i f;split at h
 ·omega
 rename_i g;split at h
 ·omega
 rename_i i;have e:B.there b=true:=by cases h:B.there b;exact absurd (.inl h) f;rfl
 have d:c=true\/B.there a=true:=by
  cases c with
  |true=>exact .inl rfl
  |false=>cases h:B.there a;exact absurd (.inr ⟨rfl,h⟩) f;exact .inr rfl
 unfold aZ.there at e d;simp at e d;refine⟨e,?_,by omega,by omega⟩;cases c with
 |true=>exact .inl ⟨rfl,RF λh=>g (.inl ⟨rfl,h⟩)⟩
 |false=>exact .inr ⟨rfl,by simp at d;omega,Int.not_le.1 λh=>g (.inr ⟨rfl,h⟩)⟩
theorem Fx(h:(l.map (·.1)).Nodup)(f:aD l n=Y):((l++[(n,x)]).map (·.1)).Nodup:=by rw[xT];refine lf.2 ⟨h,by simp,λa c b d e=>?_⟩;obtain⟨p,g,rfl⟩:=fI.1 c;exact dU.1 f p g (e.trans (by simpa using d))
theorem dH.jJ{A:aX}{B:aZ}(h:dH A B)(g:yK A)(c:Bool)(a b:Int):dH (A.jJ c a b) (B.jJ c a b):=by
 obtain⟨e,n⟩:=h.zc g c a b;unfold aX.jJ aZ.jJ;rw[e];split
 ·rename_i l;obtain⟨u,m,t,d⟩:=Dv l;have q:=h.mr;have v:=g.now.2;have o:=h.now;have k:0<=a/\a<=b:=by rcases m with⟨_,rfl⟩|⟨_,h⟩<;>omega
  rw[n l]at d⊢;obtain⟨x,rfl⟩:=RB k.1;obtain⟨y,rfl⟩:=RB (show 0<=b by omega);have i:(bB.new c x y).lQ=pL c x y:=by cases c<;>rfl
  have j:oX (mF A) (A.aA++[(A.aB+1,bB.new c x y)]) (B.aC++[(B.aB+1,pL c x y,bI c (x:Int).toNat (y:Int).toNat (cK A.keys A.aE (bB.new c x y)))]):=
   oX.snoc ⟨by show A.aB+1=B.aB+1;rw[h.aB],i,x,y,0,[],IH _ _ _ _,rfl,by show 0<(bI c x y _).length;rw[uk];omega,by omega,by omega,by omega,d⟩ h.zw
  refine⟨{h.toik with aB:=by show A.aB+1=B.aB+1;rw[h.aB],aC:=mF.maps j,copied:=λz f=>?_},j.imp (λp _ z f=>⟨f.1,f.2.1,f.2.2.same (ya _) (λ_ _ _ _ _ _=>rfl)⟩),Fx h.ids g.Pq⟩;rcases cQ.1 f with f|f
  ·exact h.copied z f
  ·simp at f;subst f;show B.aK<=pL c x y/\pL c x y<=B.now;unfold pL;rcases m with⟨rfl,_⟩|⟨rfl,r,s⟩<;>simp<;>omega
 ·exact h
theorem uD.go{A:aX}{l:List ByteArray}(h:uD A x l)(n:bh A.keys):∃p e,l=p::e/\aU (pH x (gR A.keys A.aE x)).1=p/\(pH x (gR A.keys A.aE x)).2.1=decide (e.length=0)/\(e≠[]->uD A (pH x (gR A.keys A.aE x)).2.2 e/\(pH x (gR A.keys A.aE x)).2.2.lQ=x.lQ)/\x.count<=1000:=by
 obtain⟨a,b,i,T,d,q,m,s,t,u,v⟩:=h.ex;have o:gR A.keys A.aE x=((cK A.keys A.aE (bB.new x.full a b)).filter (λr=>!de r.key x.next)).take 4:=by unfold gR;rw[KB n,d.aH,d.PR]
 have k:=Gh n A.aE (bB.new x.full a b);have w:x.count<=1000:=by
  cases i with
  |zero=>rw[(d.first rfl).2];show(0:Int)<=1000;decide
  |succ i=>rw[d.count (by omega)];omega
 generalize hL:cK A.keys A.aE (bB.new x.full a b)=L at*;obtain⟨f,g⟩:=Mz d;have c:=Lv d k;rw[<-o]at f g c;have y:l=(bI x.full a b L)[i]::(bI x.full a b L).drop (i+1):=by rw[q,SW m]
 rw[ec m]at f;refine⟨_,_,y,(tv f).symm,?_,λz=>?_,w⟩
 ·rw[g,mR];congr 1;apply propext;omega
 ·have j:i+1<(bI x.full a b L).length:=RF λh=>z (Sj (by omega));rcases c with⟨_,c⟩|⟨c,_⟩
  ·refine⟨⟨a,b,i+1,T++(pH x (gR A.keys A.aE x)).1,?_⟩,?_⟩
   ·rw[c.LU,hL];exact⟨c,rfl,j,s,t,u,v⟩
   ·unfold bB.lQ;rw[c.LU,c.aH,c.PR,d.aH,d.PR]
  ·rw[g]at c;have:=RC c;omega
theorem NR{A:aX}(h:oX (mF A) l m):l.map (·.1)=m.map (·.1):=oX.maps (λ_ _ h=>h.1) h
theorem rM{A:aX}:∀{l:List (Int×bB)} {m:List (Int×Int×List ByteArray)},oX (mF A) l m->(l.map (·.1)).Nodup->∀n,(aD l n=Y/\jY m n=Y/\m.any (λx=>decide (x.1=n))=false)\/∃j x y,aD l n=V x/\jY m n=V j/\m[j]?=V y/\m.any (λx=>decide (x.1=n))=true/\mF A (n,x) y/\oX (mF A) (del l n) (m.filter (λx=>decide (x.1≠n)))/\∀d g,mF A (n,d) g->oX (mF A) (put l n d) (m.set j g)
 |[],[],_,_,n=>.inl ⟨rfl,rfl,rfl⟩
 |(a,x)::l,q::m,h,hn,n=>by
  obtain⟨c,b⟩:=h;have i:a=q.1:=c.1;rw[mU,ey]at hn;by_cases e:a=n
  ·subst e;refine .inr ⟨0,x,q,by simp[aD],by simp[jY,SR,<-i],rfl,by simp[<-i],c,?_,λd g r=>?_⟩
   ·have f:m.filter (λx=>decide (x.1≠a))=m:=RT.2 (λz w=>by
     have:z.1∈l.map (·.1):=by rw[NR b];exact Sn w
     simp;rintro rfl;exact hn.1 this)
    rw[RS,el (by simp[<-i]),f];simpa[del]using b
   ·simp only[put,Rz,SB];exact⟨r,b⟩
  ·have k:¬q.1=n:=by rw[<-i];exact e
   rcases rM b hn.2 n with⟨f,o,p⟩|⟨j,d,y,f,o,p,s,t,u,v⟩
   ·exact .inl ⟨by simp[aD,e,f],by unfold jY at*;simp[SR,k,o],by simp[k];simpa using p⟩
   ·refine .inr ⟨j+1,d,y,by simp[aD,e,f],by unfold jY at*;simp[SR,k,o],by simpa using p,by rw[List.any_cons,s,Bool.or_true],t,?_,λd g r=>?_⟩
    ·rw[RS,fy (by simp[k])];simp only[del,e,RL];exact⟨c,u⟩
    ·simp only[put,e,RL,Sz];exact⟨c,v d g r⟩
theorem wR(h:(l.map (·.1)).Nodup)(n:Int):((del l n).map (·.1)).Nodup:=by
 refine h.sublist (List.Sublist.map _ ?_);clear h;induction l with
 |nil=>exact RV _
 |cons q l ih=>
  obtain⟨a,x⟩:=q;unfold del;split
  ·exact List.sublist_cons_self _ _
  ·exact ih.cons_cons _
theorem dH.Bk{A:aX}{B:aZ}(h:dH A B)(b:oX (mF A) l m)(d:(l.map (·.1)).Nodup)(c:∀x∈m,∃y∈B.aC,x.2.1=y.2.1):dH {A with aA:=l} {B with aC:=m}:=
 ⟨{h.toik with aC:=mF.maps b,copied:=λx a=>by obtain⟨y,f,e⟩:=c x a;rw[e];exact h.copied y f},b.imp (λ_ _ _ a=>⟨a.1,a.2.1,a.2.2.same (ya _) (λ_ _ _ _ _ _=>rfl)⟩),d⟩
theorem dH.stop{A:aX}{B:aZ}(h:dH A B)(n:Int):A.mf n=B.mf n/\dH (A.lI n) (B.lI n):=by
 unfold aX.mf aX.lI aZ.mf aZ.lI;rcases rM h.zw h.ids n with⟨a,c,d⟩|⟨j,x,y,a,c,d,f,i,g,k⟩
 ·rw[a,d];refine⟨rfl,?_⟩;have e:B.aC.filter (λx=>decide (x.1≠n))=B.aC:=RT.2 (λz b=>by simp;exact vW c z b);rw[e];exact h
 ·rw[a,f];exact⟨rfl,h.Bk g (wR h.ids n) (λz b=>⟨z,(kB.1 b).1,rfl⟩)⟩
theorem dH.next{A:aX}{B:aZ}(h:dH A B)(n:Int):aU (A.fg n).1=(B.fg n).1/\(A.fg n).2=(B.fg n).2/\dH (A.lr n) (B.lr n)/\∀x,aD A.aA n=V x->x.count<=999999999996:=by
 unfold aX.fg aX.lr aZ.fg aZ.lr;rcases rM h.zw h.ids n with⟨c,d,f⟩|⟨j,x,y,c,d,f,C,g,o,q⟩
 ·rw[c,d];exact⟨rfl,rfl,h,λx t=>by cases t⟩
 ·obtain⟨p,w,i,k,l,m,r⟩:=g.2.2.go h.lq;rw[c,d];simp only[Tx,f,i,List.headD_cons,List.tail_cons,k,l];simp only at i k l m r;refine⟨trivial,trivial,?_,λz b=>by cases b;omega⟩;by_cases a:w.length=0
  ·rw[fy (mI a),fy a];exact h.Bk o (wR h.ids n) (λz b=>⟨z,(kB.1 b).1,rfl⟩)
  ·rw[el (by simp;exactλe=>a (by rw[e];rfl)),el a];obtain⟨u,v⟩:=m (λe=>a (by rw[e];rfl));refine h.Bk (q _ _ ⟨g.1,v.trans g.2.1,u⟩) (by rw[jP c];exact h.ids) (λz b=>?_);rcases St b with s|rfl
   ·exact⟨z,s,rfl⟩
   ·exact⟨y,hH f,rfl⟩
theorem dH.pieces{A:aX}{B:aZ}(h:dH A B):∀x∈B.aC,x.2.2≠[]:=by
 have b:=h.zw;have c:=h.lq;generalize A.aA=l at b;generalize B.aC=m at*;induction m generalizing l with
 |nil=>intro x a;cases a
 |cons y m ih=>
  cases l with
  |nil=>cases b
  |cons p l=>
   intro x a;rcases cT.1 a with rfl|a
   ·obtain⟨d,f,e,-⟩:=b.1.2.2.go c;rw[e];simp
   ·exact ih l b.2 x a
theorem zU{l:List an}(a:eD l)(t:Int)(k:ByteArray):(if bR (l.map an.key) k then [kD l t k]else [])=((eU l t).filter (fB k)).map bq.eW:=by
 rw[zC a];unfold kD;show _=match l.find? (λr=>decide (r.key=k))with|some r=>[(⟨t,r.value,r.aO⟩:bF)]|none=>[]
 have e:bR (l.map an.key) k=(l.find? (λr=>decide (r.key=k))).isSome:=by rw[QT,bA];exact(nX l k).symm
 rw[e];cases l.find? (λr=>decide (r.key=k))<;>rfl
theorem ext_nil{α:Type}{x:List α}{y:α}:(if c then x++[y]else x)=x++(if c then [y]else []):=by cases c<;>simp
def aZ.grown(B:aZ)(l:List an)(t:Int):aZ:={B with all:=B.all++eU l t,now:=t}
def aZ.ei(B:aZ)(x:sS):Int:=qL B.now (decide (0<B.af.length)) x
def aZ.fO(B:aZ)(x:sS):aZ:=match x with
 |some (.inr s)=>if B.ei x=0 then B.grown (s.aW.map bX) (s.b:Nat)else B
 |_=>B
theorem dH.grown{A:aX}{B:aZ}(h:dH A B)(g:yK A){l:List an}(e:bh (l.map an.key))(i:A.now<t):dH (A.grown l t) (B.grown l t):=by
 have d:eD l:=Rw.1 e;have n:=h.now;have j:=h.mr;have m:=h.pE;refine h.step {h.toik with now:=rfl,pE:=by show B.aK<=t;omega,aI:=λx c=>⟨(h.aI x c).1,by have:=(h.aI x c).2;show x.2.1<=t;omega⟩,aE:=λk=>?_,lq:=eY _ h.lq,keys:=λk=>?_,all:=h.all.PI d (by omega) (by omega),pinned:=λx c=>⟨(h.pinned x c).1,by have:=(h.pinned x c).2;show x<=t;omega⟩,copied:=λx c=>⟨(h.copied x c).1,by have:=(h.copied x c).2;show x.2.1<=t;omega⟩} rfl rfl (by show A.now<=t;omega) (λp _ a b f _ _ _=>DF g f e i)
 ·show(if bR (l.map an.key) k then A.aE k++[kD l t k]else A.aE k)=((B.all++eU l t).filter (fB k)).map bq.eW;rw[ext_nil,zU d,yv,xT,h.aE k]
 ·show k∈ib A.keys (l.map an.key)↔(if bR (l.map an.key) k then A.aE k++[kD l t k]else A.aE k)≠[];rw[gy,h.keys,<-bA (l.map an.key)];cases bR (l.map an.key) k<;>simp
theorem dH.apply{A:aX}{B:aZ}(h:dH A B)(g:yK A)(x:sS)(d:∀s,x=.ok s->cC s.full s.a s.b (s.aW.map bX)=true):A.ei x=B.ei x/\dH (A.fO x) (B.fO x):=by
 have e:A.ei x=B.ei x:=by unfold aX.ei aZ.ei;rw[h.now,nG h.af]
 refine⟨e,?_⟩;unfold aX.fO aZ.fO;rcases x with _|p|s
 ·exact h
 ·exact h
 ·simp only[<-e];split
  ·rename_i a;have b:=d s rfl;refine h.grown g (ja b) ?_;unfold aX.ei qL at a;simp only at a;split at a
   ·omega
   ·split at a
    ·rename_i c f;unfold cC kN at b;simp[c]at b;omega
    ·omega
  ·exact h
def aZ.told(l:List an)(t:Int):aZ:=⟨eU l t,t,t,[],0,[],[],0⟩
theorem MX{l:List an}(b:bh (l.map an.key))(c:0<=t):dH (aX.told l t) (aZ.told l t):=by
 have a:eD l:=Rw.1 b;have d:kZ [] (t-1) t:=⟨.nil,λ_ h=>(by cases h),λ_ h=>(by cases h),λ_ h=>(by cases h)⟩
 have e:∀k,k∈l.map an.key↔(if bR (l.map an.key) k then [kD l t k]else [])≠[]:=λk=>by rw[<-bA];cases bR (l.map an.key) k<;>simp
 exact⟨⟨rfl,rfl,c,ya _,rfl,trivial,λ_ h=>(by cases h),λk=>zU a t k,b,e,d.PI a c (by omega),λs=>rfl,.nil,λ_ h=>(by cases h),rfl,λ_ h=>(by cases h),rfl,λ_ h=>(by cases h),rfl⟩,trivial,.nil⟩
theorem Km:dH aX.zero aZ.zero:=⟨MY,trivial,.nil⟩
theorem yK.small{A:aX}(g:yK A)(x:bB):Small (cK A.keys A.aE x):=λr e=>by obtain⟨v,a,b,c,-⟩:=DG e;have d:(decide (1<=r.key.size)&&decide (r.key.size<=10))=true:=g.dw _ a;have f:decide (v.value.size<=40)=true:=g.QJ _ v b;simp at d f;rw[c];omega
theorem ml.aB{A:aX}(h:ml N w b A F):0<=A.aB/\A.aB<=N:=by obtain⟨R,a,rfl,rfl,rfl⟩:=h;exact a.fG
def aZ.left(B:aZ)(n:Int):Nat:=((jY B.aC n).bind (λj=>B.aC[j]?)).elim 0 (λx=>x.2.2.length)
theorem IQ{l:List (Int×Int×List ByteArray)}{j:Nat}{y:Int×Int×List ByteArray}(h:jY l n=V j)(d:y.1=n):jY (l.set j y) n=V j:=by unfold jY at*;obtain⟨c,e,a⟩:=Sh.1 h;refine Sh.2 ⟨by simpa using c,by simp[d],λi b=>?_⟩;rw[List.getElem_set_ne (by omega)];exact a i b
theorem aZ.zp(B:aZ)(n:Int):(B.lr n).left n<=B.left n-1/\((B.fg n).2.1=false->(B.fg n).2.2=0->1<=B.left n):=by
 unfold aZ.fg aZ.left aZ.lr;cases hj:jY B.aC n with
 |none=>simp[hj]
 |some j=>
  obtain⟨x,c,b,-⟩:=vX hj;have d:=(ej.1 c).1;simp only[Tx,c,Option.elim_some,List.length_tail];by_cases a:x.2.2.length-1=0
  ·have e:jY (B.lI n).aC n=Y:=List.findIdx?_eq_none_iff.2 (λy f=>by simpa using(kB.1 f).2);rw[fy a,e];exact⟨eL _,λh=>absurd a (of_decide_eq_false h)⟩
  ·rw[el a];simp only[IQ (y:=(x.1,x.2.1,x.2.2.tail)) hj b,Tx,List.getElem?_set_self d,Option.elim_some,List.length_tail];exact⟨eb _,λ_ _=>by omega⟩
theorem uD.small{A:aX}(g:yK A){c:List ByteArray}(h:uD A x c):c.length<=300/\∀p∈c,p.size<=10000:=by obtain⟨a,b,i,T,k,e,l,m,n,o,d⟩:=h.ex;have j:=og (full:=x.full) (a:=a) (b:=b) (by omega) (by omega) d (g.small _);have q:=(qX x.full a b d).1;rw[e];exact⟨by rw[mR];omega,λp f=>j p (Ts f)⟩
theorem dH.small{A:aX}{B:aZ}(h:dH A B)(g:yK A)(n:Int):B.left n<=300/\(B.fg n).1.size<=10000:=by
 unfold aZ.left aZ.fg;rcases rM h.zw h.ids n with⟨-,a,-⟩|⟨j,x,y,-,a,f,-,b,-⟩
 ·rw[a];exact⟨eL _,eL _⟩
 ·obtain⟨c,d⟩:=b.2.2.small g;obtain⟨p,i,e,-⟩:=b.2.2.go h.lq;rw[a];simp only[Tx,f,Option.elim_some];rw[e]at c d⊢;exact⟨c,d p (by simp)⟩
def aM.fresh(b:Nat)(t:Int):aM:=⟨b,J Y 0 0,[],t,t,J Y 0 0,[],0,J Y 0 0,[],J Y 0 0,[],0⟩
theorem LR(h:w.heap[b]?=V (I (aM.fresh b t).top 40 (0,0))):aY w (aM.fresh b t):=
 ⟨h,Row.nil _ _ _,Row.nil _ _ _,λx a=>(by cases a),Row.nil _ _ _,Row.nil _ _ _,λx a=>(by cases a)⟩
def OW(F:Bool)(A B P d:Nat)(L:List an)(w:ab)(e:Ending)(c:ab):Prop:=∃b a,e=ay (bt #[.agg #[ao F,Z U (A:Nat),Z U (B:Nat),J b L.length a],Z U (P:Nat),Z U (d:Nat)])/\Row c 70 3 (J b L.length a) L.length (cP L)/\aa n_ w c
theorem uv(a:ByteArray)(w:ab)(c:a.size<=1000000000)(x:sS)(i:cA a.data.toList=x):ba prog 43 #[O a] w (OW (yX x) (dA x) (dB x) (QF x) (dE x) (dL x) w):=by subst i;refine(mw a w c).mono λe k h=>?_;obtain⟨j,b,d,f,-,g⟩:=h.view;exact⟨j,b,d,f,g⟩
def Ia(F:Bool)(B d:Nat)(L:List an)(w:ab)(e:Ending)(c:ab):Prop:=(if d=0/\F=true then∃b a,e=ay (bt #[X (V ⟨b,0,Y⟩),Z U 0])/\oO 1000 c b (aZ.told L (B:Nat)) a/\∀k∈a,w.heap.size<=k else e=ay (bt #[X Y,Z U 6]))/\aa n_ w c
theorem yG(f:ByteArray)(F:Bool)(A B P a0:Nat)(L:List an)(w:ab)(t:ba prog 43 #[O f] w (OW F A B P a0 L w))(u:L.length<=1000):ba prog 56 #[O f] w (Ia F B a0 L w):=by
 have g:=E t;have s:=E u;have R:(L.length:Int)<=1000:=by omega
 clear t u;by_cases n:a0=0
 ·subst n;cases F with
  |false=>
   go_enter func56,ntmps56;go_wp2_with fail;refine g.o.mono ?_;rintro e b ⟨m,c,rfl,a,d⟩;have i:=E d;clear a g d;go_wp2;go_ret2;exact⟨rfl,i.o.al _⟩
  |true=>
   go_enter func56,ntmps56;go_wp2_with fail;refine g.o.mono ?_;rintro e b ⟨m,c,rfl,a,d⟩;have i:=E d;have G:=E a;clear a g d;go_upto_region 5 with fail;obtain⟨W,o⟩:∃W,W=(b.alloc (I #[ao true,Z U (A:Nat),Z U (B:Nat),J m L.length c] 28)).alloc (I #[J Y 0 0,Z U (B:Nat),Z U (B:Nat),J Y 0 0,Z U 0,J Y 0 0,J Y 0 0,Z U 0] 40):=⟨_,rfl⟩
   have r:aa n_ b W:=by rw[o];exact((aa.refl _ _).al _).al _
   have v:W.heap[b.heap.size+1]?=V (I (aM.fresh (b.heap.size+1) (B:Nat)).top 40 (0,0)):=by rw[o];have:=az (b.alloc (I #[ao true,Z U (A:Nat),Z U (B:Nat),J m L.length c] 28)) (I (aM.fresh (b.heap.size+1) (B:Nat)).top 40);rw[World.size_alloc]at this;exact this
   have D:=E (wX (aM.fresh (b.heap.size+1) (B:Nat)) (J m L.length c) L (B:Nat) W (LR v) (G.o.ai r k_) (by have:=s.o;simp[aM.fresh];omega));have j:=E r;have q:=E o;clear v r o;go_wp2_with(go_at_call 80;go_must(rw[<-q.o];refine D.o.mono ?_;rintro e w3 ⟨rfl,v',y⟩;have z:=E y;clear y))
   go_ret2;obtain⟨H,T,K,M⟩:=z.o;have z1:=i.o.size;have z2:=j.o.size;have l:∀k,k∈(aM.fresh (b.heap.size+1) (B:Nat)).fp->k=b.heap.size+1:=λk p=>by simpa[aM.fresh,aM.fp,Value.ownBlock]using p
   refine⟨⟨b.heap.size+1,_,rfl,⟨_,⟨H,?_,by simp[aM.plus,aM.fresh],λx S=>(by cases S),by simp[aM.plus,aM.fresh],by simp[aM.plus,aM.fresh],by simp[aM.plus,aM.fresh],by simp[aM.plus,aM.fresh],by simp[aM.plus,aM.fresh]⟩,rfl,by simp[aM.plus,aM.fresh,aM.dF,aZ.told],rfl⟩,λk p=>?_⟩,(i.o.tr j.o i_).trans K (λk p e=>?_)⟩
   ·have:=s.o;simp[aM.plus,aM.fresh,eU];omega
   ·rcases M k p with h|h
    ·rw[l k h];omega
    ·omega
   ·rcases e with e|⟨e,-⟩
    ·have e':k=b.heap.size+1:=e;omega
    ·have:=l k e;omega
 ·have N:decide ((a0:Int)=0)=false:=kg (by omega);have Q:decide (a0=0)=false:=kg n;have C:=E n;clear n;go_enter func56,ntmps56;go_wp2_with fail;refine g.o.mono ?_;rintro e b ⟨m,c,rfl,a,d⟩;have i:=E d;clear a g d;go_wp2;go_ret2;exact⟨by rw[el (λh=>C.o h.1)];rfl,i.o.al _⟩
def jz(F:Bool)(A c:Nat)(b:Int)(a:Nat):Int:=if c=0/\F=false then(if(A:Int)=b then(if 0<a then 9 else 0)else 8)else 6
def Ns(R:aM)(F:Bool)(A B b:Nat)(L:List an)(w:ab)(e:Ending)(a:ab):Prop:=e=ay (Z U (jz F A b R.now R.af.length))/\∃v,kn 80 R (if jz F A b R.now R.af.length=0 then{R.plus v (eU L (B:Nat))with now:=(B:Nat)}else R) w a
theorem By(R:aM)(c:ByteArray)(F:Bool)(A B P a7:Nat)(L:List an)(w:ab)(h:aY w R)(hD:ba prog 43 #[O c] w (OW F A B P a7 L w))(hL:L.length<=1000)(hw:R.af.length<=8)(r:R.all.length<100000000000):ba prog 53 #[X (V ⟨R.b,0,Y⟩),O c] w (Ns R F A B a7 L w):=by
 have T:=E hD;have HL:=E hL;have z:=E h;have H:=E r;have a4:(L.length:Int)<=1000:=by omega
 obtain⟨ow,cw,s,-,-⟩:=h.af.form;have c1:w.cell? ⟨R.b,1,Y⟩=V (Z U R.now):=h.cell 1;have c3:w.cell? ⟨R.b,3,Y⟩=V (J ow R.af.length cw):=(h.cell 3).trans (by rw[<-s];rfl);have a0:=h.blt;have a:QS (∀Q j,aa n_ w Q->jz F A a7 R.now R.af.length=j->j≠0->jz F A a7 R.now R.af.length=j/\∃v,kn 80 R (if jz F A a7 R.now R.af.length=0 then{R.plus v (eU L (B:Nat))with now:=(B:Nat)}else R) w Q):=λQ j hk hj h0=>⟨hj,J Y 0 0,by rw[hj,el h0];exact z.o.ch hk⟩;have a5:(R.af.length:Int)<=8:=by omega
 clear hD hL h s r;go_enter func53,ntmps53;go_wp2_with fail;refine T.o.mono ?_;rintro e m ⟨D,b,rfl,y,u⟩;have x:=aa.alloc n_ m (I #[ao F,Z U (A:Nat),Z U (B:Nat),J D L.length b] 28);have d1:=x.cell (u.cell c1 id) id;have d3:=x.cell (u.cell c3 id) id;have o:=E (u.tr x i_);have M:=E u.size;have HR:=E (y.ai x k_);have HX:=E (az m (I #[ao F,Z U (A:Nat),Z U (B:Nat),J D L.length b] 28));clear y T u x c1 c3;by_cases C:a7=0
 ·subst C;cases F with
  |true=>
   go_wp2;go_ret;obtain⟨g,i⟩:=a.o _ 6 o.o (by simp[jz]) (by decide);exact⟨by rw[g];rfl,i⟩
  |false=>
   have d:QS (jz false A 0 R.now R.af.length=if(A:Int)=R.now then(if 0<R.af.length then 9 else 0)else 8):=by show _=_;simp[jz]
   obtain⟨N,l⟩:∃N,N=R.now:=⟨_,rfl⟩
   rw[<-l]at d1;have f:=E l;clear l;by_cases hn:(A:Int)=N
   ·subst hn;by_cases t:0<R.af.length
    ·have a1:(0:Int)<R.af.length:=by omega
     go_wp2_with fail;go_region;go_wp2;go_ret;obtain⟨g,i⟩:=a.o _ 9 o.o.dr (by rw[d.o,fy f.o,fy t]) (by decide);exact⟨by rw[g];rfl,i⟩
    ·have a6:(R.af.length:Int)=0:=by omega
     have W:QS (jz false A 0 R.now R.af.length=0):=by show _=_;rw[d.o,fy f.o,el t]
     have HP:=E (wX R (J D L.length b) L (B:Nat) _ (z.o.ai o.o.dr k_) (HR.o.ai (aa.drew n_ _) k_) (by have:=HL.o;have:=H.o;omega));have K:QS (∀q G,kn 80 R (R.plus G (eU L (B:Nat))) (m.alloc (I #[ao false,Z U (A:Nat),Z U (B:Nat),J D L.length b] 28)).drew q->q.cell? ⟨m.heap.size,2,Y⟩=V (Z U (B:Nat))/\q.frozen? ⟨R.b,1,Y⟩=false/\q.cell? ⟨R.b,1,Y⟩=V (Z U R.now)):=λq G k=>by
      refine⟨k.2.2.1.cell (p:=⟨m.heap.size,2,Y⟩) (ae HX.o 2) (λe=>?_),k.1.frozen 1,k.1.cell 1⟩;have hz:=M.o;rcases e with e|⟨e,-⟩
      ·have e':m.heap.size=R.b:=e;omega
      ·have:m.heap.size<w.heap.size:=z.o.lt _ e
       omega
     go_wp2_with fail;go_region;go_wp2_with(go_at_call 80;go_must(refine HP.o.mono ?_;rintro e q ⟨rfl,G,k⟩;obtain⟨x2,x3,x4⟩:=K.o _ _ k;have S:=E k;clear k))
     go_ret;refine⟨by rw[W.o];rfl,G,?_⟩;rw[W.o,fy rfl];exact(S.o.from z.o o.o.dr).trans (S.o.1.MW (n:=(B:Nat)))
   ·go_wp2_with fail;go_region;go_wp2;go_ret;obtain⟨g,i⟩:=a.o _ 8 o.o.dr (by rw[d.o,el (λe=>hn (e.trans f.o.symm))]) (by decide);exact⟨by rw[g];rfl,i⟩
 ·have a2:decide ((a7:Int)=0)=false:=kg (by omega);have a3:decide (a7=0)=false:=kg C;have HE:=E C;clear C;go_wp2;go_ret;obtain⟨g,i⟩:=a.o _ 6 o.o (by simp[jz,HE.o]) (by decide);exact⟨by rw[g];rfl,i⟩
theorem Iq(x:sS)(c:Int)(n:Nat):jz (yX x) (dA x) (dE x) c n=qL c (decide (0<n)) x:=by
 rcases x with _|p|s
 ·rfl
 ·rfl
 ·obtain⟨d,a,b,e⟩:=s;cases d<;>by_cases f:(a:Int)=c<;>by_cases g:0<n<;>simp[jz,qL,yX,dA,dE,f,g]
theorem NA{A:aZ}(a:ByteArray)(h:oO N w b A F)(t:N<=10000000000)(k:a.size<=1000000000):ba prog 53 #[X (V ⟨b,0,Y⟩),O a] w λe j=>e=ay (Z U (A.ei (cA a.data.toList)))/\dO (N+1000) b (A.fO (cA a.data.toList)) F w j:=by
 obtain⟨R,c,rfl,rfl,rfl⟩:=h;have o:=c.mq;have i:=EH a.data.toList;have n:=uv a w k _ rfl;have q:=λs (r:cA a.data.toList=.ok s)=>(dD (jH r)).2.1;generalize cA a.data.toList=x at*;have l:R.dF.af.length=R.af.length:=by simp[aM.dF]
 have m:R.dF.ei x=jz (yX x) (dA x) (dE x) R.now R.af.length:=by rw[Iq];unfold aZ.ei;rw[l];rfl
 rw[m];refine(By R a _ _ _ _ _ _ w c.at_ n i c.dm (by omega)).mono ?_;rintro e j ⟨rfl,v,d⟩;refine⟨rfl,?_⟩;rw[<-m]at d;have f:R.dF.fO x=R.dF->kn 80 R R w j->dO (N+1000) R.b (R.dF.fO x) R.fp w j:=λe d=>by rw[e];exact d.after.o ⟨d.1,by omega,c.dm,c.ar,c.gO,by have:=c.dR;omega,by have:=c.du;omega,c.eJ,c.pN⟩
 by_cases g:R.dF.ei x=0
 ·rw[fy g]at d;rcases x with _|p|s
  ·cases g
  ·cases g
  ·have e:R.dF.fO (V (.inr s))=({R.plus v (eU (s.aW.map bX) (s.b:Nat))with now:=(s.b:Nat)}:aM).dF:=by unfold aZ.fO;simp only[g,Rz];rfl
   rw[e];have u:=q s rfl;exact d.after.o ⟨d.1,by simp[aM.plus,eU];have:(dL (V (.inr s))).length=s.aW.length:=hO _;omega,c.dm,c.ar,c.gO,by have:=c.dR;show R.aJ<=_;omega,by have:=c.du;show R.aN.length<=_;omega,c.eJ,by show 0<=((s.b:Nat):Int);omega⟩
 ·rw[el g]at d;refine f ?_ d;unfold aZ.fO;rcases x with _|p|s
  ·rfl
  ·rfl
  ·simp only[g,RL]
end Go.Proofs.YtjbkfdeldlajhaaGreatDoor
namespace Go.Proofs.YtjbkfdeldlajhaaGreatDoor
open Go.RowKit Go.Shelf Go.Proofs.Tryz
open Option renaming none->Y,some->V
open Go.Value renaming int->Z,string->O,slice->J,pointer->X,bool->ao,tuple->bt
open Go.IntKind renaming i64->U
open Go.Obj renaming cells->I
open Go renaming World->ab,Value->ax,Calls->ba
open Go.Ending renaming returned->ay
theorem oO.ai{N:Nat}{w c:ab}{b:Nat}{A:aZ}{F:List Nat}{S:Nat->Prop}(h:oO N w b A F)(g:aa S w c)(f:∀k∈F,¬S k):oO N c b A F:=by obtain⟨R,a,d,e,rfl⟩:=h;exact⟨R,⟨a.at_.ai g f,a.mq,a.dm,a.ar,a.gO,a.dR,a.du,a.eJ,a.pN⟩,d,e,rfl⟩
theorem oO.more{N a:Nat}{w:ab}{b:Nat}{A:aZ}{F:List Nat}(h:oO N w b A F)(e:N<=a):oO a w b A F:=by obtain⟨R,c,d⟩:=h;exact⟨R,c.more e,d⟩
theorem oO.lt{N:Nat}{w:ab}{b:Nat}{A:aZ}{F:List Nat}(h:oO N w b A F):∀k∈F,k<w.heap.size:=by obtain⟨R,a,c,d,rfl⟩:=h;exact a.at_.lt
def aM.zero(b:Nat):aM:=⟨b,J Y 0 0,[],0,0,J Y 0 0,[],0,J Y 0 0,[],J Y 0 0,[],0⟩
theorem Qm{w:ab}{b:Nat}(h:w.heap[b]?=V (I (aM.zero b).top 40 (0,0))):oO 0 w b aZ.zero [b]:=
 ⟨aM.zero b,⟨⟨h,Row.nil _ _ _,Row.nil _ _ _,λx a=>(by cases a),Row.nil _ _ _,Row.nil _ _ _,λx a=>(by cases a)⟩,by simp[aM.zero],by simp[aM.zero],λx a=>(by cases a),by simp[aM.zero],by simp[aM.zero],by simp[aM.zero],by simp[aM.zero],by simp[aM.zero]⟩,rfl,rfl,by simp[aM.zero,aM.fp,Value.ownBlock]⟩
structure tY(N:Nat)(w:ab)(xb yb:Nat)(A:aX)(B:aZ)(FG FF:List Nat):Prop where
 x:ml N w xb A FG
 y:oO N w yb B FF
 kY:dH A B
 apart:∀k∈FG,k∉FF
def Np:Type:={b:ByteArray//b.size<=1000000000}
def cc(b c:Nat)(a:Np):Array ax:=#[X (V ⟨b,0,Y⟩),X (V ⟨c,0,Y⟩),O a.1]
def uV(N:Nat)(w:ab)(d:Nat)(c:List Nat):Prop:=
 ∃e f g A B b a,w.heap[d]?=V (I (cc e f g) 42 (0,0))/\tY N w e f A B b a/\d∉c/\c=b++a
def fo(N c:Nat)(b:List Nat)(w d:ab):Prop:=∃a,uV N d c a/\aa (·∈c::b) w d/\∀k∈a,k∈b\/w.heap.size<=k
theorem tY.ai{N:Nat}{w e:ab}{f g:Nat}{A:aX}{B:aZ}{c b:List Nat}{S:Nat->Prop}(h:tY N w f g A B c b)(a:aa S w e)(d:∀k∈c++b,¬S k):tY N e f g A B c b:=
 ⟨h.x.ai a (λk a=>d k (by simp[a])),h.y.ai a (λk a=>d k (by simp[a])),h.kY,h.apart⟩
theorem uV.lt{N:Nat}{w:ab}{d:Nat}{b:List Nat}(h:uV N w d b):∀k∈d::b,k<w.heap.size:=by
 obtain⟨l,m,j,A,B,g,f,e,c,i,rfl⟩:=h;intro k a;rcases cT.1 a with rfl|a
 ·exact (lg e)
 ·rcases cQ.1 a with a|a
  ·exact c.x.lt k a
  ·exact c.y.lt k a
theorem uV.ai{N:Nat}{w f:ab}{b:Nat}{c:List Nat}{S:Nat->Prop}(h:uV N w b c)(a:aa S w f)(e:∀k∈b::c,¬S k):uV N f b c:=by obtain⟨n,o,m,A,B,i,g,d,j,l,rfl⟩:=h;exact⟨n,o,m,A,B,i,g,(a.block _ (lg d) (e b (by simp))).trans d,j.ai a (λk a=>e k (ef _ a)),l,rfl⟩
theorem uV.more{N c:Nat}{w:ab}{e:Nat}{b:List Nat}(h:uV N w e b)(d:N<=c):uV c w e b:=by obtain⟨l,m,k,A,B,g,f,i,a,j,rfl⟩:=h;exact⟨l,m,k,A,B,g,f,i,⟨a.x.more d,a.y.more d,a.kY,a.apart⟩,j,rfl⟩
theorem uV.same{N b:Nat}{w e:ab}{d:Nat}{a:List Nat}(h:uV N w d a)(f:N<=b)(c:aa n_ w e):fo b d a w e:=
 ⟨a,(h.ai c k_).more f,c.mono (λ_ _ h=>h.elim),λ_ h=>.inl h⟩
theorem fo.then{N d:Nat}{b:List Nat}{w e f:ab}(h:fo N d b w e)(c:aa n_ e f):fo N d b w f:=by obtain⟨a,g,i,j⟩:=h;exact⟨a,g.ai c k_,i.tr c (λ_ h=>h.elim),j⟩
def Hw(N e:Nat)(d:List Nat)(f g:Nat)(h:Np)(A:aX)(B:aZ)(w c:ab):Prop:=∃b a,c.heap[e]?=V (I (cc f g h) 42 (0,0))/\tY N c f g A B b a/\e∉b++a/\aa (·∈d) w c/\∀k∈b++a,k∈d\/w.heap.size<=k
theorem Hw.after{N d:Nat}{c:List Nat}{g i:Nat}{e:Np}{A:aX}{B:aZ}{w f:ab}(h:Hw N d c g i e A B w f):fo N d c w f:=by obtain⟨b,a,j,k,l,m,n⟩:=h;exact⟨b++a,⟨g,i,e,A,B,b,a,j,k,l,rfl⟩,m.mono (λ_ _ h=>ef _ h),n⟩
theorem tY.next{N M:Nat}{w H K p:ab}{l n q:Nat}{G:Np}{A o:aX}{B r:aZ}{i e:List Nat}(F:w.heap[l]?=V (I (cc n q G) 42 (0,0)))(y:l∉i++e)(h:tY N w n q A B i e)(a:gT M n o i w H)(g:aa n_ H K)(P:dO M q r e K p)(Q:dH o r):Hw M l (i++e) n q G o r w p:=by
 obtain⟨f,C,D,x⟩:=a;obtain⟨s,L,t,u⟩:=P;have z1:=D.size;have z2:=g.size;have z3:=t.size;have W:=h.x.lt;have R:=h.y.lt;have S:=(lg F);have c:∀k∈f,k∉e:=λk b j=>by
  rcases x k b with a|a
  ·exact h.apart k a j
  ·have:=R k j;omega
 have z:=C.lt;have v:ml M p n o f:=(C.ai g k_).ai t (λk b j=>c k b j);have d:aa (·∈i++e) w p:=((D.mono (T:=(·∈i++e)) (λk _ b=>cQ.2 (.inl b))).tr g (λ_ h=>h.elim)).tr t (λk b=>cQ.2 (.inr b));refine⟨f,s,?_,⟨v,L,Q,λk b j=>?_⟩,λm=>?_,d,λk b=>?_⟩
 ·exact(d.block l S y).trans F
 ·rcases u k j with a|a
  ·exact c k b a
  ·have:=z k b;omega
 ·rcases cQ.1 m with m|m
  ·rcases x l m with a|a
   ·exact y (cQ.2 (.inl a))
   ·omega
  ·rcases u l m with a|a
   ·exact y (cQ.2 (.inr a))
   ·omega
 ·rcases cQ.1 b with b|b
  ·rcases x k b with a|a
   ·exact .inl (cQ.2 (.inl a))
   ·exact .inr a
  ·rcases u k b with a|a
   ·exact .inl (cQ.2 (.inr a))
   ·exact .inr (by omega)
theorem gT.more{N M:Nat}{b:Nat}{A:aX}{F:List Nat}{w a:ab}(h:gT N b A F w a)(f:N<=M):gT M b A F w a:=by obtain⟨c,d,e⟩:=h;exact⟨c,d.more f,e⟩
theorem dO.more{N M:Nat}{b:Nat}{A:aZ}{F:List Nat}{w a:ab}(h:dO N b A F w a)(f:N<=M):dO M b A F w a:=by obtain⟨c,d,e⟩:=h;exact⟨c,d.more f,e⟩
def oQ(a:List Nat)(w:ab)(j:Nat)(f:Array ax)(h:ax)(k:Nat)(g:Array ax)(i:ax)(Q:ab->Prop):Prop:=
 ba prog j f w λe b=>e=ay h/\aa (·∈a) w b/\∀c,aa n_ b c->ba prog k g c λe d=>e=ay i/\aa (·∈a) w d/\Q d
abbrev iD(N h:Nat)(a:List Nat)(w:ab)(f:Nat)(b:Array ax)(d:ax)(g:Nat)(c:Array ax)(e:ax):Prop:=oQ a w f b d g c e (fo N h a w)
theorem oQ.mk{N M m:Nat}{w:ab}{f b:Nat}{x:Np}{A g:aX}{B i:aZ}{c a:List Nat}{r s:Nat}{n o:Array ax}{p q:ax}(K:w.heap[m]?=V (I (cc f b x) 42 (0,0)))(H:m∉c++a)(h:tY N w f b A B c a)(L:dH g i)(P:ba prog r n w λe w'=>e=ay p/\gT M f g c w w')(Q:∀W,oO N W b B a->ba prog s o W λe w'=>e=ay q/\dO M b i a W w'):oQ (c++a) w r n p s o q (Hw M m (c++a) f b x g i w):=by refine P.mono ?_;rintro e T ⟨rfl,u⟩;obtain⟨j,R,t,S⟩:=id u;refine⟨rfl,t.mono (λk _ l=>cQ.2 (.inl l)),λy d=>?_⟩;have F:oO N y b B a:=(h.y.ai t (λk l G=>h.apart k G l)).ai d k_;refine(Q y F).mono ?_;rintro e w3 ⟨rfl,D⟩;have v:=tY.next K H h u d D L;obtain⟨j,z,-,-,-,C,-⟩:=id v;exact⟨rfl,C,v⟩
theorem iD.mk{N M g:Nat}{w:ab}{i c:Nat}{y:Np}{A j:aX}{B l:aZ}{b a:List Nat}{q r:Nat}{m n:Array ax}{o p:ax}(t:w.heap[g]?=V (I (cc i c y) 42 (0,0)))(s:g∉b++a)(h:tY N w i c A B b a)(u:dH j l)(v:ba prog q m w λe w'=>e=ay o/\gT M i j b w w')(x:∀W,oO N W c B a->ba prog r n W λe w'=>e=ay p/\dO M c l a W w'):iD M g (b++a) w q m o r n p:=
 (oQ.mk t s h u v x).mono λ_ _ d=>⟨d.1,d.2.1,λz k=>(d.2.2 z k).mono λ_ _ f=>⟨f.1,f.2.1,f.2.2.after⟩⟩
section
variable{N pb:Nat} {w:ab} {xb yb:Nat} {tx:Np} {A:aX} {B:aZ} {FG FF:List Nat}
theorem vZ(f:w.heap[pb]?=V (I (cc xb yb tx) 42 (0,0)))(d:pb∉FG++FF)(h:tY N w xb yb A B FG FF)(b:N<=10000000000):iD (N+1000) pb (FG++FF) w 18 #[X (V ⟨xb,0,Y⟩)] (bt #[Z U A.dQ.1,Z U A.dQ.2]) 19 #[X (V ⟨yb,0,Y⟩)] (bt #[Z U A.dQ.1,Z U A.dQ.2]):=by refine iD.mk f d h h.kY.fq ((NJ h.x (by omega)).mono λe g a=>⟨a.1,a.2.more (by omega)⟩) (λW c=>?_);rw[h.kY.dQ];exact(NI c b).mono λe g a=>⟨a.1,a.2.more (by omega)⟩
theorem LG(i:w.heap[pb]?=V (I (cc xb yb tx) 42 (0,0)))(g:pb∉FG++FF)(h:tY N w xb yb A B FG FF)(d:N<=10000000000)(n:Int)(a:ByteArray)(c:a.size<=maxLen):iD (N+1000) pb (FG++FF) w 24 #[X (V ⟨xb,0,Y⟩),Z U n,O a] (bt #[O (A.kO n a).1,Z U (A.kO n a).2]) 25 #[X (V ⟨yb,0,Y⟩),Z U n,O a] (bt #[O (A.kO n a).1,Z U (A.kO n a).2]):=by refine iD.mk i g h h.kY ((Qk n a h.x c).mono λe j b=>⟨b.1,b.2.more (by omega)⟩) (λW f=>?_);rw[h.kY.kO n a];exact(Qj n a f d c).mono λe j b=>⟨b.1,b.2.more (by omega)⟩
theorem LI(k:w.heap[pb]?=V (I (cc xb yb tx) 42 (0,0)))(j:pb∉FG++FF)(h:tY N w xb yb A B FG FF)(g:N<=10000000000)(n:Int)(a b:ByteArray)(d:a.size<=maxLen)(f:b.size<=maxLen):iD (N+1000) pb (FG++FF) w 26 #[X (V ⟨xb,0,Y⟩),Z U n,O a,O b] (Z U (A.cz n a b)) 27 #[X (V ⟨yb,0,Y⟩),Z U n,.agg #[O a,O b,ao false]] (Z U (A.cz n a b)):=by refine iD.mk k j h (h.kY.dT n a b false) ((Qt n a b h.x d f).mono λe l c=>⟨c.1,c.2.more (by omega)⟩) (λW i=>?_);rw[h.kY.cz n a b false];exact(Hs n ⟨a,b,false⟩ i g d f).mono λe l c=>⟨c.1,c.2.more (by omega)⟩
theorem Cg(i:w.heap[pb]?=V (I (cc xb yb tx) 42 (0,0)))(g:pb∉FG++FF)(h:tY N w xb yb A B FG FF)(d:N<=10000000000)(n:Int)(a:ByteArray)(c:a.size<=maxLen):iD (N+1000) pb (FG++FF) w 28 #[X (V ⟨xb,0,Y⟩),Z U n,O a] (Z U (A.cz n a ByteArray.empty)) 27 #[X (V ⟨yb,0,Y⟩),Z U n,.agg #[O a,O ByteArray.empty,ao true]] (Z U (A.cz n a ByteArray.empty)):=by refine iD.mk i g h (h.kY.dT n a ByteArray.empty true) ((LC n a h.x c).mono λe j b=>⟨b.1,b.2.more (by omega)⟩) (λW f=>?_);rw[h.kY.cz n a ByteArray.empty true];exact(Hs n ⟨a,ByteArray.empty,true⟩ f d c (by simp[maxLen])).mono λe j b=>⟨b.1,b.2.more (by omega)⟩
theorem Cf(f:w.heap[pb]?=V (I (cc xb yb tx) 42 (0,0)))(d:pb∉FG++FF)(h:tY N w xb yb A B FG FF)(b:N<=10000000000)(n:Int):iD (N+1000) pb (FG++FF) w 29 #[X (V ⟨xb,0,Y⟩),Z U n] (bt #[Z U (A.bZ n).1,Z U (A.bZ n).2]) 30 #[X (V ⟨yb,0,Y⟩),Z U n] (bt #[Z U (A.bZ n).1,Z U (A.bZ n).2]):=by refine iD.mk f d h (h.kY.dS h.x.ok n) ((Lu n h.x (by omega)).mono λe g a=>⟨a.1,a.2.more (by omega)⟩) (λW c=>?_);rw[h.kY.bZ n];exact(Lt n c b).mono λe g a=>⟨a.1,a.2.more (by omega)⟩
theorem EL(f:w.heap[pb]?=V (I (cc xb yb tx) 42 (0,0)))(d:pb∉FG++FF)(h:tY N w xb yb A B FG FF)(b:N<=10000000000)(n:Int):iD (N+1000) pb (FG++FF) w 31 #[X (V ⟨xb,0,Y⟩),Z U n] (Z U (A.gN n)) 32 #[X (V ⟨yb,0,Y⟩),Z U n] (Z U (A.gN n)):=by refine iD.mk f d h (h.kY.gd n) ((Nw n h.x).mono λe g a=>⟨a.1,a.2.more (by omega)⟩) (λW c=>?_);rw[h.kY.gN n];exact(Nv n c b).mono λe g a=>⟨a.1,a.2.more (by omega)⟩
theorem LH(f:w.heap[pb]?=V (I (cc xb yb tx) 42 (0,0)))(d:pb∉FG++FF)(h:tY N w xb yb A B FG FF)(b:N<=10000000000)(n:Int):iD (N+1000) pb (FG++FF) w 33 #[X (V ⟨xb,0,Y⟩),Z U n] (Z U (A.oM n)) 34 #[X (V ⟨yb,0,Y⟩),Z U n] (Z U (A.oM n)):=by refine iD.mk f d h (h.kY.nu n) ((Qr n h.x (by omega)).mono λe g a=>⟨a.1,a.2.more (by omega)⟩) (λW c=>?_);rw[h.kY.oM n];exact(Qq n c b).mono λe g a=>⟨a.1,a.2.more (by omega)⟩
theorem EO(f:w.heap[pb]?=V (I (cc xb yb tx) 42 (0,0)))(d:pb∉FG++FF)(h:tY N w xb yb A B FG FF)(b:N<=10000000000)(n:Int):iD (N+1000) pb (FG++FF) w 35 #[X (V ⟨xb,0,Y⟩),Z U n] (Z U (A.mC n)) 36 #[X (V ⟨yb,0,Y⟩),Z U n] (Z U (A.mC n)):=by refine iD.mk f d h (h.kY.iW n) ((Oy n h.x (by omega)).mono λe g a=>⟨a.1,a.2.more (by omega)⟩) (λW c=>?_);rw[h.kY.mC n];exact(Ox n c b).mono λe g a=>⟨a.1,a.2.more (by omega)⟩
theorem EN(f:w.heap[pb]?=V (I (cc xb yb tx) 42 (0,0)))(d:pb∉FG++FF)(h:tY N w xb yb A B FG FF)(b:N<=10000000000):iD (N+1000) pb (FG++FF) w 37 #[X (V ⟨xb,0,Y⟩)] (Z U A.mB) 38 #[X (V ⟨yb,0,Y⟩)] (Z U A.mB):=by refine iD.mk f d h (h.kY.dX h.x.ok) ((Ow h.x (by omega)).mono λe g a=>⟨a.1,a.2.more (by omega)⟩) (λW c=>?_);rw[h.kY.mB];exact(Ov c b).mono λe g a=>⟨a.1,a.2.more (by omega)⟩
def vi(A:aX):ax:=.agg #[Z U A.now,Z U A.aK,Z U A.af.length,Z U A.cF,Z U A.total,Z U A.aA.length]
theorem IY(f:w.heap[pb]?=V (I (cc xb yb tx) 42 (0,0)))(d:pb∉FG++FF)(h:tY N w xb yb A B FG FF)(b:N<=10000000000):iD (N+1000) pb (FG++FF) w 10 #[X (V ⟨xb,0,Y⟩)] (vi A) 11 #[X (V ⟨yb,0,Y⟩)] (vi A):=by refine iD.mk f d h h.kY ((Mg h.x (by omega)).mono λe g a=>⟨a.1,FG,a.2.1.more (by omega),a.2.2.mono (λ_ _ h=>h.elim),λ_ h=>.inl h⟩) (λW c=>?_);unfold vi;rw[h.kY.now,h.kY.aK,h.kY.OQ,h.kY.cF,h.kY.total,h.kY.Qc];exact(Px c b).mono λe g a=>⟨a.1,a.2.more (by omega)⟩
theorem we(l:w.heap[pb]?=V (I (cc xb yb tx) 42 (0,0)))(k:pb∉FG++FF)(h:tY N w xb yb A B FG FF)(i:N<=10000000000)(c:Bool)(a b:Int):iD (N+1000) pb (FG++FF) w 47 #[X (V ⟨xb,0,Y⟩),ao c,Z U a,Z U b] (bt #[Z U (A.eH c a b).1,Z U (A.eH c a b).2]) 48 #[X (V ⟨yb,0,Y⟩),ao c,Z U a,Z U b] (bt #[Z U (A.eH c a b).1,Z U (A.eH c a b).2]):=by have g:=h.x.ok;have m:=h.x.aB;refine iD.mk l k h (h.kY.jJ g c a b) ((Ou c a b h.x (by omega)).mono λe n d=>⟨d.1,d.2.more (by omega)⟩) (λW j=>?_);rw[h.kY.eH g c a b];exact(Ot c a b j i (by rw[<-h.kY.aB];omega) h.kY.mr (by rw[<-h.kY.now];exact g.now.2) (λf=>by rw[(h.kY.zc g c a b).2 f];exact g.small _)).mono λe n d=>⟨d.1,d.2.more (by omega)⟩
theorem Jb(d:w.heap[pb]?=V (I (cc xb yb tx) 42 (0,0)))(c:pb∉FG++FF)(h:tY N w xb yb A B FG FF)(n:Int):iD (N+1000) pb (FG++FF) w 50 #[X (V ⟨xb,0,Y⟩),Z U n] (Z U (A.mf n)) 51 #[X (V ⟨yb,0,Y⟩),Z U n] (Z U (A.mf n)):=by refine iD.mk d c h (h.kY.stop n).2 ((PO n h.x).mono λe f a=>⟨a.1,a.2.more (by omega)⟩) (λW b=>?_);rw[(h.kY.stop n).1];exact(PN n b).mono λe f a=>⟨a.1,a.2.more (by omega)⟩
def AN(B:aZ)(n:Int):ax:=bt #[O (B.fg n).1,ao (B.fg n).2.1,Z U (B.fg n).2.2]
theorem IZ(g:w.heap[pb]?=V (I (cc xb yb tx) 42 (0,0)))(f:pb∉FG++FF)(h:tY N w xb yb A B FG FF)(j:N<=10000000000)(i:cM w)(n:Int):oQ (FG++FF) w 114 #[X (V ⟨xb,0,Y⟩),Z U n] (AN B n) 115 #[X (V ⟨yb,0,Y⟩),Z U n] (AN B n) (Hw N pb (FG++FF) xb yb tx (A.lr n) (B.lr n) w):=by obtain⟨a,b,c,d⟩:=h.kY.next n;refine oQ.mk g f h c ?_ (λW e=>PC n e h.kY.pieces);have:=PD n h.x (by omega) i d;rw[a,b]at this;exact this
theorem EM(l:w.heap[pb]?=V (I (cc xb yb tx) 42 (0,0)))(k:pb∉FG++FF)(h:tY N w xb yb A B FG FF)(g:N<=10000000000)(j:gK w)(a:ByteArray)(c:a.size<=1000000000):iD (N+1000) pb (FG++FF) w 52 #[X (V ⟨xb,0,Y⟩),O a] (Z U (A.ei (cA a.data.toList))) 53 #[X (V ⟨yb,0,Y⟩),O a] (Z U (A.ei (cA a.data.toList))):=by obtain⟨d,f⟩:=h.kY.apply h.x.ok (cA a.data.toList) (λs m=>jH m);refine iD.mk l k h f ((Ek a h.x (by omega) (by omega) j).mono λe n b=>⟨b.1,b.2.more (by omega)⟩) (λW i=>?_);rw[d];exact(NA a i g c).mono λe n b=>⟨b.1,b.2.more (by omega)⟩
end
end Go.Proofs.YtjbkfdeldlajhaaGreatDoor
