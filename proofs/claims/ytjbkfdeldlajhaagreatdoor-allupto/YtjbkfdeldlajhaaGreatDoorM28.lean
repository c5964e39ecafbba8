import Derived.Test.YtjbkfdeldlajhaaGreatDoorM27
set_option linter.unusedSimpArgs false
namespace Go.Proofs.YtjbkfdeldlajhaaGreatDoor
set_option maxRecDepth 100000
set_option maxHeartbeats 4000000
open Go.RowKit Go.Shelf Go.Proofs.Tryz
open Option renaming none->Y,some->V
open Go.Value renaming int->Z,slice->J,pointer->X,bool->ao,tuple->bt,string->O
open Go.IntKind renaming i64->U
open Go renaming World->ab,Calls->ba,Value->ax,TypeId->cI
open Go.Ending renaming returned->ay
open Go.Obj renaming cells->I
variable{j k g:Nat}{w W:ab}{n f:Int}{e:cI}{v:ax}
def gS(n:Int)(l:List Int):Int:=l.foldl (λa x=>if x<a then x else a) n
theorem JB(n:Int)(l:List Int)(x:Int):gS n (l++[x])=if x<gS n l then x else gS n l:=by unfold gS;rw[Ri];rfl
def aM.held(R:aM):Int:=gS (gS (gS R.now (R.af.map iY.aI)) R.aN) (R.aC.map ko.least)
theorem wN{α:Type}{f:α->Int}{l:List α}{x:α}(b:l[k]?=V x):gS n ((l.take (k+1)).map f)=if f x<gS n ((l.take k).map f)then f x else gS n ((l.take k).map f):=by obtain⟨a,rfl⟩:=ej.1 b;rw[eu a,xT];exact JB _ _ _
theorem wM{α:Type}{f:α->Int}{l:List α}(a:¬k<l.length):gS n ((l.take k).map f)=gS n (l.map f):=by rw[ep (by omega)]
theorem Qd{a:Nat}{l:List ko}{x:ko}(h:Row w 193 3 (J (V ⟨g,0,Y⟩) l.length a) l.length (l.flatMap ko.cells))(c:l[k]?=V x):w.cell? ⟨g,k*3,Y⟩=V (Z U x.id)/\w.cell? ⟨g,k*3+1,Y⟩=V (Z U x.least)/\w.cell? ⟨g,k*3+2,Y⟩=V x.sl:=by obtain⟨b,rfl⟩:=ej.1 c;exact⟨Row.elem ko.len h k b 0 (by omega),Row.elem ko.len h k b 1 (by omega),Row.elem ko.len h k b 2 (by omega)⟩
theorem LW(R:aM)(w:ab)(h:aY w R)(hw:R.af.length<100000000000)(hp:R.aN.length<100000000000)(hc:R.aC.length<100000000000):ba prog 93 #[X (V ⟨R.b,0,Y⟩)] w λe w'=>e=ay (Z U R.held)/\w'=w:=by
 obtain⟨o1,a1,C,L,Q⟩:=h.af.form;obtain⟨o2,a2,D,M,S⟩:=h.aN.form;obtain⟨o3,a3,F,N,T⟩:=h.aC.form;have c3:w.cell? ⟨R.b,3,Y⟩=V (J o1 R.af.length a1):=(h.cell 3).trans (by rw[<-C];rfl);have c5:w.cell? ⟨R.b,5,Y⟩=V (J o2 R.aN.length a2):=(h.cell 5).trans (by rw[<-D];rfl);have c6:w.cell? ⟨R.b,6,Y⟩=V (J o3 R.aC.length a3):=(h.cell 6).trans (by rw[<-F];rfl);have c1:w.cell? ⟨R.b,1,Y⟩=V (Z U R.now):=h.cell 1;have W:=E (C▸h.af);have H2:=E (D▸h.aN);have H3:=E (F▸h.aC);have S1:=E Q;have S2:=E S;have S3:=E T;unfold maxLen at L M N;have B:QS (R.held=gS (gS (gS R.now (R.af.map iY.aI)) R.aN) (R.aC.map ko.least)):=E rfl;generalize R.held=a0 at*;generalize R.now=a at*;generalize R.af=p at*;generalize R.aN=o at*;generalize R.aC=r at*;clear h Q S T C D F;go_enter func93,ntmps93;go_wp2_with fail;go_loop [3,4] (λn i=>∃k:Nat,k<=p.length/\i=Z U k/\n=Z U (gS a ((p.take k).map iY.aI))) (λ_ i=>p.length-(intOf i).toNat)
 case atStart=>exact⟨0,eL _,rfl,rfl⟩
 case round=>
  obtain⟨k,hk,rfl,rfl⟩:=hrel;by_cases G:k<p.length
  ·obtain⟨g,rfl⟩:=S1.o (by omega);obtain⟨x,m⟩:∃x,p[k]?=V x:=⟨p[k],ec G⟩
   obtain⟨H,P,K⟩:=pX W.o (aa.refl _ w) m;have b:=E (wN (f:=iY.aI) (n:=a) m);generalize gS a ((p.take k).map iY.aI)=cur at*;clear m H K;by_cases e:x.aI<cur
   ·have d:QS (gS a ((p.take (k+1)).map iY.aI)=x.aI):=by show _=_;rw[b.o,fy e]
    clear b;go_wp2;exact⟨⟨k+1,by omega,by go_num,by rw[d.o]⟩,by simp only[intOf];omega⟩
   ·have d:QS (gS a ((p.take (k+1)).map iY.aI)=cur):=by show _=_;rw[b.o,el e]
    clear b;go_wp2;exact⟨⟨k+1,by omega,by go_num,by rw[d.o]⟩,by simp only[intOf];omega⟩
  ·have A:=E (wM (f:=iY.aI) (n:=a) G);have c:QS (∃q,q=gS a (p.map iY.aI)/\gS a ((p.take k).map iY.aI)=q):=E ⟨_,rfl,A.o⟩;obtain⟨q,j,l⟩:=c.o;rw[l];rw[<-j]at B;clear A c j l;go_wp2_with fail;go_loop [3,5] (λn i=>∃k:Nat,k<=o.length/\i=Z U k/\n=Z U (gS q ((o.take k).map λz=>z))) (λ_ i=>o.length-(intOf i).toNat)
   case atStart=>exact⟨0,eL _,rfl,rfl⟩
   case round=>
    obtain⟨t,a4,rfl,rfl⟩:=hrel;by_cases v:t<o.length
    ·obtain⟨g,rfl⟩:=S2.o (by omega);obtain⟨x,m⟩:∃x,o[t]?=V x:=⟨o[t],ec v⟩
     have P:=MB H2.o (aa.refl _ w) m;have b:=E (wN (f:=λz:Int=>z) (n:=q) m);generalize gS q ((o.take t).map λz=>z)=cur at*;clear m;by_cases e:x<cur
     ·have d:QS (gS q ((o.take (t+1)).map λz=>z)=x):=by show _=_;rw[b.o,fy e]
      clear b;go_wp2;exact⟨⟨t+1,by omega,by go_num,by rw[d.o]⟩,by simp only[intOf];omega⟩
     ·have d:QS (gS q ((o.take (t+1)).map λz=>z)=cur):=by show _=_;rw[b.o,el e]
      clear b;go_wp2;exact⟨⟨t+1,by omega,by go_num,by rw[d.o]⟩,by simp only[intOf];omega⟩
    ·have A:=E (wM (f:=λz:Int=>z) (n:=q) v);have c:QS (∃s,s=gS q o/\gS q ((o.take t).map λz=>z)=s):=E ⟨_,rfl,A.o.trans (by rw[List.map_id'])⟩;obtain⟨s,j,l⟩:=c.o;rw[l];rw[<-j]at B;clear A c j l;go_wp2_with fail;go_loop [3,6] (λn i=>∃k:Nat,k<=r.length/\i=Z U k/\n=Z U (gS s ((r.take k).map ko.least))) (λ_ i=>r.length-(intOf i).toNat)
     case atStart=>exact⟨0,eL _,rfl,rfl⟩
     case round=>
      obtain⟨u,a5,rfl,rfl⟩:=hrel;by_cases y:u<r.length
      ·obtain⟨g,rfl⟩:=S3.o (by omega);obtain⟨x,m⟩:∃x,r[u]?=V x:=⟨r[u],ec y⟩
       obtain⟨H,P,K⟩:=Qd H3.o m;have b:=E (wN (f:=ko.least) (n:=s) m);generalize gS s ((r.take u).map ko.least)=cur at*;clear m H K;by_cases e:x.least<cur
       ·have d:QS (gS s ((r.take (u+1)).map ko.least)=x.least):=by show _=_;rw[b.o,fy e]
        clear b;go_wp2;exact⟨⟨u+1,by omega,by go_num,by rw[d.o]⟩,by simp only[intOf];omega⟩
       ·have d:QS (gS s ((r.take (u+1)).map ko.least)=cur):=by show _=_;rw[b.o,el e]
        clear b;go_wp2;exact⟨⟨u+1,by omega,by go_num,by rw[d.o]⟩,by simp only[intOf];omega⟩
      ·have A:=E (wM (f:=ko.least) (n:=s) y);generalize gS s ((r.take u).map ko.least)=cur at*;go_wp2;go_ret;exact⟨fV (by rw[B.o,A.o]),rfl⟩
def gW(l:List bq):Nat:=l.countP (λv=>!v.bK)
theorem EG{l:List bq}{x:bq}(a:l[k]?=V x):gW (l.take (k+1))=gW (l.take k)+(if x.bK=true then 0 else 1):=by rw[eo a];unfold gW;rw[TI];cases h:x.bK<;>simp[h]
theorem IN(l:List bq):gW l<=l.length:=List.countP_le_length
theorem yy(W:ab)(b:Nat)(k l m n o p:ax)(a:Array ax)(j:a.getD 2 undef=X (V ⟨b,0,Y⟩))(h:W.heap[b]?=V (I #[k,l,m,n,o,p] 52 (0,0))):(results Tryz.f11 a).run prog W=.ok (.agg #[k,l,m,n,o,p]) W:=by have c:=ae h 0;have d:=ae h 1;have e:=ae h 2;have f:=ae h 3;have g:=ae h 4;have i:=ae h 5;simp at c d e f g i;simp only[Tp]at j;simp[results,Tryz.results11,go_sem,j,c,d,e,f,g,i]
theorem zh(R:aM)(w:ab)(h:aY w R)(ha:R.all.length<100000000000):ba prog 11 #[X (V ⟨R.b,0,Y⟩)] w λe w'=>e=ay (.agg #[Z U R.now,Z U R.aK,Z U R.af.length,Z U R.aN.length,Z U (gW R.all),Z U R.aC.length])/\aa n_ w w':=by
 obtain⟨o0,P,c,p,K⟩:=h.all.form;obtain⟨F,y,f,q,s1⟩:=h.af.form;obtain⟨G,z,j,r,s2⟩:=h.aN.form;obtain⟨H,A,l,s,s3⟩:=h.aC.form;have c0:w.cell? ⟨R.b,0,Y⟩=V (J o0 R.all.length P):=(h.cell 0).trans (by rw[<-c];rfl);have c3:w.cell? ⟨R.b,3,Y⟩=V (J F R.af.length y):=(h.cell 3).trans (by rw[<-f];rfl);have c5:w.cell? ⟨R.b,5,Y⟩=V (J G R.aN.length z):=(h.cell 5).trans (by rw[<-j];rfl);have c6:w.cell? ⟨R.b,6,Y⟩=V (J H R.aC.length A):=(h.cell 6).trans (by rw[<-l];rfl);have c1:w.cell? ⟨R.b,1,Y⟩=V (Z U R.now):=h.cell 1;have c2:w.cell? ⟨R.b,2,Y⟩=V (Z U R.aK):=h.cell 2;have M:=E (c▸h.all);have N:=E K;have C:=h.blt;have a6:¬(R.b=w.heap.size):=by omega
 have a7:¬(w.heap.size=R.b):=by omega
 unfold maxLen at p q r s;generalize R.all=a at*;generalize R.af.length=nw at*;generalize R.aN.length=np at*;generalize R.aC.length=nc at*;generalize R.now=v at*;generalize R.aK=b at*;clear h K s1 s2 s3 c f j l;go_enter func11,ntmps11;go_wp2_with fail;go_loop [3,4] (λn i=>∃k:Nat,k<=a.length/\i=Z U k/\n=Z U (gW (a.take k))) (λ_ i=>a.length-(intOf i).toNat)
 case atStart=>exact⟨0,eL _,rfl,rfl⟩
 case round=>
  obtain⟨k,hk,rfl,rfl⟩:=hrel;have a4:gW (a.take k)<=k:=mA (IN _) (wj _ _);by_cases o:k<a.length
  ·obtain⟨g,rfl⟩:=N.o (by omega);obtain⟨x,u⟩:∃x,a[k]?=V x:=⟨a[k],ec o⟩
   obtain⟨B,Q,S,T,d4⟩:=tW M.o (aa.refl _ w) u;have a5:g<w.heap.size:=World.block_lt_of_cell? _ _ B;have d:=E (EG u);generalize gW (a.take k)=cur at*;clear u B Q S T;obtain⟨t,D⟩:∃t,t=x.bK:=⟨_,rfl⟩
   rw[<-D]at d4 d;clear D;cases t with
   |true=>
    have m:QS (gW (a.take (k+1))=cur):=by show _=_;rw[d.o];simp
    clear d;go_wp2;exact⟨⟨k+1,by omega,by go_num,by rw[m.o]⟩,by simp only[intOf];omega⟩
   |false=>
    have m:QS (gW (a.take (k+1))=cur+1):=by show _=_;rw[d.o];simp
    clear d;go_wp2;exact⟨⟨k+1,by omega,by go_num,by rw[m.o];go_num⟩,by simp only[intOf];omega⟩
  ·have L:QS (gW (a.take k)=gW a):=by show _=_;rw[ep (by omega)]
   generalize gW (a.take k)=cur at*;go_wp2_with fail;go_region_held3(λW=>W.cell? ⟨R.b,1,Y⟩=V (Z U v)/\W.cell? ⟨R.b,2,Y⟩=V (Z U b)/\W.cell? ⟨R.b,3,Y⟩=V (J F nw y)/\W.cell? ⟨R.b,5,Y⟩=V (J G np z)/\W.cell? ⟨R.b,6,Y⟩=V (J H nc A)) (go_keep) (fail);go_wp2;refine bodyPost_ret (yy _ w.heap.size _ _ _ _ _ _ _ rfl (az w _)) rfl ⟨?_,((aa.refl n_ w).al _).dr⟩;rw[L.o]
theorem aY.FY{R:aM}{l:List iY}(h:aY w R)(b:aa n_ w W)(j:Row W 128 3 v l.length (l.flatMap iY.cells))(a:∀g,v.ownBlock=V g->w.heap.size<=g)(i:∀x∈l,x∈R.af):kn 128 R {R with vw:=v,af:=l} w (W.setCell ⟨R.b,3,Y⟩ v):=by obtain⟨c,d,-,f⟩:=h.Dq b j a i;exact⟨c,d,(b.mono (λ_ _ h=>h.elim)).tr (aa.setCell _ _ _) (λ_ e=>.inl e),f⟩
theorem Oh(R:aM)(k:Nat)(w:ab)(h:aY w R)(hl:R.af.length<100000000000)(hk:k<R.af.length):ba prog 78 #[X (V ⟨R.b,0,Y⟩),Z U k] w λe w'=>e=ay (bt #[])/\∃v,kn 128 R {R with vw:=v,af:=R.af.eraseIdx k} w w':=by
 obtain⟨oa,ca,s,hm,sa⟩:=h.af.form;obtain⟨g,rfl⟩:=sa (by omega);have c3:w.cell? ⟨R.b,3,Y⟩=V (J (V ⟨g,0,Y⟩) R.af.length ca):=(h.cell 3).trans (by rw[<-s];rfl);have f:=h.af;rw[s]at f;have HR:=E f;have HH:=E h;have a1:=h.blt;have c:∀x∈R.af,∃a n q,x.sl=J a n q:=λx F=>by obtain⟨a,q,e,_⟩:=Row.form (h.ar x F);exact⟨a,_,q,e⟩
 have t:=E c;obtain⟨i0,hi,N,P,Q⟩:=info_parts Tryz.wD;unfold maxLen at hm;obtain⟨l,r⟩:∃l,l=R.af:=⟨_,rfl⟩
 have u:=E r;rw[<-r]at c3 HR t hm hl hk;have HL:=E hl;clear h s r sa f c;have fz:∀W,aa n_ w W->W.frozen? ⟨R.b,3,Y⟩=false:=λW hW=>(HH.o.ai hW k_).frozen 3;have G:=E fz;clear fz;go_enter func78,ntmps78;go_wp2_with fail;go_loopw [4,5] (λv i wr=>∃j:Nat,j<=l.length/\i=Z U j/\Made 128 3 iY.cells w wr v ((l.take j).eraseIdx k)) (λ_ i _=>l.length-(intOf i).toNat)
 case atStart=>exact⟨0,eL _,rfl,Made.nil (aa.refl _ _)⟩
 case round=>
  obtain⟨j,hj,rfl,D⟩:=hrel;obtain⟨ob,cb,rfl,-,-⟩:=D.row.form;have d3:=D.keep.cell (p:=⟨R.b,3,Y⟩) c3 id;have o:=E D;clear D;by_cases M:j<l.length
  ·obtain⟨y,B⟩:∃y,l[j]?=V y:=⟨l[j],ec M⟩
   obtain⟨e0,e1,K⟩:=pX HR.o o.o.keep B;obtain⟨S,yn,yc,C⟩:=t.o y (hH B);have m:=eo B;have a3:((l.take j).eraseIdx k).length<=j:=mA (Te _ _) (wj _ _);have A:(l.take j).length=j:=by rw[js];omega
   by_cases L:j=k
   ·subst L;have H:QS ((l.take (j+1)).eraseIdx j=(l.take j).eraseIdx j):=by show _=_;rw[m,Si (by omega),A,RO (l:=l.take j) (by omega)];simp
    clear m B;go_wp2;exact⟨⟨j+1,by omega,by go_num,by rw[H.o];exact o.o⟩,by simp only[intOf];omega⟩
   ·have H:QS ((l.take (j+1)).eraseIdx k=(l.take j).eraseIdx k++[y]):=by
     show _=_;rw[m];rcases Nat.lt_or_ge k j with h1|h1
     ·rw[List.eraseIdx_append_of_lt_length (by omega)]
     ·rw[Si (by omega),A,RO (l:=l.take j) (by omega),RO (by simp;omega)]
    have a2:((j:Int)==(k:Int))=false:=mK.2 (by omega);generalize (l.take j).eraseIdx k=out at*;obtain⟨yi,T,a4,a0⟩:=y;simp only at C e0 e1 K;subst C;clear m B;go_wp2_with(first|(at_builtin;go_must(refine aL _ rfl _ _ 36 rfl 128 i0 _ 3 40 Tryz.underlying36 hi N P Q rfl (J ob out.length cb) out.length _ rfl (o.o.row.ai (aa.alloc n_ wr _) k_) ⟨wr.heap.size,0,Y⟩ 1 1 [Z U yi,Z U T,J S yn yc] rfl rfl (br _ #[Z U yi,Z U T,J S yn yc] _) (by simp[Value.oneCell']) (by have:=HL.o;unfold maxLen;omega) (by have:=HL.o;omega) ?_;intro v' w1 b d _ z;obtain⟨g1,c1,rfl⟩:=b.succ;have HN:=E (o.o.push (a:=⟨yi,T,J S yn yc,a0⟩) (aa.alloc n_ wr _) b d z);clear b d z))|fail)
    exact⟨⟨j+1,by omega,by go_num,by rw[H.o];exact HN.o.slice (by simp)⟩,by simp only[intOf];omega⟩
  ·have e:l.eraseIdx k=(l.take j).eraseIdx k:=by rw[ep (by omega)]
   have HE:=E e;have f3:=G.o wr o.o.keep;clear e;go_wp2;go_end0;refine⟨rfl,J ob ((l.take j).eraseIdx k).length cb,?_⟩;have:=HH.o.FY o.o.keep o.o.row o.o.own (λx F=>by rw[<-HE.o,u.o]at F;exact RX F)
   have K:(l.take j).eraseIdx k=R.af.eraseIdx k:=by rw[<-HE.o,u.o]
   rw[K]at this⊢;exact this
theorem aY.MW{R:aM}(h:aY w R):kn e R {R with now:=n} w (w.setCell ⟨R.b,1,Y⟩ (Z U n)):=by have a:aa (λk=>k=R.b\/bD w k 40) w (w.setCell ⟨R.b,1,Y⟩ (Z U n)):=(aa.setCell _ _ _).mono (λ_ _ h=>.inl h);obtain⟨b,c,d,f,g,i⟩:=h.rows _ a;refine⟨⟨?_,b (by decide),c (by decide),d (by decide),f (by decide),g (by decide),i (by decide)⟩,rfl,(aa.setCell _ _ _).mono (λ_ _ h=>.inl h),λk a=>.inl a⟩;rw[ak h.top];rfl
theorem kn.aW{R f:aM}{d:ab}{l:List an}(h:kn e R f w d)(g:aY w R)(b:fE w v l)(i:70≠e):fE d v l:=
 Row.ai b h.2.2.1 (λk j a=>by
  have c:=Row.aR b j;rcases a with rfl|a
  ·exact c.ne (e':=40) (by decide) ⟨_,g.top⟩
  ·exact c.ne i a.2)
theorem As(R:aM)(b:Int)(w:ab)(h:aY w R)(g:R.af.length<100000000000)(c:fc R.af b=Y):ba prog 30 #[X (V ⟨R.b,0,Y⟩),Z U b] w λe f=>e=ay (bt #[Z U 0,Z U 1])/\f=w:=by
 have a:=fj R b w h (by omega);rw[c]at a;have d:=E a;clear a h c;go_enter func30,ntmps30;go_wp2_with(go_at_call 68;go_must(refine(d.o).mono ?_;rintro e i ⟨rfl,rfl⟩;simp only[rZ]))
 go_ret2;exact⟨rfl,rfl⟩
def aM.iC(R:aM)(k:Nat)(v:ax):aM:={R with vw:=v,af:=R.af.eraseIdx k}
def aM.done(R:aM)(k:Nat)(x:iY)(v a:ax):aM:={R with vw:=v,af:=R.af.eraseIdx k,now:=R.now+1,va:=a,all:=R.all++eU x.ar (R.now+1)}
def bZ(R:aM)(x:iY):Int×Int:=if x.ar.length=0 then(x.aI,0)else if 1000000000<=R.now then(0,3)else if fP R.all x.aI x.ar=true then(0,4)else(R.now+1,0)
def db(R:aM)(k:Nat)(x:iY)(w a:ab):Prop:=
 if x.ar.length=0 then∃v,gv R (R.iC k v) w a else if 1000000000<=R.now then gv R R w a else if fP R.all x.aI x.ar=true then∃v,gv R (R.iC k v) w a else∃v b,gv R (R.done k x v b) w a
theorem Au(R:aM)(id:Int)(k:Nat)(x:iY)(w:ab)(h:aY w R)(hl:R.af.length<100000000000)(hf:fc R.af id=V k)(hx:R.af[k]?=V x)(ha:R.all.length<100000000000)(hw:x.ar.length<100000000000)(hn:0<=R.now):ba prog 30 #[X (V ⟨R.b,0,Y⟩),Z U id] w λe B=>e=ay (bt #[Z U (bZ R x).1,Z U (bZ R x).2])/\db R k x w B:=by
 have d:=fj R id w h (by omega);rw[hf]at d;have S:=E d;simp only[rZ]at S;have b4:¬((k:Int)<0):=by omega
 have Q:x∈R.af:=hH hx;have a9:k<R.af.length:=(ej.1 hx).1;obtain⟨oa,ca,N,hm,sa⟩:=h.af.form;obtain⟨g,rfl⟩:=sa (by omega);have c3:w.cell? ⟨R.b,3,Y⟩=V (J (V ⟨g,0,Y⟩) R.af.length ca):=(h.cell 3).trans (by rw[<-N];rfl);have c1:w.cell? ⟨R.b,1,Y⟩=V (Z U R.now):=h.cell 1;have z:=h.af;rw[N]at z;obtain⟨d0,d1,d2⟩:=pX z (aa.refl _ w) hx;obtain⟨b,a,u,-,-⟩:=Row.form (h.ar x Q);have P:=h.ar x Q;rw[u]at P d2;have K:=E P;have G:=E h;have l1:=h.blt;have l2:g<w.heap.size:=World.block_lt_of_cell? _ _ d2;unfold maxLen at hm;have H:QS (∀W,aa n_ w W->ba prog 78 #[X (V ⟨R.b,0,Y⟩),Z U k] W λe B=>e=ay (bt #[])/\∃v,kn 128 R (R.iC k v) W B):=λW hW=>Oh R k W (h.ai hW k_) hl a9;obtain⟨l,j,b5,c⟩:=x;simp only at u hw K d0 d1 d2;subst u;clear d hf h N z P hx Q sa;have a3:=E (λq hq=>(G.o.lt q hq));have o:QS (∀(f:ab) (R1:aM),kn 128 R R1 (w.alloc (I #[Z U l,Z U j,J b c.length a] 128)) f->f.heap[w.heap.size]?=V (I #[Z U l,Z U j,J b c.length a] 128 (0,0))):=λf R1 d=>by
  rw[d.2.2.1.block w.heap.size (by simp) (λh=>by
   rcases h with e|⟨e,-⟩
   ·omega
   ·exact absurd (a3.o _ e) (by omega))]
  exact az w _
 by_cases D:c.length=0
 ·have s:bZ R ⟨l,j,J b c.length a,c⟩=(j,0):=fy D;have T:QS (∀f v,kn 128 R (R.iC k v) (w.alloc (I #[Z U l,Z U j,J b c.length a] 128)) f->db R k ⟨l,j,J b c.length a,c⟩ w f):=λf v d=>by unfold db;rw[fy D];exact⟨v,(d.from G.o (aa.alloc _ _ _)).after⟩
  rw[s];clear s;generalize db R k ⟨l,j,J b c.length a,c⟩ w=A at*;generalize c.length=xl at*;subst D;go_enter func30,ntmps30;go_wp2_with(first|(go_at_call 68;go_must(refine(S.o).mono ?_;rintro e f ⟨rfl,rfl⟩))|(go_at_call 78;go_must(refine(H.o _ (aa.alloc _ _ _)).mono ?_;rintro e m ⟨rfl,v,d⟩;obtain⟨b0,b1,b2,-⟩:=bQ (o.o _ _ d);have p:=E d;clear d)))
  go_ret2;exact⟨rfl,T.o _ _ p.o⟩
 ·have hz:((c.length:Int)==0)=false:=mK.2 (by omega);by_cases r:1000000000<=R.now
  ·have s:bZ R ⟨l,j,J b c.length a,c⟩=(0,3):=by unfold bZ;rw[el D,fy r]
   have T:QS (∀f,aa n_ w f->db R k ⟨l,j,J b c.length a,c⟩ w f):=λf d=>by unfold db;rw[el D,fy r];exact G.o.same d
   rw[s];clear s;generalize db R k ⟨l,j,J b c.length a,c⟩ w=A at*;generalize c.length=xl at*;go_enter func30,ntmps30;go_wp2_with(go_at_call 68;go_must(refine(S.o).mono ?_;rintro e f ⟨rfl,rfl⟩))
   go_ret2;exact⟨rfl,T.o _ (aa.alloc _ _ _)⟩
  ·have b3:R.now<1000000000:=by omega
   have C:QS (∀(f:ab) (v:ax),kn 128 R (R.iC k v) (w.alloc (I #[Z U l,Z U j,J b c.length a] 128)) f->ba prog 79 #[X (V ⟨R.b,0,Y⟩),.agg #[Z U l,Z U j,J b c.length a]] f λe B=>e=ay (ao (fP R.all j c))/\aa n_ f B):=λf v d=>
    IE (R.iC k v) l j (J b c.length a) c f d.1 ha (d.aW (G.o.ai (aa.alloc n_ _ _) k_) (Row.ai K.o (aa.alloc n_ _ _) k_) (by decide)) hw
   cases hcl:fP R.all j c with
   |true=>
    have s:bZ R ⟨l,j,J b c.length a,c⟩=(0,4):=by unfold bZ;rw[el D,el r,fy hcl]
    have T:QS (∀f m v,kn 128 R (R.iC k v) (w.alloc (I #[Z U l,Z U j,J b c.length a] 128)) f->aa n_ f m->db R k ⟨l,j,J b c.length a,c⟩ w m):=λf m v d M=>by unfold db;rw[el D,el r,fy hcl];exact⟨v,((d.from G.o (aa.alloc _ _ _)).trans (d.1.ch M)).after⟩
    rw[s];rw[hcl]at C;clear s r hcl;generalize db R k ⟨l,j,J b c.length a,c⟩ w=A at*;generalize c.length=xl at*;go_enter func30,ntmps30;go_wp2_with(first|(go_at_call 68;go_must(refine(S.o).mono ?_;rintro e f ⟨rfl,rfl⟩))|(go_at_call 78;go_must(refine(H.o _ (aa.alloc _ _ _)).mono ?_;rintro e m ⟨rfl,v,d⟩;obtain⟨b0,b1,b2,-⟩:=bQ (o.o _ _ d);have p:=E d;clear d))|(go_at_call 79;go_must(refine(C.o _ _ p.o).mono ?_;rintro e w3 ⟨rfl,t⟩)))
    go_ret2;exact⟨rfl,T.o _ _ _ p.o t⟩
   |false=>
    have s:bZ R ⟨l,j,J b c.length a,c⟩=(R.now+1,0):=by unfold bZ;rw[el D,el r,el (by rw[hcl];decide)]
    have a0:aY (w.alloc (I #[Z U l,Z U j,J b c.length a] 128)) R:=G.o.ai (aa.alloc n_ _ _) k_;have F:QS (∀(f m:ab) (v:ax),kn 128 R (R.iC k v) (w.alloc (I #[Z U l,Z U j,J b c.length a] 128)) f->aa n_ f m->(m.cell? ⟨R.b,1,Y⟩=V (Z U R.now)/\m.frozen? ⟨R.b,1,Y⟩=false)/\(m.setCell ⟨R.b,1,Y⟩ (Z U (R.now+1))).heap[w.heap.size]?=V (I #[Z U l,Z U j,J b c.length a] 128 (0,0))/\(m.setCell ⟨R.b,1,Y⟩ (Z U (R.now+1))).cell? ⟨R.b,1,Y⟩=V (Z U (R.now+1))):=λf m v d M=>by
     have h2:=d.1.ai M k_;have hb:=(M.block w.heap.size (lg (o.o _ _ d)) (λh=>h)).trans (o.o _ _ d);refine⟨⟨h2.cell 1,h2.frozen 1⟩,?_,?_⟩
     ·rw[(aa.setCell m ⟨R.b,1,Y⟩ (Z U (R.now+1))).block w.heap.size (lg hb) (λe=>by have e':w.heap.size=R.b:=e;omega)];exact hb
     ·exact(ae (ak (i:=1) h2.top (Z U (R.now+1))) 1).trans rfl
    have a5:QS (∀(f m W:ab) (v:ax),kn 128 R (R.iC k v) (w.alloc (I #[Z U l,Z U j,J b c.length a] 128)) f->aa n_ f m->aa n_ (m.setCell ⟨R.b,1,Y⟩ (Z U (R.now+1))) W->ba prog 80 #[X (V ⟨R.b,0,Y⟩),J b c.length a,Z U (R.now+1)] W λe B=>e=ay (bt #[])/\db R k ⟨l,j,J b c.length a,c⟩ w B/\B.cell? ⟨R.b,1,Y⟩=V (Z U (R.now+1))/\B.cell? ⟨w.heap.size,2,Y⟩=V (J b c.length a)):=λf m W v d M a1=>by
     have t1:=d.1.ch (e:=128) M;have t2:=t1.1.MW (n:=R.now+1) (e:=128);have t3:=t2.1.ch (e:=128) a1;have tt:=(((d.from G.o (aa.alloc _ _ _)).trans t1).trans t2).trans t3;have hr:=((d.trans t1).trans t2|>.trans t3).aW a0 (Row.ai K.o (aa.alloc n_ _ _) k_) (by decide);refine(wX {R.iC k v with now:=R.now+1} (J b c.length a) c (R.now+1) W t3.1 hr (by show R.all.length+_<_;omega)).mono ?_;rintro e B ⟨rfl,v',hp⟩;refine⟨rfl,?_,hp.1.cell 1,?_⟩
     ·unfold db;rw[el D,el r,el (by rw[hcl];decide)];exact⟨v,v',tt.after.trans hp.after⟩
     ·have hb:=(F.o f m v d M).2.1;have L:=(a1.block _ (lg hb) (λh=>h)).trans hb;have a7:B.heap[w.heap.size]?=V (I #[Z U l,Z U j,J b c.length a] 128 (0,0)):=by
       rw[hp.2.2.1.block _ (lg L) (λa8=>by
        rcases a8 with e|⟨-,ht⟩
        ·have e':w.heap.size=R.b:=e;omega
        ·exact ht.ne (e':=128) (by decide) ⟨_,L⟩)]
       exact L
      exact ae a7 2
    rw[s];rw[hcl]at C;clear s r hcl a0;generalize db R k ⟨l,j,J b c.length a,c⟩ w=A at*;generalize c.length=xl at*;go_enter func30,ntmps30;go_wp2_with(first|(go_at_call 68;go_must(refine(S.o).mono ?_;rintro e f ⟨rfl,rfl⟩))|(go_at_call 78;go_must(refine(H.o _ (aa.alloc _ _ _)).mono ?_;rintro e m ⟨rfl,v,d⟩;obtain⟨b0,b1,b2,-⟩:=bQ (o.o _ _ d);have p:=E d;clear d))|(go_at_call 79;go_must(refine(C.o _ _ p.o).mono ?_;rintro e w3 ⟨rfl,t⟩;obtain⟨⟨y1,y2⟩,yb,y3⟩:=F.o _ _ _ p.o t;have a6:=E yb;have a2:=E t;clear t yb)))
    have z2:(w3.setCell ⟨R.b,1,Y⟩ (Z U (R.now+1))).cell? ⟨f.heap.size,2,Y⟩=V (J b xl a):=ae a6.o 2;go_region_held3(λW=>W.cell? ⟨R.b,1,Y⟩=V (Z U (R.now+1))/\W.cell? ⟨f.heap.size,2,Y⟩=V (J b xl a)) (go_keep) (first|(go_at_call 80;refine(a5.o _ _ _ _ p.o a2.o (aa.drew _ _)).mono ?_;rintro e w5 ⟨rfl,y,x1,x2⟩;have a4:=E y;clear y));go_wp2;go_ret2;exact⟨rfl,a4.o⟩
def jF(v:bq)(a:Int)(x:bq):Bool:=decide (x.r.key=v.r.key)&&decide (v.aG<x.aG)&&decide (x.aG<=a)
def dI(l:List bq)(v:bq)(a:Int):Bool:=l.any (jF v a)
def cZ(l:List bq)(a:Int)(v:bq):Bool:=!v.bK&&decide (v.aG<=a)&&(dI l v a||v.r.aO)
def bq.off(v:bq):bq:=⟨v.aG,v.r,true⟩
def ij(l:List bq)(a:Int)(v:bq):bq:=if cZ l a v=true then v.off else v
def kx(l:List bq)(a:Int):List bq:=l.map (ij l a)
def tS(l:List bq)(a:Int):Nat:=l.countP (cZ l a)
def dp(l:List bq)(a:Int)(j:Nat):List bq:=(l.take j).map (ij l a)++l.drop j
def eI(l:List bq)(a:Int)(j:Nat):Nat:=(l.take j).countP (cZ l a)
theorem Be(l:List bq)(f:Int):dp l f 0=l:=by simp[dp]
theorem Bd(l:List bq)(f:Int)(h:¬j<l.length):dp l f j=kx l f:=by unfold dp kx;rw[ep (by omega),List.drop_of_length_le (by omega),Kp]
theorem yJ(l:List bq)(f:Int)(h:¬j<l.length):eI l f j=tS l f:=by unfold eI tS;rw[ep (by omega)]
theorem lJ(l:List bq)(f:Int)(j:Nat)(h:j<=l.length):(dp l f j).length=l.length:=by simp[dp];omega
theorem oB(l:List bq)(f:Int){v:bq}(a:l[j]?=V v):(dp l f j)[j]?=V v:=by obtain⟨b,rfl⟩:=ej.1 a;unfold dp;rw[Rl (by simp;omega)];simp only[hO,js,Nat.min_eq_left (SI b),RZ,Sa,Tw];exact a
theorem sJ(l:List bq)(f:Int){v:bq}(c:l[j]?=V v):dp l f (j+1)=(dp l f j).set j (ij l f v):=by
 obtain⟨e,b⟩:=ej.1 c;unfold dp;have d:l.drop j=v::l.drop (j+1):=by rw[SW e,b]
 rw[d,eo c,xT];have a:((l.take j).map (ij l f)).length=j:=by simp;omega
 rw[List.set_append_right _ _ (by omega),a,RZ];simp
theorem qF(l:List bq)(f:Int){v:bq}(a:l[j]?=V v):eI l f (j+1)=eI l f j+(if cZ l f v=true then 1 else 0):=by unfold eI;rw[eo a,TI];simp[List.countP_cons]
theorem DC(l:List bq)(f:Int)(j:Nat):eI l f j<=j:=mA List.countP_le_length (wj _ _)
theorem AH(l:List bq)(f:Int)(v x:bq):jF v f (ij l f x)=jF v f x:=by unfold ij;split<;>rfl
theorem Jv(l:List bq)(f:Int)(j:Nat)(v:bq):dI (dp l f j) v f=dI l v f:=by unfold dI dp;rw[TH,List.any_map];have e:(jF v f∘ij l f)=jF v f:=funext (λx=>AH l f v x);rw[e,<-TH,RJ]
theorem aY.Kk{R:aM}{cap:Nat}{v:bq}(h:aY w R)(f:aa n_ w W)(i:R.va=J (V ⟨g,0,Y⟩) R.all.length cap)(o:R.all[j]?=V v):kn 80 R {R with all:=R.all.set j v.off} w (W.setCell ⟨g,j*5+4,Y⟩ (ao true)):=by
 have m:R.va.ownBlock=V g:=by rw[i];rfl
 have d:bD w g 80:=h.all.aR m;have c:R.b≠g:=λe=>d.ne (e':=40) (by decide) (e▸⟨_,h.top⟩);have l:=(f.block _ h.blt id).trans h.top;have a:=(h.all.ai f k_)
 rw[i]at a;have b:=a.setAt (j*5+4) (ao true);rw[rT bq.len (ao true) v.off R.all j 4 v o (by omega) rfl]at b;refine aY.MH (v:=R.va) h ?_ ?_ ?_ (λq n=>.inl n)
 ·exact(f.mono (T:=λk=>k=R.b\/R.va.ownBlock=V k) (λ_ _ h=>h.elim)).tr (aa.setCell _ _ _) (λk e=>.inr (by rw[m];exact Rc V (show g=k from e.symm)))
 ·have:(W.setCell ⟨g,j*5+4,Y⟩ (ao true)).heap[R.b]?=W.heap[R.b]?:=(aa.setCell W ⟨g,j*5+4,Y⟩ (ao true)).block R.b (lg l) (λe=>c e)
  rw[this];exact l
 ·rw[i];simpa using b
theorem aY.MV{R:aM}(h:aY w R):kn e R {R with aK:=n} w (w.setCell ⟨R.b,2,Y⟩ (Z U n)):=by have a:aa (λk=>k=R.b\/bD w k 40) w (w.setCell ⟨R.b,2,Y⟩ (Z U n)):=(aa.setCell _ _ _).mono (λ_ _ h=>.inl h);obtain⟨b,c,d,f,g,i⟩:=h.rows _ a;refine⟨⟨?_,b (by decide),c (by decide),d (by decide),f (by decide),g (by decide),i (by decide)⟩,rfl,(aa.setCell _ _ _).mono (λ_ _ h=>.inl h),λk a=>.inl a⟩;rw[ak h.top];rfl
theorem JJ{l:List bq}{v:bq}(a:l[j]?=V v)(h:cZ l f v=false):dp l f (j+1)=dp l f j/\eI l f (j+1)=eI l f j:=by
 have e:ij l f v=v:=by unfold ij;rw[h];rfl
 refine⟨?_,by rw[qF l f a,h];rfl⟩;rw[sJ l f a,e];have:=oB l f a;obtain⟨c,b⟩:=ej.1 this;conv=>lhs;rw[<-b]
 exact List.set_getElem_self c
theorem Fw{l:List bq}{v:bq}(a:l[j]?=V v)(h:cZ l f v=true):dp l f (j+1)=(dp l f j).set j v.off/\eI l f (j+1)=eI l f j+1:=by
 have e:ij l f v=v.off:=by unfold ij;rw[h];rfl
 exact⟨by rw[sJ l f a,e],by rw[qF l f a,h];rfl⟩
def aM.iN(R:aM)(f:Int)(j:Nat):aM:={R with aK:=f,all:=dp R.all f j}
def aM.zP(R:aM)(f:Int):aM:={R with aK:=f,all:=kx R.all f}
theorem EZ{b:Nat}{x y z u t:ax}(h:w.heap[b]?=V (I #[x,y,z,u,t] e (0,0))):w.cell? ⟨b,0,Y⟩=V x/\w.cell? ⟨b,1,Y⟩=V y/\w.cell? ⟨b,2,Y⟩=V z/\w.cell? ⟨b,3,Y⟩=V u/\w.cell? ⟨b,4,Y⟩=V t:=
 ⟨ae h 0,ae h 1,ae h 2,ae h 3,ae h 4⟩
theorem Ge(R:aM)(w:ab)(h:aY w R)(ha:R.all.length<100000000000)(hw:R.af.length<100000000000)(hp:R.aN.length<100000000000)(hc:R.aC.length<100000000000):ba prog 38 #[X (V ⟨R.b,0,Y⟩)] w λe w'=>e=ay (Z U (tS R.all R.held))/\kn 80 R (R.zP R.held) w w':=by
 have a4:=E (LW R w h hw hp hc);obtain⟨F,hF⟩:∃F,F=R.held:=⟨_,rfl⟩
 rw[<-hF]at a4⊢;obtain⟨oa,ca,M,hm,sa⟩:=h.all.form;have HV:=E M;have SA:=E sa;have f2:=h.frozen 2;have c2:w.cell? ⟨R.b,2,Y⟩=V (Z U R.aK):=h.cell 2;have c9:=h.blt;have H0:QS (kn 80 R (R.iN F 0) w (w.setCell ⟨R.b,2,Y⟩ (Z U F))):=by have:=h.MV (n:=F) (e:=80);unfold aM.iN;rw[Be];exact this
 have P:QS (∀j,j<=R.all.length->∀N,aY N (R.iN F j)->N.cell? ⟨R.b,0,Y⟩=V (J oa R.all.length ca)/\N.cell? ⟨R.b,2,Y⟩=V (Z U F)/\Row N 80 5 (J oa (dp R.all F j).length ca) (dp R.all F j).length ((dp R.all F j).flatMap bq.cells)):=λj hj N h1=>by
  refine⟨(h1.cell 0).trans (by rw[<-M];rfl),h1.cell 2,?_⟩;have hr:=h1.all;have e:(R.iN F j).va=J oa (dp R.all F j).length ca:=by rw[lJ _ _ _ hj];exact M
  rw[e]at hr;exact hr
 unfold maxLen at hm;obtain⟨a,K⟩:∃a,a=R.all:=⟨_,rfl⟩
 have s:=E K;have d9:(a.length:Int)<100000000000:=by rw[K];omega
 rw[<-K]at SA P hm ha⊢;clear h M sa K hF ha hw hp hc;go_enter func38,ntmps38;go_wp2_with(go_at_call 93;go_must(refine(a4.o).mono ?_;rintro e N ⟨rfl,rfl⟩))
 go_loopw [3,4] (λn i wr=>∃j:Nat,j<=a.length/\i=Z U j/\n=Z U (eI a F j)/\kn 80 R (R.iN F j) N wr) (λ_ i _=>a.length-(intOf i).toNat)
 case atStart=>exact⟨0,eL _,rfl,rfl,H0.o⟩
 case round=>
  obtain⟨j,hj,rfl,rfl,hC⟩:=hrel;have HC:=E hC;have b5:=DC a F j;obtain⟨d0,d2,hr⟩:=P.o j hj _ hC.1;have z:=E hr;have d3:R.b<wr.heap.size:=World.block_lt_of_cell? _ _ d0;clear hC hr;obtain⟨o,c8⟩:∃x,x=wr:=⟨_,rfl⟩
  subst c8;by_cases a2:j<a.length
  ·obtain⟨g,rfl⟩:=SA.o (by omega);obtain⟨v,hv⟩:∃v,a[j]?=V v:=⟨a[j],ec a2⟩
   obtain⟨e0,e1,e2,e3,e4⟩:=tW z.o (aa.refl _ o) (oB a F hv);have d7:g<o.heap.size:=World.block_lt_of_cell? _ _ e0;have T:=E (JJ (f:=F) hv);have a0:=E (Fw (f:=F) hv);have H:QS (cZ a F v=(!v.bK&&decide (v.aG<=F)&&(dI a v F||v.r.aO))):=E rfl;have u:QS (∀W,aa n_ o W->cZ a F v=false->kn 80 R (R.iN F (j+1)) N W):=λW D hb=>by have:=HC.o.trans (HC.o.1.ch D);unfold aM.iN at this⊢;rw[<-s.o]at this⊢;rw[(T.o hb).1];exact this
   have y:QS (∀W,aa n_ o W->cZ a F v=true->kn 80 R (R.iN F (j+1)) N (W.setCell ⟨g,j*5+4,Y⟩ (ao true))):=λW D hb=>by
    have hs:=HC.o.1.Kk (g:=g) (cap:=ca) (j:=j) (v:=v) D (by show R.va=J (V ⟨g,0,Y⟩) (dp R.all F j).length ca;rw[<-s.o,lJ _ _ _ hj,s.o];exact HV.o) (by show(dp R.all F j)[j]?=_;rw[<-s.o];exact oB a F hv)
    have:=HC.o.trans hs;unfold aM.iN at this⊢;rw[<-s.o]at this⊢;rw[(a0.o hb).1];exact this
   have A:QS (cZ a F v=false->eI a F (j+1)=eI a F j):=λh=>(T.o h).2;have Q:QS (cZ a F v=true->eI a F (j+1)=eI a F j+1):=λh=>(a0.o h).2;have a6:=E (Jv a F j v);have a3:=E (oB a F hv);generalize hcn:eI a F j=cn at*;have d1:=E hcn;clear hv T a0 hcn;obtain⟨c,⟨l,m,d⟩,vt⟩:=v;simp only at e0 e1 e2 e3 e4 H;cases vt with
   |true=>
    have r:QS (cZ a F ⟨c,⟨l,m,d⟩,true⟩=false):=by show _=_;rw[H.o];rfl
    go_wp2_with fail;go_quiet(fail);go_wp2;exact⟨⟨j+1,by omega,by go_num,by rw[A.o r.o],u.o _ ((aa.alloc _ _ _).lU _) r.o⟩,by simp only[intOf];omega⟩
   |false=>
    by_cases hs:c<=F
    ·have hd:decide (F<c)=false:=kg (by omega);go_wp2_with fail;go_quiet(fail);go_wp2_with fail;obtain⟨b,C⟩:∃b,b=dp a F j:=⟨_,rfl⟩
     have d4:b.length=a.length:=by rw[C];exact lJ a F j hj
     rw[<-C]at z a6 a3;clear C;have b9:QS (∀W,aa n_ (o.alloc (I #[Z U c,O l,O m,ao d,ao false] 80)) W->W.cell? ⟨R.b,0,Y⟩=V (J (V ⟨g,0,Y⟩) a.length ca)/\W.cell? ⟨R.b,2,Y⟩=V (Z U F)/\W.cell? ⟨o.heap.size,0,Y⟩=V (Z U c)/\W.cell? ⟨o.heap.size,1,Y⟩=V (O l)/\W.cell? ⟨o.heap.size,3,Y⟩=V (ao d)):=λW D=>by have hk:=(aa.alloc n_ o (I #[Z U c,O l,O m,ao d,ao false] 80)).tr D i_;obtain⟨b0,b1,b2,b3,b4⟩:=EZ (az o (I #[Z U c,O l,O m,ao d,ao false] 80));exact⟨hk.cell (p:=⟨R.b,0,Y⟩) d0 id,hk.cell (p:=⟨R.b,2,Y⟩) d2 id,D.cell (p:=⟨o.heap.size,0,Y⟩) b0 id,D.cell (p:=⟨o.heap.size,1,Y⟩) b1 id,D.cell (p:=⟨o.heap.size,3,Y⟩) b3 id⟩
     have c3:QS (∀W,aa n_ (o.alloc (I #[Z U c,O l,O m,ao d,ao false] 80)) W->W.frozen? ⟨g,j*5+4,Y⟩=false):=λW D=>(z.o.ai ((aa.alloc n_ o _).tr D i_) k_).frozenAt _;clear e0 e1 e2 e3 e4 d0 d2;go_loopw [6,7] (λf i wi=>∃k:Nat,k<=a.length/\i=Z U k/\f=ao (dI (b.take k) ⟨c,⟨l,m,d⟩,false⟩ F)/\aa n_ (o.alloc (I #[Z U c,O l,O m,ao d,ao false] 80)) wi) (λ_ i _=>a.length-(intOf i).toNat)
     case atStart=>exact⟨0,eL _,rfl,rfl,(aa.refl _ _).lU _⟩
     case round=>
      obtain⟨k,hk,rfl,rfl,a1⟩:=hrel;obtain⟨q0,q2,b0,b1,b3⟩:=b9.o _ a1;have q:=E a1;have m1:=World.block_lt_of_cell? _ _ q0;have m2:=World.block_lt_of_cell? _ _ b0;have b6:o.heap.size<=wr.heap.size:=SI m2;have a7:g<wr.heap.size:=by omega
      have b7:¬(R.b=wr.heap.size):=by omega
      have b8:¬(o.heap.size=wr.heap.size):=by have e:o.heap.size<wr.heap.size:=m2;omega
      clear a1;by_cases a8:k<a.length
      ·obtain⟨x,hx⟩:∃x,b[k]?=V x:=⟨b[k]'(by omega),ec (by omega)⟩
       obtain⟨x0,x1,x2,x3,x4⟩:=tW z.o ((aa.alloc n_ o _).tr q.o i_) hx;have t:QS (dI (b.take (k+1)) ⟨c,⟨l,m,d⟩,false⟩ F=(dI (b.take k) ⟨c,⟨l,m,d⟩,false⟩ F||jF ⟨c,⟨l,m,d⟩,false⟩ F x)):=by show _=_;unfold dI;rw[eo hx,TH];simp
       generalize dI (b.take k) ⟨c,⟨l,m,d⟩,false⟩ F=fb at*;obtain⟨xs,⟨xk,xv,xg⟩,xt⟩:=x;simp only at x0 x1 x2 x3 x4;have a5:QS (jF ⟨c,⟨l,m,d⟩,false⟩ F ⟨xs,⟨xk,xv,xg⟩,xt⟩=(decide (xk=l)&&decide (c<xs)&&decide (xs<=F))):=E rfl;rw[a5.o]at t;clear hx a5;cases fb with
       |true=>
        have G:QS (dI (b.take (k+1)) ⟨c,⟨l,m,d⟩,false⟩ F=true):=by show _=_;rw[t.o];rfl
        go_wp2_with fail;go_quiet(fail);go_wp2;exact⟨⟨k+1,by omega,by go_num,by rw[G.o],(q.o.al _).lU _⟩,by simp only[intOf];omega⟩
       |false=>
        by_cases L:xk=l
        ·subst L;by_cases h1:c<xs
         ·by_cases h2:xs<=F
          ·have G:QS (dI (b.take (k+1)) ⟨c,⟨xk,m,d⟩,false⟩ F=true):=by show _=_;rw[t.o];simp[h1,h2]
           go_wp2_with fail;go_quiet(fail);go_wp2;exact⟨⟨k+1,by omega,by go_num,by rw[G.o],(q.o.al _).lU _⟩,by simp only[intOf];omega⟩
          ·have G:QS (dI (b.take (k+1)) ⟨c,⟨xk,m,d⟩,false⟩ F=false):=by show _=_;rw[t.o];simp[h2]
           have d6:decide (xs<=F)=false:=kg h2;go_wp2_with fail;go_quiet(fail);go_wp2;exact⟨⟨k+1,by omega,by go_num,by rw[G.o],(q.o.al _).lU _⟩,by simp only[intOf];omega⟩
         ·have G:QS (dI (b.take (k+1)) ⟨c,⟨xk,m,d⟩,false⟩ F=false):=by show _=_;rw[t.o];simp[h1]
          have d5:decide (c<xs)=false:=kg h1;go_wp2_with fail;go_quiet(fail);go_wp2;exact⟨⟨k+1,by omega,by go_num,by rw[G.o],(q.o.al _).lU _⟩,by simp only[intOf];omega⟩
        ·have G:QS (dI (b.take (k+1)) ⟨c,⟨l,m,d⟩,false⟩ F=false):=by show _=_;rw[t.o];simp[L]
         have e5:(xk.toList==l.toList)=false:=(Lib.bytes_beq_false_iff _ _).2 L;clear L;go_wp2_with fail;go_quiet(fail);go_wp2;exact⟨⟨k+1,by omega,by go_num,by rw[G.o],(q.o.al _).lU _⟩,by simp only[intOf];omega⟩
      ·have c4:QS (dI (b.take k) ⟨c,⟨l,m,d⟩,false⟩ F=dI a ⟨c,⟨l,m,d⟩,false⟩ F):=by show _=_;rw[ep (by omega)];exact a6.o
       have fz:=c3.o _ q.o;have y4:=(tW z.o ((aa.alloc n_ o _).tr q.o i_) a3.o).2.2.2.2;simp only at y4;have S:QS (aa n_ o wr):=E ((aa.alloc n_ o _).tr q.o i_);have B:QS (cZ a F ⟨c,⟨l,m,d⟩,false⟩=(dI (b.take k) ⟨c,⟨l,m,d⟩,false⟩ F||d)):=by show _=_;rw[H.o,c4.o,mI hs];rfl
       generalize dI (b.take k) ⟨c,⟨l,m,d⟩,false⟩ F=fb at*;cases fb with
       |true=>
        have r:QS (cZ a F ⟨c,⟨l,m,d⟩,false⟩=true):=by show _=_;rw[B.o];rfl
        have c5:(cn:Int)<100000000000:=by omega
        have c6:(j:Int)<100000000000:=by omega
        have c7:(j:Int)<a.length:=by omega
        have a9:¬((k:Int)<a.length):=by omega
        clear hm hs hd b5 b6 m1 m2 a7 b7 b8 b0 b1 b3 q2 a8;go_upto_region 14 with fail;go_upto_region 15 with fail;go_upto_region 16 with fail;go_wp2;exact⟨⟨j+1,by omega,by go_num,by rw[Q.o r.o];go_num,y.o _ S.o r.o⟩,by simp only[intOf];omega⟩
       |false=>
        cases d with
        |true=>
         have r:QS (cZ a F ⟨c,⟨l,m,true⟩,false⟩=true):=by show _=_;rw[B.o];rfl
         have c5:(cn:Int)<100000000000:=by omega
         have c6:(j:Int)<100000000000:=by omega
         have c7:(j:Int)<a.length:=by omega
         have a9:¬((k:Int)<a.length):=by omega
         clear hm hs hd b5 b6 m1 m2 a7 b7 b8 b0 b1 q2 a8;go_upto_region 14 with fail;go_upto_region 15 with fail;go_upto_region 16 with fail;go_wp2;exact⟨⟨j+1,by omega,by go_num,by rw[Q.o r.o];go_num,y.o _ S.o r.o⟩,by simp only[intOf];omega⟩
        |false=>
         have r:QS (cZ a F ⟨c,⟨l,m,false⟩,false⟩=false):=by show _=_;rw[B.o];rfl
         go_wp2;exact⟨⟨j+1,by omega,by go_num,by rw[A.o r.o],u.o _ S.o r.o⟩,by simp only[intOf];omega⟩
    ·have r:QS (cZ a F ⟨c,⟨l,m,d⟩,false⟩=false):=by show _=_;rw[H.o,kg hs];rfl
     have d8:F<c:=by omega
     go_wp2_with fail;go_quiet(fail);go_wp2;exact⟨⟨j+1,by omega,by go_num,by rw[A.o r.o],u.o _ ((aa.alloc _ _ _).lU _) r.o⟩,by simp only[intOf];omega⟩
  ·have c0:=E (Bd a F a2);have c1:=E (yJ a F a2);generalize eI a F j=cn at*;go_wp2;go_ret;refine⟨fV (by rw[c1.o]),?_⟩;have:=HC.o;unfold aM.iN at this;unfold aM.zP;rw[<-s.o]at this⊢;rw[c0.o]at this;exact this
end Go.Proofs.YtjbkfdeldlajhaaGreatDoor
