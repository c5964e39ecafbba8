import Derived.Test.YtjbkfdeldlajhaaGreatDoorM42
set_option linter.unusedSimpArgs false
namespace Go.Proofs.YtjbkfdeldlajhaaGreatDoor
set_option maxRecDepth 100000
set_option maxHeartbeats 8000000
open Go.RowKit Go.Shelf Go.Proofs.Tryz
open Option renaming none->Y,some->V
open Go.Value renaming int->Z,string->O,pointer->X,bool->ao,tuple->bt,slice->J
open Go.IntKind renaming i64->U
open Go.Obj renaming cells->I
open Go renaming World->ab,Value->ax,Calls->ba,TypeId->cI
open Go.Ending renaming returned->ay
variable{a i k N K b c bb:Nat}{w wr W f:ab}{L:List an}{v v':ax}{d:Bool}{G:List Nat}{e:List kG}
theorem Pm{g:Np}{b:List Nat}{d:Array ax}(f:w.heap[a]?=V (I (cc i k g) 42 (0,0)))(l:a∉b)(c:∀j∈b,j<w.heap.size)(e:aa (·∈b) (w.alloc (I d 30)) W):W.heap[a]?=V (I (cc i k g) 42 (0,0))/\W.heap[w.heap.size]?=V (I d 30 (0,0)):=by have m:=(lg f);refine⟨?_,bO e (λh=>by have:=c _ h;omega)⟩;rw[e.block a (by simp;omega) l,(aa.alloc n_ w _).block a m id];exact f
theorem fo.pre{a:List Nat}{e:ab}(d:aa n_ w e)(h:fo N c a e f):fo N c a w f:=by obtain⟨b,g,i,k⟩:=h;have m:=d.size;exact⟨b,g,(d.mono (T:=(·∈c::a)) (λ_ _ h=>h.elim)).tr i i_,λj l=>(k j l).imp id (λh=>by omega)⟩
theorem Kb(t:ByteArray)(x:t.size<=1000000000):(∃(l:List an) (b:Nat),dH (aX.told l (b:Nat)) (aZ.told l (b:Nat))/\(∀W,gK W->ba prog 55 #[O t] W λe c=>∃i F,e=ay (bt #[X (V ⟨i,0,Y⟩),Z U 0])/\ml 1000 c i (aX.told l (b:Nat)) F/\(∀k∈F,W.heap.size<=k)/\aa n_ W c)/\∀W,ba prog 56 #[O t] W λe c=>∃j F,e=ay (bt #[X (V ⟨j,0,Y⟩),Z U 0])/\oO 1000 c j (aZ.told l (b:Nat)) F/\(∀k∈F,W.heap.size<=k)/\aa n_ W c)\/((∀W,gK W->ba prog 55 #[O t] W λe c=>e=ay (bt #[X Y,Z U 6])/\aa n_ W c)/\∀W,ba prog 56 #[O t] W λe c=>e=ay (bt #[X Y,Z U 6])/\aa n_ W c):=by
 have d:=λW (r:gK W)=>Db t W (by omega) r;have f:=λW=>yG t _ _ _ _ _ _ W (uv t W x _ rfl) (EH _);have v:=λs (w:cA t.data.toList=.ok s)=>jH w;rcases hr:cA t.data.toList with _|p|s
 ·rw[hr]at d f;exact .inr ⟨d,f⟩
 ·rw[hr]at d f;exact .inr ⟨d,f⟩
 ·have u:=v s hr;rw[hr]at d f;obtain⟨g,a,b,h⟩:=s;cases g with
  |false=>exact .inr ⟨d,f⟩
  |true=>
   refine .inl ⟨h.map bX,b,MX (ja u) (by omega),λW r=>(d W r).mono ?_,λW=>(f W).mono ?_⟩
   ·rintro e c ⟨⟨i,F,m,n,o⟩,q⟩;exact⟨i,F,m,n,o,q⟩
   ·rintro e c ⟨⟨j,F,m,n,o⟩,q⟩;exact⟨j,F,m,n,o,q⟩
theorem MM{j l:ab}{H d:Nat}{v:Np}{A:aX}{B:aZ}{q g i:List Nat}(s:j.heap[a]?=V (I (cc H K v) 42 (0,0)))(m:aa n_ j l)(t:ml 1000 l c A g)(u:∀k∈g,j.heap.size<=k)(n:aa n_ l f)(D:oO 1000 f d B i)(p:∀k∈i,l.heap.size<=k)(C:dH A B):fo (N+1000) a q j ((f.setCell ⟨a,0,Y⟩ (X (V ⟨c,0,Y⟩))).setCell ⟨a,1,Y⟩ (X (V ⟨d,0,Y⟩))):=by
 have G:=(lg s);have L:=m.size;have F:=t.lt;have x:=((m.tr n i_).block a G id).trans s;have o:aa (·=a) f ((f.setCell ⟨a,0,Y⟩ (X (V ⟨c,0,Y⟩))).setCell ⟨a,1,Y⟩ (X (V ⟨d,0,Y⟩))):=(aa.setCell f ⟨a,0,Y⟩ _).tr (aa.setCell _ ⟨a,1,Y⟩ _) i_;have r:∀k∈g++i,j.heap.size<=k:=λk b=>by
  rcases cQ.1 b with h|h
  ·exact u k h
  ·have:=p k h;omega
 refine⟨g++i,⟨c,d,v,A,B,g,i,?_,⟨((t.ai n k_).more (by omega)).ai o (λk b e=>?_),(D.more (by omega)).ai o (λk b e=>?_),C,λk b y=>?_⟩,λz=>?_,rfl⟩,((m.tr n i_).mono (T:=(·∈a::q)) (λ_ _ h=>h.elim)).tr o (λk e=>by rw[show k=a from e];simp),λk b=>.inr (r k b)⟩
 ·exact(ak ((ak x _).trans rfl) _).trans (by simp[cc])
 ·have:=u k b;have w:k=a:=e;omega
 ·have:=p k b;have w:k=a:=e;omega
 ·have:=F k b;have:=p k y;omega
 ·have:=r a z;omega
theorem EF{q:Nat}{Fs:List Nat}(k n P:Int)(M H:ByteArray)(a:Bool)(x6 x7 x8 x9 Q:ax)(w w0:ab)(h:iB N K w q bb Fs G)(hN:N<=9000000000)(hg:gK w0)(h0:aa n_ w0 w)(a1:∀j∈q::Fs,w0.heap.size<=j)(a2:H.size<=1000000000)(h1:16<=k)(h7:k<=21):ba prog 17 #[X (V ⟨q,0,Y⟩),.agg #[Z U k,Z U n,Z U P,O M,O H,ao a,x6,x7,x8,x9,Q]] w (iE N K q bb Fs G w):=by
 have HH:=E h;obtain⟨xb,yb,tx,A,B,FG,FF,hp,h2,a3,rfl⟩:=id h.oK;have y:=E h.oK.lt;have r:=E (λW (f:aa (·∈FG++FF) (w.alloc (I #[Z U k,Z U n,Z U P,O M,O H,ao a,x6,x7,x8,x9,Q] 30)) W)=>Pm hp a3 (λj hj=>y.o j (ef _ hj)) f);obtain⟨a0,-⟩:=r.o _ (aa.refl _ _);have c0:_=V (X (V ⟨xb,0,Y⟩)):=ae a0 0;have c1:_=V (X (V ⟨yb,0,Y⟩)):=ae a0 1;have c2:_=V (O tx.1):=ae a0 2;have m:=E a3;have HN:=E hN;have R:=E hg;have i:=E h0;have g:=E a1;have a6:=E a2;have p:QS (∀W w',aa n_ w W->fo (N+1000) q (FG++FF) W w'->bN (N+1000) (K+1) q bb (FG++FF) G w w'):=λW w' hk C=>(HH.o.gD (C.pre hk)).more (eb _) (by omega);have c:=E (λW (f:aa n_ w W)=>And.intro ((f.block q (lg hp) (λh=>h)).trans hp) (h2.ai f k_));have d:QS (aa n_ w (w.alloc (I #[Z U k,Z U n,Z U P,O M,O H,ao a,x6,x7,x8,x9,Q] 30))):=aa.alloc _ _ _;have S:QS (∀W,aa (·∈FG++FF) (w.alloc (I #[Z U k,Z U n,Z U P,O M,O H,ao a,x6,x7,x8,x9,Q] 30)) W->W.cell? ⟨q,0,Y⟩=V (X (V ⟨xb,0,Y⟩))/\W.cell? ⟨q,1,Y⟩=V (X (V ⟨yb,0,Y⟩))/\W.cell? ⟨w.heap.size,1,Y⟩=V (Z U n)/\W.cell? ⟨w.heap.size,2,Y⟩=V (Z U P)/\W.cell? ⟨w.heap.size,5,Y⟩=V (ao a)):=λW f=>by obtain⟨b1,b2⟩:=r.o W f;exact⟨ae b1 0,ae b1 1,ae b2 1,ae b2 2,ae b2 5⟩
 clear h hp h2 a3 hN hg h0 a1 a2 a0;go_enter func17,ntmps17;go_upto_if 22 with fail;go_cut [5] (λv wc=>(∃t:ByteArray,t.size<=1000000000/\v=O t)/\wc=w.alloc (I #[Z U k,Z U n,Z U P,O M,O H,ao a,x6,x7,x8,x9,Q] 30))
 case first=>
  go_wp2_with fail;all_goals
   go_meet;exact⟨⟨_,by first|exact tx.2|exact a6.o,rfl⟩,rfl⟩
 case rest=>
  obtain⟨⟨t,ht,rfl⟩,b6⟩:=hcut;subst b6;have HT:=E ht;clear ht c2;have hc:k=16\/k=17\/k=18\/k=19\/k=20\/k=21:=by omega
  clear h1 h7;obtain⟨o0,o1,o2,o3,o4⟩:=S.o _ (aa.refl _ _);rcases hc with rfl|rfl|rfl|rfl|rfl|rfl
  ·have HD:=E (λW (f:aa n_ w W)=>we (c.o W f).1 m.o (c.o W f).2 (by have:=HN.o;omega) a n P);unfold iD oQ at HD;have x:=E (λW=>eP (A.eH a n P).2 W);generalize (A.eH a n P).1=r1 at*;generalize (A.eH a n P).2=r2 at*;clear r c R i g HT y HH HN m c0 c1;go_wp2_with fail;go_region_held3(λW=>W.cell? ⟨q,0,Y⟩=V (X (V ⟨xb,0,Y⟩))/\W.cell? ⟨w.heap.size,5,Y⟩=V (ao a)/\W.cell? ⟨w.heap.size,1,Y⟩=V (Z U n)/\W.cell? ⟨w.heap.size,2,Y⟩=V (Z U P)) (go_keep) (first|(go_at_call 47;refine(HD.o _ d.o.dr).mono ?_;rintro e w2 ⟨rfl,D,L⟩;have HY:=E L;have F:=E ((aa.drew (·∈FG++FF) _).tr D i_);obtain⟨d0,d1,d2,d3,d4⟩:=S.o _ F.o;clear L D));clear o0 o1 o2 o3 o4;go_wp2_with fail;go_region_held3(λW=>W.cell? ⟨q,1,Y⟩=V (X (V ⟨yb,0,Y⟩))/\W.cell? ⟨w.heap.size,5,Y⟩=V (ao a)/\W.cell? ⟨w.heap.size,1,Y⟩=V (Z U n)/\W.cell? ⟨w.heap.size,2,Y⟩=V (Z U P)) (go_keep) (first|(go_at_call 48;refine(HY.o _ (aa.drew _ _)).mono ?_;rintro e w3 ⟨rfl,z,C⟩;have u:=E C;obtain⟨e0,e1,e2,e3,e4⟩:=S.o _ ((aa.drew (·∈FG++FF) _).tr z i_);clear C z));go_wp2_with(go_at_call 20;go_must(refine(x.o _).mono ?_;rintro e w4 ⟨rfl,rfl⟩))
   go_ret;exact⟨rfl,p.o _ _ d.o.dr u.o⟩
  ·have b4:QS (∀W,aa n_ w W->ba prog 49 #[X (V ⟨q,0,Y⟩),Z U n] W λe w'=>∃s o,e=ay (bt #[O s,ao o,ao true])/\fo (N+1000) q (FG++FF) W w'):=λW f=>by obtain⟨T,dt⟩:=(HH.o.oK.ai f k_).t n;refine(zz n W dt (by have:=HN.o;omega) (R.o.ai (i.o.tr f i_)).turns).mono ?_;rintro e w' ⟨s,o,a7,rfl,-,q1,-,q2,q3⟩;exact⟨s,o,rfl,a7,q1.oK.more (by omega),q2.mono (λ_ _ h=>ef _ h),q3⟩
   clear r c HT y R i g S m c0 c1 o0 o1 o3 o4;go_wp2_with(go_at_call 49;go_must(refine(b4.o _ d.o).mono ?_;rintro e w2 ⟨s,o,rfl,C⟩;have u:=E C;clear C))
   go_ret;exact⟨rfl,p.o _ _ d.o u.o⟩
  ·have HD:=E (λW (f:aa n_ w W)=>Jb (c.o W f).1 m.o (c.o W f).2 n);unfold iD oQ at HD;have x:=E (λW=>eP (A.mf n) W);generalize A.mf n=r1 at*;clear r c R i g HT y HH HN m c0 c1;go_wp2_with fail;go_region_held3(λW=>W.cell? ⟨q,0,Y⟩=V (X (V ⟨xb,0,Y⟩))/\W.cell? ⟨w.heap.size,1,Y⟩=V (Z U n)) (go_keep) (first|(go_at_call 50;refine(HD.o _ d.o.dr).mono ?_;rintro e w2 ⟨rfl,D,L⟩;have HY:=E L;have F:=E ((aa.drew (·∈FG++FF) _).tr D i_);obtain⟨d0,d1,d2,d3,d4⟩:=S.o _ F.o;clear L D));clear o0 o1 o2 o3 o4;go_wp2_with fail;go_region_held3(λW=>W.cell? ⟨q,1,Y⟩=V (X (V ⟨yb,0,Y⟩))/\W.cell? ⟨w.heap.size,1,Y⟩=V (Z U n)) (go_keep) (first
    |(go_at_call 20;refine(x.o _).mono ?_;rintro e w2 ⟨rfl,rfl⟩)
    |(go_at_call 51;refine(HY.o _ (aa.drew _ _)).mono ?_;rintro e w3 ⟨rfl,z,C⟩;have u:=E C;obtain⟨e0,e1,e2,e3,e4⟩:=S.o _ ((aa.drew (·∈FG++FF) _).tr z i_);clear C z))
   go_wp2;go_ret;exact⟨rfl,p.o _ _ d.o.dr u.o⟩
  ·have a5:=E (λW (f:aa n_ w W)=>R.o.ai (i.o.tr f i_));have a8:QS (∀W,aa n_ w W->W.cell? ⟨q,0,Y⟩=V (X (V ⟨xb,0,Y⟩))/\W.frozen? ⟨q,0,Y⟩=false/\W.cell? ⟨q,1,Y⟩=V (X (V ⟨yb,0,Y⟩))/\W.frozen? ⟨q,1,Y⟩=false):=λW f=>⟨ae (c.o W f).1 0,aj (c.o W f).1 0,ae (c.o W f).1 1,aj (c.o W f).1 1⟩;rcases Kb t HT.o with⟨l,b,hs,hx,L⟩|⟨hx,L⟩
   ·have HX:=E hx;have HY:=E L;have b5:=E hs;have x:=E (λW=>eP 0 W);clear hx L hs r HT y R i g S m c0 c1 o0 o1 o2 o3 o4;go_wp2_with fail;refine(HX.o _ (a5.o _ d.o)).mono ?_;rintro e w2 ⟨b7,F1,rfl,g1,g2,D⟩;have a4:=E (And.intro g1 (And.intro g2 D));clear g1 g2 D;go_wp2_with fail;refine(HY.o _).mono ?_;rintro e w3 ⟨b8,F2,rfl,f1,f2,z⟩;have b0:=E (And.intro f1 (And.intro f2 z));obtain⟨p0,p1,p2,p3⟩:=a8.o _ ((d.o.tr a4.o.2.2 i_).tr z i_);clear f1 f2 z;go_wp2_with(go_at_call 20;go_must(refine(x.o _).mono ?_;rintro e w3 ⟨rfl,rfl⟩))
    go_ret;obtain⟨g1,g2,D⟩:=a4.o;obtain⟨f1,f2,z⟩:=b0.o;exact⟨rfl,p.o _ _ d.o (MM (c.o _ d.o).1 D g1 g2 z f1 f2 b5.o)⟩
   ·have HX:=E hx;have HY:=E L;have x:=E (λW=>eP 6 W);clear hx L r c HT y R i g S m c0 c1 o0 o1 o2 o3 o4;go_wp2_with fail;refine(HX.o _ (a5.o _ d.o)).mono ?_;rintro e w2 ⟨rfl,D⟩;have F:=E (d.o.tr D i_);clear D;go_wp2_with fail;refine(HY.o _).mono ?_;rintro e w3 ⟨rfl,z⟩;have b3:=E (F.o.tr z i_);clear z;go_wp2_with(go_at_call 20;go_must(refine(x.o _).mono ?_;rintro e w3 ⟨rfl,rfl⟩))
    go_ret;exact⟨rfl,HH.o.same b3.o⟩
  ·have HD:=E (λW (f:aa n_ w W)=>EM (c.o W f).1 m.o (c.o W f).2 (by have:=HN.o;omega) (R.o.ai (i.o.tr f i_)) t HT.o);unfold iD oQ at HD;have x:=E (λW=>eP (A.ei (cA t.data.toList)) W);generalize A.ei (cA t.data.toList)=r1 at*;clear r c R i g HT y HH HN m c0 c1;go_wp2_with(go_at_call 52;go_must(refine(HD.o _ d.o).mono ?_;rintro e w2 ⟨rfl,D,L⟩;have HY:=E L;have F:=E D;obtain⟨d0,d1,d2,d3,d4⟩:=S.o _ F.o;clear L D))
   clear o0 o1 o2 o3 o4;go_region_held3(λW=>W.cell? ⟨q,1,Y⟩=V (X (V ⟨yb,0,Y⟩))) (go_keep) (first
    |(go_at_call 20;refine(x.o _).mono ?_;rintro e w2 ⟨rfl,rfl⟩)
    |(go_at_call 53;refine(HY.o _ (aa.drew _ _)).mono ?_;rintro e w3 ⟨rfl,z,C⟩;have u:=E C;obtain⟨e0,e1,e2,e3,e4⟩:=S.o _ z;clear C z))
   go_wp2;go_ret;exact⟨rfl,p.o _ _ d.o u.o⟩
  ·have a9:=E (λW (f:aa n_ w W)=>CS 21 n P M H a x6 x7 x8 x9 Q W w0 (HH.o.oK.ai f k_) HN.o R.o (i.o.tr f i_) g.o);clear r c HT y R i g S m c0 c1 o0 o1 o2 o3 o4;go_wp2_with(go_at_call 54;go_must(refine(a9.o _ d.o).mono ?_;rintro e w2 ⟨rfl,C⟩;have u:=E C;clear C))
   go_ret;exact⟨rfl,p.o _ _ d.o u.o⟩
def GA(a:Bool)(s:List UInt8)(w:ab)(e:Ending)(b:ab):Prop:=e=ay (if a=true then bt #[O (aU s),Z U 0]else bt #[O ⟨#[]⟩,Z U 6])/\aa n_ w b
theorem wg(c:Bool)(a b:Int)(f:Option Addr)(d:Nat)(l:List an)(w:ab)(n:cG w f l)(m:l.length<=maxLen)(o:∀r∈l,r.key.size<=maxLen/\r.value.size<=maxLen)(j:gK w)(k:cC c a b l=false):ba prog 39 #[.agg #[ao c,Z U a,Z U b,J f l.length d]] w (GA false [] w):=by have g:=aa.alloc n_ w (I #[ao c,Z U a,Z U b,J f l.length d] 28);have i:=E (zW c a b f d l _ (n.ai g) m o (j.ai g).zc k);clear n m o j k g;go_enter func39,ntmps39;go_wp2_with fail;refine i.o.mono ?_;rintro e q ⟨⟨t,v,-,rfl⟩,p⟩;clear i;go_wp2;go_ret2;exact⟨rfl,((aa.refl _ w).al _).tr p i_⟩
theorem ud(c:Bool)(a b:Nat)(j:Option Addr)(d:Nat)(l:List an)(w:ab)(p:cG w j l)(g:l.length<=d)(f:d<=maxLen)(k:gK w)(o:cC c a b l=true):ba prog 39 #[.agg #[ao c,Z U (a:Nat),Z U (b:Nat),J j l.length d]] w (GA true (cB ⟨c,a,b,l.map an.bS⟩) w):=by have i:=aa.alloc n_ w (I #[ao c,Z U (a:Nat),Z U (b:Nat),J j l.length d] 28);have m:=E (xX c a b j d l _ (p.ai i) g f (k.ai i).zc (k.ai i).turns o);clear p g f k o i;generalize cB ⟨c,a,b,l.map an.bS⟩=s at*;go_enter func39,ntmps39;go_wp2_with fail;refine m.o.mono ?_;rintro e t ⟨n,r⟩;have q:e=ay (bt #[O (aU s),.nilIface]):=n;subst q;clear m n;go_wp2;go_ret2;exact⟨rfl,((aa.refl _ w).al _).tr r i_⟩
section
attribute [local go_sem] Oper.semAt_some
theorem Lr{a:List kG}(h:vd a=Y):a=[]:=by
 rcases Sw a with e|⟨l,s,e⟩
 ·exact e
 ·rw[e,Sx,py]at h;unfold kM at h;split at h<;>cases h
theorem Row.Qb{e:cI}{n:Nat}{l:Option Addr}{m:List ax}(h:Row w e b (J l n a) n m):n<=a/\a<=maxLen:=by
 rcases h.2 with⟨e,p⟩|⟨g,o,d,e,-,j,k,-⟩
 ·injection e with f i c;exact⟨by omega,by unfold maxLen;omega⟩
 ·injection e with f i c;subst c;exact⟨j,k⟩
theorem ER(c:Bool)(a b:Nat)(f:Option Addr)(d:Nat)(l:List an)(w:ab)(i:Row w 70 3 (J f l.length d) l.length (cP l))(o:∀r∈l,r.key.size<=maxLen/\r.value.size<=maxLen)(k:gK w):ba prog 39 #[.agg #[ao c,Z U (a:Nat),Z U (b:Nat),J f l.length d]] w λe j=>e=ay (bt #[O (rR c a b l).1,Z U ((rR c a b l).2:Nat)])/\aa n_ w j:=by
 obtain⟨m,n⟩:=i.Qb;cases hj:cC c a b l with
 |true=>
  refine(ud c a b f d l w (cG.ofRow i) m n k hj).mono ?_;rintro e j ⟨rfl,h⟩;refine⟨?_,h⟩;have g:rR c a b l=(aU (cB ⟨c,a,b,l.map an.bS⟩),0):=fy hj;rw[g];rfl
 |false=>
  refine(wg c a b f d l w (cG.ofRow i) (by omega) o k hj).mono ?_;rintro e j ⟨rfl,h⟩;refine⟨?_,h⟩;have g:rR c a b l=(⟨#[]⟩,6):=el (by rw[hj];simp);rw[g];rfl
theorem Eg(a:Nat)(s:kG)(o:Option Addr)(b:Nat)(w:ab)(h:Nu w a)(d:Row w 70 3 (J o s.aW.length b) s.aW.length (cP (s.aW.map bX)))(e:oG s):ba prog 106 #[X (V ⟨a,0,Y⟩),.agg #[ao s.full,Z U (s.a:Nat),Z U (s.b:Nat),J o s.aW.length b]] w (pZ a (λj=>j=a) s.full s.a s.b ((s.aW.map bX).foldl (dh s.full) []) w):=by have c:(s.aW.map bX).length=s.aW.length:=hO _;have:=BU a s.full s.a s.b o b (s.aW.map bX) w h (by rw[c];exact d) (by rw[c];exact e.1);rw[c]at this;exact this
theorem Ig(a e:Nat)(c:sL)(s:kG)(o:Option Addr)(b:Nat)(w:ab)(h:iT w a e c.full c.a c.b c.M)(g:Row w 70 3 (J o s.aW.length b) s.aW.length (cP (s.aW.map bX)))(i:oG s)(f:c.goes s):ba prog 106 #[X (V ⟨a,0,Y⟩),.agg #[ao s.full,Z U (s.a:Nat),Z U (s.b:Nat),J o s.aW.length b]] w (pZ a (λj=>j=a\/j=e) c.full c.a s.b ((s.aW.map bX).foldl (dh c.full) c.M) w):=by have d:(s.aW.map bX).length=s.aW.length:=hO _;have:=Lc a e c.full c.a c.b s.b c.M o b (s.aW.map bX) w h (by rw[d];exact g) (by rw[d];exact i.1);rw[d]at this;rw[f.1,f.2];exact this
theorem JE(oa:Option Addr)(c7:Nat)(d:List ByteArray)(w:ab)(hT:lh w oa d)(hn:d.length<=1100000)(hs:∀t∈d,t.size<=1000000000)(hg:gK w)(b0:d≠[]):ba prog 45 #[J oa d.length c7] w (qI d w):=by
 have c0:0<d.length:=Rq.2 b0;have d4:((d.length:Int)==0)=false:=by rw[mK];omega
 have HT:=E hT;have HS:=E hs;have HG:=E hg;have HN:=E hn;have c6:=E b0;have d3:(d.length:Int)<=1100000:=by omega
 have b4:QS (Ea w w.heap.size d 0 true (w.alloc (I #[ao false,Z U 0,Z U 0,.map Y] 177))):=⟨eL _,λt ht=>(by cases ht),aa.alloc _ _ _,eb _,λs hs=>(by cases hs),rfl,az w _⟩
 clear hT hs hg hn b0 c0;go_enter func45,ntmps45;go_wp2_with fail;generalize w.alloc (I #[ao false,Z U 0,Z U 0,.map Y] 177)=w0 at*;obtain⟨F,b9⟩:∃F,F=w.heap.size:=⟨_,rfl⟩
 rw[<-b9]at b4⊢;clear b9;go_loopw [5,16] (λf i wr=>∃(k:Nat) (fl:Bool),f=ao fl/\i=Z U (k:Nat)/\Ea w F d k fl wr) (λ_ i _=>d.length-(intOf i).toNat)
 case atStart=>exact⟨0,true,rfl,rfl,b4.o⟩
 case round=>
  obtain⟨k,fl,rfl,rfl,x⟩:=hrel;have d1:(k:Int)<=d.length:=by have:=x.le;omega
  by_cases hk:k<d.length
  ·obtain⟨g,d5,rfl,r0⟩:=(HT.o.ai x.keep) k hk;have c9:(k:Int)<d.length:=by omega
   have z:=E (jD d[k] wr (by have:=HS.o _ (nE hk);omega) (HG.o.ai x.keep));have A:=E (λb8 wq s=>x.next (fl':=b8) (wq:=wq) (s:=s) hk);have L:QS ((∀s,cA d[k].data.toList≠.ok s)->Bq d=(⟨#[]⟩,6)):=λh=>Hc hk (CN h);have a9:QS (∀s,cA d[k].data.toList=.ok s->oG s):=λs h=>oo h;have d0:=E x;have HK:=E hk;have q:=E x.st;have D:=E x.keep;have T:=E x.QL;clear x;generalize d[k]=c5 at*;clear hk;rcases hx:cA c5.data.toList with _|p|s
   ·rw[hx]at z L;go_wp2_with fail;refine z.o.mono ?_;rintro e w2 ⟨rfl,S⟩;unfold eC;go_wp2;go_ret2;exact⟨by rw[L.o (λs h=>by cases h)];rfl,(D.o.tr S i_).al _⟩
   ·rw[hx]at z L;go_wp2_with fail;refine z.o.mono ?_;rintro e w2 ⟨rfl,S⟩;unfold eC;go_wp2;go_ret2;exact⟨by rw[L.o (λs h=>by cases h)];rfl,(D.o.tr S i_).al _⟩
   ·rw[hx]at z A a9;have c1:=a9.o s rfl;have a3:=E c1;clear L a9 c1 hx;go_wp2_with fail;refine z.o.mono ?_;rintro e w2 ⟨⟨o3,c3,rfl,a5,-⟩,S⟩;have k3:aa n_ w2 (w2.alloc (I #[ao s.full,Z U (s.a:Nat),Z U (s.b:Nat),J o3 s.aW.length c3] 28)):=aa.alloc _ _ _;have b7:=E (a5.ai k3 k_);have v:=E (D.o.tr (S.tr k3 i_) i_);have a2:=E (S.tr k3 i_);clear a5 S k3 z;cases hc:vd ((d.take k).filterMap zu)with
    |none=>
     rw[hc]at q A;obtain⟨rfl,n⟩:=q.o;have u:=E (Eg F s o3 c3 _ ((a2.o.block F (lg n) id).trans n) b7.o a3.o);clear hc n q;go_wp2_with fail;refine u.o.mono ?_;rintro e w4 ⟨rfl,H,K,m,k4⟩;have a6:=E K;have W:QS (w.heap.size<=H):=by
      have B:=T.o;have h2:=v.o.size;show _<=_;rcases m with h|h
      ·have h':H=F:=h;omega
      ·omega
     have N:QS (aa n_ w w4):=v.o.trans k4 (λj hj e=>by have e':j=F:=e;have:=T.o;omega);clear K m k4 u;go_wp2;refine⟨⟨k+1,true,rfl,by go_num,A.o true w4 s rfl N.o ?_⟩,by simp only[intOf];have:=HK.o;omega⟩;exact⟨rfl,λ_=>⟨H,W.o,a6.o⟩⟩
    |some c=>
     rw[hc]at q A;obtain⟨rfl,n⟩:=q.o;have a8:=E n;clear hc n q;cases hf:c.follow with
     |false=>
      go_wp2;refine⟨⟨k+1,false,rfl,by go_num,A.o false _ s rfl v.o ?_⟩,by simp only[intOf];have:=HK.o;omega⟩;show false=(c.add s).follow/\_;rw[sL.vI (λe=>by rw[hf]at e;cases e.1)];exact⟨rfl,λe=>by cases e⟩
     |true=>
      obtain⟨H,m,K⟩:=a8.o hf;have W:=E m;have b2:=E (K.ai a2.o id id);have HF:=E hf;by_cases G:c.goes s
      ·have u:=E (Ig F H c s o3 c3 _ b2.o b7.o a3.o G);have a7:=E G;clear K m G a8;go_wp2_with fail;refine u.o.mono ?_;rintro e w4 ⟨rfl,a1,K,m,k4⟩;have a6:=E K;have b5:QS (w.heap.size<=a1):=by
        have B:=T.o;have h2:=v.o.size;have h3:=W.o;show _<=_;rcases m with(h|h)|h
        ·have h':a1=F:=h;omega
        ·have h':a1=H:=h;omega
        ·omega
       have N:QS (aa n_ w w4):=v.o.trans k4 (λj hj e=>by
        have B:=T.o;have h2:=W.o;rcases e with e|e
        ·have e':j=F:=e;omega
        ·have e':j=H:=e;omega)
       clear K m k4 u;go_wp2;refine⟨⟨k+1,true,rfl,by go_num,A.o true w4 s rfl N.o ?_⟩,by simp only[intOf];have:=HK.o;omega⟩;show true=(c.add s).follow/\((c.add s).follow=true->∃H,w.heap.size<=H/\iT w4 F H (c.add s).full (c.add s).a (c.add s).b (c.add s).M)
       rw[sL.Ag HF.o a7.o];exact⟨rfl,λ_=>⟨a1,b5.o,a6.o⟩⟩
      ·have u:=E (add_not F H c.full s.full c.a c.b s.a s.b c.M (J o3 s.aW.length c3) _ b2.o ⟨_,_,_,rfl⟩ (by
        by_cases B:s.full=true
        ·exact .inl B
        ·exact .inr (λh2=>G ⟨by simpa using B,h2⟩)))
       have a7:=E G;clear K m G a8;go_wp2_with fail;refine u.o.mono ?_;rintro e w4 ⟨rfl,k4⟩;have N:QS (aa n_ w w4):=v.o.tr k4 i_;clear k4 u;go_wp2;refine⟨⟨k+1,false,rfl,by go_num,A.o false w4 s rfl N.o ?_⟩,by simp only[intOf];have:=HK.o;omega⟩;show false=(c.add s).follow/\_;rw[sL.vI (λe=>a7.o e.2)];exact⟨rfl,λe=>by cases e⟩
  ·have d2:¬((k:Int)<d.length):=by omega
   have c8:k=d.length:=by have:=x.le;omega
   subst c8;have c2:d.take d.length=d:=ep (eb _);have P:=x.all;have b1:=x.st;have y:=x.PF;have C:=x.strs;rw[c2]at b1 y C;have D:=E x.keep;cases hc:vd (d.filterMap zu)with
   |none=>
    exfalso;have B:=jO y;rw[Lr hc]at B;exact c6.o (hU B.symm)
   |some c=>
    rw[hc]at b1;obtain⟨rfl,n⟩:=b1;have HR:QS (Bq d=if c.follow=true then rR c.full c.a c.b (tF c.full c.L)else(⟨#[]⟩,8)):=by show _=_;rw[P];unfold ON;rw[hc]
    cases hf:c.follow with
    |false=>
     rw[hf]at HR;clear x P y C n hc hk;go_wp2;go_ret2;exact⟨by rw[HR.o,el (by simp)];rfl,D.o⟩
    |true=>
     obtain⟨H,m,K⟩:=n hf;have a0:=EA d.length (d.filterMap zu) (jO y) C c hc;have b6:=E a0;rw[hf,fy rfl]at HR;have q:=E (An F H c.full c.a c.b c.M wr K (λp hp=>by have:=a0.keys p hp;unfold maxLen;omega) (by have B:=a0.EY;have h2:=HN.o;omega));clear x P y C n hc hk a0 K m c2;go_wp2_with fail;refine q.o.mono ?_;rintro e w2 ⟨ks,l,o,cp,rfl,a4,R,Q,c4,S⟩;have hl:l=tF c.full c.L:=by have B:=b6.o.inv.o a4 R;rw[Q]at B;exact(List.map_inj_right (λ_ _ h=>tv h)).1 B
     have HL:=E hl;have b3:=E (D.o.tr S i_);have HE:=E (ER c.full c.a c.b o cp l w2 c4 (λr hr=>by
      rw[hl]at hr;have B:r∈c.L:=by
       unfold tF at hr;split at hr
       ·exact(kB.1 hr).1
       ·exact hr
      have:=b6.o.small r B;unfold maxLen;omega) (HG.o.ai b3.o))
     clear a4 R Q c4 S hl q;go_wp2_with fail;refine HE.o.mono ?_;rintro e w3 ⟨rfl,k3⟩;have v:=E (b3.o.tr k3 i_);clear k3 HE;go_wp2;go_ret2;exact⟨by rw[HR.o,<-HL.o];rfl,v.o⟩
def AB(c:Bool)(a b:Int)(l:List an):ByteArray×Nat:=if cC c a b l=true then(aU (cB ⟨c,a.toNat,b.toNat,l.map an.bS⟩),0)else(⟨#[]⟩,6)
theorem Jc(c:Bool)(a b:Int)(l:List an):(AB c a b l).1.size<=3000000:=by
 unfold AB;split
 ·rename_i g;obtain⟨i,j,d,h⟩:=dD g;show(aU (cB ⟨c,a.toNat,b.toNat,l.map an.bS⟩)).size<=3000000;rw[<-wV c a.toNat b.toNat l];have e:=ir (l:=bI c a.toNat b.toNat l) 10000 (og (by omega) (by omega) d h) (bI c a.toNat b.toNat l).length;rw[ep (eb _)]at e;have f:=(qX c a.toNat b.toNat d).1
  have:(bI c a.toNat b.toNat l).length*10000<=300*10000:=xw _ f
  omega
 ·show(⟨#[]⟩:ByteArray).size<=3000000;exact eL _
def vA(c:Bool)(a b:Int)(l:List an)(w:ab)(e:Ending)(d:ab):Prop:=e=ay (bt #[O (AB c a b l).1,Z U ((AB c a b l).2:Nat)])/\aa n_ w d
theorem ES(c:Bool)(a b:Int)(f:Option Addr)(d:Nat)(l:List an)(w:ab)(i:Row w 70 3 (J f l.length d) l.length (cP l))(q:∀r∈l,r.key.size<=maxLen/\r.value.size<=maxLen)(m:gK w):ba prog 39 #[.agg #[ao c,Z U a,Z U b,J f l.length d]] w (vA c a b l w):=by
 obtain⟨o,p⟩:=i.Qb;cases hj:cC c a b l with
 |true=>
  obtain⟨t,u,-,-⟩:=dD hj;obtain⟨j,rfl⟩:∃n:Nat,a=n:=⟨a.toNat,by omega⟩
  obtain⟨k,rfl⟩:∃n:Nat,b=n:=⟨b.toNat,by omega⟩
  refine(ud c j k f d l w (cG.ofRow i) o p m hj).mono ?_;rintro e s ⟨rfl,h⟩;refine⟨?_,h⟩;have g:AB c j k l=(aU (cB ⟨c,j,k,l.map an.bS⟩),0):=fy hj;rw[g];rfl
 |false=>
  refine(wg c a b f d l w (cG.ofRow i) (by omega) q m hj).mono ?_;rintro e s ⟨rfl,h⟩;refine⟨?_,h⟩;have g:AB c a b l=(⟨#[]⟩,6):=el (by rw[hj];simp);rw[g];rfl
theorem yF(c:Bool)(a b:Int)(f:Option Addr)(d:Nat)(l:List an)(w:ab)(k:cG w f l)(m:∀r∈l,r.key.size<=maxLen/\r.value.size<=maxLen):ba prog 40 #[.agg #[ao c,Z U a,Z U b,J f l.length d]] w (vA c a b l w):=by
 cases hj:cC c a b l with
 |true=>
  obtain⟨p,q,-,-⟩:=dD hj;obtain⟨i,rfl⟩:∃n:Nat,a=n:=⟨a.toNat,by omega⟩
  obtain⟨j,rfl⟩:∃n:Nat,b=n:=⟨b.toNat,by omega⟩
  refine(lF c i j f d l w k hj).mono ?_;rintro e o ⟨rfl,h⟩;refine⟨?_,h⟩;have g:AB c i j l=(aU (cB ⟨c,i,j,l.map an.bS⟩),0):=fy hj;rw[g];rfl
 |false=>
  refine(mx c a b f d l w k m hj).mono ?_;rintro e o ⟨rfl,h⟩;refine⟨?_,h⟩;have g:AB c a b l=(⟨#[]⟩,6):=el (by rw[hj];simp);rw[g];rfl
structure KQ(w:ab)(xs:Array ax)(xb:Nat)(full:Bool)(a b:Int)(v:ax)(l:List an)(wr:ab):Prop where
 top:wr.heap[xb]?=V (I #[ao full,Z U a,Z U b,v] 28 (0,0))
 arg:wr.heap[w.heap.size]?=V (I xs 28 (0,0))
 row:Row wr 70 3 v l.length (cP l)
 own:∀g,v.ownBlock=V g->w.heap.size<=g
 keep:aa n_ w wr
 Gz:w.heap.size<xb
theorem KQ.push{C:Array ax}{j:Nat}{a b:Int}{o:ax}{l:List an}{x:an}{p u:ab}(h:KQ w C j d a b v l wr)(y:aa n_ wr p)(B:Row u 70 3 o (l.length+1) (cP l++x.cells))(F:p.grownBy u v.ownBlock)(H:o.ownBlock=v.ownBlock\/o.ownBlock=V p.heap.size):u.heap[j]?=V (I #[ao d,Z U a,Z U b,v] 28 (0,0))/\KQ w C j d a b o (l++[x]) (u.setCell ⟨j,3,Y⟩ o):=by
 have z:=aa.grown F;have t:=h.row.ai y k_;have s:∀k,V k=v.ownBlock->bD p k 70:=λk e=>t.aR e.symm;have D:=h.Gz;have r:=h.keep.tr y i_;have K:=r.size;have f:=(y.block j (lg h.top) id).trans h.top;have c:=(y.block _ (lg h.arg) id).trans h.arg;have i:=(z.block j (lg f) (λe=>(s j e).ne (e':=28) (by decide) ⟨_,f⟩)).trans f;have n:=(z.block _ (lg c) (λe=>(s _ e).ne (e':=28) (by decide) ⟨_,c⟩)).trans c;have A:=aa.setCell u ⟨j,3,Y⟩ o;refine⟨i,(ak i _).trans (by simp),(A.block _ (lg n) (λe=>by have q:w.heap.size=j:=e;omega)).trans n,?_,λg m=>?_,?_,D⟩
 ·have e:cP (l++[x])=cP l++x.cells:=by simp[cP]
  rw[e,hQ,Ro];exact B.ai A (λg m e=>(B.aR m).ne (e':=28) (by decide) ((show g=j from e)▸⟨_,i⟩))
 ·rcases H with e|e
  ·exact h.own g (e▸m)
  ·rw[m]at e;have q:g=p.heap.size:=by simpa using e
   omega
 ·refine(r.trans z (λk G e=>?_)).trans A (λk G e=>?_)
  ·have:=h.own k e.symm;omega
  ·have q:k=j:=e;omega
theorem BE(c:Bool)(a b:Int)(p:Option Addr)(d:Nat)(l:List an)(w:ab)(h:oJ K w bb G)(hg:gK w)(hr:cG w p l)(hl:l.length<=1100000)(hs:∀r∈l,r.key.size<=maxLen/\r.value.size<=maxLen)(hK:K<=10000000000):ba prog 14 #[X (V ⟨bb,0,Y⟩),.agg #[ao c,Z U a,Z U b,J p l.length d]] w λe w'=>e=ay (ao true)/\iX (K+1) bb G w w':=by
 obtain⟨i0,hi,b0,b1,b2⟩:=info_parts Tryz.kP;have a7:=E h;have HG:=E hg;have HR:=E hr;have HL:=E hl;have M:=E hs;have HK:=E hK;have b8:(l.length:Int)<=1100000:=by omega
 have B:QS (KQ w #[ao c,Z U a,Z U b,J p l.length d] (w.heap.size+1) c a b (J Y 0 0) [] ((w.alloc (I #[ao c,Z U a,Z U b,J p l.length d] 28)).alloc (I #[ao c,Z U a,Z U b,J Y 0 0] 28))):=by have kb:=aa.alloc n_ (w.alloc (I #[ao c,Z U a,Z U b,J p l.length d] 28)) (I #[ao c,Z U a,Z U b,J Y 0 0] 28);refine⟨?_,(kb.block _ (by simp) id).trans (az w _),Row.nil _ _ _,λg hg=>(by cases hg),((aa.refl n_ w).al _).al _,by omega⟩;have:=az (w.alloc (I #[ao c,Z U a,Z U b,J p l.length d] 28)) (I #[ao c,Z U a,Z U b,J Y 0 0] 28);rw[World.size_alloc]at this;exact this
 clear h hg hr hl hs hK;go_enter func14,ntmps14;go_wp2_with fail;generalize (w.alloc (I #[ao c,Z U a,Z U b,J p l.length d] 28)).alloc (I #[ao c,Z U a,Z U b,J Y 0 0] 28)=w1 at*;obtain⟨xb,a1⟩:∃xb,xb=w.heap.size+1:=⟨_,rfl⟩
 rw[<-a1]at B⊢;clear a1;go_loopw [6] (λi wr=>∃(k:Nat) (v:ax),k<=l.length/\i=Z U (k:Nat)/\KQ w #[ao c,Z U a,Z U b,J p l.length d] xb c a b v (l.take k) wr) (λi _=>l.length-(intOf i).toNat)
 case atStart=>exact⟨0,_,eL _,rfl,B.o⟩
 case round=>
  obtain⟨k,v,hk,rfl,j⟩:=hrel;have b6:(k:Int)<=l.length:=by omega
  obtain⟨o2,c2,rfl,-,-⟩:=j.row.form;have s3:=ae j.arg 3;simp at s3;by_cases o:k<l.length
  ·have a0:=(HR.o.ai j.keep) k o;have N:QS (l.take (k+1)=l.take k++[l[k]]):=eu o;have b5:(k:Int)<l.length:=by omega
   have Q:(l.take k).length<=1100000:=by rw[js];have:=HL.o;omega
   have t:=E Q;have HC:=E j;have H:=E o;generalize l[k]=y at a0 N;obtain⟨g,b9,rfl,r0,r1,r2⟩:=a0;clear j Q hk o;generalize l.take k=z at*;have b4:(z.length:Int)<=1100000:=by have:=t.o;omega
   have t3:=ae HC.o.top 3;simp at t3;have ka:=aa.alloc n_ wr (I #[O y.key,O y.value,ao y.aO] 70);have t4:=ka.cell t3 id;have s4:=ka.cell s3 id;clear ka;go_wp2_with fail;go_region_law((refine bV _ (by rfl) _ _ 26 (by rfl) 70 i0 _ 3 40 Tryz.underlying26 hi b0 b1 b2 (by rfl) (J o2 z.length c2) z.length _ (by rfl) (HC.o.row.ai ((aa.refl n_ wr).al _).dr k_) ⟨wr.heap.size,0,Y⟩ 1 1 [O y.key,O y.value,ao y.aO] (by rfl) (by rfl) (br wr #[O y.key,O y.value,ao y.aO] _) (by simp[Value.oneCell']) (by have:=t.o;unfold maxLen;omega) (by have:=t.o;omega) ?_;intro v' w8 f n _ R;obtain⟨g',b3,rfl⟩:=f.succ;have hp:=HC.o.push (x:=y) (((aa.refl n_ wr).al _).dr) f n R;have q3:=ae hp.1 3;have p3:=aj hp.1 3;simp at q3;have HP:=E hp.2;clear f n R hp));all_goals
    go_wp2;exact⟨⟨k+1,_,H.o,by go_num,by rw[N.o];exact HP.o⟩,by simp only[intOf];have:=H.o;omega⟩
  ·have b7:¬((k:Int)<l.length):=by omega
   have e:l.take k=l:=ep (by omega);rw[e]at j;have m:=E j;have t0:=ae j.top 0;have t1:=ae j.top 1;have t2:=ae j.top 2;have t3:=ae j.top 3;simp at t0 t1 t2 t3;have q:=E (ES c a b o2 c2 l wr j.row M.o (HG.o.ai j.keep));have s:=E (λW (hW:aa n_ w W)=>yF c a b p d l W (HR.o.ai hW) M.o);have S:=Jc c a b l;unfold vA at q s;generalize AB c a b l=c1 at*;obtain⟨T,c0⟩:=c1;have a8:QS (T.size<=3000000):=S;simp only at q s;clear j e hk o S;go_wp2_with fail;refine q.o.mono ?_;rintro e w2 ⟨rfl,k2⟩;have D:=E (m.o.keep.tr k2 i_);have X2:=E ((k2.block xb (lg m.o.top) id).trans m.o.top);have A:=E ((k2.block _ (lg m.o.arg) id).trans m.o.arg);have R2:=E (m.o.row.ai k2 k_);have u0:=ae A.o 0;have a2:=ae A.o 1;have a4:=ae A.o 2;have a5:=ae A.o 3;simp at u0 a2 a4 a5;clear k2 q t0 t1 t2 t3 s3;go_wp2_with fail;refine(s.o _ D.o).mono ?_;rintro e w3 ⟨rfl,k3⟩;have F:=E (D.o.tr k3 i_);have x3:=ae ((k3.block xb (lg X2.o) id).trans X2.o) 3;have a3:=ae ((k3.block _ (lg A.o) id).trans A.o) 3;simp at x3 a3;have L:=E (pU o2 p c2 d l w3 (cG.ofRow (R2.o.ai k3 k_)) (HR.o.ai F.o) (by have:=HL.o;omega));clear k3 s u0 a2 a4 a5;go_wp2_with fail;refine L.o.mono ?_;rintro e w4 ⟨rfl,k4⟩;have u:=E (F.o.tr k4 i_);have C:=E (tZ T w4 (a7.o.ai u.o k_) (HG.o.ai u.o) (by have:=a8.o;omega) HK.o);clear k4 L x3 a3;go_wp2_with fail;refine C.o.mono ?_;rintro e w5 ⟨rfl,P⟩;have a6:=E P;have a9:=E (λW=>eP (c0:Nat) W);clear P C;go_wp2_with(go_at_call 20;go_must(refine(a9.o _).mono ?_;rintro e w6 ⟨rfl,rfl⟩))
   go_ret;exact⟨rfl,a6.o.pre u.o⟩
end
structure SV where
 s:kG
 o:Option Addr
 cp:Nat
def SV.cells(p:SV):List ax:=[ao p.s.full,Z U (p.s.a:Nat),Z U (p.s.b:Nat),J p.o p.s.aW.length p.cp]
theorem SV.len(p:SV):p.cells.length=4:=rfl
theorem Tryz.NZ:(prog.info? 28).map (λi=>(i.zero,i.size,i.bytes))=V (V (.agg #[ao false,Z U 0,Z U 0,J Y 0 0]),4,48):=by kernel_rfl
def SV.Hk(w:ab)(p:SV):Prop:=Row w 70 3 (J p.o p.s.aW.length p.cp) p.s.aW.length (cP (p.s.aW.map bX))
structure Ib(w:ab)(ts:List ByteArray)(k:Nat)(v:ax)(sv:List SV)(wr:ab):Prop where
 le:k<=ts.length
 PF:∀t∈ts.take k,(zu t).isSome=true
 made:Made 28 4 SV.cells w wr v sv
 same:sv.map SV.s=(ts.take k).filterMap zu
 rows:∀p∈sv,p.Hk wr
 strs:∀p∈sv,oG p.s
theorem Ib.len{c:List ByteArray}{a:List SV}(h:Ib w c k v a wr):a.length=k:=by have b:=Rc List.length h.same;rw[hO,jO h.PF,js]at b;have:=h.le;omega
theorem Ib.next{i:List ByteArray}{f:List SV}{W1 w':ab}{p:SV}(h:Ib w i k v f wr)(n:k<i.length)(o:cA i[k].data.toList=.ok p.s)(l:aa n_ wr W1)(x:Row w' 28 4 v' (f.length+1) (f.flatMap SV.cells++p.cells))(s:W1.grownBy w' v.ownBlock)(u:v'.ownBlock=v.ownBlock\/v'.ownBlock=V W1.heap.size)(d:p.Hk W1):Ib w i (k+1) v' (f++[p]) w':=by
 have e:=CO n (sj o);have r:∀j,V j=v.ownBlock->bD W1 j 28:=λj e=>(h.made.row.ai l k_).aR e.symm;have c:∀q:SV,q.Hk W1->q.Hk w':=λq a=>Row.ai a (aa.grown s) (λg m e=>(Row.aR a m).ne (e':=28) (by decide) (r g e));refine⟨n,λt b=>?_,h.made.push l x s u,by rw[xT,h.same,e];rfl,λq a=>?_,λq a=>?_⟩
 ·rw[eu n]at b;rcases cQ.1 b with b|b
  ·exact h.PF t b
  ·rw[QZ.1 b,sj o];rfl
 ·rcases cQ.1 a with a|a
  ·exact c q (Row.ai (h.rows q a) l k_)
  ·rw[QZ.1 a];exact c p d
 ·rcases cQ.1 a with a|a
  ·exact h.strs q a
  ·rw[QZ.1 a];exact oo o
def mJ(d:List kG)(i:Nat)(b:Bool)(a:Nat)(L:List an):Prop:=match vd (d.take i)with
 |none=>i=0/\L=[]
 |some c=>0<i/\c.follow=true/\c.full=b/\c.a=a/\c.L=L/\∀s,d[i-1]?=V s->c.b=s.b
theorem mJ.zero(c:List kG)(b:Bool)(a:Nat):mJ c 0 b a []:=⟨rfl,rfl⟩
theorem BX{a:List kG}{s:kG}(c:a[i]?=V s):vd (a.take (i+1))=kM (vd (a.take i)) s:=by obtain⟨b,e⟩:=ej.1 c;rw[eu b,py,e]
theorem mJ.next{s:kG}(h:mJ e i d a L)(j:e[i]?=V s)(p:i=0->s.full=d/\s.a=a)(y:0<i->s.full=false/\∀q,e[i-1]?=V q->s.a=q.b):mJ e (i+1) d a ((s.aW.map bX).foldl aS L):=by
 unfold mJ at h⊢;rw[BX j];cases hc:vd (e.take i)with
 |none=>
  rw[hc]at h;obtain⟨rfl,rfl⟩:=h;obtain⟨l,m⟩:=p rfl;exact⟨Nat.succ_pos _,rfl,l,m,rfl,λq f=>by rw[Rn,j]at f;cases f;rfl⟩
 |some c=>
  rw[hc]at h;obtain⟨r,t,u,v,w,x⟩:=h;obtain⟨n,o⟩:=y r;obtain⟨q,f⟩:∃q,e[i-1]?=V q:=⟨_,ec (by have:=(ej.1 j).1;omega)⟩
  have k:c.goes s:=⟨n,by rw[o q f,x q f]⟩
  show 0<i+1/\(c.add s).follow=true/\(c.add s).full=d/\(c.add s).a=a/\(c.add s).L=_/\∀q,e[i+1-1]?=V q->(c.add s).b=q.b;rw[sL.Ag t k];refine⟨Nat.succ_pos _,rfl,u,v,by rw[<-w],λz g=>?_⟩;rw[Rn,j]at g;cases g;rfl
theorem mJ.not{b:List kG}{f:Bool}{s q:kG}(h:mJ b i f a L)(y:0<i)(r:b[i]?=V s)(p:b[i-1]?=V q)(g:s.full=true\/s.a≠q.b):ON b=(⟨#[]⟩,8):=by
 unfold mJ at h;cases hc:vd (b.take i)with
 |none=>rw[hc]at h;have:=h.1;omega
 |some c=>
  rw[hc]at h;obtain⟨t,u,v,w,x,n⟩:=h;have e:vd (b.take (i+1))=V (c.add s):=by rw[BX r,hc];rfl
  have k:¬(c.follow=true/\c.goes s):=by
   rintro⟨-,l,m⟩;rcases g with g|g
   ·rw[g]at l;cases l
   ·exact g (by rw[m,n q p])
  obtain⟨d,o,j⟩:=NQ e (by rw[sL.vI k]);unfold ON;rw[o];show(if d.follow=true then _ else _)=_;rw[j];rfl
theorem mJ.all{s:kG}(h:mJ e e.length d a L)(f:e[e.length-1]?=V s)(n:s.b=b):ON e=rR d a b (tF d L):=by
 unfold mJ at h;rw[ep (eb _)]at h;cases hc:vd e with
 |none=>
  rw[hc]at h;have g:=(ej.1 f).1;have:=h.1;omega
 |some c=>
  rw[hc]at h;obtain⟨g,i,j,k,l,m⟩:=h;unfold ON;rw[hc];show(if c.follow=true then _ else _)=_;rw[fy i,j,k,l,m s f,n]
theorem mJ.ok{d:List kG}{b:Bool}(h:mJ d i b a L)(g:∀s∈d,oG s)(j:i<=d.length):L.length<=i*1000/\∀r∈L,r.key.size<=1000/\r.value.size<=1000:=by
 unfold mJ at h;cases hc:vd (d.take i)with
 |none=>
  rw[hc]at h;rw[h.2];exact⟨eL _,λr f=>by cases f⟩
 |some c=>
  rw[hc]at h;have:=EA i (d.take i) (by rw[js];omega) (λs e=>g s (Sd e)) c hc;rw[<-h.2.2.2.2.1];exact⟨this.Pp,this.small⟩
structure Ae(w0:ab)(xb:Nat)(full:Bool)(a b:Nat)(v:ax)(L:List an)(wr:ab):Prop where
 top:wr.heap[xb]?=V (I #[ao full,Z U (a:Nat),Z U (b:Nat),v] 28 (0,0))
 row:Row wr 70 3 v L.length (cP L)
 keep:aa n_ w0 wr
 Gz:w0.heap.size<=xb
theorem Ae.put{m:ab}{f:Nat}{c:Bool}{L':List an}(h:Ae m f c a b v L wr)(i:aa n_ wr W)(j:Row W 70 3 v' L'.length (cP L')):Ae m f c a b v' L' (W.setCell ⟨f,3,Y⟩ v'):=by have d:=(i.block f (lg h.top) id).trans h.top;have l:=aa.setCell W ⟨f,3,Y⟩ v';refine⟨(ak d _).trans (by simp),j.ai l (λg o e=>(j.aR o).ne (e':=28) (by decide) ((show g=f from e)▸⟨_,d⟩)),(h.keep.tr i i_).trans l (λk i e=>?_),h.Gz⟩;have n:k=f:=e;have:=h.Gz;omega
theorem qC(c:Bool)(a b:Nat)(f:Option Addr)(d:Nat)(l:List an)(w:ab)(j:Row w 70 3 (J f l.length d) l.length (cP l))(k:∀r∈l,r.key.size<=maxLen/\r.value.size<=maxLen):ba prog 40 #[.agg #[ao c,Z U (a:Nat),Z U (b:Nat),J f l.length d]] w λe i=>e=ay (bt #[O (rR c a b l).1,Z U ((rR c a b l).2:Nat)])/\aa n_ w i:=by
 cases hj:cC c a b l with
 |true=>
  refine(lF c a b f d l w (cG.ofRow j) hj).mono ?_;rintro e i ⟨rfl,h⟩;refine⟨?_,h⟩;have g:rR c a b l=(aU (cB ⟨c,a,b,l.map an.bS⟩),0):=fy hj;rw[g];rfl
 |false=>
  refine(mx c a b f d l w (cG.ofRow j) k hj).mono ?_;rintro e i ⟨rfl,h⟩;refine⟨?_,h⟩;have g:rR c a b l=(⟨#[]⟩,6):=el (by rw[hj];simp);rw[g];rfl
end Go.Proofs.YtjbkfdeldlajhaaGreatDoor
