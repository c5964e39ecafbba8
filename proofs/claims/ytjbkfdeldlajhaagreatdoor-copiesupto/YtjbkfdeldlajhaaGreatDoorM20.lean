import Derived.Test.YtjbkfdeldlajhaaGreatDoorM19
import Derived.Laws.ResultCell
import Derived.Deep.RegionLaw
set_option linter.unusedSimpArgs false
namespace Go.Proofs.YtjbkfdeldlajhaaGreatDoor
set_option maxRecDepth 100000
set_option maxHeartbeats 4000000
open Go.RowKit Go.Shelf Go.Proofs.Tryz
open Option renaming none->Y,some->V
open Go.Value renaming int->Z,string->O,pointer->X,tuple->bt,bool->ao,slice->J
open Go.IntKind renaming i64->U
open Go.Obj renaming cells->I
open Go renaming World->ab,Value->ax,Calls->ba,TypeId->cI
open Go.Ending renaming returned->ay
variable{w f wr k w3:ab}{a:ByteArray}{l r d:List UInt8}{B b c n left g e q:Nat}{t:cI}{done:List Rec}{j u:ax}
def Ad{α:Type}(d:Nat)(a:ByteArray)(b:Nat)(f:ax)(x:Rd α)(w:ab)(e:Ending)(c:ab):Prop:=match x with
 |.inl left=>(∃v,e=ay v/\Ab w c v (a.size-left))/\aa (·=d) w c
 |.inr (_,rest)=>e=ay .nilIface/\lO c d a (a.size-rest.length) b f/\aa (·=d) w c
theorem zE{α:Type}{i a:Nat}{c:ByteArray}{d:ab}(q:c.size-left=b)(o:dV g)(f:16<=i)(n:eQ w)(r:aa (·=i) w k)(m:k.cell? ⟨g,0,Y⟩=V (.iface t u))(s:aa n_ k d):Ad (α:=α) i c a j (.bad left) w (ay (.iface 231 (X (V ⟨d.heap.size,0,Y⟩)))) (d.alloc (I #[Z U (b:Int),.iface t u] 233)):=by
 obtain⟨⟨v,e,h⟩,p⟩:=zD (α:=α) (enc:=λ_=>.nilIface) (zero:=.nilIface) (count:=a) (rv:=j) q o f n r m s;have l:v=.iface 231 (X (V ⟨d.heap.size,0,Y⟩)):=by simp at e;exact e.symm
 subst l;exact⟨⟨_,rfl,h⟩,p⟩
theorem Kc(f:Nat)(a:ByteArray)(d c:Nat)(D:ax)(w:ab)(h:lO w f a d c D)(l:d<=a.size)(q:a.size<=1000000000000)(o:16<=f)(A:eQ w):ba prog 189 #[X (V ⟨f,0,Y⟩)] w (Ad f a c D (lK c (cH a d)) w):=by
 have c1:w.cell? ⟨f,1,Y⟩=V (Z U (d:Nat)):=ae h 1;have s:=pS f a d c D w h l q A;have i:=gh a d;have G:=E o;have T:=E A;have W:QS (∀j,aa (·=f) w j->eQ j):=λj k=>A.ai k (λg hg e=>by have e':g=f:=e;omega);rcases hx:lY (cH a d)with left|⟨n,rest⟩
 ·rw[hx]at s;have e:lK c (cH a d)=.bad left:=by unfold lK;rw[hx];rfl
  rw[e];have F:=E s;clear s h A l q i hx e o;go_enter func189,ntmps189;go_wp2_with(go_at_call 187;go_must(refine F.o.mono ?_;rintro e j ⟨⟨v,rfl,hf⟩,k⟩;obtain⟨b,t,u,g,rfl,H⟩:=hf;have HF:=E H;have z:=E k;clear H k))
  go_ret;exact⟨⟨_,rfl,b,t,u,g,rfl,HF.o⟩,z.o⟩
 ·rw[hx]at s;obtain⟨-,B⟩:=AP hx;have S:rest.length<=a.size:=by omega
  have e:lK c (cH a d)=if n=c then(if rest=[]then .ok () rest else .bad rest.length)else .bad (cH a d).length:=by unfold lK;rw[hx];rfl
  rw[e];have F:=E s;by_cases R:n=c
  ·subst R;rw[fy rfl];by_cases M:rest=[]
   ·subst M;rw[fy rfl];clear s h A l i hx e o B S q;go_enter func189,ntmps189;go_wp2_with(go_at_call 187;go_must(refine F.o.mono ?_;rintro e j ⟨rfl,r,k⟩;have x:j.heap[f]?=V (I #[O a,Z U (a.size:Nat),Z U (n:Nat),D] 235 (0,0)):=r;have d0:j.cell? ⟨f,0,Y⟩=V (O a):=ae x 0;have d1:j.cell? ⟨f,1,Y⟩=V (Z U (a.size:Nat)):=ae x 1;have d2:j.cell? ⟨f,2,Y⟩=V (Z U (n:Nat)):=ae x 2;have R1:=E r;have z:=E k;clear r k x))
    go_region;go_wp2;go_ret;exact⟨rfl,R1.o,z.o.dr⟩
   ·rw[el M];obtain⟨p,C⟩:∃p,a.size-rest.length=p:=⟨_,rfl⟩
    have a1:(p:Int)<a.size:=by
     have:0<rest.length:=Rq.2 M
     omega
    have N:=E C;have m:ba prog 187 #[X (V ⟨f,0,Y⟩)] w λe L=>e=ay (bt #[Z U (n:Int),.nilIface])/\lO L f a p n D/\aa (·=f) w L:=by rw[<-C];exact s
    have y:=E m;clear s m F h A l i hx e o B S q C M;go_enter func189,ntmps189;go_wp2_with(go_at_call 187;go_must(refine y.o.mono ?_;rintro e j ⟨rfl,r,k⟩;have d0:j.cell? ⟨f,0,Y⟩=V (O a):=ae r 0;have d1:j.cell? ⟨f,1,Y⟩=V (Z U (p:Nat)):=ae r 1;have d2:j.cell? ⟨f,2,Y⟩=V (Z U (n:Nat)):=ae r 2;obtain⟨t,u,Q⟩:=W.o j k 14 (by unfold dV;omega);have z:=E k;clear r k))
    go_region;go_wp2;go_region;go_wp2;go_ret;exact zE N.o (by unfold dV;omega) G.o T.o z.o Q (((aa.refl _ _).dr).dr)
  ·rw[el R,i];have C:a.size-(a.size-d)=d:=by omega
   have N:=E C;have a2:((n:Int)==(c:Int))=false:=by rw[mK];omega
   have a0:¬(n:Int)=(c:Int):=by omega
   obtain⟨p,K⟩:∃p,a.size-rest.length=p:=⟨_,rfl⟩
   have m:ba prog 187 #[X (V ⟨f,0,Y⟩)] w λe L=>e=ay (bt #[Z U (n:Int),.nilIface])/\lO L f a p c D/\aa (·=f) w L:=by rw[<-K];exact s
   have y:=E m;clear s m F h A l i hx e o B S q C K R;go_enter func189,ntmps189;go_wp2_with(go_at_call 187;go_must(refine y.o.mono ?_;rintro e j ⟨rfl,r,k⟩;have d2:j.cell? ⟨f,2,Y⟩=V (Z U (c:Nat)):=ae r 2;obtain⟨t,u,P⟩:=W.o j k 13 (by unfold dV;omega);have z:=E k;clear r k))
   go_ret;exact zE N.o (by unfold dV;omega) G.o T.o z.o P (aa.refl _ _)
def Place(a:ByteArray)(l:List UInt8):Prop:=l=cH a (a.size-l.length)
theorem lC{text:ByteArray}{at_:Nat}(h:at_<=text.size):Place text (cH text at_):=by unfold Place;rw[gh,show text.size-(text.size-at_)=at_ by omega]
theorem Place.len(h:Place a l):l.length<=a.size:=by have:=Rc List.length h;rw[gh]at this;omega
theorem Place.drop(h:Place a l)(k:Nat):Place a (l.drop k):=by
 have b:=h.len;by_cases c:k<=l.length
 ·have e:l.drop k=cH a (a.size-l.length+k):=by
   conv=>lhs;rw[h]
   unfold cH;rw[List.drop_drop]
  rw[e];exact lC (by omega)
 ·have e:l.drop k=cH a a.size:=by rw[Sj (by omega)];exact(hU (by rw[gh];omega)).symm
  rw[e];exact lC (eb _)
theorem Place.take{x:List UInt8}(h:Place a l)(b:ee n l=.ok x r):Place a r/\x.length=n/\r.length+n=l.length:=by
 unfold ee at b;split at b
 ·cases b;exact⟨h.drop n,by rw[js];omega,by rw[mR];omega⟩
 ·cases b
theorem Place.nr(h:Place a l)(b:lY l=.ok n r):Place a r:=by
 unfold lY at b;split at b
 ·cases b
 ·cases b;exact h.drop _
theorem Place.Nq{e:ByteArray}{a:Nat}(h:Place e l)(f:dg a b l=.ok n r):Place e r/\a<=n/\n<=b/\r.length<l.length:=by
 unfold dg at f;rcases hx:lY l with k|⟨m,s⟩
 ·rw[hx]at f;cases f
 ·rw[hx]at f;have d:(if a<=m/\m<=b then Rd.ok m s else .bad l.length)=Rd.ok n r:=f;by_cases c:a<=m/\m<=b
  ·rw[fy c]at d;cases d;exact⟨h.nr hx,c.1,c.2,(AP hx).2⟩
  ·rw[el c]at d;cases d
def yM(w:ab)(c:Nat)(a:ByteArray)(l:List UInt8)(b:Nat)(d:ax):Prop:=Place a l/\lO w c a (a.size-l.length) b d/\eQ w
theorem yM.take{e:ax}(h:yM w c a l b e)(n:Nat)(d:a.size<=1000000000000)(f:n<=1000000000000):ba prog 210 #[X (V ⟨c,0,Y⟩),Z U (n:Nat)] w (gU (λl=>O (aU l)) (O ⟨#[]⟩) c a b e (ee n l) w):=by have:=DE c a (a.size-l.length) b n e w h.2.1 (by omega) d f h.2.2;rwa[<-h.1]at this
theorem yM.bounded{i:ax}(h:yM w e a l b i)(c d:Nat)(g:a.size<=1000000000000)(f:16<=e):ba prog 211 #[X (V ⟨e,0,Y⟩),Z U (c:Nat),Z U (d:Nat)] w (gU (λn:Nat=>Z U (n:Int)) (Z U 0) e a b i (dg c d l) w):=by have:=BP e a (a.size-l.length) b c d i w h.2.1 (by omega) g f h.2.2;rwa[<-h.1]at this
theorem yM.on{d:ax}(h:yM w c a l b d)(m:16<=c)(k:Place a r)(i:lO f c a (a.size-r.length) b d)(j:aa (·=c) w f):yM f c a r b d:=
 ⟨k,i,h.2.2.ai j (λg o e=>by have n:g=c:=e;omega)⟩
theorem yM.ai{b:ByteArray}{a:Nat}{e:ax}(h:yM w c b l a e)(d:aa n_ w f):yM f c b l a e:=
 ⟨h.1,(d.block c (QY.1 h.2.1).1 id).trans h.2.1,h.2.2.ai d k_⟩
def JY(r:Rec):ax:=.agg #[O (aU r.key),O (aU r.value),ao r.aO]
def tL:ax:=.agg #[O ⟨#[]⟩,O ⟨#[]⟩,ao false]
theorem max_i64(a b:Int)(W:ab):(Builtin.max_ #[3,3] 3 #[Z U a,Z U b]).run prog W=.ok (Z U (max a b)) W:=by
 by_cases h:b<=a
 ·rw[Int.max_eq_left h];simp[Builtin.max_,Builtin.max2];omega
 ·rw[Int.max_eq_right (by omega)];simp[Builtin.max_,Builtin.max2];omega
theorem wZ{b:ab}{a:Nat}{x y z:ax}(d:a<w.heap.size)(k:aa (·=a) (w.alloc (I #[x,y,z] 70)) b):b.heap[w.heap.size]?=V (I #[x,y,z] 70 (0,0)):=
 (k.block w.heap.size (by simp) (λe=>by have c:w.heap.size=a:=e;omega)).trans (az w _)
theorem sA{α:Type}{h:α->ax}{zero:ax}{d:Nat}{B:ax}{l s:ab}(v:eQ w)(z:16<=d)(q:aa (·=d) w f)(F:w.heap.size<f.heap.size)(x:f.heap.size<=b/\l.heap[b]?=V (I #[Z U ((a.size-left:Nat):Int),.iface t u] 233 (0,0))/\dV g/\f.cell? ⟨g,0,Y⟩=V (.iface t u))(A:aa (·=d) f l)(r:aa (·=w.heap.size) l s):gU h zero d a c B (.bad left) w (ay (bt #[zero,.iface 231 (X (V ⟨b,0,Y⟩))])) s:=by
 obtain⟨C,o,j,p⟩:=x;have i:w.cell? ⟨g,0,Y⟩=V (.iface t u):=by
  obtain⟨G,H,n⟩:=v g j;have y:g<16:=by unfold dV at j;omega
  have:=q.cell n (λe=>by have m:g=d:=e;omega);rw[this]at p;rw[n];exact p
 refine⟨⟨_,rfl,b,t,u,g,rfl,by omega,(r.block b (lg o) (λe=>by have m:b=w.heap.size:=e;omega)).trans o,j,i⟩,?_⟩;exact(q.trans A k_).trans r (λk D e=>by have m:k=w.heap.size:=e;omega)
theorem jf(a:ab)(q:Nat)(x y z:ax):aa (·=q) a (((a.setCell ⟨q,0,Y⟩ x).setCell ⟨q,1,Y⟩ y).setCell ⟨q,2,Y⟩ z):=
 ((aa.setCell a ⟨q,0,Y⟩ x).trans (aa.setCell _ ⟨q,1,Y⟩ y) k_).trans (aa.setCell _ ⟨q,2,Y⟩ z) k_
theorem KD{d:ab}{a b c:ax}(h:d.heap[q]?=V (I #[a,b,c] t (0,0)))(x y z:ax):(((d.setCell ⟨q,0,Y⟩ x).setCell ⟨q,1,Y⟩ y).setCell ⟨q,2,Y⟩ z).heap[q]?=V (I #[x,y,z] t (0,0)):=by
 have e:(d.setCell ⟨q,0,Y⟩ x).heap[q]?=V (I #[x,b,c] t (0,0)):=by rw[ak h];simp
 have f:((d.setCell ⟨q,0,Y⟩ x).setCell ⟨q,1,Y⟩ y).heap[q]?=V (I #[x,y,c] t (0,0)):=by rw[ak e];simp
 rw[ak f];simp
structure KT(w3:ab)(key:ByteArray)(xb:Nat)(W5:ab):Prop where
 ge:w3.heap.size<=xb
 cells:W5.heap[xb]?=V (I #[O key,O ⟨#[]⟩,ao false] 70 (0,0))
 keep:aa n_ w3 W5
theorem On{b:ab}(a:ByteArray)(c:aa n_ w3.drew b):KT w3 a b.heap.size (b.alloc (I #[O a,O ⟨#[]⟩,ao false] 70)):=
 ⟨c.size,az b _,((aa.drew n_ w3).tr c i_).al _⟩
theorem Oo{a b c:ax}(d:ByteArray)(g:aa n_ (w3.alloc (I #[a,b,c] 70)).drew f):KT w3 d w3.heap.size (((f.setCell ⟨w3.heap.size,0,Y⟩ (O d)).setCell ⟨w3.heap.size,1,Y⟩ (O ⟨#[]⟩)).setCell ⟨w3.heap.size,2,Y⟩ (ao false)):=by have n:f.heap[w3.heap.size]?=V (I #[a,b,c] 70 (0,0)):=(g.block w3.heap.size (by simp) id).trans (az w3 _);refine⟨eb _,KD n _ _ _,?_⟩;exact((((aa.refl n_ w3).al _).dr).tr g i_).trans (jf f w3.heap.size _ _ _) (λk j e=>by have i:k=w3.heap.size:=e;omega)
theorem CY{a m:Nat}{b:ByteArray}{d l:ab}{r:Rec}{g:List UInt8}(n:q=w.heap.size)(p:w.heap.size<=m)(s:c<w.heap.size)(k:aa (·=c) w d)(h:lO d c b (b.size-g.length) a j)(f:aa (λk=>k=q\/k=m) d l):gU JY tL c b a j (.ok r g) w (ay (bt #[JY r,.nilIface])) l:=by subst n;refine⟨rfl,(f.block c (lg h) (by rintro(e|e)<;>omega)).trans h,k.trans f (λi o e=>by rcases e with e|e<;>omega)⟩
theorem pI(a:ByteArray)(c:Nat)(x:List UInt8):a.extract 0 c++aU x=aU (a.data.toList.take c++x):=by have:=iu a 0 c;rw[tA]at this;rw[this,bz];rfl
theorem Dd(f:Nat)(q:ByteArray)(l:List UInt8)(p:Nat)(rv:ax)(a:ByteArray)(w:ab)(h:yM w f q l p rv)(a8:q.size<=1000000000000)(a6:16<=f)(ha:a.size<=10):ba prog 212 #[X (V ⟨f,0,Y⟩),O a] w (gU JY tL f q p rv (kR a.data.toList l) w):=by
 have k0:=aa.alloc n_ w (I #[O ⟨#[]⟩,O ⟨#[]⟩,ao false] 70);have h0:=h.ai k0;have hn:=h0.bounded 0 a.size a8 a6;have hz:=(QY.1 h.2.1).1;have hq:w.heap.size<(w.alloc (I #[O ⟨#[]⟩,O ⟨#[]⟩,ao false] 70)).heap.size:=by simp
 have HN:=E hn;have N:=E hz;have M:=E a8;have k:=E a6;have HH:=E h;have H0:=E h0;have HQ:=E hq;have K0:QS (aa (·=f) w (w.alloc (I #[O ⟨#[]⟩,O ⟨#[]⟩,ao false] 70))):=k0.mono (λ_ _ h=>h.elim);have HA:=E ha;have HR:QS (kR a.data.toList l=(dg 0 a.size l).bind λc l1=>(dg (1-c) (10-c) l1).bind λm l2=>(ee m l2).bind λrest S=>(dg 0 41 S).bind λs G=>xP (a.data.toList.take c++rest) s G):=E rfl;generalize kR a.data.toList l=j at*;clear hn h a8 a6 k0 hz h0 hq ha;go_enter func212,ntmps212;go_wp2_with fail;refine HN.o.mono ?_;clear HN;rcases hx1:dg 0 a.size l with left|⟨c,l1⟩
 ·rintro e w1 ⟨⟨v,rfl,b,t,u,g,rfl,z⟩,i⟩;have e:j=.bad left:=by rw[HR.o,hx1];rfl
  subst e;have d:=wZ N.o i;have C:=ae d 0;have D:=ae d 1;have F:=ae d 2;have f0:=aj d 0;have f1:=aj d 1;have f2:=aj d 2;simp at C D F;have L:=E z;have K1:=E i;clear z i d;go_wp2;refine bodyPost_ret (v:=bt #[tL,.iface 231 (X (V ⟨b,0,Y⟩))]) ?_ rfl ?_
  ·unfold tL;rw[results_cell_tmp rfl];go_simp
  ·exact sA HH.o.2.2 k.o K0.o HQ.o L.o K1.o (jf w1 _ _ _ _)
 ·rintro e w1 ⟨rfl,r1,i⟩;obtain⟨p1,-,hc,-⟩:=H0.o.1.Nq hx1;have R1:=E (H0.o.on k.o p1 r1 i);have d6:(c:Int)<=10:=by have:=HA.o;omega
  have d:=wZ N.o i;have D1:=E d;have K1:QS (aa (·=f) w w1):=K0.o.trans i k_;have T:QS (w.heap.size<w1.heap.size):=kz HQ.o i.size;have c2:∀W,(Builtin.max_ #[3,3] 3 #[Z U 0,Z U (1-(c:Int))]).run prog W=.ok (Z U ((1-c:Nat):Int)) W:=λW=>by rw[max_i64];congr 3;omega
  have b0:QS (ba prog 211 #[X (V ⟨f,0,Y⟩),Z U ((1-c:Nat):Int),Z U (10-(c:Int))] w1 (gU (λn:Nat=>Z U (n:Int)) (Z U 0) f q p rv (dg (1-c) (10-c) l1) w1)):=by have:=R1.o.bounded (1-c) (10-c) M.o k.o;rwa[show((10-c:Nat):Int)=10-(c:Int) by omega]at this
  have a1:QS (j=(dg (1-c) (10-c) l1).bind λm l2=>(ee m l2).bind λrest S=>(dg 0 41 S).bind λs G=>xP (a.data.toList.take c++rest) s G):=by show _=_;rw[HR.o,hx1];rfl
  have HC:=E hc;clear HR hx1 r1 i p1 d hc K0 HQ H0;go_wp2_with fail;refine b0.o.mono ?_;clear b0 c2;rcases hx2:dg (1-c) (10-c) l1 with left|⟨m,l2⟩
  ·rintro e w2 ⟨⟨v,rfl,b,t,u,g,rfl,z⟩,i⟩;have e:j=.bad left:=by rw[a1.o,hx2];rfl
   subst e;have d:=(i.block _ (lg D1.o) (λe=>by have P:w.heap.size=f:=e;have:=N.o;omega)).trans D1.o;have C:=ae d 0;have D:=ae d 1;have F:=ae d 2;have f0:=aj d 0;have f1:=aj d 1;have f2:=aj d 2;simp at C D F;have L:=E z;have KK:=E i;clear z i d;go_wp2;refine bodyPost_ret (v:=bt #[tL,.iface 231 (X (V ⟨b,0,Y⟩))]) ?_ rfl ?_
   ·unfold tL;rw[results_cell_tmp rfl];go_simp
   ·exact sA HH.o.2.2 k.o K1.o T.o L.o KK.o (jf w2 _ _ _ _)
  ·rintro e w2 ⟨rfl,r2,k2⟩;obtain⟨p2,c0,c1,-⟩:=R1.o.1.Nq hx2;have R2:=E (R1.o.on k.o p2 r2 k2);have D2:=E ((k2.block _ (lg D1.o) (λe=>by have P:w.heap.size=f:=e;have:=N.o;omega)).trans D1.o);have K2:QS (aa (·=f) w w2):=K1.o.trans k2 k_;have a0:QS (w.heap.size<w2.heap.size):=kz T.o k2.size;have b1:=E (R2.o.take m M.o (by omega));have a2:QS (j=(ee m l2).bind λrest S=>(dg 0 41 S).bind λs G=>xP (a.data.toList.take c++rest) s G):=by show _=_;rw[a1.o,hx2];rfl
   have HM:=E (And.intro c0 c1);clear a1 hx2 r2 k2 p2 c0 c1 K1 T R1 D1;go_wp2_with fail;refine b1.o.mono ?_;clear b1;rcases hx3:ee m l2 with left|⟨x,S⟩
   ·rintro e B ⟨⟨v,rfl,b,t,u,g,rfl,z⟩,i⟩;have e:j=.bad left:=by rw[a2.o,hx3];rfl
    subst e;have d:=(i.block _ (lg D2.o) (λe=>by have P:w.heap.size=f:=e;have:=N.o;omega)).trans D2.o;have C:=ae d 0;have D:=ae d 1;have F:=ae d 2;have f0:=aj d 0;have f1:=aj d 1;have f2:=aj d 2;simp at C D F;have L:=E z;have KK:=E i;clear z i d;go_wp2;refine bodyPost_ret (v:=bt #[tL,.iface 231 (X (V ⟨b,0,Y⟩))]) ?_ rfl ?_
    ·unfold tL;rw[results_cell_tmp rfl];go_simp
    ·exact sA HH.o.2.2 k.o K2.o a0.o L.o KK.o (jf B _ _ _ _)
   ·rintro e B ⟨rfl,r3,k3⟩;obtain⟨p3,c8,-⟩:=R2.o.1.take hx3;have R3:=E (R2.o.on k.o p3 r3 k3);have D3:=E ((k3.block _ (lg D2.o) (λe=>by have P:w.heap.size=f:=e;have:=N.o;omega)).trans D2.o);have K3:QS (aa (·=f) w B):=K2.o.trans k3 k_;have b4:QS (w.heap.size<B.heap.size):=kz a0.o k3.size;have a3:QS (j=(dg 0 41 S).bind λs G=>xP (a.data.toList.take c++x) s G):=by show _=_;rw[a2.o,hx3];rfl
    have d9:(aU x).size<=10:=by rw[bn,c8];have:=HM.o;omega
    have e0:(c:Int)<=a.size:=by have:=HC.o;omega
    clear a2 hx3 r3 k3 p3 K2 a0 R2 D2 c8;have b8:∀W,(Op.stringOp .add (a.extract 0 c) (aU x)).run prog W=.ok (O (a.extract 0 c++aU x)) W:=λW=>run_string_add_sum W _ _ (by rw[QU];have:=HA.o;omega);have K:=E (λW=>kU (aU x) W (by omega));go_wp2_with fail;go_region_with(go_at_call 131;refine(K.o _).mono ?_;rintro e w4 ⟨rfl,k4⟩;(try(have n4:=(k4.block B.heap.size (by simp) id).trans (az B.drew _);have m0:=ae n4 0;have m1:=ae n4 1;have m2:=ae n4 2;have q0:=aj n4 0;have q1:=aj n4 1;have q2:=aj n4 2;simp at m0 m1 m2;clear n4)))
    all_goals first
     |(have o:=E (On (w3:=B) (a.extract 0 c++aU x) k4);generalize w4.alloc (I #[O (a.extract 0 c++aU x),O ⟨#[]⟩,ao false] 70)=W5 at o⊢)
     |(have o:=E (Oo (w3:=B) (a.extract 0 c++aU x) k4);generalize ((w4.setCell ⟨B.heap.size,0,Y⟩ (O (a.extract 0 c++aU x))).setCell ⟨B.heap.size,1,Y⟩ (O ⟨#[]⟩)).setCell ⟨B.heap.size,2,Y⟩ (ao false)=W5 at o⊢)
    all_goals
     have R5:=E (R3.o.ai o.o.keep);have b2:=E (R5.o.bounded 0 41 M.o k.o);have D5:=E ((o.o.keep.block _ (lg D3.o) id).trans D3.o);have K5:QS (aa (·=f) w W5):=K3.o.trans o.o.keep (λ_ _ h=>False.elim h);have b5:QS (w.heap.size<W5.heap.size):=kz b4.o o.o.keep.size;clear k4 b8 K R3 D3;go_wp2_with fail;refine b2.o.mono ?_;clear b2;have R:w.heap.size<B.heap.size:=b4.o;have Q:=o.o.ge;have c4:=N.o;rcases hx4:dg 0 41 S with left|⟨A,G⟩
     ·rintro e w6 ⟨⟨v,rfl,b,t,u,g,rfl,z⟩,i⟩;have e:j=.bad left:=by rw[a3.o,hx4];rfl
      subst e;have d:=(i.block _ (lg D5.o) (λe=>by have P:w.heap.size=f:=e;omega)).trans D5.o;have C:=ae d 0;have D:=ae d 1;have F:=ae d 2;have f0:=aj d 0;have f1:=aj d 1;have f2:=aj d 2;simp at C D F;have L:=E z;have KK:=E i;clear z i d R Q c4;go_wp2;refine bodyPost_ret (v:=bt #[tL,.iface 231 (X (V ⟨b,0,Y⟩))]) ?_ rfl ?_
      ·unfold tL;rw[results_cell_tmp rfl];go_simp
      ·exact sA HH.o.2.2 k.o K5.o b5.o L.o KK.o (jf w6 _ _ _ _)
     ·rintro e w6 ⟨rfl,r6,k6⟩;obtain⟨p6,-,c6,-⟩:=R5.o.1.Nq hx4;have d5:(A:Int)<=41:=by omega
      have d:=(k6.block _ (lg D5.o) (λe=>by have P:w.heap.size=f:=e;omega)).trans D5.o;have H:=(k6.block _ (lg o.o.cells) (λe=>by have P:_=f:=e;omega)).trans o.o.cells;have R6:=E (R5.o.on k.o p6 r6 k6);have K6:QS (aa (·=f) w w6):=K5.o.trans k6 k_;have d3:QS (w.heap.size<w6.heap.size):=kz b5.o k6.size;have D6:=E d;have X6:=E H;have c3:j=xP (a.data.toList.take c++x) A G:=by rw[a3.o,hx4];rfl
      have a4:=E c3;clear hx4 r6 k6 p6 c3 c6 a3;by_cases a7:A=0
      ·subst a7;have C:=ae d 0;have D:=ae d 1;have F:=ae d 2;have f0:=aj d 0;have f1:=aj d 1;have f2:=aj d 2;have x0:=ae H 0;have x1:=ae H 1;have x2:=ae H 2;have y2:=aj H 2;simp at C D F x0 x1 x2;clear d H;go_wp2;have e:j=.ok ⟨a.data.toList.take c++x,[],true⟩ G:=by rw[a4.o];unfold xP;rw[fy rfl]
       refine bodyPost_ret (v:=bt #[JY ⟨a.data.toList.take c++x,[],true⟩,.nilIface]) ?_ rfl ?_
       ·show _=Result.ok (bt #[.agg #[O (aU (a.data.toList.take c++x)),O ⟨#[]⟩,ao true],.nilIface]) _;rw[<-pI,results_cell_tmp rfl];go_simp
       ·rw[e];refine CY rfl ?_ N.o K6.o R6.o.2.1 (((aa.setCell _ _ _).mono (λ_ _ e=>.inr e)).trans (jf _ _ _ _ _) (λ_ _ e=>.inl e));exact mA (SI R) Q
      ·have c5:¬(A:Int)=0:=by omega
       have d7:((A:Int)==0)=false:=by rw[mK];exact c5
       have d8:(1:Int)<=A:=by omega
       have b3:QS (ba prog 210 #[X (V ⟨f,0,Y⟩),Z U ((A:Int)-1)] w6 (gU (λl=>O (aU l)) (O ⟨#[]⟩) f q p rv (ee (A-1) G) w6)):=by have:=R6.o.take (A-1) M.o (by omega);rwa[show((A-1:Nat):Int)=(A:Int)-1 by omega]at this
       have a5:QS (j=(ee (A-1) G).bind λv r=>.ok ⟨a.data.toList.take c++x,v,false⟩ r):=by show _=_;rw[a4.o];unfold xP;rw[el a7]
       have b6:QS (A<=41):=by show _<=_;omega
       clear d H a7 a4;go_wp2_with fail;refine b3.o.mono ?_;clear b3;rcases hx5:ee (A-1) G with left|⟨y,l5⟩
       ·rintro e w7 ⟨⟨v,rfl,b,t,u,g,rfl,z⟩,i⟩;have e:j=.bad left:=by rw[a5.o,hx5];rfl
        subst e;have d:=(i.block _ (lg D6.o) (λe=>by have P:w.heap.size=f:=e;omega)).trans D6.o;have C:=ae d 0;have D:=ae d 1;have F:=ae d 2;have f0:=aj d 0;have f1:=aj d 1;have f2:=aj d 2;simp at C D F;have L:=E z;have KK:=E i;clear z i d R Q c4;go_wp2;refine bodyPost_ret (v:=bt #[tL,.iface 231 (X (V ⟨b,0,Y⟩))]) ?_ rfl ?_
        ·unfold tL;rw[results_cell_tmp rfl];go_simp
        ·exact sA HH.o.2.2 k.o K6.o d3.o L.o KK.o (jf w7 _ _ _ _)
       ·rintro e w7 ⟨rfl,r7,k7⟩;obtain⟨p7,c9,-⟩:=R6.o.1.take hx5;have d4:QS (j=.ok ⟨a.data.toList.take c++x,y,false⟩ l5):=by show _=_;rw[a5.o,hx5];rfl
        have b9:=(k7.block _ (lg D6.o) (λe=>by have P:w.heap.size=f:=e;omega)).trans D6.o;have c7:=(k7.block _ (lg X6.o) (λe=>by have P:_=f:=e;omega)).trans X6.o;have K7:QS (aa (·=f) w w7):=K6.o.trans k7 k_;have R7:=E r7;have a9:=E b9;have b7:=E c7;have K:=E (kU (aU y) w7 (by rw[bn,c9];have:=b6.o;omega));clear hx5 r7 k7 p7 c9 a5 D6 X6 b9 c7;go_wp2_with(go_at_call 131;go_must(refine K.o.mono ?_;rintro e w8 ⟨rfl,k8⟩;have d:=(k8.block _ (lg a9.o) id).trans a9.o;have H:=(k8.block _ (lg b7.o) id).trans b7.o;have C:=ae d 0;have D:=ae d 1;have F:=ae d 2;have f0:=aj d 0;have f1:=aj d 1;have f2:=aj d 2;have x0:=ae H 0;have x1:=ae H 1;have x2:=ae H 2;have y1:=aj H 1;simp at C D F x0 x1 x2;have K8:=E k8;clear d H k8))
        refine bodyPost_ret (v:=bt #[JY ⟨a.data.toList.take c++x,y,false⟩,.nilIface]) ?_ rfl ?_
        ·show _=Result.ok (bt #[.agg #[O (aU (a.data.toList.take c++x)),O (aU y),ao false],.nilIface]) _;rw[<-pI,results_cell_tmp rfl];go_simp
        ·rw[d4.o];refine CY rfl ?_ N.o (K7.o.trans K8.o (λ_ _ h=>False.elim h)) ((K8.o.block f (lg R7.o) id).trans R7.o) (((aa.setCell _ _ _).mono (λ_ _ e=>.inr e)).trans (jf _ _ _ _ _) (λ_ _ e=>.inl e));exact mA (SI R) Q
def cP(l:List an):List ax:=l.flatMap an.cells
theorem Jn(f:Nat)(b:ByteArray)(c a:Nat)(i:Option Addr)(n d:Nat)(x:an)(w:ab)(h:lO w f b c a (J i n d))(p:a<1000000000000)(r:1000<n):ba prog 213 #[X (V ⟨f,0,Y⟩),.agg #[O x.key,O x.value,ao x.aO]] w λe j=>e=ay (bt #[])/\lO j f b c (a+1) (J i n d)/\aa (·=f) w j:=by
 have g:(w.alloc (I #[O x.key,O x.value,ao x.aO] 70)).heap[f]?=V (I #[O b,Z U (c:Nat),Z U (a:Nat),J i n d] 235 (0,0)):=
  ((aa.alloc n_ w _).block f (lg h) id).trans h
 have m:=ae g 2;have o:=ae g 3;have t:=aj g 2;simp at m o;have l:=E g;have q:(a:Int)<1000000000000:=by omega
 have s:¬(n:Int)<=1000:=by omega
 clear h g p r;go_enter func213,ntmps213;go_wp2;go_end0;refine⟨rfl,?_,?_⟩
 ·show _=_;rw[ak l.o];simp
 ·exact((aa.refl _ w).al _).trans (aa.setCell _ _ _) (λk _ e=>e)
theorem Jo(c:Nat)(f:ByteArray)(o a:Nat)(q:Option Addr)(b:Nat)(l:List an)(x:an)(w:ab)(h:lO w c f o a (J q l.length b))(K:Row w 70 3 (J q l.length b) l.length (cP l))(hc:a<1000000000000)(hn:l.length<=1000):ba prog 213 #[X (V ⟨c,0,Y⟩),.agg #[O x.key,O x.value,ao x.aO]] w λe w'=>e=ay (bt #[])/\∃g m,lO w' c f o (a+1) (J (V ⟨g,0,Y⟩) (l.length+1) m)/\Row w' 70 3 (J (V ⟨g,0,Y⟩) (l.length+1) m) (l.length+1) (cP l++x.cells)/\aa (λk=>k=c\/(J q l.length b).ownBlock=V k) w w'/\((J q l.length b).ownBlock=V g\/w.heap.size<=g):=by
 obtain⟨i0,hi,a1,a2,a3⟩:=info_parts Tryz.kP;obtain⟨v,n⟩:∃v,w.alloc (I #[O x.key,O x.value,ao x.aO] 70)=v:=⟨_,rfl⟩
 have L:aa n_ w v:=by rw[<-n];exact aa.alloc _ w _
 have G:v.heap[c]?=V (I #[O f,Z U (o:Nat),Z U (a:Nat),J q l.length b] 235 (0,0)):=(L.block c (lg h) id).trans h;have hx:v.heap[w.heap.size]?=V (I #[O x.key,O x.value,ao x.aO] 70 (0,0)):=by rw[<-n];exact az w _
 have a0:w.heap.size≠c:=by have:=(lg h);omega
 obtain⟨d,p⟩:∃d,v.setCell ⟨c,2,Y⟩ (Z U ((a:Int)+1))=d:=⟨_,rfl⟩
 have M:aa (·=c) v d:=by rw[<-p];exact aa.setCell v ⟨c,2,Y⟩ _
 have r:d.heap[c]?=V (I #[O f,Z U (o:Nat),Z U ((a:Int)+1),J q l.length b] 235 (0,0)):=by rw[<-p,ak G];simp
 have t:d.heap[w.heap.size]?=V (I #[O x.key,O x.value,ao x.aO] 70 (0,0)):=(M.block _ (lg hx) (λe=>a0 e)).trans hx;have H:Row d 70 3 (J q l.length b) l.length (cP l):=(K.ai L k_).ai M (λk hk e=>(K.aR hk).ne (e':=235) (by decide) ⟨_,(show k=c from e)▸h⟩);have c2:=ae G 2;have c3:=ae G 3;have f2:=aj G 2;have D:=ae r 3;have N:=ae t 0;have P:=ae t 1;have Q:=ae t 2;simp at c2 c3 D N P Q;rw[<-n]at c2 c3 f2;rw[<-n]at p;have C:=E H;have y:=E r;have A:=E L;have B:=E M;have HR:=E K;have HH:=E h;have HN:=E hn;have a5:(a:Int)<1000000000000:=by omega
 have a6:(l.length:Int)<=1000:=by omega
 have u:bD d c 235:=⟨_,r⟩
 have S:=E u;have a4:=E n;have W:=E p;have HE:QS (d.cell? ⟨c,3,Y⟩=V (J q l.length b)/\d.cell? ⟨w.heap.size,0,Y⟩=V (O x.key)/\d.cell? ⟨w.heap.size,1,Y⟩=V (O x.value)/\d.cell? ⟨w.heap.size,2,Y⟩=V (ao x.aO)):=⟨D,N,P,Q⟩
 clear h G r hx t K H hc hn L M u n p D N P Q;go_enter func213,ntmps213;go_wp2;rw[W.o];clear c2 c3 f2;obtain⟨D,N,P,Q⟩:=HE.o;have e4:=(aa.alloc n_ d (I #[O x.key,O x.value,ao x.aO] 70)).cell D id;go_region_law((refine bV _ (by rfl) _ _ 26 (by rfl) 70 i0 _ 3 40 Tryz.underlying26 hi a1 a2 a3 (by rfl) (J q l.length b) l.length _ (by rfl) (C.o.ai ((aa.refl n_ d).al _).dr k_) ⟨d.heap.size,0,Y⟩ 1 1 [O x.key,O x.value,ao x.aO] (by rfl) (by rfl) (br d #[O x.key,O x.value,ao x.aO] _) (by simp[Value.oneCell']) (by have:=HN.o;unfold maxLen;omega) (by have:=HN.o;omega) ?_;intro v' w4 j i _ F;obtain⟨g',m,rfl⟩:=j.succ;have s:w4.heap[c]?=V (I #[O f,Z U (o:Nat),Z U ((a:Int)+1),J q l.length b] 235 (0,0)):=((aa.grown i).block c (kz (lg y.o) (((aa.refl n_ d).al _).dr).size) (λe=>S.o.ne (e':=70) (by decide) (C.o.aR e.symm))).trans (((((aa.refl n_ d).al _).dr).block c (lg y.o) id).trans y.o);have q3:=ae s 3;have r3:=aj s 3;simp at q3;have z:=E s;have HO:=E j;have R:=E i;have HA:=E F;clear s j i F));all_goals
  go_end0;refine⟨rfl,g',m,?_,?_,?_,?_⟩
  ·show _=_;rw[ak z.o];simp
  ·exact HO.o.ai (aa.setCell w4 ⟨c,3,Y⟩ _) (λk hk e=>(HO.o.aR hk).ne (e':=235) (by decide) ⟨_,(show k=c from e)▸z.o⟩)
  ·exact(((((A.o.mono (T:=λk=>k=c\/(J q l.length b).ownBlock=V k) (λ_ _ h=>False.elim h)).trans B.o (λk _ e=>.inl e)).al _).dr).trans (aa.grown R.o) (λk _ e=>.inr e.symm)).trans (aa.setCell w4 ⟨c,3,Y⟩ _) (λk _ e=>.inl e)
  ·rcases HA.o with e|e
   ·left;rw[<-e];rfl
   ·right;have e':g'=d.heap.size+1:=by simpa[Value.ownBlock]using e
    have h1:=A.o.size;have h2:=B.o.size;omega
def kF(B:Nat)(w:ab)(e:Nat)(c:ByteArray)(l:List UInt8)(a:List an):Prop:=
 ∃d b,yM w e c l a.length (J d (a.take 1001).length b)/\Row w 70 3 (J d (a.take 1001).length b) (a.take 1001).length (cP (a.take 1001))/\∀g,(J d (a.take 1001).length b).ownBlock=V g->B<=g
def mn(B a:Nat)(w:ab)(k:Nat):Prop:=k=a\/(B<=k/\bD w k 70)
theorem uS{a:List an}(x:an)(h:a.length<=1000):(a++[x]).take 1001=a++[x]/\a.take 1001=a:=
 ⟨ep (by rw[hQ,Ro];omega),ep (by omega)⟩
theorem uR{a:List an}(x:an)(h:1000<a.length):(a++[x]).take 1001=a.take 1001:=by rw[RU (by omega)]
theorem bU{α β:Type}{x:Rd α}{f:α->List UInt8->Rd β}{b:β}(h:x.bind f=.ok b r):∃a c,x=.ok a c/\f a c=.ok b r:=by
 rcases x with k|⟨a,c⟩
 ·cases h
 ·exact⟨a,c,rfl,h⟩
theorem qk{b:ByteArray}{a:List UInt8}{r:Rec}(D:a.length<=10)(p:Place b l)(h:kR a l=.ok r d):Place b d/\r.key.length<=10/\r.value.length<=40/\d.length<l.length:=by
 unfold kR at h;obtain⟨c,F,i,h⟩:=bU h;obtain⟨m,G,j,h⟩:=bU h;obtain⟨x,H,k,h⟩:=bU h;obtain⟨s,K,n,h⟩:=bU h;obtain⟨q,-,y,M⟩:=p.Nq i;obtain⟨t,-,z,N⟩:=q.Nq j;obtain⟨u,A,P⟩:=t.take k;obtain⟨g,-,B,Q⟩:=u.Nq n;have e:(a.take c++x).length<=10:=by rw[hQ,js];omega
 unfold xP at h;by_cases f:s=0
 ·rw[fy f]at h;cases h;exact⟨g,e,by simp,by omega⟩
 ·rw[el f]at h;obtain⟨v,L,o,h⟩:=bU h;obtain⟨w,C,R⟩:=g.take o;cases h;exact⟨w,e,by simp only;omega,by omega⟩
theorem kF.on{d:Nat}{b:ByteArray}{a:List an}{j:ab}(h:16<=d){f:Option Addr}(k:yM w d b l a.length (J f (a.take 1001).length c))(m:Row w 70 3 (J f (a.take 1001).length c) (a.take 1001).length (cP (a.take 1001)))(o:∀g,(J f (a.take 1001).length c).ownBlock=V g->B<=g)(s:Place b r)(p:lO j d b (b.size-r.length) a.length (J f (a.take 1001).length c))(n:aa (·=d) w j):kF B j d b r a:=
 ⟨f,c,k.on h s p n,m.ai n (λi q e=>(m.aR q).ne (e':=235) (by decide) ⟨_,(show i=d from e)▸k.2.1⟩),o⟩
def bX(r:Rec):an:=⟨aU r.key,aU r.value,r.aO⟩
def Nt(B f:Nat)(a:ByteArray)(d:List an)(x:Rd (List Rec))(w:ab)(e:Ending)(c:ab):Prop:=match x with
 |.inl left=>(∃v,e=ay (bt #[ao false,v])/\Ab w c v (a.size-left))/\aa (mn B f w) w c
 |.inr (b,rest)=>e=ay (bt #[ao (!b.isEmpty),.nilIface])/\kF B c f a rest (d++b.map bX)/\aa (mn B f w) w c
theorem aa.xY{g:ab}(h:aa (mn B b w) w f)(l:aa (mn B b f) f g):aa (mn B b w) w g:=
 h.trans l (λk d a=>by
  by_cases e:mn B b w k
  ·exact e
  ·have i:=h.block k d e;rcases a with a|⟨a,c,j⟩
   ·exact .inl a
   ·exact .inr ⟨a,c,by rw[<-i];exact j⟩)
theorem aa.lE{a:Nat}{b:ab}(h:aa (·=a) w b):aa (mn B a w) w b:=h.mono (λ_ _ e=>.inl e)
theorem aa.MI{rb:Nat}{a:ab}(h:aa n_ w a):aa (mn B rb w) w a:=h.mono (λ_ _ e=>False.elim e)
theorem kF.ai{b:List an}(h:kF B w e a l b)(d:aa n_ w f):kF B f e a l b:=by obtain⟨k,c,g,i,j⟩:=h;exact⟨k,c,g.ai d,i.ai d k_,j⟩
theorem Ab.early{j:ab}{v:ax}{p:Nat}(h:Ab j k v p)(r:eQ w)(i:aa (mn B c w) w j)(n:16<=B)(x:16<=c):Ab w k v p:=by
 obtain⟨b,t,u,g,m,o,q,a,f⟩:=h;refine⟨b,t,u,g,m,mA i.size o,q,a,?_⟩;obtain⟨y,z,d⟩:=r g a;have s:g<16:=by unfold dV at a;omega
 have:=i.cell d (by
  rintro(e|⟨e,-⟩)
  ·have l:g=c:=e;omega
  ·have l:B<=g:=e;omega)
 rw[this]at f;rw[d];exact f
structure tX(B rb:Nat)(text:ByteArray)(all:List an)(n:Nat)(l1:List UInt8)(w:ab)(k:Nat)(ahead:ByteArray)(done:List Rec)(l':List UInt8)(wr:ab):Prop where
 le:k<=n
 len:done.length=k
 xY:kF B wr rb text l' (all++done.map bX)
 key:ahead.size<=10
 short:l'.length<=l1.length
 same:fC n [] l1=(fC (n-k) ahead.data.toList l').bind λx l2=>.ok (done++x) l2
 keep:aa (mn B rb w) w wr
theorem tX.bad{b:ByteArray}{c:List an}{e:List UInt8}{k:Nat}(h:tX B g b c n e w k a done d wr)(i:k<n)(f:kR a.data.toList d=.bad left):fC n [] e=.bad left:=by rw[h.same,show n-k=n-(k+1)+1 by omega,fC,f];rfl
theorem tX.Nz{f:Nat}{b:ByteArray}{c:List an}{e:List UInt8}(h:tX B f b c n e w n a done d wr):fC n [] e=.ok done d:=by rw[h.same,RZ,fC];simp[Rd.bind]
theorem tX.next{b:ByteArray}{c:List an}{j:List UInt8}{k:Nat}{g:List UInt8}{i:ab}{r:Rec}(h:tX B e b c n j w k a done g wr)(m:k<n)(p:kR a.data.toList g=.ok r d)(o:r.key.length<=10)(s:d.length<g.length)(l:kF B i e b d ((c++done.map bX)++[bX r]))(f:aa (mn B e wr) wr i):tX B e b c n j w (k+1) (aU r.key) (done++[r]) d i:=by
 refine⟨m,by rw[hQ,Ro,h.len],?_,by rw[bn];exact o,by have:=h.short;omega,?_,h.keep.xY f⟩
 ·rw[xT,<-mE];exact l
 ·rw[h.same,show n-k=n-(k+1)+1 by omega,fC,p,Rd.bT,iK];rcases fC (n-(k+1)) r.key d with q|⟨x,t⟩
  ·rfl
  ·simp[Rd.bind]
theorem Oa(B d:Nat)(b:ByteArray)(l:List UInt8)(a:List an)(x:an)(w:ab)(j:Option Addr)(c:Nat)(f:yM w d b l a.length (J j (a.take 1001).length c))(p:Row w 70 3 (J j (a.take 1001).length c) (a.take 1001).length (cP (a.take 1001)))(q:∀g,(J j (a.take 1001).length c).ownBlock=V g->B<=g)(L:B<=w.heap.size)(C:16<=B)(G:16<=d)(v:a.length<1000000000000):ba prog 213 #[X (V ⟨d,0,Y⟩),.agg #[O x.key,O x.value,ao x.aO]] w λe r=>e=ay (bt #[])/\kF B r d b l (a++[x])/\aa (λk=>k=d\/(J j (a.take 1001).length c).ownBlock=V k) w r:=by
 by_cases y:a.length<=1000
 ·obtain⟨h,z⟩:=uS x y;rw[z]at f p q⊢;refine(Jo d b (b.size-l.length) a.length j c a x w f.2.1 p v y).mono ?_;rintro e r ⟨rfl,g,m,t,H,k,F⟩;refine⟨rfl,⟨V ⟨g,0,Y⟩,m,?_,?_,?_⟩,k⟩
  ·rw[h,hQ,Ro];refine⟨f.1,t,f.2.2.ai k (λi o D=>?_)⟩;rcases D with e|e
   ·omega
   ·have:=q i e;omega
  ·rw[h,hQ,Ro]
   have:cP (a++[x])=cP a++x.cells:=by simp[cP]
   rw[this];exact H
  ·intro A n;rw[h]at n;have s:g=A:=by simpa[Value.ownBlock]using n
   subst s;rcases F with u|u
   ·exact q _ u
   ·omega
 ·have h:=uR x (show 1000<a.length by omega);have K:(a.take 1001).length=1001:=by rw[js];omega
  refine(Jn d b (b.size-l.length) a.length j _ c x w f.2.1 v (by omega)).mono ?_;rintro e r ⟨rfl,t,k⟩;refine⟨rfl,⟨j,c,?_,?_,?_⟩,k.mono (λi _ o=>.inl o)⟩
  ·rw[h,hQ,Ro];exact⟨f.1,t,f.2.2.ai k (λi o e=>by have s:i=d:=e;omega)⟩
  ·rw[h];exact p.ai k (λi o e=>(p.aR o).ne (e':=235) (by decide) ⟨_,(show i=d from e)▸f.2.1⟩)
  ·rw[h];exact q
theorem FI(B C:Nat)(c:ByteArray)(l:List UInt8)(D:List an)(w:ab)(h:kF B w C c l D)(a7:c.size<=1000000000000)(hB:B<=w.heap.size)(b5:16<=B)(a5:16<=C)(hc:D.length<100000000000)(ht:cM w):ba prog 188 #[X (V ⟨C,0,Y⟩)] w (Nt B C c D (eS l) w):=by
 have H:=E h;obtain⟨oa,e7,K,h2,h3⟩:=h;have c1:w.cell? ⟨C,1,Y⟩=V (Z U ((c.size-l.length:Nat):Int)):=ae K.2.1 1;have HN:=E (K.bounded 0 4 a7 a5);have H1:=E K;have H2:=E h2;have H3:=E h3;have a1:=E a7;have HB:=E hB;have G:=E b5;have m:=E a5;have HC:=E hc;have HT:=E ht;have HR:QS (eS l=(dg 0 4 l).bind λn l1=>if n=0 then .ok [] l1 else(fC n [] l1).bind λx l2=>yt l x l2):=E rfl;generalize eS l=F at*;obtain⟨P,a3⟩:∃P,c.size-l.length=P:=⟨_,rfl⟩
 rw[a3]at c1;have b3:=E a3;clear K h2 h3 a7 hB b5 a5 hc ht a3;go_enter func188,ntmps188;go_wp2_with fail;refine HN.o.mono ?_;clear HN;rcases hx1:dg 0 4 l with left|⟨n,l1⟩
 ·rintro e w1 ⟨⟨v,rfl,b,t,u,g,rfl,T⟩,k1⟩;have e:F=.bad left:=by rw[HR.o,hx1];rfl
  subst e;have HF:=E T;have K1:=E k1;clear T k1;go_wp2;go_ret2;exact⟨⟨_,rfl,b,t,u,g,rfl,HF.o⟩,K1.o.lE⟩
 ·rintro e w1 ⟨rfl,r1,k1⟩;obtain⟨p1,-,e1,c0⟩:=H1.o.1.Nq hx1;have a9:=E c0;have b0:=E H1.o.1.len;clear c0;have R1:=E (kF.on m.o H1.o H2.o H3.o p1 r1 k1);have K1:=E (aa.lE (B:=B) k1);have f:F=if n=0 then .ok [] l1 else(fC n [] l1).bind λx l2=>yt l x l2:=by rw[HR.o,hx1];rfl
  clear r1 k1 p1 HR hx1;by_cases a2:n=0
  ·subst a2;rw[fy rfl]at f;subst f;go_wp2;go_ret2;refine⟨rfl,?_,K1.o⟩;rw[RY,Kp];exact R1.o
  ·rw[el a2]at f;have Q:=E f;have c4:¬(n:Int)=0:=by omega
   have e4:((n:Int)==0)=false:=by rw[mK];exact c4
   have e5:(n:Int)<=4:=by omega
   clear f a2 e1;go_wp2_with fail;go_loopw [7,29] (λz i wr=>∃k o done q,i=Z U (k:Nat)/\z=O o/\tX B C c D n l1 w k o done q wr) (λ_ i _=>n-(intOf i).toNat)
   case atStart=>exact⟨0,⟨#[]⟩,[],l1,rfl,rfl,⟨eL _,rfl,by simpa using R1.o,by decide,eb _,by simp[Rd.bind];cases fC n [] l1<;>rfl,K1.o⟩⟩
   case round=>
    obtain⟨k,o,done,q,rfl,rfl,p⟩:=hrel;have j:=E p;obtain⟨ob,cb,q1,q2,q3⟩:=p.xY;by_cases c2:k<n
    ·have c3:(k:Int)<n:=by omega
     have b1:=E (Dd C c q _ _ o wr q1 a1.o m.o p.key);have R:=E q1;have Q2:=E q2;have Q3:=E q3;clear p q1 q2 q3;go_wp2_with fail;refine b1.o.mono ?_;clear b1;rcases hx:kR o.data.toList q with left|⟨r,l2⟩
     ·rintro e A ⟨⟨v,rfl,b,t,u,g,rfl,T⟩,s⟩;have e:F=.bad left:=by rw[Q.o,j.o.bad c2 hx];rfl
      subst e;have HF:QS (Ab wr A (.iface 231 (X (V ⟨b,0,Y⟩))) (c.size-left)):=⟨b,t,u,g,rfl,T⟩
      have M:=E s;clear T s;unfold tL;go_wp2;go_ret2;exact⟨⟨_,rfl,(HF.o.early H1.o.2.2 j.o.keep G.o m.o).on (aa.alloc n_ A _) k_⟩,(j.o.keep.xY M.o.lE).xY (aa.alloc n_ A _).MI⟩
     ·rintro e A ⟨rfl,r6,s⟩;obtain⟨p6,c5,-,a6⟩:=qk (by have:=j.o.key;simpa using this) R.o.1 hx;have kA:=aa.alloc n_ A (I #[O (aU r.key),O (aU r.value),ao r.aO] 70);have z1:=(R.o.on m.o p6 r6 s).ai kA;have z2:=(Q2.o.ai s (λi hi e=>(Q2.o.aR hi).ne (e':=235) (by decide) ⟨_,(show i=C from e)▸R.o.2.1⟩)).ai kA k_;have a8:=E (Oa B C c l2 (D++done.map bX) (bX r) _ ob cb z1 z2 Q3.o (by have K:=HB.o;have h2:=j.o.keep.size;have h3:=s.size;have h4:=kA.size;omega) G.o m.o (by have K:=HC.o;have h2:=j.o.len;rw[hQ,hO];omega));have d1:QS (∀g,(J ob ((D++done.map bX).take 1001).length cb).ownBlock=V g->g<wr.heap.size):=λg hg=>Q2.o.lt hg;have M:=E s;have W:=(QY.1 R.o.2.1).1;have d4:=E W;have HX:=E hx;clear r6 s p6 kA z1 z2 hx W;unfold JY;go_wp2_with fail;refine a8.o.mono ?_;rintro e w8 ⟨rfl,b6,k8⟩;have e9:=M.o.size;have d:=(k8.block A.heap.size (by simp) (by
       rintro(e|e)
       ·have:=d4.o;omega
       ·have:=d1.o _ e;omega)).trans (az A _)
      have d0:=ae d 0;simp at d0;have c9:QS (aa (mn B C wr) wr w8):=(M.o.lE.tr (aa.alloc n_ A _) (λ_ h=>False.elim h)).trans k8 (λi hi e=>by
       rcases e with e|e
       ·exact .inl e
       ·exact .inr ⟨Q3.o i e,Q2.o.aR e⟩)
      have d3:=E b6;clear d k8 b6 a8;go_wp2;exact⟨⟨k+1,aU r.key,done++[r],l2,by go_num,rfl,j.o.next c2 HX.o c5 a6 d3.o c9.o⟩,by simp only[intOf];omega⟩
    ·have d9:k=n:=by have:=p.le;omega
     subst d9;have S:=p.Nz;have a6:=p.short;have c3:¬(k:Int)<k:=by omega
     have d5:QS (cM wr):=HT.o.ai p.keep (by
      rintro(e|⟨e,-⟩)
      ·have:=m.o;omega
      ·have:=G.o;omega)
     have f:F=yt l done q:=by rw[Q.o,S];rfl
     have b2:=E (q1.take 4 a1.o (by omega));have d6:wr.cell? ⟨C,1,Y⟩=V (Z U ((c.size-q.length:Nat):Int)):=ae q1.2.1 1;obtain⟨L,a4⟩:∃L,c.size-q.length=L:=⟨_,rfl⟩
     rw[a4]at d6;have e0:P<=L/\L<=c.size:=by have K:=b3.o;have h2:=a9.o;have h3:=b0.o;omega
     obtain⟨e2,e3⟩:=e0;have b8:c.extract P L=aU (l.take (l.length-q.length)):=by have K:=b3.o;have h2:=a9.o;have h3:=b0.o;have:=iu c P (l.length-q.length);rw[show P+(l.length-q.length)=L by omega,<-K,<-H1.o.1]at this;rw[<-K];exact this
     have c8:=E b8;have e6:(c.size:Int)<=1000000000000:=by have:=a1.o;omega
     have d2:=E a4;have R:=E q1;have Q2:=E q2;have Q3:=E q3;have b4:=E f;have b7:done.isEmpty=false:=by
      have:=p.len;cases done with
      |nil=>simp at this;omega
      |cons a b=>rfl
     have c6:=E b7;clear p q1 q2 q3 S f b8 a4 b7 a6;go_wp2_with fail;refine b2.o.mono ?_;clear b2;rcases hx:ee 4 q with left|⟨y,l3⟩
     ·rintro e A ⟨⟨v,rfl,b,t,u,g,rfl,T⟩,s⟩;have e:F=.bad left:=by rw[b4.o];unfold yt;rw[hx];rfl
      subst e;have HF:QS (Ab wr A (.iface 231 (X (V ⟨b,0,Y⟩))) (c.size-left)):=⟨b,t,u,g,rfl,T⟩
      have M:=E s;clear T s;go_wp2;go_ret2;exact⟨⟨_,rfl,HF.o.early H1.o.2.2 j.o.keep G.o m.o⟩,j.o.keep.xY M.o.lE⟩
     ·rintro e A ⟨rfl,r6,s⟩;obtain⟨p6,-,-⟩:=R.o.1.take hx;have N:F=if y=bM (l.take (l.length-q.length))then .ok done l3 else .bad q.length:=by rw[b4.o];unfold yt;rw[hx];rfl
      have d0:A.cell? ⟨C,0,Y⟩=V (O c):=ae r6 0;have a0:QS (ba prog 152 #[O (c.extract P L)] A λe w'=>e=ay (O (aU (bM (l.take (l.length-q.length)))))/\aa n_ A w'):=by have:=lT (c.extract P L) A (by rw[QU];unfold maxLen;omega) (d5.o.ai s (λe=>by have e':(8:Nat)=C:=e;have:=m.o;omega));rwa[show(c.extract P L).data.toList=l.take (l.length-q.length) by rw[c8.o];rfl]at this
      have R6:=E (kF.on m.o R.o Q2.o Q3.o p6 r6 s);have M:=E s;have c7:QS (eQ A):=R.o.2.2.ai s (λg hg e=>by have e':g=C:=e;have:=m.o;omega);clear r6 s p6 hx;by_cases hy:y=bM (l.take (l.length-q.length))
      ·rw[fy hy]at N;subst N;rw[<-hy]at a0;go_wp2_with(go_at_call 152;go_must(refine a0.o.mono ?_;rintro e w7 ⟨rfl,k7⟩))
       go_ret2;exact⟨by rw[c6.o];rfl,R6.o.ai k7,(j.o.keep.xY M.o.lE).xY k7.MI⟩
      ·rw[el hy]at N;subst N;have e8:((aU y).toList==(aU (bM (l.take (l.length-q.length)))).toList)=false:=(Lib.bytes_beq_false_iff _ _).2 (λe=>hy (by have:=Rc (λx:ByteArray=>x.data.toList) e;exact this));clear hy;generalize bM (l.take (l.length-q.length))=ck at*;go_wp2_with(go_at_call 152;go_must(refine a0.o.mono ?_;rintro e w7 ⟨rfl,k7⟩;obtain⟨t,u,d7⟩:=(c7.o.ai k7 k_) 12 (by unfold dV;omega);have K7:=E k7;clear k7))
       go_region;go_wp2;go_ret2;have b9:aa (mn B C w) w w7:=(j.o.keep.xY M.o.lE).xY K7.o.MI;have d8:Ab w7 (w7.drew.alloc (I #[Z U (L:Int),.iface t u] 233)) (.iface 231 (X (V ⟨w7.drew.heap.size,0,Y⟩))) (c.size-q.length):=⟨_,t,u,12,rfl,eb _,by rw[d2.o];exact az _ _,(by unfold dV;omega),d7⟩
       exact⟨⟨_,rfl,d8.early H1.o.2.2 b9 G.o m.o⟩,b9.xY (((aa.refl n_ w7).dr).al _).MI⟩
end Go.Proofs.YtjbkfdeldlajhaaGreatDoor
