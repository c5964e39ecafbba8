import Derived.Test.YtjbkfdeldlajhaaGreatDoorM20
import Derived.LaidEql
import Derived.Stop.Asserts
import Derived.RowKitTokens
set_option linter.unusedSimpArgs false
namespace Go.Proofs.YtjbkfdeldlajhaaGreatDoor
set_option maxRecDepth 100000
set_option maxHeartbeats 4000000
open Go.RowKit Go.Shelf Go.Proofs.Tryz Go.Extern.Stop Go.Stop Go.Extern
open Option renaming none->Y,some->V
open Go.Value renaming int->Z,pointer->X,bool->ao,slice->J,tuple->bt,string->O
open Go.IntKind renaming i64->U
open Go renaming World->ab,Value->ax,Calls->ba,TypeId->cI
open Go.Obj renaming cells->I
open Go.Ending renaming returned->ay
variable{w wr:ab}{l r:List UInt8}{a:ByteArray}{B c b d q left i f:Nat}{v:ax}
theorem Place.kind{b:Bool}(h:Place a l)(f:iH l=.ok b r):Place a r/\r.length+4=l.length:=by
 unfold iH at f;obtain⟨x,k,j,c⟩:=bU f;obtain⟨g,-,i⟩:=h.take j;by_cases d:x=gg true
 ·rw[fy d]at c;cases c;exact⟨g,i⟩
 ·rw[el d]at c;by_cases e:x=gg false
  ·rw[fy e]at c;cases c;exact⟨g,i⟩
  ·rw[el e]at c;cases c
theorem yM.number{e:ax}(h:yM w c a l b e)(d:a.size<=1000000000000):ba prog 187 #[X (V ⟨c,0,Y⟩)] w (gU (λn:Nat=>Z U (n:Int)) (Z U 0) c a b e (lY l) w):=by have:=pS c a (a.size-l.length) b e w h.2.1 (by omega) d h.2.2;rwa[<-h.1]at this
theorem yM.tail{b:ByteArray}{a:Nat}{f:ax}(h:yM w c b l a f)(e:b.size<=1000000000000)(d:16<=c):ba prog 189 #[X (V ⟨c,0,Y⟩)] w (Ad c b a f (lK a l) w):=by have:=Kc c b (b.size-l.length) a f w h.2.1 (by omega) e d h.2.2;rwa[<-h.1]at this
theorem yM.kind{i:ax}(h:yM w d a a.data.toList c i)(g:a.size<=1000000000000)(f:16<=d):ba prog 186 #[X (V ⟨d,0,Y⟩)] w (gU (λb:Bool=>ao b) (ao false) d a c i (iH a.data.toList) w):=by
 have e:a.size-a.data.toList.length=0:=by rw[RA];exact RZ _
 have j:=h.2.1;rw[e]at j;exact Mc d a c i w j g f h.2.2
theorem lR{b:List Rec}(e:Place a l)(h:eS l=.ok b r):Place a r/\r.length<l.length/\b.length<=4:=by
 unfold eS at h;obtain⟨n,H,C,g⟩:=bU h;obtain⟨v,-,Q,L⟩:=e.Nq C;by_cases p:n=0
 ·rw[fy p]at g;cases g;exact⟨v,L,by simp⟩
 ·rw[el p]at g;obtain⟨x,t,D,o⟩:=bU g;have f:∀(k:Nat) (d l x r:List UInt8) (y:List Rec),x=d->d.length<=10->Place a l->fC k d l=.ok y r->Place a r/\r.length<=l.length/\y.length=k:=by
   intro k;induction k with
   |zero=>
    intro d l x r y _ _ e h;rw[fC]at h;cases h;exact⟨e,eb _,rfl⟩
   |succ k ih=>
    intro d l x r y _ F e h;rw[fC]at h;obtain⟨w,u,i,c⟩:=bU h;obtain⟨P,K,A,B⟩:=bU c;obtain⟨j,G,-,M⟩:=qk F e i;obtain⟨m,N,z⟩:=ih w.key u w.key K P rfl G j A;cases B;exact⟨m,by omega,by rw[fN,z]⟩
  obtain⟨j,M,R⟩:=f n [] H [] t x rfl (by simp) v D;unfold yt at o;obtain⟨s,u,i,c⟩:=bU o;obtain⟨m,-,N⟩:=j.take i;by_cases q:s=bM (l.take (l.length-t.length))
  ·rw[fy q]at c;cases c;exact⟨m,by omega,by omega⟩
  ·rw[el q]at c;cases c
def eC:ax:=.agg #[ao false,Z U 0,Z U 0,J Y 0 0]
theorem qj(b:Option Addr)(n m a:Nat):(J b n a).ownBlock=(J b m a).ownBlock:=by cases b<;>rfl
def Ec(B f:Nat)(b:ByteArray)(x:Rd kG)(w:ab)(e:Ending)(c:ab):Prop:=match x with
 |.inl left=>(∃v,e=ay (bt #[eC,v])/\Ab w c v (b.size-left))/\aa (mn B f w) w c
 |.inr (s,_)=>∃d a,e=ay (bt #[.agg #[ao s.full,Z U (s.a:Nat),Z U (s.b:Nat),J d ((s.aW.map bX).take 1001).length a],.nilIface])/\Row c 70 3 (J d ((s.aW.map bX).take 1001).length a) ((s.aW.map bX).take 1001).length (cP ((s.aW.map bX).take 1001))/\aa (mn B f w) w c/\∀g,(J d ((s.aW.map bX).take 1001).length a).ownBlock=V g->B<=g
theorem fw(a:ab)(q:Nat)(x y z u:ax):aa (·=q) a ((((a.setCell ⟨q,0,Y⟩ x).setCell ⟨q,1,Y⟩ y).setCell ⟨q,2,Y⟩ z).setCell ⟨q,3,Y⟩ u):=
 (((aa.setCell a ⟨q,0,Y⟩ x).trans (aa.setCell _ ⟨q,1,Y⟩ y) k_).trans (aa.setCell _ ⟨q,2,Y⟩ z) k_).trans (aa.setCell _ ⟨q,3,Y⟩ u) k_
theorem xD{h:Nat}{c l q:ab}(F:eQ w)(i:16<=B)(j:16<=h)(o:aa (mn B h w) w c)(R:w.heap.size<c.heap.size)(n:Ab c l v (a.size-left))(G:aa (mn B h c) c l)(p:aa (·=w.heap.size) l q):Ec B h a (.bad left) w (ay (bt #[eC,v])) q:=by
 refine⟨⟨v,rfl,?_⟩,(o.xY G).trans p (λk Q e=>by have r:k=w.heap.size:=e;omega)⟩;have C:=n.early F o i j;obtain⟨b,t,u,g,s,L,M,N,P⟩:=n;obtain⟨d,H,K,A,f,x,m,y,z⟩:=C;have D:d=b:=by rw[s]at f;simp at f;exact f.symm
 subst D;exact⟨d,H,K,A,f,x,(p.block d (lg m) (λe=>by have r:d=w.heap.size:=e;omega)).trans m,y,z⟩
theorem iM{W b:ab}{c:Array ax}(h:W.heap[q]?=V (I c 28 (0,0)))(a:q≠d)(k:aa (mn B d W) W b):b.heap[q]?=V (I c 28 (0,0)):=
 (k.block q (lg h) (by
  rintro(e|⟨-,e⟩)
  ·exact a e
  ·exact bD.ne ⟨_,h⟩ (by decide) e)).trans h
def posOf(w:ab)(a:Nat):Nat:=match w.cell? ⟨a,1,Y⟩with
 |some (Z _ n)=>n.toNat
 |_=>0
def CH(a:ByteArray)(b:Nat)(z:ax)(w:ab):Nat:=match z with
 |.bool true=>a.size+1-posOf w b
 |_=>0
structure Eb(B rb:Nat)(text:ByteArray)(total:Rd (List Rec))(w:ab)(more:Bool)(acc:List Rec)(l':List UInt8)(f:Nat)(wr:ab):Prop where
 xY:kF B wr rb text l' (acc.map bX)
 same:total=if more=true then dY f acc l' else .ok acc l'
 fuel:l'.length<f
 EY:acc.length+4*l'.length<=4*text.size
 cells:wr.heap[w.heap.size]?=V (I #[ao false,Z U 0,Z U 0,J Y 0 0] 28 (0,0))
 keep:aa (mn B rb w) w wr
 size:w.heap.size<wr.heap.size
theorem zA{b:List an}(h:kF B w d a l b):posOf w d=a.size-l.length/\l.length<=a.size:=by obtain⟨_,_,e,_,_⟩:=h;have c:w.cell? ⟨d,1,Y⟩=V (Z U ((a.size-l.length:Nat):Int)):=ae e.2.1 1;refine⟨?_,e.1.len⟩;unfold posOf;rw[c];rfl
theorem Eb.bad{b:ByteArray}{a:Rd (List Rec)}{c:List Rec}{d:List UInt8}(h:Eb B i b a w true c d f wr)(g:eS d=.bad left):a=.bad left:=by
 rw[h.same,fy rfl];have:=h.fuel;obtain⟨f,rfl⟩:∃e,f=e+1:=⟨f-1,by omega⟩
 rw[dY,g];rfl
theorem Eb.next{e:Nat}{c:Rd (List Rec)}{d b:List Rec}{i j:List UInt8}{k:ab}(h:Eb B e a c w true d i f wr)(o:Place a i)(p:e<w.heap.size)(l:eS i=.ok b j)(n:kF B k e a j (d.map bX++b.map bX))(g:aa (mn B e wr) wr k):Eb B e a c w (!b.isEmpty) (d++b) j (f-1) k:=by
 have q:=h.fuel;have r:=h.EY;obtain⟨-,s,t⟩:=lR o l;refine⟨by rw[xT];exact n,?_,by omega,by rw[hQ];omega,iM h.cells (by omega) g,h.keep.xY g,kz h.size g.size⟩;rw[h.same,fy rfl];obtain⟨f,rfl⟩:∃m,f=m+1:=⟨f-1,by omega⟩
 rw[dY,l,Rd.bT];cases b with
 |nil=>simp
 |cons y ys=>simp
theorem Df(B r:Nat)(c:ByteArray)(w:ab)(h:kF B w r c c.data.toList [])(d4:c.size<=10000000000)(hB:B<=w.heap.size)(c5:16<=B)(a6:16<=r)(ht:cM w):ba prog 153 #[X (V ⟨r,0,Y⟩)] w (Ec B r c (ju c.data.toList) w):=by
 have k0:=aa.alloc n_ w (I #[ao false,Z U 0,Z U 0,J Y 0 0] 28);have a7:=E (aa.MI (B:=B) (rb:=r) k0);have hh:=h.ai k0;obtain⟨oa,d8,M,h2,h3⟩:=hh;have HE:QS (eQ w):=by obtain⟨_,_,x,_,_⟩:=h;exact x.2.2
 have c9:r<w.heap.size:=by obtain⟨_,_,x,_,_⟩:=h;exact(QY.1 x.2.1).1
 have b7:QS (w.heap.size<(w.alloc (I #[ao false,Z U 0,Z U 0,J Y 0 0] 28)).heap.size):=by show _<_;simp
 have D0:=E (az w (I #[ao false,Z U 0,Z U 0,J Y 0 0] 28));have HN:=E (M.kind (by omega) a6);have H1:=E M;have H2:=E h2;have H3:=E h3;have D:=E d4;have HB:=E hB;have s:=E c5;have m:=E a6;have HT:=E ht;have o:=E c9;have HR:QS (ju c.data.toList=(iH c.data.toList).bind λk l1=>(lY l1).bind λa l2=>(lY l2).bind λb C=>(dY (c.data.toList.length+1) [] C).bind λx l4=>(lK x.length l4).bind λ_ P=>.ok ⟨k,a,b,x⟩ P):=E rfl;generalize ju c.data.toList=q at*;clear h M h2 h3 d4 hB c5 a6 ht c9 k0;go_enter func153,ntmps153;go_wp2_with fail;refine HN.o.mono ?_;clear HN;rcases hx1:iH c.data.toList with left|⟨kd,l1⟩
 ·rintro e w1 ⟨⟨v,rfl,b,t,u,g,rfl,y⟩,j⟩;have e:q=.bad left:=by rw[HR.o,hx1];rfl
  subst e;have d:=iM D0.o (by have:=o.o;omega) (aa.lE (B:=B) j);have G:=ae d 0;have H:=ae d 1;have K:=ae d 2;have L:=ae d 3;have f0:=aj d 0;have f1:=aj d 1;have f2:=aj d 2;have f3:=aj d 3;simp at G H K L;have Q:=E y;have F:=E j;clear y j d;go_wp2;refine bodyPost_ret (v:=bt #[eC,.iface 231 (X (V ⟨b,0,Y⟩))]) ?_ rfl ?_
  ·unfold eC;rw[results_cell_tmp rfl];go_simp
  ·exact xD HE.o s.o m.o a7.o b7.o ⟨b,t,u,g,rfl,Q.o⟩ F.o.lE (fw w1 _ _ _ _ _)
 ·rintro e w1 ⟨rfl,r1,j⟩;have p1:=(H1.o.1.kind hx1).1;have R1:=E (H1.o.on m.o p1 r1 j);have D1:=E (iM D0.o (by have:=o.o;omega) (aa.lE (B:=B) j));have a8:=E (a7.o.xY (aa.lE (B:=B) j));have b8:QS (w.heap.size<w1.heap.size):=kz b7.o j.size;have T:=E (H2.o.ai j (λi R e=>(H2.o.aR R).ne (e':=235) (by decide) ⟨_,(show i=r from e)▸H1.o.2.1⟩));clear r1 j p1;have a4:QS (q=(lY l1).bind λa l2=>(lY l2).bind λb C=>(dY (c.data.toList.length+1) [] C).bind λx l4=>(lK x.length l4).bind λ_ P=>.ok ⟨kd,a,b,x⟩ P):=by show _=_;rw[HR.o,hx1];rfl
  have d5:QS (l1.length<=c.data.toList.length):=by have:=(H1.o.1.kind hx1).2;show _<=_;omega
  have b2:=E (R1.o.number (by have:=D.o;omega));clear hx1 HR;go_wp2_with fail;refine b2.o.mono ?_;clear b2;rcases hx2:lY l1 with left|⟨a,l2⟩
  ·rintro e w2 ⟨⟨v,rfl,b,t,u,g,rfl,y⟩,j⟩;have e:q=.bad left:=by rw[a4.o,hx2];rfl
   subst e;have d:=iM D1.o (by have:=o.o;omega) (aa.lE (B:=B) j);have G:=ae d 0;have H:=ae d 1;have K:=ae d 2;have L:=ae d 3;have f0:=aj d 0;have f1:=aj d 1;have f2:=aj d 2;have f3:=aj d 3;simp at G H K L;have Q:=E y;have F:=E j;clear y j d;go_wp2;refine bodyPost_ret (v:=bt #[eC,.iface 231 (X (V ⟨b,0,Y⟩))]) ?_ rfl ?_
   ·unfold eC;rw[results_cell_tmp rfl];go_simp
   ·exact xD HE.o s.o m.o a8.o b8.o ⟨b,t,u,g,rfl,Q.o⟩ F.o.lE (fw w2 _ _ _ _ _)
  ·rintro e w2 ⟨rfl,r1,j⟩;have p1:=R1.o.1.nr hx2;have R2:=E (R1.o.on m.o p1 r1 j);have D2:=E (iM D1.o (by have:=o.o;omega) (aa.lE (B:=B) j));have a9:=E (a8.o.xY (aa.lE (B:=B) j));have b9:QS (w.heap.size<w2.heap.size):=kz b8.o j.size;have W:=E (T.o.ai j (λi R e=>(T.o.aR R).ne (e':=235) (by decide) ⟨_,(show i=r from e)▸R1.o.2.1⟩));clear r1 j p1;have a5:QS (q=(lY l2).bind λb C=>(dY (c.data.toList.length+1) [] C).bind λx l4=>(lK x.length l4).bind λ_ P=>.ok ⟨kd,a,b,x⟩ P):=by show _=_;rw[a4.o,hx2];rfl
   have d6:QS (l2.length<=c.data.toList.length):=by have M:=(AP hx2).2;have h2:=d5.o;show _<=_;omega
   have b3:=E (R2.o.number (by have:=D.o;omega));clear hx2 a4;go_wp2_with fail;refine b3.o.mono ?_;clear b3;rcases hx3:lY l2 with left|⟨b,C⟩
   ·rintro e w3 ⟨⟨v,rfl,b,t,u,g,rfl,y⟩,j⟩;have e:q=.bad left:=by rw[a5.o,hx3];rfl
    subst e;have d:=iM D2.o (by have:=o.o;omega) (aa.lE (B:=B) j);have G:=ae d 0;have H:=ae d 1;have K:=ae d 2;have L:=ae d 3;have f0:=aj d 0;have f1:=aj d 1;have f2:=aj d 2;have f3:=aj d 3;simp at G H K L;have Q:=E y;have F:=E j;clear y j d;go_wp2;refine bodyPost_ret (v:=bt #[eC,.iface 231 (X (V ⟨b,0,Y⟩))]) ?_ rfl ?_
    ·unfold eC;rw[results_cell_tmp rfl];go_simp
    ·exact xD HE.o s.o m.o a9.o b9.o ⟨b,t,u,g,rfl,Q.o⟩ F.o.lE (fw w3 _ _ _ _ _)
   ·rintro e w3 ⟨rfl,r1,j⟩;have p1:=R2.o.1.nr hx3;have R3:=E (R2.o.on m.o p1 r1 j);have D3:=E (iM D2.o (by have:=o.o;omega) (aa.lE (B:=B) j));have b0:=E (a9.o.xY (aa.lE (B:=B) j));have c0:QS (w.heap.size<w3.heap.size):=kz b9.o j.size;have a0:=E (W.o.ai j (λi R e=>(W.o.aR R).ne (e':=235) (by decide) ⟨_,(show i=r from e)▸R2.o.2.1⟩));clear r1 j p1;have c1:QS (q=(dY (c.data.toList.length+1) [] C).bind λx l4=>(lK x.length l4).bind λ_ P=>.ok ⟨kd,a,b,x⟩ P):=by show _=_;rw[a5.o,hx3];rfl
    have b1:QS (C.length<=c.data.toList.length):=by have M:=(AP hx3).2;have h2:=d6.o;show _<=_;omega
    clear hx3 a5;have a3:Eb B r c (dY (c.data.toList.length+1) [] C) w true [] C (c.data.toList.length+1) w3:=by refine⟨⟨oa,d8,R3.o,a0.o,H3.o⟩,by rw[fy rfl],by have:=b1.o;omega,?_,D3.o,b0.o,c0.o⟩;have M:=b1.o;rw[RA]at M;have h2:C.length<=c.size:=M;simp;omega
    have c4:=E a3;clear a3 R3 a0 D3 b0 c0 H1 H2;generalize dY (c.data.toList.length+1) [] C=total at*;go_wp2_with fail;go_loopw [8] (λz wr=>∃A l l' f,z=ao A/\Eb B r c total w A l l' f wr) (λz wr=>CH c r z wr)
    case atStart=>exact⟨true,[],C,_,rfl,c4.o⟩
    case round=>
     obtain⟨A,l,l',f,rfl,p⟩:=hrel;have n:=E p;cases A with
     |true=>
      have c8:Place c l':=by obtain⟨_,_,x,_,_⟩:=p.xY;exact x.1
      have b6:=E c8;have b4:=E (FI B r c l' (l.map bX) wr p.xY (by have:=D.o;omega) (by have M:=HB.o;have h2:=p.keep.size;omega) s.o m.o (by have M:=p.EY;have h2:=D.o;rw[hO];omega) (HT.o.ai p.keep (by
       rintro(e|⟨e,-⟩)
       ·have:=m.o;omega
       ·have:=s.o;omega)))
      clear p c8;go_wp2_with fail;refine b4.o.mono ?_;clear b4;rcases hx:eS l' with left|⟨bl,e0⟩
      ·rintro e S ⟨⟨v,rfl,b',t,u,g,rfl,y⟩,j⟩;have e:q=.bad left:=by rw[c1.o,n.o.bad hx];rfl
       subst e;have d:=iM n.o.cells (by have:=o.o;omega) j;have G:=ae d 0;have H:=ae d 1;have K:=ae d 2;have L:=ae d 3;have f0:=aj d 0;have f1:=aj d 1;have f2:=aj d 2;have f3:=aj d 3;simp at G H K L;have Q:=E y;have F:=E j;clear y j d;go_wp2;refine bodyPost_ret (v:=bt #[eC,.iface 231 (X (V ⟨b',0,Y⟩))]) ?_ rfl ?_
       ·unfold eC;rw[results_cell_tmp rfl];go_simp
       ·exact xD HE.o s.o m.o n.o.keep n.o.size ⟨b',t,u,g,rfl,Q.o⟩ F.o (fw S _ _ _ _ _)
      ·rintro e S ⟨rfl,r6,k6⟩;have d7:=E (n.o.next b6.o o.o hx r6 k6);have hm:CH c r (ao (!bl.isEmpty)) S<CH c r (ao true) wr:=by
        have M:=zA n.o.xY;have h2:=zA r6;have h3:=(lR b6.o hx).2.1;cases bl.isEmpty with
        |true=>simp only[CH,TU];omega
        |false=>simp only[CH,TO];omega
       have HM:=E hm;clear r6 k6 hm hx;generalize (!bl.isEmpty)=mb at*;go_wp2;exact⟨⟨mb,_,_,_,rfl,d7.o⟩,HM.o⟩
     |false=>
      obtain⟨ob,cb,q1,q2,q3⟩:=p.xY;have N:total=.ok l l':=by have:=p.same;simpa using this
      have c6:(l.map bX).length=l.length:=hO ..;have c7:=q1.tail (by have:=D.o;omega) m.o;have a2:q=(lK (l.map bX).length l').bind λ_ P=>.ok ⟨kd,a,b,l⟩ P:=by rw[c1.o,N,c6];rfl
      have c2:=E a2;have b5:=E c7;have Q1:=E q1;have Q2:=E q2;have Q3:=E q3;clear p q1 q2 q3 N c6 c7 a2;go_wp2_with fail;refine b5.o.mono ?_;clear b5;rcases hx:lK (l.map bX).length l' with left|⟨un,P⟩
      ·rintro e S ⟨⟨v,rfl,b',t,u,g,rfl,y⟩,j⟩;have e:q=.bad left:=by rw[c2.o,hx];rfl
       subst e;have d:=iM n.o.cells (by have:=o.o;omega) (aa.lE (B:=B) j);have G:=ae d 0;have H:=ae d 1;have K:=ae d 2;have L:=ae d 3;have f0:=aj d 0;have f1:=aj d 1;have f2:=aj d 2;have f3:=aj d 3;simp at G H K L;have Q:=E y;have F:=E j;clear y j d;go_wp2;refine bodyPost_ret (v:=bt #[eC,.iface 231 (X (V ⟨b',0,Y⟩))]) ?_ rfl ?_
       ·unfold eC;rw[results_cell_tmp rfl];go_simp
       ·exact xD HE.o s.o m.o n.o.keep n.o.size ⟨b',t,u,g,rfl,Q.o⟩ F.o.lE (fw S _ _ _ _ _)
      ·rintro e S ⟨rfl,r6,k6⟩;have e:q=.ok ⟨kd,a,b,l⟩ P:=by rw[c2.o,hx];rfl
       subst e;have d:=iM n.o.cells (by have:=o.o;omega) (aa.lE (B:=B) k6);have G:=ae d 0;have H:=ae d 1;have K:=ae d 2;have L:=ae d 3;have f0:=aj d 0;have f1:=aj d 1;have f2:=aj d 2;have f3:=aj d 3;simp at G H K L;have c3:=ae r6 3;simp only[List.getElem?_toArray]at c3;have D6:=E d;have a1:=E (Q2.o.ai k6 (λi R e=>(Q2.o.aR R).ne (e':=235) (by decide) ⟨_,(show i=r from e)▸Q1.o.2.1⟩));have F:=E (n.o.keep.xY (aa.lE (B:=B) k6));have d9:S.cell? ⟨r,3,Y⟩=V (J ob ((l.map bX).take 1001).length cb):=ae r6 3;clear r6 k6 d c3 hx;generalize hlen:((l.map bX).take 1001).length=len at*;go_wp2;refine bodyPost_ret (v:=bt #[.agg #[ao kd,Z U (a:Nat),Z U (b:Nat),J ob len cb],.nilIface]) ?_ rfl ?_
       ·rw[results_cell_tmp rfl];go_simp
       ·refine⟨ob,cb,?_,?_,F.o.trans (fw S w.heap.size _ _ _ _) (λk hk e=>by have e':k=w.heap.size:=e;omega),by have h9:=Q3.o;rw[<-hlen]at h9;exact h9⟩
        ·rw[hlen]
        ·rw[hlen];exact a1.o.ai (fw S w.heap.size _ _ _ _) (λi R e=>(a1.o.aR R).ne (e':=28) (by decide) ⟨_,(show i=w.heap.size from e)▸D6.o⟩)
abbrev sS:Type:=Option (Nat⊕kG)
abbrev sS.sum:sS:=Y
abbrev sS.bad(a:Nat):sS:=V (.inl a)
abbrev sS.ok(s:kG):sS:=V (.inr s)
def wG(s:kG):Bool:=cC s.full s.a s.b (s.aW.map bX)
def cA(t:List UInt8):sS:=
 if t.length<4 then .sum
 else if t.drop (t.length-4)=bM (t.take (t.length-4))then
  match ju (t.take (t.length-4))with
  |.inl left=>.bad (t.length-4-left)
  |.inr (s,_)=>if wG s=true/\cB s=t then .ok s else .bad 0
 else .sum
def QD(w a:ab)(v:ax):Prop:=∃b t u,v=.iface 231 (X (V ⟨b,0,Y⟩))/\w.heap.size<=b/\a.heap[b]?=V (I #[Z U 0,.iface t u] 233 (0,0))/\w.cell? ⟨0,0,Y⟩=V (.iface t u)
def oY(x:sS)(w:ab)(e:Ending)(b:ab):Prop:=(match x with
 |none=>∃v,e=ay (bt #[eC,v])/\QD w b v
 |some (.inl p)=>∃v,e=ay (bt #[eC,v])/\Ab w b v p
 |some (.inr s)=>∃c a,e=ay (bt #[.agg #[ao s.full,Z U (s.a:Nat),Z U (s.b:Nat),J c s.aW.length a],.nilIface])/\Row b 70 3 (J c s.aW.length a) s.aW.length (cP (s.aW.map bX))/\∀g,(J c s.aW.length a).ownBlock=V g->w.heap.size<=g)/\aa n_ w b
theorem DB{a:ab}{t:cI}{u:ax}(e:w.cell? ⟨0,0,Y⟩=V (.iface t u))(c:w.heap.size<=b)(f:a.heap[b]?=V (I #[Z U 0,.iface t u] 233 (0,0)))(d:aa n_ w a):oY .sum w (ay (bt #[eC,.iface 231 (X (V ⟨b,0,Y⟩))])) a:=⟨⟨_,rfl,b,t,u,rfl,c,f,e⟩,d⟩
theorem FJ(a:ByteArray)(w:ab)(t:cI)(u:ax)(f:a.size<4)(b:w.cell? ⟨0,0,Y⟩=V (.iface t u)):ba prog 97 #[O a] w (oY .sum w):=by
 have d:=aa.alloc n_ w (I #[ao false,Z U 0,Z U 0,J Y 0 0] 28);have i:=d.cell b id;have c:(a.size:Int)-4<0:=by omega
 have g:-4<=(a.size:Int)-4:=by omega
 have e:=E b;clear b f d;go_enter func97,ntmps97;go_wp2;go_region;go_wp2;go_region;go_wp2;refine bodyPost_ret (v:=bt #[eC,.iface 231 (X (V ⟨w.heap.size+1,0,Y⟩))]) ?_ rfl ?_
 ·unfold eC;rw[results_cell_tmp rfl];go_simp
 ·exact DB e.o (by omega) (by have:=az (w.alloc (I #[ao false,Z U 0,Z U 0,J Y 0 0] 28)) (I #[Z U 0,.iface t u] 233);rw[World.size_alloc]at this;exact this) (((((aa.refl n_ w).al _).al _).dr).dr)
theorem gG{c:Array ax}{e:cI}{g:Nat×Nat}(h:w.heap[b]?=V (I c e g))(f:c[i]?=V v):w.setCell ⟨b,i,Y⟩ v=w:=by
 have l:(w.setCell ⟨b,i,Y⟩ v).heap=w.heap:=by
  apply Array.ext_getElem?;intro k;unfold World.setCell;rw[SS];by_cases d:b=k
  ·subst d;rw[fy rfl,h];simp only[uW,Rk,vg,RL,vv,Obj.cells.injEq,and_true];apply Array.ext_getElem?;intro j;rw[Ti];by_cases a:i=j
   ·subst a;obtain⟨m,-⟩:=QY.1 f;rw[fy rfl,fy m,f]
   ·rw[el a]
  ·rw[el d]
 show({w with heap:=(w.setCell ⟨b,i,Y⟩ v).heap}:ab)=w;rw[l]
theorem iv(s:ByteArray)(n:Nat):(s.extract 0 n).data.toList=s.data.toList.take n:=by have:=iu s 0 n;simp only[tA]at this;rw[this];rfl
theorem MK(a:ByteArray)(w:ab)(t:cI)(u:ax)(P:4<=a.size)(p:a.size<=10000000000)(k:w.cell? ⟨0,0,Y⟩=V (.iface t u))(z:cM w)(g:a.data.toList.drop (a.data.toList.length-4)≠bM (a.data.toList.take (a.data.toList.length-4))):ba prog 97 #[O a] w (oY .sum w):=by
 have k0:=aa.alloc n_ w (I #[ao false,Z U 0,Z U 0,J Y 0 0] 28);have d:a.data.toList.length=a.size:=rfl;rw[d]at g;obtain⟨n,s⟩:∃n:Nat,a.size=n+4:=⟨a.size-4,by omega⟩
 have y:(a.size:Int)-4=(n:Int):=by omega
 have j:∀W,aa n_ w W->ba prog 152 #[O (a.extract 0 n)] W λe w'=>e=ay (O (aU (bM (a.data.toList.take n))))/\aa n_ W w':=λW Q=>by have:=lT (a.extract 0 n) W (by rw[QU];unfold maxLen;omega) (z.ai Q id);rwa[iv a n]at this
 have T:((a.extract n a.size).toList==(aU (bM (a.data.toList.take n))).toList)=false:=(Lib.bytes_beq_false_iff _ _).2 (λe=>g (by have:=Rc (λx:ByteArray=>x.data.toList) e;rw[extract_drop a n]at this;rw[show a.size-4=n by omega];exact this))
 have q:=E k;have A:=E j;have R:(n:Int)<=10000000000:=by omega
 have S:(n:Int)<=a.size:=by omega
 have a4:0<w.heap.size:=by
  rcases Ry w.heap.size with N|h
  ·simp[World.cell?,N]at k
  ·exact h
 have a5:¬w.heap.size=0:=by omega
 have a6:¬0=w.heap.size:=by omega
 have HN:=E s;have M:=k0.cell k id;clear j g k z p P d s;generalize aU (bM (a.data.toList.take n))=ck at*;go_enter func97,ntmps97;go_wp2;go_region_held3(λ_=>True) (go_keep) (first|(go_at_call 152;refine(A.o _ (((aa.refl n_ w).al _).dr)).mono ?_;rintro e m ⟨rfl,l⟩;have f:=((((aa.refl n_ w).al _).dr).tr l i_);have g2:=f.cell q.o id;have b:=(l.block w.heap.size (by simp) id).trans (az w _);have G:=ae b 0;have H:=ae b 1;have K:=ae b 2;have L:=ae b 3;have f0:=aj b 0;have f1:=aj b 1;have f2:=aj b 2;have f3:=aj b 3;simp at G H K L;have r:QS (w.heap.size<m.heap.size):=(by have:=l.size;simp at this;show _<_;omega);have o:=E f;have c:=((aa.alloc n_ m (I #[Z U 0,.iface t u] 233)).block w.heap.size r.o id).trans b;have B:=ae c 0;have C:=ae c 1;have D:=ae c 2;have F:=ae c 3;have b0:=aj c 0;have b1:=aj c 1;have b2:=aj c 2;have b3:=aj c 3;have s0:=gG b (i:=0) (v:=ao false) rfl;have s1:=gG b (i:=1) (v:=Z U 0) rfl;have s2:=gG b (i:=2) (v:=Z U 0) rfl;have s3:=gG b (i:=3) (v:=J Y 0 0) rfl;have t0:=gG c (i:=0) (v:=ao false) rfl;have t1:=gG c (i:=1) (v:=Z U 0) rfl;have t2:=gG c (i:=2) (v:=Z U 0) rfl;have t3:=gG c (i:=3) (v:=J Y 0 0) rfl;simp at B C D F;clear l f b M c));go_wp2;go_region;all_goals
  go_wp2;refine bodyPost_ret (v:=bt #[eC,.iface 231 (X (V ⟨m.heap.size,0,Y⟩))]) ?_ rfl ?_
  ·unfold eC;rw[results_cell_tmp rfl];go_simp
  ·exact DB q.o (SI r.o) (az m _) (o.o.al _).dr
theorem nU:∀(l:List an) (k r:Nat) (a:k<l.length),r<3->(cP l)[k*3+r]?=(l[k].cells)[r]?
 |[],k,r,a,_=>absurd a (by simp)
 |x::l,0,r,_,hr=>by show(x.cells++cP l)[0*3+r]?=_;rw[Rb (by rw[an.len];omega)];simp
 |x::l,k+1,r,a,hr=>by show(x.cells++cP l)[(k+1)*3+r]?=_;rw[Rl (by rw[an.len];omega),an.len,show(k+1)*3+r-3=k*3+r by omega];exact nU l k r (by simpa using a) hr
theorem cG.ofRow{c:Option Addr}{a:Nat}{l:List an}(h:Row w 70 3 (J c l.length a) l.length (cP l)):cG w c l:=λi b=>by
 obtain⟨n,k⟩:∃n,l.length=n+1:=⟨l.length-1,by omega⟩
 have f:=h;rw[k]at f;obtain⟨g,d,e⟩:=f.succ;have j:c=V ⟨g,0,Y⟩:=by injection e
 subst j;refine⟨g,0,rfl,?_,?_,?_⟩
 ·rw[tA];refine(h.cellAt (i*3) (by omega)).trans ?_;have:=nU l i 0 b (by omega);rw[Tw]at this;rw[this];rfl
 ·rw[tA];refine(h.cellAt (i*3+1) (by omega)).trans ?_;rw[nU l i 1 b (by omega)];rfl
 ·rw[tA];refine(h.cellAt (i*3+2) (by omega)).trans ?_;rw[nU l i 2 b (by omega)];rfl
def rK(t:List UInt8)(x:Rd kG):sS:=match x with
 |.inl left=>.bad (t.length-4-left)
 |.inr (s,_)=>if wG s=true/\cB s=t then .ok s else .bad 0
theorem size16(a:eQ w):16<=w.heap.size:=by obtain⟨t,u,h⟩:=a 15 (by unfold dV;omega);exact World.block_lt_of_cell? _ _ h
theorem FK{a f:List UInt8}{r:Rec}(d:a.length<=10)(h:kR a l=.ok r f):r.key.length<=10/\r.value.length<=40:=by have e:Place (aU l) l:=lC (text:=aU l) (at_:=0) (eL _);obtain⟨-,b,c,-⟩:=qk d e h;exact⟨b,c⟩
theorem uu:∀(n:Nat) (a l c:List UInt8) (x:List Rec),a.length<=10->fC n a l=.ok x c->∀r∈x,r.key.length<=10/\r.value.length<=40
 |0,a,l,c,x,_,h=>by rw[fC]at h;cases h;simp
 |n+1,a,l,c,x,ha,h=>by
  rw[fC]at h;obtain⟨r,j,e,h⟩:=bU h;obtain⟨y,k,f,h⟩:=bU h;cases h;have d:=FK ha e;intro i b;rcases cT.1 b with rfl|g
  ·exact d
  ·exact uu n _ _ _ _ d.1 f i g
theorem Ak{c:List UInt8}{x:List Rec}(h:eS l=.ok x c):∀r∈x,r.key.length<=10/\r.value.length<=40:=by
 unfold eS at h;obtain⟨n,f,d,h⟩:=bU h;by_cases a:n=0
 ·rw[fy a]at h;cases h;simp
 ·rw[el a]at h;obtain⟨y,g,b,h⟩:=bU h;unfold yt at h;obtain⟨z,i,e,h⟩:=bU h;split at h
  ·cases h;exact uu n [] _ _ _ (by simp) b
  ·cases h
theorem qx:∀(f:Nat) (a:List Rec) (l c:List UInt8) (x:List Rec),(∀r∈a,r.key.length<=10/\r.value.length<=40)->dY f a l=.ok x c->∀r∈x,r.key.length<=10/\r.value.length<=40
 |0,a,l,c,x,ha,h=>by rw[dY]at h;cases h;exact ha
 |f+1,a,l,c,x,ha,h=>by
  rw[dY]at h;obtain⟨b,k,g,h⟩:=bU h;have i:=Ak g;by_cases d:b=[]
  ·subst d;simp at h;obtain⟨rfl,-⟩:=h;exact ha
  ·have e:dY f (a++b) k=.ok x c:=by simpa[d]using h
   exact qx f _ _ _ _ (λr j=>(cQ.1 j).elim (ha r) (i r)) e
theorem ub{d:List UInt8}{s:kG}(h:ju l=.ok s d):∀r∈s.aW,r.key.length<=10/\r.value.length<=40:=by unfold ju at h;obtain⟨k,e,-,h⟩:=bU h;obtain⟨a,f,-,h⟩:=bU h;obtain⟨b,g,-,h⟩:=bU h;obtain⟨x,i,c,h⟩:=bU h;obtain⟨_,j,-,h⟩:=bU h;cases h;exact qx _ [] _ _ _ (by simp) c
def qK(w:ab)(q:Nat):Prop:=w.heap[q]?=V (I #[ao false,Z U 0,Z U 0,J Y 0 0] 28 (0,0))
theorem qK.facts(h:qK w q):w.cell? ⟨q,0,Y⟩=V (ao false)/\w.cell? ⟨q,1,Y⟩=V (Z U 0)/\w.cell? ⟨q,2,Y⟩=V (Z U 0)/\w.cell? ⟨q,3,Y⟩=V (J Y 0 0)/\w.frozen? ⟨q,0,Y⟩=false/\w.frozen? ⟨q,1,Y⟩=false/\w.frozen? ⟨q,2,Y⟩=false/\w.frozen? ⟨q,3,Y⟩=false/\w.setCell ⟨q,0,Y⟩ (ao false)=w/\w.setCell ⟨q,1,Y⟩ (Z U 0)=w/\w.setCell ⟨q,2,Y⟩ (Z U 0)=w/\w.setCell ⟨q,3,Y⟩ (J Y 0 0)=w:=
 ⟨ae h 0,ae h 1,ae h 2,ae h 3,aj h 0,aj h 1,aj h 2,aj h 3,gG h rfl,gG h rfl,gG h rfl,gG h rfl⟩
theorem qK.ai{S:Nat->Prop}{a:ab}(h:qK w q)(c:aa S w a)(b:¬S q):qK a q:=(c.block q (lg h) b).trans h
theorem Ab.back{f i j:ab}{p:Nat}(o:Ab f i v p)(n:eQ w)(k:aa n_ w f)(q:aa n_ i j):Ab w j v p:=by obtain⟨b,t,u,g,l,m,c,d,e⟩:=o;refine⟨b,t,u,g,l,mA k.size m,(q.block b (lg c) id).trans c,d,?_⟩;obtain⟨r,s,a⟩:=n g d;have:=k.cell a id;rw[this]at e;rw[a];exact e
theorem Nf{l:List Rec}(h:((l.map bX).take 1001).length<=1000):(l.map bX).take 1001=l.map bX:=by refine ep ?_;rw[js]at h;omega
theorem zF(l:List Rec):(l.map bX).map an.bS=l:=by rw[tO];exact List.map_id' l
theorem JT(a:ByteArray)(w:ab)(h4:4<=a.size)(e6:a.size<=10000000000)(he:eQ w)(ht:cM w)(T:a.data.toList.drop (a.data.toList.length-4)=bM (a.data.toList.take (a.data.toList.length-4))):ba prog 97 #[O a] w (oY (rK a.data.toList (ju (a.data.toList.take (a.data.toList.length-4)))) w):=by
 have b5:=size16 he;have H:a.data.toList.length=a.size:=rfl;rw[H]at T⊢;obtain⟨n,hn⟩:∃n:Nat,a.size=n+4:=⟨a.size-4,by omega⟩
 have e8:(a.size:Int)-4=(n:Int):=by omega
 rw[show a.size-4=n by omega]at T⊢;have d1:∀W,aa n_ w W->ba prog 152 #[O (a.extract 0 n)] W λe w'=>e=ay (O (a.extract n a.size))/\aa n_ W w':=λW hW=>by have:=lT (a.extract 0 n) W (by rw[QU];unfold maxLen;omega) (ht.ai hW id);rw[iv a n,<-T,<-extract_drop a n]at this;exact this
 have HC:=E d1;have f5:(n:Int)<=10000000000:=by omega
 have f6:(n:Int)<=a.size:=by omega
 have HN:=E hn;have HE:=E he;have HT:=E ht;have d6:=E b5;have HX:QS ((a.extract 0 n).data.toList=a.data.toList.take n):=iv a n;have d0:QS ((a.extract 0 n).size=n):=by show _=_;rw[QU];omega
 obtain⟨p,K⟩:∃p,p=rK a.data.toList (ju (a.data.toList.take n)):=⟨_,rfl⟩
 rw[<-K];have HR:=E K;clear d1 T he ht e6 h4 H hn b5 K;go_enter func97,ntmps97;go_wp2;go_region_held3(λ_=>True) (go_keep) (first|(go_at_call 152;refine(HC.o _ (((aa.refl n_ w).al _).dr)).mono ?_;rintro e j ⟨rfl,k2⟩;have d4:=((((aa.refl n_ w).al _).dr).tr k2 i_);have D2:=E ((k2.block w.heap.size (by simp) id).trans (az w _));have HZ:QS (w.heap.size<j.heap.size):=(by have:=k2.size;simp at this;show _<_;omega);have a6:=E d4;clear k2 d4));have c8:QS (ba prog 153 #[X (V ⟨j.heap.size,0,Y⟩)] (j.alloc (I #[O (a.extract 0 n),Z U 0,Z U 0,J Y 0 0] 235)) (Ec j.heap.size j.heap.size (a.extract 0 n) (ju (a.data.toList.take n)) (j.alloc (I #[O (a.extract 0 n),Z U 0,Z U 0,J Y 0 0] 235)))):=by have hz:=HZ.o;have b5:=d6.o;have f7:=d0.o;have hL:(a.extract 0 n).data.toList.length=(a.extract 0 n).size:=rfl;have:=Df j.heap.size j.heap.size (a.extract 0 n) (j.alloc (I #[O (a.extract 0 n),Z U 0,Z U 0,J Y 0 0] 235)) ⟨Y,0,⟨lC (text:=a.extract 0 n) (at_:=0) (eL _),by unfold lO;rw[hL,RZ];exact az j _,HE.o.ai (a6.o.al _) k_⟩,Row.nil _ _ _,λg h=>by cases h⟩ (by omega) (by simp) (by omega) (by omega) (HT.o.ai (a6.o.al _) id);rw[HX.o]at this;exact this
 have b9:QS (qK (j.alloc (I #[O (a.extract 0 n),Z U 0,Z U 0,J Y 0 0] 235)) w.heap.size):=qK.ai D2.o ((aa.refl n_ j).al _) id;have a7:QS (aa n_ w (j.alloc (I #[O (a.extract 0 n),Z U 0,Z U 0,J Y 0 0] 235))):=a6.o.al _;have S:QS (∀k A,k<j.heap.size->¬mn j.heap.size j.heap.size A k):=λk A hk e=>by
  rcases e with e|⟨e,-⟩
  ·have e':k=j.heap.size:=e;omega
  ·have e':j.heap.size<=k:=e;omega
 go_wp2_with fail;refine c8.o.mono ?_;clear c8;rcases hx:ju (a.data.toList.take n)with left|⟨c,rest⟩
 ·rintro e A ⟨⟨v,rfl,b,t,u,g,rfl,hf⟩,k4⟩;have er:p=.bad (a.data.toList.length-4-left):=by rw[HR.o,hx];rfl
  subst er;clear HR;have d2:=b9.o.ai k4 (S.o _ _ HZ.o);have d3:=d2.ai ((aa.refl n_ A).al (I #[ao false,Z U 0,Z U 0,J Y 0 0] 28)) id;obtain⟨a0,a1,a2,a3,b0,b1,b2,b3,s0,s1,s2,s3⟩:=d3.facts;have HF:QS (Ab (j.alloc (I #[O (a.extract 0 n),Z U 0,Z U 0,J Y 0 0] 235)) A (.iface 231 (X (V ⟨b,0,Y⟩))) ((a.extract 0 n).size-left)):=⟨b,t,u,g,rfl,hf⟩
  have P:QS (aa n_ w A):=a7.o.trans k4 (λi hi e=>absurd e (S.o i _ (Nat.lt_trans hi HZ.o)));clear hf k4 d2 d3;unfold eC;go_wp2;refine bodyPost_ret (v:=bt #[eC,.iface 231 (X (V ⟨b,0,Y⟩))]) ?_ rfl ?_
  ·unfold eC;rw[results_cell_tmp rfl];go_simp
  ·refine⟨⟨_,rfl,?_⟩,P.o.al _⟩;have F:=HF.o.back HE.o a7.o ((aa.refl n_ A).al (I #[ao false,Z U 0,Z U 0,J Y 0 0] 28));rw[d0.o]at F;have h2:=HN.o;rw[show a.data.toList.length-4-left=n-left by show a.size-4-left=_;omega];exact F
 ·rintro e A ⟨oa,d,rfl,a5,k4,a4⟩;have d5:=ub hx;have s:QS (p=rK a.data.toList (.ok c rest)):=by show _=_;rw[HR.o,hx]
  clear HR;have R:QS (∀r∈(c.aW.map bX).take 1001,r.key.size<=maxLen/\r.value.size<=maxLen):=λr hr=>by obtain⟨r',e5,rfl⟩:=fI.1 (Sd hr);obtain⟨F,h2⟩:=d5 r' e5;have e1:(bX r').key.size=r'.key.length:=bn _;have e2:(bX r').value.size=r'.value.length:=bn _;unfold maxLen;omega
  have c4:=E (b9.o.ai k4 (S.o _ _ HZ.o));have P:QS (aa n_ w A):=a7.o.trans k4 (λi hi e=>absurd e (S.o i _ (Nat.lt_trans hi HZ.o)));have c9:=E a5;have d9:QS (∀g,(J oa 0 d).ownBlock=V g->w.heap.size<=g):=λg M=>mA (SI HZ.o) (a4 g ((qj oa _ 0 d).trans M));have C:QS (((c.aW.map bX).take 1001).length<=1000->(c.aW.map bX).take 1001=c.aW.map bX):=λh=>Nf h;have a8:QS (((c.aW.map bX).take 1001).length<=1001):=wj _ _;clear d5 a5 k4 hx a4;generalize hl:(c.aW.map bX).take 1001=l at*;obtain⟨w5,b8⟩:∃w5,w5=A.alloc (I #[ao c.full,Z U (c.a:Nat),Z U (c.b:Nat),J oa l.length d] 28):=⟨_,rfl⟩
  have D:=E b8;have k5:aa n_ A w5:=by rw[b8];exact(aa.refl _ _).al _
  have N:=E (c4.o.ai k5 id);have q:=E (P.o.tr k5 i_);have Q:=E (c9.o.ai k5 k_);clear b8 k5 c9 c4 P;have c7:QS (l.length<=d/\d<=maxLen):=by
   rcases Q.o.2 with⟨e,e'⟩|⟨g,c',f4,e,-,F,h2,-⟩
   ·injection e with e1 e2 e3;exact⟨by omega,by unfold maxLen;omega⟩
   ·injection e with e1 e2 e3;subst e3;exact⟨F,h2⟩
  have c5:QS (∀g,2<=g->g<=6->oR w5 g):=λg F h2=>(HE.o.ai q.o k_) g (by unfold dV;omega);have e9:QS (w.heap.size<w5.heap.size):=(lg N.o);cases hj:cC c.full c.a c.b l with
  |false=>
   have o:=E (zW c.full c.a c.b oa d l w5 (cG.ofRow Q.o) (by have:=a8.o;unfold maxLen;omega) R.o c5.o hj);have er:p=.bad 0:=by rw[s.o];show(if _ then _ else _)=_;refine el (λh=>?_);have F:=h.1;unfold wG at F;have h2:=dD F;rw[<-C.o (by rw[<-hl,js];have:=h2.2.2.1;omega),hj]at F;cases F
   subst er;clear hl C hj R s;go_wp2_with fail;rw[<-D.o];refine o.o.mono ?_;rintro e B ⟨⟨t,v,hv,rfl⟩,z⟩;have f:=N.o.ai z id;have G:=f.ai ((aa.refl n_ B).al (I #[Z U 0,.iface t v] 233)) id;obtain⟨a0,a1,a2,a3,b0,b1,b2,b3,s0,s1,s2,s3⟩:=G.facts;have HV:=E hv;have m:=E (q.o.tr z i_);clear hv z f G o;go_wp2;refine bodyPost_ret (v:=bt #[eC,.iface 231 (X (V ⟨B.heap.size,0,Y⟩))]) ?_ rfl ?_
   ·unfold eC;rw[results_cell_tmp rfl];go_simp
   ·obtain⟨g,M,hc⟩:=HV.o;have hn:dV g:=(by unfold dV;have:=M.1;have:=M.2;omega)
    refine⟨⟨_,rfl,B.heap.size,t,v,g,rfl,m.o.size,az B _,hn,?_⟩,m.o.al _⟩;obtain⟨t',u',h'⟩:=HE.o g hn;have:=q.o.cell h' id;rw[this]at hc;rw[h'];exact hc
  |true=>
   have b7:=dD hj;have y:=C.o b7.2.2.1;have b4:QS (cB ⟨c.full,c.a,c.b,l.map an.bS⟩=cB c):=by show _=_;rw[y,zF]
   have o:=E (xX c.full c.a c.b oa d l w5 (cG.ofRow Q.o) c7.o.1 c7.o.2 c5.o (HT.o.ai q.o id) hj);rw[b4.o]at o;by_cases hq:cB c=a.data.toList
   ·have er:p=.ok c:=by rw[s.o];show(if _ then _ else _)=_;refine fy ⟨?_,hq⟩;unfold wG;rw[<-y];exact hj
    have a9:QS (l.length=c.aW.length/\c.aW.map bX=l):=⟨by rw[y,hO],y.symm⟩
    subst er;have e0:QS (aU (cB c)=a):=by show _=_;rw[hq,pO]
    clear hl y b7 C hj R s b4 hq a8;go_wp2_with fail;rw[<-D.o];refine o.o.mono ?_;rintro e B ⟨e1,z⟩;have e2:e=ay (bt #[O a,.nilIface]):=by have e3:e=ay (bt #[O (aU (cB c)),.nilIface]):=e1;rw[e3,e0.o]
    subst e2;have f:=N.o.ai z id;obtain⟨a0,a1,a2,a3,b0,b1,b2,b3,-,-,-,-⟩:=f.facts;have L:B.heap[A.heap.size]?=V (I #[ao c.full,Z U (c.a:Nat),Z U (c.b:Nat),J oa l.length d] 28 (0,0)):=(z.block _ (by rw[D.o];simp) id).trans (by rw[D.o];exact az A _);have x0:=ae L 0;have x1:=ae L 1;have x2:=ae L 2;have x3:=ae L 3;simp at x0 x1 x2 x3;have c6:=E (Q.o.ai z k_);have d8:=E f;have m:=E (q.o.tr z i_);clear e1 z f L o;generalize H:l.length=e7 at*;go_wp2;refine bodyPost_ret (v:=bt #[.agg #[ao c.full,Z U (c.a:Nat),Z U (c.b:Nat),J oa e7 d],.nilIface]) ?_ rfl ?_
    ·rw[results_cell_tmp rfl];go_simp
    ·refine⟨⟨oa,d,?_,?_,λg M=>d9.o g ((qj oa 0 _ d).trans M)⟩,m.o.trans (fw B w.heap.size _ _ _ _) (λk hk e=>by have e':k=w.heap.size:=e;omega)⟩
     ·rw[<-a9.o.1]
     ·rw[a9.o.2,<-a9.o.1];exact c6.o.ai (fw B w.heap.size _ _ _ _) (λi hi e=>(c6.o.aR hi).ne (e':=28) (by decide) ⟨_,(show i=w.heap.size from e)▸d8.o⟩)
   ·have er:p=.bad 0:=by rw[s.o];exact el (λh=>hq h.2)
    subst er;have e4:((aU (cB c)).toList==a.toList)=false:=(Lib.bytes_beq_false_iff _ _).2 (λe=>hq (by have:=Rc (λx:ByteArray=>x.data.toList) e;exact this));obtain⟨ag,b6⟩:∃ag,ag=aU (cB c):=⟨_,rfl⟩
    rw[<-b6]at e4;have d7:=E b6;clear hl y b7 C hj R s b4 hq a8 b6;go_wp2_with fail;rw[<-D.o];refine o.o.mono ?_;rintro e B ⟨e1,z⟩;have e2:e=ay (bt #[O ag,.nilIface]):=by rw[d7.o];exact e1
    subst e2;obtain⟨t,v,M⟩:=HE.o 1 (by unfold dV;omega);have HG:=E M;have f:=N.o.ai z id;have G:=f.ai ((aa.refl n_ B).al (I #[Z U 0,.iface t v] 233)) id;obtain⟨a0,a1,a2,a3,b0,b1,b2,b3,s0,s1,s2,s3⟩:=f.facts;obtain⟨c0,c1,c2,c3,f0,f1,f2,f3,r0,r1,r2,r3⟩:=G.facts;have m:=E (q.o.tr z i_);have g6:=m.o.cell M id;clear e1 z f G o M;go_wp2;go_region;all_goals
     go_wp2;refine bodyPost_ret (v:=bt #[eC,.iface 231 (X (V ⟨B.heap.size,0,Y⟩))]) ?_ rfl ?_
     ·unfold eC;rw[results_cell_tmp rfl];go_simp
     ·exact⟨⟨_,rfl,B.heap.size,t,v,1,rfl,m.o.size,az B _,(by unfold dV;omega),HG.o⟩,(m.o.al _).dr⟩
theorem MJ(a:ByteArray)(w:ab)(b:a.size<=10000000000)(d:oR w 0)(h:eQ w)(g:cM w):ba prog 97 #[O a] w (oY (cA a.data.toList) w):=by
 obtain⟨t,u,d⟩:=d;have f:a.data.toList.length=a.size:=rfl;unfold cA;by_cases e:a.data.toList.length<4
 ·rw[fy e];exact FJ a w t u e d
 ·rw[el e];by_cases c:a.data.toList.drop (a.data.toList.length-4)=bM (a.data.toList.take (a.data.toList.length-4))
  ·rw[fy c];exact JT a w (by omega) b h g c
  ·rw[el c];exact MK a w t u (by omega) b d g c
theorem Tryz.Cn(v:ax)(w:ab):(Extern.ReflectliteType.typeOf #[.iface 335 v]).run prog w=.ok (.iface 274 (.agg #[X (V ⟨16,335,Y⟩)])) w:=by kernel_rfl
def vQ:Array ax->Sem ax:=Extern.ReflectliteType.method λt=>do Extern.Rtype.noPackHeld "Comparable" t;pure (ao (<-typeInfo t).comparable)
theorem Tryz.rS(w:ab):(vQ #[.agg #[X (V ⟨16,335,Y⟩)]]).run prog w=.ok (ao true) w:=by kernel_rfl
theorem Tryz.Cl(v:ax)(w:ab):(Go.method 465 274 v "Comparable").run prog w=.ok (263,v) w:=by kernel_rfl
theorem Tryz.LK:(prog.info? 335).map (·.comparable)=V true:=by kernel_rfl
theorem Tryz.LM:(prog.info? 353).map (·.size)=V 1:=by kernel_rfl
theorem Tryz.Po(v:ax)(a:cI)(w:ab):(Instr.typeAssert (.iface 335 v) a 276 true).run prog w=.ok (bt #[.nilIface,ao false]) w:=run_typeAssert_lacksB Tryz.underlying276 (by kernel_rfl) (by kernel_rfl) v a w
theorem Tryz.EX(v:ax)(a:cI)(w:ab):(Instr.typeAssert (.iface 335 v) a 279 true).run prog w=.ok (bt #[.nilIface,ao false]) w:=run_typeAssert_lacksB Tryz.underlying279 (by kernel_rfl) (by kernel_rfl) v a w
theorem Tryz.Cm(v:ax)(a:cI)(w:ab):(Instr.typeAssert (.iface 335 v) a 280 true).run prog w=.ok (bt #[.nilIface,ao false]) w:=run_typeAssert_lacksB Tryz.underlying280 (by kernel_rfl) (by kernel_rfl) v a w
theorem Tryz.LS(v:ax)(a:cI)(w:ab):(Instr.typeAssert (.iface 231 v) a 276 true).run prog w=.ok (bt #[.nilIface,ao false]) w:=run_typeAssert_lacksB Tryz.underlying276 (by kernel_rfl) (by kernel_rfl) v a w
theorem Tryz.Cq(v:ax)(a:cI)(w:ab):(Instr.typeAssert (.iface 231 v) a 279 true).run prog w=.ok (bt #[.iface 231 v,ao true]) w:=run_typeAssert_hasB Tryz.underlying279 (by kernel_rfl) v a w
theorem Tryz.Cp(v:ax)(w:ab):(Go.method 465 231 v "Unwrap").run prog w=.ok (260,v) w:=by kernel_rfl
theorem Pw(b:Nat)(a:Addr)(w:ab)(o:w.cell? ⟨b,1,Y⟩=V (.iface 335 (X (V a)))):ba prog 98 #[.iface 231 (X (V ⟨b,0,Y⟩)),.iface 335 (X (V a))] w λe m=>e=ay (ao true)/\m=w:=by obtain⟨i,g,c⟩:=RP.1 Tryz.LK;obtain⟨j,h,k⟩:=RP.1 Tryz.LM;have p:=@run_callFunc_extern prog 154 _ Extern.ReflectliteType.typeOf func154 (by kernel_rfl) (by kernel_rfl) (by kernel_rfl) (by kernel_rfl);have d:=@run_callFunc_extern prog 263 _ vQ func263 (by kernel_rfl) (by kernel_rfl) (by kernel_rfl) (by kernel_rfl);have t:=Tryz.Cn;have n:=Tryz.rS;have q:=Tryz.Cl;have s:=Tryz.LS;have u:=Tryz.Cq;have r:=Tryz.Cp;have f:=run_eql_iface_ptr_same (P:=prog) w a Tryz.underlying159 Tryz.underlying335 g c h;have l:=run_eql_iface_types (P:=prog) 231 335 (X (V ⟨b,0,Y⟩)) (X (V a)) Tryz.underlying159 (by decide) w;go_enter func98,ntmps98;go_wp2;refine wp_loop_rounds 2 ?_;rw[rounds_succ];go_wp2;rw[rounds_succ];go_wp2;go_ret;exact⟨rfl,rfl⟩
theorem Fg(b:Nat)(a c:Addr)(h k:Array ax)(s t:cI)(w:ab)(x:w.cell? ⟨b,1,Y⟩=V (.iface 335 (X (V c))))(g:c≠a)(n:w.heap[c.block]?=V (I h s (0,0)))(m:w.heap[a.block]?=V (I k t (0,0))):ba prog 98 #[.iface 231 (X (V ⟨b,0,Y⟩)),.iface 335 (X (V a))] w λe u=>e=ay (ao false)/\u=w:=by obtain⟨i,p,d⟩:=RP.1 Tryz.LK;obtain⟨j,q,f⟩:=RP.1 Tryz.LM;have y:=@run_callFunc_extern prog 154 _ Extern.ReflectliteType.typeOf func154 (by kernel_rfl) (by kernel_rfl) (by kernel_rfl) (by kernel_rfl);have l:=@run_callFunc_extern prog 263 _ vQ func263 (by kernel_rfl) (by kernel_rfl) (by kernel_rfl) (by kernel_rfl);have D:=Tryz.Cn;have v:=Tryz.rS;have z:=Tryz.Cl;have B:=Tryz.Po;have F:=Tryz.EX;have H:=Tryz.Cm;have C:=Tryz.LS;have G:=Tryz.Cq;have A:=Tryz.Cp;have o:=run_eql_iface_ptr_other (P:=prog) w Tryz.underlying159 Tryz.underlying335 p d q (by rw[f];decide) g n m;have r:=run_eql_iface_types (P:=prog) 231 335 (X (V ⟨b,0,Y⟩)) (X (V a)) Tryz.underlying159 (by decide) w;go_enter func98,ntmps98;go_wp2;refine wp_loop_rounds 2 ?_;rw[rounds_succ];go_wp2;rw[rounds_succ];go_wp2;go_ret;exact⟨rfl,rfl⟩
end Go.Proofs.YtjbkfdeldlajhaaGreatDoor
