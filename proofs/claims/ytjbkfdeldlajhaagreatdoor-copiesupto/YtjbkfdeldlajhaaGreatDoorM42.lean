import Derived.Test.YtjbkfdeldlajhaaGreatDoorM41
set_option linter.unusedSimpArgs false
namespace Go.Proofs.YtjbkfdeldlajhaaGreatDoor
set_option maxRecDepth 100000
set_option maxHeartbeats 4000000
open Go.RowKit Go.Shelf Go.Proofs.Tryz
open Option renaming none->Y,some->V
open Go.Value renaming int->Z,string->O,pointer->X,tuple->bt,bool->ao,slice->J
open Go.IntKind renaming i64->U
open Go renaming World->ab,Value->ax,Calls->ba
open Go.Ending renaming returned->ay
open Go.Obj renaming cells->I
variable{N K b c d s e k T i:Nat}{G a r F Fs:List Nat}{w f g l:ab}{B:aZ}
theorem Bf{α:Type}(a:Int)(l:List α):(nA a l).length<=l.length:=by
 unfold nA;split
 ·exact eb _
 ·rw[js];omega
theorem MR(h:oO N w b B F)(n:Int)(a:ByteArray)(c:Int):(B.gi n a c).1.length<=N+30:=by
 obtain⟨R,d,rfl,rfl,rfl⟩:=h;unfold aZ.gi;split
 ·rename_i j;split
  ·refine mA (Bf _ _) ?_;unfold ma;rw[hO];refine mA (Rp _ _) ?_;unfold aZ.seen;refine mA (oz _ _ _) ?_;have g:R.dF.all.length<=N:=d.mq;have i:(R.dF.work ((R.dF.find n).getD 0)).2.2.length<=30:=by
    unfold aZ.work;cases hx:R.dF.af[(R.dF.find n).getD 0]? with
    |none=>simp
    |some x=>
     have e:x∈R.dF.af:=hH hx;obtain⟨y,f,rfl⟩:=fI.1 e;exact d.ar y f
   omega
  ·simp
 ·simp
def KR(w:ab)(h i:Array ax)(a:List (ByteArray×ByteArray))(c:Int):Prop:=
 ba prog 62 h w λe b=>∃v,e=ay (bt #[v,Z U c])/\Row b 68 2 v a.length (a.flatMap df)/\(∀g,v.ownBlock=V g->w.heap.size<=g)/\aa n_ w b/\∀d,aa n_ b d->ba prog 63 i d λe f=>∃u,e=ay (bt #[u,Z U c])/\Row f 68 2 u a.length (a.flatMap df)/\aa n_ d f
theorem Ja{f:Nat}{A:aX}{l g:List Nat}(h:tY N w k f A B l g)(m:N<=10000000000)(n:Int)(a:ByteArray)(b:Int)(r:a.size<=maxLen)(c:-9223372036854775808<=b/\b<=9223372036854775807):KR w #[X (V ⟨k,0,Y⟩),Z U n,O a,Z U b] #[X (V ⟨f,0,Y⟩),Z U n,O a,Z U b] (A.gi n a b).1 (A.gi n a b).2/\(A.gi n a b).1.length<=N+30:=by refine⟨?_,by rw[h.kY.gi];exact MR h.y n a b⟩;refine(PM n a b h.x (by omega) c.1 c.2).mono ?_;rintro e t ⟨v,rfl,q,p,-,j⟩;refine⟨v,rfl,q,p,j,λs d=>?_⟩;have o:oO N s f B g:=(h.y.ai j k_).ai d k_;refine(PL n a b o m r c.1 c.2).mono ?_;rintro e x ⟨u,rfl,i,-⟩;rw[h.kY.gi];exact⟨u,rfl,i.row,i.keep⟩
structure iB(N K:Nat)(w:ab)(pb bb:Nat)(Fs G:List Nat):Prop where
 oK:uV N w pb Fs
 book:oJ K w bb G
 apart:∀k∈pb::Fs,k∉G
def bN(N K d f:Nat)(b G:List Nat)(w e:ab):Prop:=
 ∃a c,iB N K e d f a c/\aa (λk=>k∈d::b\/k∈G) w e/\(∀k∈a,k∈b\/w.heap.size<=k)/\∀k∈c,k∈G\/w.heap.size<=k
theorem iB.gD{M f:Nat}{b:List Nat}(h:iB N K w e f b G)(n:fo M e b w l):bN M K e f b G w l:=by
 obtain⟨c,m,g,i⟩:=n;refine⟨c,G,⟨m,h.book.ai g (λk a o=>h.apart k o a),λk a d=>?_⟩,g.mono (λ_ _ h=>.inl h),i,λ_ h=>.inl h⟩;rcases cT.1 a with rfl|a
 ·exact h.apart _ (by simp) d
 ·rcases i k a with j|j
  ·exact h.apart k (ef _ j) d
  ·have:=h.book.lt k d;omega
theorem iB.yS{j:Nat}{b:List Nat}(h:iB N K w j c b G)(o:iX e c G w l):bN N e j c b G w l:=by
 obtain⟨m,n,f,g⟩:=o;refine⟨b,m,⟨h.oK.ai f (λk a d=>h.apart k a d),n,λk a d=>?_⟩,f.mono (λ_ _ h=>.inr h),λ_ h=>.inl h,g⟩;rcases g k d with i|i
 ·exact h.apart k a i
 ·have:=h.oK.lt k a;omega
theorem iB.more(h:iB N K w e d a G)(g:N<=c)(f:K<=b):iB c b w e d a G:=⟨h.oK.more g,h.book.more f,h.apart⟩
theorem iB.ai{e:ab}(h:iB N K w d b a G)(c:aa n_ w e):iB N K e d b a G:=⟨h.oK.ai c k_,h.book.ai c k_,h.apart⟩
theorem bN.more{f:Nat}{b:List Nat}(h:bN N K f e b G w g)(m:N<=d)(l:K<=c):bN d c f e b G w g:=by obtain⟨a,i,j,k⟩:=h;exact⟨a,i,j.more m l,k⟩
theorem bN.pre{b:List Nat}(a:aa n_ g w)(h:bN N K d e b G w f):bN N K d e b G g f:=by obtain⟨c,i,j,l,m,n⟩:=h;have:=a.size;exact⟨c,i,j,(a.mono (T:=λk=>k∈d::b\/k∈G) (λ_ _ h=>h.elim)).tr l i_,λk a=>(m k a).imp id (λh=>by omega),λk a=>(n k a).imp id (λh=>by omega)⟩
theorem bN.then{b:List Nat}(h:bN N K e c b G w g)(d:aa n_ g f):bN N K e c b G w f:=by obtain⟨a,i,j,k,l,m⟩:=h;exact⟨a,i,j.ai d,k.tr d (λ_ h=>h.elim),l,m⟩
def sN(N:Nat)(w:ab)(d:Nat)(c:List Nat)(n:Int)(k T:Nat):Prop:=∃f g e A B b a,w.heap[d]?=V (I (cc f g e) 42 (0,0))/\tY N w f g A B b a/\d∉c/\c=b++a/\B.left n<=k/\e.1.size<=T
theorem sN.oK{n:Int}(h:sN N w b a n k T):uV N w b a:=by obtain⟨l,m,j,A,B,d,c,e,f,g,i,-⟩:=h;exact⟨l,m,j,A,B,d,c,e,f,g,i⟩
def sR(N d:Nat)(b:List Nat)(n:Int)(k T:Nat)(w:ab)(e:Ending)(c:ab):Prop:=
 ∃(s:ByteArray) (o:Bool) (a:List Nat),e=ay (bt #[O s,ao o,ao true])/\s.size<=10000/\sN N c d a n (k-1) T/\(o=false->1<=k)/\aa (·∈b) w c/\∀j∈a,j∈b\/w.heap.size<=j
theorem zz{z:List Nat}(n:Int)(w:ab)(h:sN N w d z n k T)(F:N<=10000000000)(H:cM w):ba prog 49 #[X (V ⟨d,0,Y⟩),Z U n] w (sR N d z n k T w):=by
 obtain⟨x,y,M,A,B,t,r,q,m,f,rfl,hk,G⟩:=h;have t0:w.cell? ⟨d,0,Y⟩=V (X (V ⟨x,0,Y⟩)):=ae q 0;have Q:QS (∀W,aa (·∈t++r) w W->W.cell? ⟨d,1,Y⟩=V (X (V ⟨y,0,Y⟩))):=λW hW=>hW.cell (p:=⟨d,1,Y⟩) (ae q 1) f;have v:=IZ q f m F H n;unfold oQ AN at v;have P:=E v;have b:QS (∀l,Hw N d (t++r) x y M (A.lr n) (B.lr n) w l->sR N d (t++r) n k T w (ay (bt #[O (B.fg n).1,ao ((B.fg n).2.1||decide ((B.fg n).2.2≠0)),ao true])) l):=λl o=>by
  obtain⟨i,g,C,S,d3,d4,d5⟩:=o;have hs:=m.kY.small m.x.ok n;refine⟨_,_,i++g,rfl,hs.2,⟨x,y,M,_,_,i,g,C,S,d3,rfl,?_,G⟩,λho=>?_,d4,d5⟩
  ·have:=(B.zp n).1;omega
  ·have D:(B.fg n).2.1=false/\(B.fg n).2.2=0:=by simpa using ho
   have:=(B.zp n).2 D.1 D.2;omega
 have u:=E (λW=>eP (B.fg n).2.2 W);generalize (B.fg n).1=s at*;generalize (B.fg n).2.1=a at*;generalize (B.fg n).2.2=c at*;clear q m f v F H hk G;cases a;all_goals
  go_enter func49,ntmps49;go_wp2_with(first
   |(go_at_call 114;go_must(refine(P.o).mono ?_;rintro e w1 ⟨rfl,L,K⟩;have R:=E K;have C:=Q.o _ L;clear K))
   |(go_at_call 115;go_must(refine(R.o _ (aa.refl _ _)).mono ?_;rintro e l ⟨rfl,k3,o⟩;have j:=E o;clear o k3 L))
   |(go_at_call 20;go_must(refine(u.o _).mono ?_;rintro e l ⟨rfl,rfl⟩)))
  go_ret3
 ·have e:(c !=0)=(false||decide (c≠0)):=by by_cases h:c=0<;>simp[h]
  have:=b.o _ j.o;rw[<-e]at this;exact this
 ·exact b.o _ j.o
structure OZ(pb xb yb bx:Nat)(n mm:Int)(key val:ByteArray)(W:ab):Prop where
 x:W.cell? ⟨pb,0,Y⟩=V (X (V ⟨xb,0,Y⟩))
 y:W.cell? ⟨pb,1,Y⟩=V (X (V ⟨yb,0,Y⟩))
 n:W.cell? ⟨bx,1,Y⟩=V (Z U n)
 m:W.cell? ⟨bx,2,Y⟩=V (Z U mm)
 key:W.cell? ⟨bx,3,Y⟩=V (O key)
 val:W.cell? ⟨bx,4,Y⟩=V (O val)
theorem jU{a l:Nat}{r:Np}{e:List Nat}{W:ab}{k n q:Int}{b c:ByteArray}{u v x y z g:ax}(p:w.heap[a]?=V (I (cc i l r) 42 (0,0)))(s:a∉e)(f:∀j∈e,j<w.heap.size)(o:aa (·∈e) (w.alloc (I #[Z U k,Z U n,Z U q,O b,O c,u,v,x,y,z,g] 30)) W):OZ a i l w.heap.size n q b c W:=by
 have t:=(lg p);have m:W.heap[a]?=V (I (cc i l r) 42 (0,0)):=by rw[o.block a (by simp;omega) s,(aa.alloc n_ w _).block a t id];exact p
 have d:=bO o (λh=>by have:=f _ h;omega);exact⟨ae m 0,ae m 1,ae d 1,ae d 2,ae d 3,ae d 4⟩
theorem DS{o:Nat}{p:List Nat}(n v:Int)(b c:ByteArray)(x y z C D d:ax)(w:ab)(h:iB N K w i o p G)(s:N<=10000000000):ba prog 12 #[X (V ⟨i,0,Y⟩),X (V ⟨o,0,Y⟩),.agg #[Z U 1,Z U n,Z U v,O b,O c,x,y,z,C,D,d]] w λe S=>e=ay (ao true)/\bN (N+1000) K i o p G w S:=by
 have M:=E h;obtain⟨xb,yb,tx,A,B,H,F,g,r,a,rfl⟩:=id h.oK;have l:=E h.oK.lt;have L:=E (λW (f:aa n_ w W)=>vZ ((f.block i (lg g) (λh=>h)).trans g) a (r.ai f k_) s);have q:=E (λW (f:aa (·∈H++F) (w.alloc (I #[Z U 1,Z U n,Z U v,O b,O c,x,y,z,C,D,d] 30)) W)=>jU g a (λj Q=>l.o j (ef _ Q)) f);obtain⟨c0,c1,-,-,-,-⟩:=q.o _ (aa.refl _ _);have m:=E (λW=>eP A.dQ.2 W);generalize A.dQ.1=r1 at*;generalize A.dQ.2=r2 at*;clear h g r a s;go_enter func12,ntmps12;go_wp2_with(first
  |(go_at_call 18;go_must(refine(L.o _ ((aa.refl _ _).al _)).mono ?_;rintro e w1 ⟨rfl,R,u⟩;have P:=E u;obtain⟨d0,d1,-,-,-,-⟩:=q.o _ R;clear u))
  |(go_at_call 19;go_must(refine(P.o _ (aa.refl _ _)).mono ?_;rintro e T ⟨rfl,k3,t⟩;have k:=E t;clear t))
  |(go_at_call 20;go_must(refine(m.o _).mono ?_;rintro e T ⟨rfl,rfl⟩)))
 go_ret;refine⟨rfl,?_⟩;exact((M.o.ai ((aa.refl _ _).al _)).gD k.o).pre ((aa.refl _ _).al _)
theorem oO.nowAt{A:aZ}(h:oO N w b A F):w.cell? ⟨b,1,Y⟩=V (Z U A.now):=by obtain⟨R,a,rfl,rfl,rfl⟩:=h;exact a.at_.cell 1
theorem uV.t{b:List Nat}(h:uV N w c b)(n:Int):∃T,sN N w c b n 300 T:=by obtain⟨k,l,j,A,B,e,d,f,a,g,i⟩:=h;exact⟨_,k,l,j,A,B,e,d,f,a,g,i,(a.kY.small a.x.ok n).1,eb _⟩
theorem sN.ai{a:Nat}{b:List Nat}{n:Int}{S:Nat->Prop}(h:sN N w a b n k T)(e:aa S w f)(d:∀j∈a::b,¬S j):sN N f a b n k T:=by obtain⟨r,s,q,A,B,i,g,c,l,m,rfl,o⟩:=h;exact⟨r,s,q,A,B,i,g,(e.block _ (lg c) (d a (by simp))).trans c,l.ai e (λj p=>d j (ef _ p)),m,rfl,o⟩
theorem sN.text{a:Nat}{f:List Nat}{n:Int}(h:sN N w a f n k T):∃c,c.size<=T/\w.cell? ⟨a,2,Y⟩=V (O c)/\w.frozen? ⟨a,2,Y⟩=false/\∀(s:ByteArray) (b:Nat),s.size<=b->b<=1000000000->sN N (w.setCell ⟨a,2,Y⟩ (O s)) a f n k b:=by obtain⟨u,v,c,A,B,m,l,d,p,g,rfl,q,r⟩:=h;refine⟨c.1,r,ae d 2,aj d 2,λs b t x=>⟨u,v,⟨s,by omega⟩,A,B,m,l,(ak d _).trans (by simp[cc]),p.ai (aa.setCell _ _ _) (λj i e=>?_),g,rfl,q,t⟩⟩;have o:j=a:=e;rw[o]at i;exact g i
def PU(N c:Nat)(b:List Nat)(n:Int)(w:ab)(i:ax)(wr:ab):Prop:=∃(j:Nat) (a:List Nat),i=Z U j/\j<=300/\sN (N+1000) wr c a n (300-j) (j*10000)/\aa (·∈c::b) w wr/\∀k∈a,k∈b\/w.heap.size<=k
theorem CS(k n mm:Int)(m p:ByteArray)(a:Bool)(x6 x7 x8 x9 r:ax)(w w0:ab)(h:uV N w b Fs)(hN:N<=9000000000)(hg:gK w0)(h0:aa n_ w0 w)(G:∀j∈b::Fs,w0.heap.size<=j):ba prog 54 #[X (V ⟨b,0,Y⟩),.agg #[Z U k,Z U n,Z U mm,O m,O p,ao a,x6,x7,x8,x9,r]] w λe w'=>e=ay (ao true)/\fo (N+1000) b Fs w w':=by
 have c6:=E h;obtain⟨xb,yb,tx,A,B,x,u,hp,z,R,rfl⟩:=h;obtain⟨H,l⟩:∃H,H=w.alloc (I #[Z U k,Z U n,Z U mm,O m,O p,ao a,x6,x7,x8,x9,r] 30):=⟨_,rfl⟩
 have k1:aa n_ w H:=by rw[l];exact aa.alloc _ _ _
 have f:=(k1.block b (lg hp) (λh=>h)).trans hp;have c:H.heap[w.heap.size]?=V (I #[Z U k,Z U n,Z U mm,O m,O p,ao a,x6,x7,x8,x9,r] 30 (0,0)):=by rw[l];exact az w _
 have b5:=z.x.lt;have F:=z.y.lt;have a1:QS (∀W,aa (·∈x++u) H W->W.heap[b]?=V (I (cc xb yb tx) 42 (0,0))/\W.heap[w.heap.size]?=V (I #[Z U k,Z U n,Z U mm,O m,O p,ao a,x6,x7,x8,x9,r] 30 (0,0))):=λW P=>⟨(P.block b (lg f) R).trans f,(P.block _ (lg c) (λe=>by
  rcases cQ.1 e with e|e
  ·have:=b5 _ e;omega
  ·have:=F _ e;omega)).trans c⟩
 have c0:=ae f 0;have c1:=ae f 1;have o1:=ae c 1;have o2:=ae c 2;have o4:=ae c 4;have o5:=ae c 5;have y1:=k1.cell z.y.nowAt (λh=>h);simp[cc]at c0 c1 o1 o2 o4 o5;have S:=E (z.ai k1 k_);have M:=E f;have b8:=E R;have HN:=E hN;have HG:=E hg;have a9:=E G;have b7:=E h0;have a6:=E k1;have b9:=E l;rw[l]at c0 c1 o1 o2 o4 o5 y1;clear hp z R hN hg h0 G k1 f c b5 F l;go_enter func54,ntmps54;go_upto_if 18 with fail;go_cut [5] (λv wc=>(∃t:Int,v=Z U t)/\wc=w.alloc (I #[Z U k,Z U n,Z U mm,O m,O p,ao a,x6,x7,x8,x9,r] 30))
 case first=>
  go_wp2_with fail;all_goals
   go_meet;exact⟨⟨_,rfl⟩,rfl⟩
 case rest=>
  obtain⟨⟨t,rfl⟩,D⟩:=hcut;rw[<-b9.o]at D c0 c1 o1 o5;replace D:=D.symm;subst D;have HD:=E (λW (P:aa n_ H W)=>we ((P.block b (lg M.o) (λh=>h)).trans M.o) b8.o (S.o.ai P k_) (by have:=HN.o;omega) a n t);unfold iD oQ at HD;have K:=E (λW=>eP (A.eH a n t).2 W);generalize (A.eH a n t).1=r1 at*;generalize (A.eH a n t).2=r2 at*;have HS:QS (∀W,aa (·∈x++u) H W->W.cell? ⟨b,1,Y⟩=V (X (V ⟨yb,0,Y⟩))/\W.cell? ⟨w.heap.size,5,Y⟩=V (ao a)/\W.cell? ⟨w.heap.size,1,Y⟩=V (Z U n)/\W.cell? ⟨b,0,Y⟩=V (X (V ⟨xb,0,Y⟩))/\W.cell? ⟨b,2,Y⟩=V (O tx.1)/\W.frozen? ⟨b,2,Y⟩=false):=λW P=>by obtain⟨b1,b2⟩:=a1.o W P;exact⟨ae b1 1,ae b2 5,ae b2 1,ae b1 0,ae b1 2,aj b1 2⟩
  clear o2 o4 y1 a1;go_wp2_with fail;go_region_held3(λW=>W.cell? ⟨b,0,Y⟩=V (X (V ⟨xb,0,Y⟩))/\W.cell? ⟨w.heap.size,5,Y⟩=V (ao a)/\W.cell? ⟨w.heap.size,1,Y⟩=V (Z U n)) (go_keep) (first|(go_at_call 47;refine(HD.o _ (aa.drew _ _)).mono ?_;rintro e w2 ⟨rfl,k2,hy⟩;have HY:=E hy;have a7:=E ((aa.drew (·∈x++u) _).tr k2 i_);obtain⟨d0,d1,d2,d3,d4,d5⟩:=HS.o _ a7.o;clear hy k2));clear c0 c1 o1 o5;go_wp2_with fail;go_region_held3(λW=>W.cell? ⟨b,1,Y⟩=V (X (V ⟨yb,0,Y⟩))/\W.cell? ⟨w.heap.size,5,Y⟩=V (ao a)/\W.cell? ⟨w.heap.size,1,Y⟩=V (Z U n)) (go_keep) (first|(go_at_call 48;refine(HY.o _ (aa.drew _ _)).mono ?_;rintro e w3 ⟨rfl,k3,hd⟩;have a2:=E hd;obtain⟨e0,e1,e2,e3,e4,e5⟩:=HS.o _ ((aa.drew (·∈x++u) _).tr k3 i_);clear hd k3));clear d0 d1 d2 d3 d4 d5 e0 e1 e2 e3;have a0:QS (fo (N+1000) b (x++u) w w3):=by obtain⟨y,d1,d2,d3⟩:=a2.o;have hz:=a6.o.size;have kk:aa n_ w H.drew:=a6.o.dr;exact⟨y,d1,(kk.mono (T:=(·∈b::(x++u))) (λ_ _ h=>h.elim)).tr d2 i_,λj hj=>(d3 j hj).imp id (λh=>mA hz h)⟩
  clear a2 HS HD HY a7 S M;by_cases C:r2=0
  ·subst C;go_wp2_with(go_at_call 20;go_must(refine(K.o _).mono ?_;rintro e w3 ⟨rfl,rfl⟩))
   have a4:QS (PU N b (x++u) r1 w (Z U 0) (w3.setCell ⟨b,2,Y⟩ (O ⟨#[]⟩))):=by obtain⟨y,d1,d2,d3⟩:=a0.o;obtain⟨T,dt⟩:=d1.t r1;obtain⟨_,-,-,-,hx⟩:=dt.text;exact⟨0,y,rfl,eL _,hx ⟨#[]⟩ 0 (eb _) (by omega),d2.tr (aa.setCell _ _ _) (λj e=>by rw[show j=b from e];simp),d3⟩
   clear e4 e5 K;generalize w3.setCell ⟨b,2,Y⟩ (O ⟨#[]⟩)=w4 at*;go_loopw [10] (λi wr=>PU N b (x++u) r1 w i wr) (λi _=>300-(intOf i).toNat)
   case atStart=>exact a4.o
   case round=>
    obtain⟨j,y,rfl,hj,g,Q,b3⟩:=hrel;have c7:(j:Int)<=300:=by omega
    have L:=E (zz r1 wr g (by have:=HN.o;omega) ((HG.o.ai (b7.o.trans Q (λi hi e=>by have:=a9.o i e;omega))).turns));unfold sR at L;have a8:=E Q;have a3:=E b3;have HJ:=E hj;clear g Q b3 hj a4;go_wp2_with fail;refine L.o.mono ?_;rintro e w5 ⟨s,o,b6,rfl,hs,g,ho,b4,b0⟩;obtain⟨t5,c2,q5,f5,hx⟩:=g.text;have c3:∀W,(Op.stringOp .add t5 s).run prog W=.ok (O (t5++s)) W:=λW=>run_string_add_sum W _ _ (by have:=HJ.o;omega);have a5:QS (∃d,sN (N+1000) (w5.setCell ⟨b,2,Y⟩ (O (t5++s))) b d r1 (300-j-1) ((j+1)*10000)/\aa (·∈b::(x++u)) w (w5.setCell ⟨b,2,Y⟩ (O (t5++s)))/\∀q∈d,q∈x++u\/w.heap.size<=q):=by
     have hz:=a8.o.size;have hj:=HJ.o;refine⟨b6,hx (t5++s) ((j+1)*10000) (by rw[nW];omega) (by omega),(a8.o.trans b4 (λq hq e=>?_)).tr (aa.setCell _ _ _) (λq e=>by rw[show q=b from e];simp),λq hq=>?_⟩
     ·rcases a3.o q e with h|h
      ·exact ef _ h
      ·omega
     ·rcases b0 q hq with h|h
      ·exact a3.o q h
      ·exact .inr (by omega)
    have HO:=E ho;clear hs g ho b4 b0 hx c2 L;cases o with
    |true=>
     go_wp2;go_ret;obtain⟨d,h1,z,h3⟩:=a5.o;exact⟨rfl,d,h1.oK,z,h3⟩
    |false=>
     go_wp2;have h0:=HO.o trivial;obtain⟨d,h1,z,h3⟩:=a5.o;exact⟨⟨j+1,d,by go_num,by omega,by rw[show 300-(j+1)=300-j-1 by omega];exact h1,z,h3⟩,by simp only[intOf];omega⟩
  ·have c4:(r2==0)=false:=by simp[C]
   have c5:decide (r2=0)=false:=kg C;clear C;go_wp2_with(go_at_call 20;go_must(refine(K.o _).mono ?_;rintro e w4 ⟨rfl,rfl⟩))
   go_ret;exact⟨rfl,a0.o⟩
theorem wU:∀(a:List (ByteArray×ByteArray)) (j r:Nat) (b:j<a.length),r<2->(a.flatMap df)[j*2+r]?=(df a[j])[r]?
 |[],j,r,b,_=>by simp at b
 |p::a,0,r,_,hr=>by
  have:r<(df p).length:=by simp[df];omega
  simp[Rb this]
 |p::a,j+1,r,b,hr=>by
  have ih:=wU a j r (by simpa using b) hr;have e:(j+1)*2+r=(df p).length+(j*2+r):=by simp[df];omega
  rw[Rh,e,Rl (by omega),Nat.add_sub_cancel_left,ih];simp
theorem Row.pair{g:Nat}{a:List (ByteArray×ByteArray)}(h:Row w 68 2 (J (V ⟨g,0,Y⟩) a.length b) a.length (a.flatMap df))(j:Nat)(c:j<a.length):w.cell? ⟨g,j*2,Y⟩=V (O a[j].1)/\w.cell? ⟨g,j*2+1,Y⟩=V (O a[j].2):=by have e:=h.cellAt (j*2) (by omega);have f:=h.cellAt (j*2+1) (by omega);have d:=wU a j 0 c (by omega);have i:=wU a j 1 c (by omega);rw[Tw]at d;exact⟨by rw[e,d];rfl,by rw[f,i];rfl⟩
theorem zB{z bb:Nat}(n:Int)(a:ByteArray)(b:Int)(w:ab)(h:iB N K w z bb Fs G)(hN:N<=10000000000)(hK:K<=10000000000)(hs:a.size<=maxLen)(H:-9223372036854775808<=b/\b<=9223372036854775807):ba prog 21 #[X (V ⟨z,0,Y⟩),X (V ⟨bb,0,Y⟩),Z U n,O a,Z U b] w λe w'=>e=ay (ao true)/\bN N (K+1) z bb Fs G w w':=by
 have HH:=E h;obtain⟨xb,yb,tx,A,B,FG,FF,hp,h2,a5,rfl⟩:=id h.oK;obtain⟨hD,r⟩:=Ja h2 hN n a b hs H;have HD:=E hD;have HB:=E h.book;have S:=E h.book.lt;generalize (A.gi n a b).1=ps at*;generalize (A.gi n a b).2=c at*;have t0:w.cell? ⟨z,0,Y⟩=V (X (V ⟨xb,0,Y⟩)):=ae hp 0;have t1:w.cell? ⟨z,1,Y⟩=V (X (V ⟨yb,0,Y⟩)):=ae hp 1;have a6:(ps.length:Int)<=20000000000:=by omega
 have HL:QS (ps.length<=20000000000):=by show _<=_;omega
 have a2:=E (λW=>eP c W);have Q:=E hK;clear h hp h2 a5 hD r H hN hK;go_enter func21,ntmps21;go_wp2_with fail;refine(HD.o).mono ?_;rintro e w1 ⟨v,rfl,r1,o1,k1,hy⟩;obtain⟨ov,cv,rfl,a4,sv⟩:=r1.form;have u1:=k1.cell t1 (λh=>h);have HY:=E hy;have q:=E r1;have l:=E o1;have M:=E k1;have SV:=E sv;clear r1 o1 k1 hy sv;go_wp2_with fail;refine(HY.o _ (aa.refl _ _)).mono ?_;rintro e w3 ⟨u,rfl,r3,k3⟩;obtain⟨ou,cu,rfl,a3,su⟩:=r3.form;have m:=E r3;have P:=E (M.o.tr k3 i_);have f:=E (q.o.ai k3 k_);have SU:=E su;unfold maxLen at a4 a3;clear r3 k3 su HY q;go_wp2_with(go_at_call 20;go_must(refine(a2.o _).mono ?_;rintro e w3 ⟨rfl,rfl⟩))
 go_loopw [15,16] (λs i wr=>∃k:Nat,k<=ps.length/\s=ao true/\i=Z U k/\aa n_ w3 wr) (λ_ i _=>ps.length-(intOf i).toNat)
 case atStart=>exact⟨0,eL _,rfl,rfl,aa.refl _ _⟩
 case round=>
  obtain⟨k,hk,rfl,rfl,d⟩:=hrel;by_cases t:k<ps.length
  ·obtain⟨ga,rfl⟩:=SV.o (by omega);obtain⟨gb,rfl⟩:=SU.o (by omega);obtain⟨a0,a1⟩:=(f.o.ai d k_).pair k t;obtain⟨b0,b1⟩:=(m.o.ai d k_).pair k t;generalize ps[k].1=x at a0 b0;generalize ps[k].2=y at a1 b1;have R:=E d;clear d SV SU f m;go_wp2_with fail;go_region;go_wp2;exact⟨⟨k+1,by omega,rfl,by go_num,R.o.dr⟩,by simp only[intOf];omega⟩
  ·have o:aa n_ w wr:=P.o.tr d i_;have j:=E (PY (J ov ps.length cv) ps.length _ wr (HB.o.ai o k_) (f.o.ai d k_) (λg hg H=>by have l1:=l.o g hg;have l2:=S.o g H;omega) HL.o Q.o)
   have p:=E o;clear d o HB f m;go_wp2_with fail;refine(j.o).mono ?_;rintro e w5 ⟨rfl,G',C,D,F⟩;have L:=E (And.intro C (And.intro D F));clear C D F j;go_wp2;go_ret;obtain⟨C,D,F⟩:=L.o;have hz:=p.o.size;refine⟨rfl,HH.o.yS ⟨G',C,(p.o.mono (T:=(·∈G)) (λ_ _ h=>h.elim)).trans D (λi hi hh=>hh.elim id (λe=>by have:=l.o i e;omega)),λk hk=>?_⟩⟩;rcases F k hk with h|h|h
   ·exact .inl h
   ·exact .inr (l.o k h)
   ·exact .inr (by omega)
theorem KL{t:List Nat}(n F:Int)(a d:ByteArray)(H L M P Q f:ax)(w:ab)(h:iB N K w b s t G)(v:N<=10000000000)(y:a.size<=maxLen):ba prog 12 #[X (V ⟨b,0,Y⟩),X (V ⟨s,0,Y⟩),.agg #[Z U 2,Z U n,Z U F,O a,O d,H,L,M,P,Q,f]] w λe w'=>e=ay (ao true)/\bN (N+1000) K b s t G w w':=by
 have HH:=E h;obtain⟨R,S,tx,A,B,l,k,i,u,c,rfl⟩:=id h.oK;have p:=E h.oK.lt;have T:=E (λW (g:aa n_ w W)=>LG ((g.block b (lg i) (λh=>h)).trans i) c (u.ai g k_) v n a y);have r:=E (λW (g:aa (·∈l++k) (w.alloc (I #[Z U 2,Z U n,Z U F,O a,O d,H,L,M,P,Q,f] 30)) W)=>jU i c (λj hj=>p.o j (ef _ hj)) g);obtain⟨c0,c1,c2,c3,c4,c5⟩:=r.o _ (aa.refl _ _);have q:=E (λW=>eP (A.kO n a).2 W);generalize (A.kO n a).1=r1 at*;generalize (A.kO n a).2=r2 at*;clear y;clear h i u c v;go_enter func12,ntmps12;go_wp2_with fail;go_region_held3(λW=>W.cell? ⟨b,0,Y⟩=V (X (V ⟨R,0,Y⟩))/\W.cell? ⟨b,1,Y⟩=V (X (V ⟨S,0,Y⟩))/\W.cell? ⟨w.heap.size,1,Y⟩=V (Z U n)/\W.cell? ⟨w.heap.size,3,Y⟩=V (O a)) (go_keep) (first|(go_at_call 24;refine(T.o _ ((aa.refl _ _).al _).dr).mono ?_;rintro e w1 ⟨rfl,C,z⟩;have HY:=E z;have o:=E ((aa.drew (·∈l++k) _).tr C i_);obtain⟨d0,d1,d2,d3,d4,d5⟩:=r.o _ o.o;clear z C));clear c0 c1 c2 c3 c4 c5;go_wp2_with fail;go_region_held3(λW=>W.cell? ⟨b,0,Y⟩=V (X (V ⟨R,0,Y⟩))/\W.cell? ⟨b,1,Y⟩=V (X (V ⟨S,0,Y⟩))/\W.cell? ⟨w.heap.size,1,Y⟩=V (Z U n)/\W.cell? ⟨w.heap.size,3,Y⟩=V (O a)) (go_keep) (first|(go_at_call 25;refine(HY.o _ (aa.drew _ _)).mono ?_;rintro e w3 ⟨rfl,D,x⟩;have m:=E x;obtain⟨e0,e1,e2,e3,e4,e5⟩:=r.o _ ((aa.drew (·∈l++k) _).tr D i_);clear x D));go_wp2_with(go_at_call 20;go_must(refine(q.o _).mono ?_;rintro e w3 ⟨rfl,rfl⟩))
 go_ret;refine⟨rfl,?_⟩;exact((HH.o.ai ((aa.refl _ _).al _).dr).gD m.o).pre ((aa.refl _ _).al _).dr
theorem Bm{a:Nat}{t:List Nat}(n D:Int)(c d:ByteArray)(F H L M P f:ax)(w:ab)(h:iB N K w a s t G)(v:N<=10000000000):ba prog 12 #[X (V ⟨a,0,Y⟩),X (V ⟨s,0,Y⟩),.agg #[Z U 6,Z U n,Z U D,O c,O d,F,H,L,M,P,f]] w λe w'=>e=ay (ao true)/\bN (N+1000) K a s t G w w':=by
 have T:=E h;obtain⟨Q,R,tx,A,B,l,k,i,u,b,rfl⟩:=id h.oK;have p:=E h.oK.lt;have S:=E (λW (g:aa n_ w W)=>Cf ((g.block a (lg i) (λh=>h)).trans i) b (u.ai g k_) v n);have r:=E (λW (g:aa (·∈l++k) (w.alloc (I #[Z U 6,Z U n,Z U D,O c,O d,F,H,L,M,P,f] 30)) W)=>jU i b (λj hj=>p.o j (ef _ hj)) g);obtain⟨c0,c1,c2,c3,c4,c5⟩:=r.o _ (aa.refl _ _);have q:=E (λW=>eP (A.bZ n).2 W);generalize (A.bZ n).1=r1 at*;generalize (A.bZ n).2=r2 at*;clear h i u b v;go_enter func12,ntmps12;go_wp2_with fail;go_region_held3(λW=>W.cell? ⟨a,0,Y⟩=V (X (V ⟨Q,0,Y⟩))/\W.cell? ⟨a,1,Y⟩=V (X (V ⟨R,0,Y⟩))/\W.cell? ⟨w.heap.size,1,Y⟩=V (Z U n)) (go_keep) (first|(go_at_call 29;refine(S.o _ ((aa.refl _ _).al _).dr).mono ?_;rintro e w1 ⟨rfl,z,y⟩;have HY:=E y;have o:=E ((aa.drew (·∈l++k) _).tr z i_);obtain⟨d0,d1,d2,d3,d4,d5⟩:=r.o _ o.o;clear y z));clear c0 c1 c2 c3 c4 c5;go_wp2_with fail;go_region_held3(λW=>W.cell? ⟨a,0,Y⟩=V (X (V ⟨Q,0,Y⟩))/\W.cell? ⟨a,1,Y⟩=V (X (V ⟨R,0,Y⟩))/\W.cell? ⟨w.heap.size,1,Y⟩=V (Z U n)) (go_keep) (first|(go_at_call 30;refine(HY.o _ (aa.drew _ _)).mono ?_;rintro e w3 ⟨rfl,C,x⟩;have m:=E x;obtain⟨e0,e1,e2,e3,e4,e5⟩:=r.o _ ((aa.drew (·∈l++k) _).tr C i_);clear x C));go_wp2_with(go_at_call 20;go_must(refine(q.o _).mono ?_;rintro e w3 ⟨rfl,rfl⟩))
 go_ret;refine⟨rfl,?_⟩;exact((T.o.ai ((aa.refl _ _).al _).dr).gD m.o).pre ((aa.refl _ _).al _).dr
theorem KM{t:List Nat}(n H:Int)(a b:ByteArray)(L M P Q R f:ax)(w:ab)(h:iB N K w d s t G)(v:N<=10000000000)(y:a.size<=maxLen)(z:b.size<=maxLen):ba prog 12 #[X (V ⟨d,0,Y⟩),X (V ⟨s,0,Y⟩),.agg #[Z U 3,Z U n,Z U H,O a,O b,L,M,P,Q,R,f]] w λe w'=>e=ay (ao true)/\bN (N+1000) K d s t G w w':=by
 have HH:=E h;obtain⟨xb,S,tx,A,B,l,k,i,u,c,rfl⟩:=id h.oK;have p:=E h.oK.lt;have T:=E (λW (g:aa n_ w W)=>LI ((g.block d (lg i) (λh=>h)).trans i) c (u.ai g k_) v n a b y z);have r:=E (λW (g:aa (·∈l++k) (w.alloc (I #[Z U 3,Z U n,Z U H,O a,O b,L,M,P,Q,R,f] 30)) W)=>jU i c (λj hj=>p.o j (ef _ hj)) g);obtain⟨c0,c1,c2,c3,c4,c5⟩:=r.o _ (aa.refl _ _);have q:=E (λW=>eP (A.cz n a b) W);generalize A.cz n a b=r1 at*;clear y z;clear h i u c v;go_enter func12,ntmps12;go_wp2_with fail;go_region_held3(λW=>W.cell? ⟨d,0,Y⟩=V (X (V ⟨xb,0,Y⟩))/\W.cell? ⟨d,1,Y⟩=V (X (V ⟨S,0,Y⟩))/\W.cell? ⟨w.heap.size,1,Y⟩=V (Z U n)/\W.cell? ⟨w.heap.size,3,Y⟩=V (O a)/\W.cell? ⟨w.heap.size,4,Y⟩=V (O b)) (go_keep) (first|(go_at_call 26;refine(T.o _ ((aa.refl _ _).al _).dr).mono ?_;rintro e w1 ⟨rfl,D,C⟩;have HY:=E C;have o:=E ((aa.drew (·∈l++k) _).tr D i_);obtain⟨d0,d1,d2,d3,d4,d5⟩:=r.o _ o.o;clear C D));clear c0 c1 c2 c3 c4 c5;go_wp2_with fail;go_region_held3(λW=>W.cell? ⟨d,1,Y⟩=V (X (V ⟨S,0,Y⟩))/\W.cell? ⟨w.heap.size,1,Y⟩=V (Z U n)/\W.cell? ⟨w.heap.size,3,Y⟩=V (O a)/\W.cell? ⟨w.heap.size,4,Y⟩=V (O b)) (go_keep) (first
  |(go_at_call 20;refine(q.o _).mono ?_;rintro e w2 ⟨rfl,rfl⟩)
  |(go_at_call 27;refine(HY.o _ (aa.drew _ _)).mono ?_;rintro e w3 ⟨rfl,F,x⟩;have m:=E x;obtain⟨e0,e1,e2,e3,e4,e5⟩:=r.o _ ((aa.drew (·∈l++k) _).tr F i_);clear x F))
 go_wp2;go_ret;refine⟨rfl,?_⟩;exact((HH.o.ai ((aa.refl _ _).al _).dr).gD m.o).pre ((aa.refl _ _).al _).dr
theorem Bn{t:List Nat}(n F:Int)(a d:ByteArray)(H L M P Q f:ax)(w:ab)(h:iB N K w c s t G)(v:N<=10000000000)(y:a.size<=maxLen):ba prog 12 #[X (V ⟨c,0,Y⟩),X (V ⟨s,0,Y⟩),.agg #[Z U 4,Z U n,Z U F,O a,O d,H,L,M,P,Q,f]] w λe w'=>e=ay (ao true)/\bN (N+1000) K c s t G w w':=by
 have T:=E h;obtain⟨xb,R,tx,A,B,l,k,i,u,b,rfl⟩:=id h.oK;have p:=E h.oK.lt;have S:=E (λW (g:aa n_ w W)=>Cg ((g.block c (lg i) (λh=>h)).trans i) b (u.ai g k_) v n a y);have r:=E (λW (g:aa (·∈l++k) (w.alloc (I #[Z U 4,Z U n,Z U F,O a,O d,H,L,M,P,Q,f] 30)) W)=>jU i b (λj hj=>p.o j (ef _ hj)) g);obtain⟨c0,c1,c2,c3,c4,c5⟩:=r.o _ (aa.refl _ _);have q:=E (λW=>eP (A.cz n a ByteArray.empty) W);generalize A.cz n a ByteArray.empty=r1 at*;clear y;clear h i u b v;go_enter func12,ntmps12;go_wp2_with fail;go_region_held3(λW=>W.cell? ⟨c,0,Y⟩=V (X (V ⟨xb,0,Y⟩))/\W.cell? ⟨c,1,Y⟩=V (X (V ⟨R,0,Y⟩))/\W.cell? ⟨w.heap.size,1,Y⟩=V (Z U n)/\W.cell? ⟨w.heap.size,3,Y⟩=V (O a)) (go_keep) (first|(go_at_call 28;refine(S.o _ ((aa.refl _ _).al _).dr).mono ?_;rintro e w1 ⟨rfl,C,z⟩;have HY:=E z;have o:=E ((aa.drew (·∈l++k) _).tr C i_);obtain⟨d0,d1,d2,d3,d4,d5⟩:=r.o _ o.o;clear z C));clear c0 c1 c2 c3 c4 c5;go_wp2_with fail;go_region_held3(λW=>W.cell? ⟨c,1,Y⟩=V (X (V ⟨R,0,Y⟩))/\W.cell? ⟨w.heap.size,1,Y⟩=V (Z U n)/\W.cell? ⟨w.heap.size,3,Y⟩=V (O a)) (go_keep) (first
  |(go_at_call 20;refine(q.o _).mono ?_;rintro e w2 ⟨rfl,rfl⟩)
  |(go_at_call 27;refine(HY.o _ (aa.drew _ _)).mono ?_;rintro e w3 ⟨rfl,D,x⟩;have m:=E x;obtain⟨e0,e1,e2,e3,e4,e5⟩:=r.o _ ((aa.drew (·∈l++k) _).tr D i_);clear x D))
 go_wp2;go_ret;refine⟨rfl,?_⟩;exact((T.o.ai ((aa.refl _ _).al _).dr).gD m.o).pre ((aa.refl _ _).al _).dr
theorem DR{t:List Nat}(n D:Int)(c d:ByteArray)(F H L M P f:ax)(w:ab)(h:iB N K w b s t G)(v:N<=10000000000):ba prog 12 #[X (V ⟨b,0,Y⟩),X (V ⟨s,0,Y⟩),.agg #[Z U 7,Z U n,Z U D,O c,O d,F,H,L,M,P,f]] w λe w'=>e=ay (ao true)/\bN (N+1000) K b s t G w w':=by
 have S:=E h;obtain⟨xb,Q,tx,A,B,l,k,i,u,a,rfl⟩:=id h.oK;have p:=E h.oK.lt;have R:=E (λW (g:aa n_ w W)=>EL ((g.block b (lg i) (λh=>h)).trans i) a (u.ai g k_) v n);have r:=E (λW (g:aa (·∈l++k) (w.alloc (I #[Z U 7,Z U n,Z U D,O c,O d,F,H,L,M,P,f] 30)) W)=>jU i a (λj hj=>p.o j (ef _ hj)) g);obtain⟨c0,c1,c2,c3,c4,c5⟩:=r.o _ (aa.refl _ _);have q:=E (λW=>eP (A.gN n) W);generalize A.gN n=r1 at*;clear h i u a v;go_enter func12,ntmps12;go_wp2_with fail;go_region_held3(λW=>W.cell? ⟨b,0,Y⟩=V (X (V ⟨xb,0,Y⟩))/\W.cell? ⟨b,1,Y⟩=V (X (V ⟨Q,0,Y⟩))/\W.cell? ⟨w.heap.size,1,Y⟩=V (Z U n)) (go_keep) (first|(go_at_call 31;refine(R.o _ ((aa.refl _ _).al _).dr).mono ?_;rintro e w1 ⟨rfl,z,y⟩;have T:=E y;have o:=E ((aa.drew (·∈l++k) _).tr z i_);obtain⟨d0,d1,d2,d3,d4,d5⟩:=r.o _ o.o;clear y z));clear c0 c1 c2 c3 c4 c5;go_wp2_with fail;go_region_held3(λW=>W.cell? ⟨b,1,Y⟩=V (X (V ⟨Q,0,Y⟩))/\W.cell? ⟨w.heap.size,1,Y⟩=V (Z U n)) (go_keep) (first
  |(go_at_call 20;refine(q.o _).mono ?_;rintro e w2 ⟨rfl,rfl⟩)
  |(go_at_call 32;refine(T.o _ (aa.drew _ _)).mono ?_;rintro e w3 ⟨rfl,C,x⟩;have m:=E x;obtain⟨e0,e1,e2,e3,e4,e5⟩:=r.o _ ((aa.drew (·∈l++k) _).tr C i_);clear x C))
 go_wp2;go_ret;refine⟨rfl,?_⟩;exact((S.o.ai ((aa.refl _ _).al _).dr).gD m.o).pre ((aa.refl _ _).al _).dr
theorem My{t:Nat}{s:List Nat}(n D:Int)(c d:ByteArray)(F H L M P f:ax)(w:ab)(h:iB N K w b t s G)(v:N<=10000000000):ba prog 13 #[X (V ⟨b,0,Y⟩),.agg #[Z U 9,Z U n,Z U D,O c,O d,F,H,L,M,P,f]] w λe w'=>e=ay (ao true)/\bN (N+1000) K b t s G w w':=by
 have S:=E h;obtain⟨xb,Q,tx,A,B,l,k,i,u,a,rfl⟩:=id h.oK;have p:=E h.oK.lt;have R:=E (λW (g:aa n_ w W)=>LH ((g.block b (lg i) (λh=>h)).trans i) a (u.ai g k_) v n);have r:=E (λW (g:aa (·∈l++k) (w.alloc (I #[Z U 9,Z U n,Z U D,O c,O d,F,H,L,M,P,f] 30)) W)=>jU i a (λj hj=>p.o j (ef _ hj)) g);obtain⟨c0,c1,c2,c3,c4,c5⟩:=r.o _ (aa.refl _ _);have q:=E (λW=>eP (A.oM n) W);generalize A.oM n=r1 at*;clear h i u a v;go_enter func13,ntmps13;go_wp2_with fail;go_region_held3(λW=>W.cell? ⟨b,0,Y⟩=V (X (V ⟨xb,0,Y⟩))/\W.cell? ⟨b,1,Y⟩=V (X (V ⟨Q,0,Y⟩))/\W.cell? ⟨w.heap.size,1,Y⟩=V (Z U n)) (go_keep) (first|(go_at_call 33;refine(R.o _ ((aa.refl _ _).al _).dr).mono ?_;rintro e w1 ⟨rfl,z,y⟩;have T:=E y;have o:=E ((aa.drew (·∈l++k) _).tr z i_);obtain⟨d0,d1,d2,d3,d4,d5⟩:=r.o _ o.o;clear y z));clear c0 c1 c2 c3 c4 c5;go_wp2_with fail;go_region_held3(λW=>W.cell? ⟨b,1,Y⟩=V (X (V ⟨Q,0,Y⟩))/\W.cell? ⟨w.heap.size,1,Y⟩=V (Z U n)) (go_keep) (first
  |(go_at_call 20;refine(q.o _).mono ?_;rintro e w2 ⟨rfl,rfl⟩)
  |(go_at_call 34;refine(T.o _ (aa.drew _ _)).mono ?_;rintro e w3 ⟨rfl,C,x⟩;have m:=E x;obtain⟨e0,e1,e2,e3,e4,e5⟩:=r.o _ ((aa.drew (·∈l++k) _).tr C i_);clear x C))
 go_wp2;go_ret;refine⟨rfl,?_⟩;exact((S.o.ai ((aa.refl _ _).al _).dr).gD m.o).pre ((aa.refl _ _).al _).dr
theorem FC{t:Nat}{s:List Nat}(n D:Int)(c d:ByteArray)(F H L M P f:ax)(w:ab)(h:iB N K w b t s G)(v:N<=10000000000):ba prog 13 #[X (V ⟨b,0,Y⟩),.agg #[Z U 10,Z U n,Z U D,O c,O d,F,H,L,M,P,f]] w λe w'=>e=ay (ao true)/\bN (N+1000) K b t s G w w':=by
 have S:=E h;obtain⟨xb,Q,tx,A,B,l,k,i,u,a,rfl⟩:=id h.oK;have p:=E h.oK.lt;have R:=E (λW (g:aa n_ w W)=>EO ((g.block b (lg i) (λh=>h)).trans i) a (u.ai g k_) v n);have r:=E (λW (g:aa (·∈l++k) (w.alloc (I #[Z U 10,Z U n,Z U D,O c,O d,F,H,L,M,P,f] 30)) W)=>jU i a (λj hj=>p.o j (ef _ hj)) g);obtain⟨c0,c1,c2,c3,c4,c5⟩:=r.o _ (aa.refl _ _);have q:=E (λW=>eP (A.mC n) W);generalize A.mC n=r1 at*;clear h i u a v;go_enter func13,ntmps13;go_wp2_with fail;go_region_held3(λW=>W.cell? ⟨b,0,Y⟩=V (X (V ⟨xb,0,Y⟩))/\W.cell? ⟨b,1,Y⟩=V (X (V ⟨Q,0,Y⟩))/\W.cell? ⟨w.heap.size,1,Y⟩=V (Z U n)) (go_keep) (first|(go_at_call 35;refine(R.o _ ((aa.refl _ _).al _).dr).mono ?_;rintro e w1 ⟨rfl,z,y⟩;have T:=E y;have o:=E ((aa.drew (·∈l++k) _).tr z i_);obtain⟨d0,d1,d2,d3,d4,d5⟩:=r.o _ o.o;clear y z));clear c0 c1 c2 c3 c4 c5;go_wp2_with fail;go_region_held3(λW=>W.cell? ⟨b,1,Y⟩=V (X (V ⟨Q,0,Y⟩))/\W.cell? ⟨w.heap.size,1,Y⟩=V (Z U n)) (go_keep) (first
  |(go_at_call 20;refine(q.o _).mono ?_;rintro e w2 ⟨rfl,rfl⟩)
  |(go_at_call 36;refine(T.o _ (aa.drew _ _)).mono ?_;rintro e w3 ⟨rfl,C,x⟩;have m:=E x;obtain⟨e0,e1,e2,e3,e4,e5⟩:=r.o _ ((aa.drew (·∈l++k) _).tr C i_);clear x C))
 go_wp2;go_ret;refine⟨rfl,?_⟩;exact((S.o.ai ((aa.refl _ _).al _).dr).gD m.o).pre ((aa.refl _ _).al _).dr
theorem FB(n C:Int)(c d:ByteArray)(D F H L M f:ax)(w:ab)(h:iB N K w b s r G)(u:N<=10000000000):ba prog 13 #[X (V ⟨b,0,Y⟩),.agg #[Z U 11,Z U n,Z U C,O c,O d,D,F,H,L,M,f]] w λe T=>e=ay (ao true)/\bN (N+1000) K b s r G w T:=by
 have Q:=E h;obtain⟨xb,yb,tx,A,B,l,k,i,t,a,rfl⟩:=id h.oK;have p:=E h.oK.lt;have P:=E (λW (g:aa n_ w W)=>EN ((g.block b (lg i) (λh=>h)).trans i) a (t.ai g k_) u);have q:=E (λW (g:aa (·∈l++k) (w.alloc (I #[Z U 11,Z U n,Z U C,O c,O d,D,F,H,L,M,f] 30)) W)=>jU i a (λj S=>p.o j (ef _ S)) g);obtain⟨c0,c1,c2,c3,c4,c5⟩:=q.o _ (aa.refl _ _);generalize A.mB=r1 at*;clear h i t a u;go_enter func13,ntmps13;go_wp2_with fail;go_region_held3(λW=>W.cell? ⟨b,0,Y⟩=V (X (V ⟨xb,0,Y⟩))/\W.cell? ⟨b,1,Y⟩=V (X (V ⟨yb,0,Y⟩))) (go_keep) (first
  |(go_at_call 37;refine(P.o _ ((aa.refl _ _).al _).dr).mono ?_;rintro e w1 ⟨rfl,y,x⟩;have R:=E x;have o:=E ((aa.drew (·∈l++k) _).tr y i_);obtain⟨d0,d1,d2,d3,d4,d5⟩:=q.o _ o.o;clear x y)
  |(go_at_call 38;refine(R.o _ (aa.refl _ _)).mono ?_;rintro e w3 ⟨rfl,z,v⟩;have m:=E v;obtain⟨e0,e1,e2,e3,e4,e5⟩:=q.o _ ((aa.drew (·∈l++k) _).tr z i_);clear v z))
 go_wp2;go_ret;refine⟨rfl,?_⟩;exact((Q.o.ai ((aa.refl _ _).al _).dr).gD m.o).pre ((aa.refl _ _).al _).dr
theorem JN{t:Nat}(n D:Int)(c d:ByteArray)(F H L M P f:ax)(w:ab)(h:iB N K w b t r G)(v:N<=10000000000):ba prog 13 #[X (V ⟨b,0,Y⟩),.agg #[Z U 12,Z U n,Z U D,O c,O d,F,H,L,M,P,f]] w λe T=>e=ay (ao true)/\bN (N+1000) K b t r G w T:=by
 have Q:=E h;obtain⟨xb,yb,tx,A,B,l,k,i,u,a,rfl⟩:=id h.oK;have p:=E h.oK.lt;have s:=E (λW (g:aa n_ w W)=>IY ((g.block b (lg i) (λh=>h)).trans i) a (u.ai g k_) v);have q:=E (λW (g:aa (·∈l++k) (w.alloc (I #[Z U 12,Z U n,Z U D,O c,O d,F,H,L,M,P,f] 30)) W)=>jU i a (λj S=>p.o j (ef _ S)) g);obtain⟨c0,c1,c2,c3,c4,c5⟩:=q.o _ (aa.refl _ _);unfold vi at s;generalize A.now=r1 at*;generalize A.aK=r2 at*;generalize (A.af.length:Int)=r3 at*;generalize A.cF=r4 at*;generalize (A.total:Int)=r5 at*;generalize (A.aA.length:Int)=r6 at*;clear h i u a v;go_enter func13,ntmps13;go_wp2_with fail;go_region_held3(λW=>W.cell? ⟨b,0,Y⟩=V (X (V ⟨xb,0,Y⟩))/\W.cell? ⟨b,1,Y⟩=V (X (V ⟨yb,0,Y⟩))) (go_keep) (first
  |(go_at_call 10;refine(s.o _ ((aa.refl _ _).al _).dr).mono ?_;rintro e w1 ⟨rfl,z,y⟩;have R:=E y;have o:=E ((aa.drew (·∈l++k) _).tr z i_);obtain⟨d0,d1,d2,d3,d4,d5⟩:=q.o _ o.o;clear y z)
  |(go_at_call 11;refine(R.o _ (aa.refl _ _)).mono ?_;rintro e w3 ⟨rfl,C,x⟩;have m:=E x;obtain⟨e0,e1,e2,e3,e4,e5⟩:=q.o _ ((aa.drew (·∈l++k) _).tr C i_);clear x C))
 go_wp2;go_ret;refine⟨rfl,?_⟩;exact((Q.o.ai ((aa.refl _ _).al _).dr).gD m.o).pre ((aa.refl _ _).al _).dr
theorem Gu{i:List Nat}(n b:Int)(a f:ByteArray)(t u v x y g:ax)(w:ab)(h:iB N K w d c i G)(k:N<=10000000000)(j:K<=10000000000)(m:a.size<=maxLen)(o:-9223372036854775808<=b/\b<=9223372036854775807):ba prog 12 #[X (V ⟨d,0,Y⟩),X (V ⟨c,0,Y⟩),.agg #[Z U 5,Z U n,Z U b,O a,O f,t,u,v,x,y,g]] w λe s=>e=ay (ao true)/\bN N (K+1) d c i G w s:=by
 have q:=E (λW (r:aa n_ w W)=>zB n a b W (h.ai r) k j m o);clear h k j m o;go_enter func12,ntmps12;go_wp2_with(go_at_call 21;go_must(refine(q.o _ ((aa.refl _ _).al _)).mono ?_;rintro e z ⟨rfl,l⟩;have p:=E l;clear l))
 go_ret;exact⟨rfl,p.o.pre ((aa.refl _ _).al _)⟩
def iE(N K c b:Nat)(a G:List Nat)(w:ab)(e:Ending)(d:ab):Prop:=e=ay (ao true)/\bN (N+1000) (K+1) c b a G w d
theorem KJ{r:Nat}{t:List Nat}(k n f:Int)(b c:ByteArray)(g i j l m d:ax)(w:ab)(h:iB N K w s r t G)(o:N<=10000000000)(u:K<=10000000000)(q:b.size<=maxLen)(y:c.size<=maxLen)(x:-9223372036854775808<=f/\f<=9223372036854775807)(z:1<=k)(A:k<=7):ba prog 12 #[X (V ⟨s,0,Y⟩),X (V ⟨r,0,Y⟩),.agg #[Z U k,Z U n,Z U f,O b,O c,g,i,j,l,m,d]] w (iE N K s r t G w):=by
 have v:k=1\/k=2\/k=3\/k=4\/k=5\/k=6\/k=7:=by omega
 rcases v with rfl|rfl|rfl|rfl|rfl|rfl|rfl
 ·exact(DS n f b c g i j l m d w h o).mono λe p a=>⟨a.1,a.2.more (by omega) (by omega)⟩
 ·exact(KL n f b c g i j l m d w h o q).mono λe p a=>⟨a.1,a.2.more (by omega) (by omega)⟩
 ·exact(KM n f b c g i j l m d w h o q y).mono λe p a=>⟨a.1,a.2.more (by omega) (by omega)⟩
 ·exact(Bn n f b c g i j l m d w h o q).mono λe p a=>⟨a.1,a.2.more (by omega) (by omega)⟩
 ·exact(Gu n f b c g i j l m d w h o u q x).mono λe p a=>⟨a.1,a.2.more (by omega) (by omega)⟩
 ·exact(Bm n f b c g i j l m d w h o).mono λe p a=>⟨a.1,a.2.more (by omega) (by omega)⟩
 ·exact(DR n f b c g i j l m d w h o).mono λe p a=>⟨a.1,a.2.more (by omega) (by omega)⟩
theorem Mx{p:Nat}(k n f:Int)(b c:ByteArray)(g i j l m d:ax)(w:ab)(h:iB N K w p s r G)(o:N<=10000000000)(u:9<=k)(v:k<=12):ba prog 13 #[X (V ⟨p,0,Y⟩),.agg #[Z U k,Z U n,Z U f,O b,O c,g,i,j,l,m,d]] w (iE N K p s r G w):=by
 have t:k=9\/k=10\/k=11\/k=12:=by omega
 rcases t with rfl|rfl|rfl|rfl
 ·exact(My n f b c g i j l m d w h o).mono λe q a=>⟨a.1,a.2.more (by omega) (by omega)⟩
 ·exact(FC n f b c g i j l m d w h o).mono λe q a=>⟨a.1,a.2.more (by omega) (by omega)⟩
 ·exact(FB n f b c g i j l m d w h o).mono λe q a=>⟨a.1,a.2.more (by omega) (by omega)⟩
 ·exact(JN n f b c g i j l m d w h o).mono λe q a=>⟨a.1,a.2.more (by omega) (by omega)⟩
theorem iE.pre{d:ab}{e:Ending}(g:aa n_ f w)(h:iE N K c b a G w e d):iE N K c b a G f e d:=⟨h.1,h.2.pre g⟩
theorem iB.same{e:ab}(h:iB N K w d b a G)(c:aa n_ w e):bN (N+1000) (K+1) d b a G w e:=
 ⟨a,G,(h.ai c).more (by omega) (by omega),c.mono (λ_ _ h=>h.elim),λ_ h=>.inl h,λ_ h=>.inl h⟩
theorem Na{u r:Nat}{B:List Nat}(k n i:Int)(a b:ByteArray)(v x y z A c:ax)(w:ab)(h:iB N K w u r B G)(f:N<=10000000000)(j:K<=10000000000)(l:a.size<=maxLen)(o:b.size<=maxLen)(m:-9223372036854775808<=i/\i<=9223372036854775807)(d:k<=12):ba prog 7 #[X (V ⟨u,0,Y⟩),X (V ⟨r,0,Y⟩),.agg #[Z U k,Z U n,Z U i,O a,O b,v,x,y,z,A,c]] w (iE N K u r B G w):=by
 by_cases t:1<=k/\k<=7
 ·obtain⟨H,L⟩:=t;have q:=E (λW (s:aa n_ w W)=>KJ k n i a b v x y z A c W (h.ai s) f j l o m H L);clear h f j l o m;go_enter func7,ntmps7;go_wp2_with(go_at_call 12;go_must(refine(q.o _ ((aa.refl _ _).al _)).mono ?_;rintro e M ⟨rfl,g⟩;have p:=E g;clear g))
  go_ret;exact⟨rfl,p.o.pre ((aa.refl _ _).al _)⟩
 ·by_cases F:9<=k
  ·have q:=E (λW (s:aa n_ w W)=>Mx k n i a b v x y z A c W (h.ai s) f F d);have P:¬k<=7:=by omega
   clear h f j l o m t;go_enter func7,ntmps7;go_wp2_with(go_at_call 13;go_must(refine(q.o _ ((aa.refl _ _).al _)).mono ?_;rintro e M ⟨rfl,g⟩;have p:=E g;clear g))
   go_ret;exact⟨rfl,p.o.pre ((aa.refl _ _).al _)⟩
  ·have C:=E h;have D:k<=0\/k=8:=by omega
   clear h f j l o m t;rcases D with D|rfl
   ·go_enter func7,ntmps7;go_wp2_with fail;go_ret;exact⟨rfl,C.o.same ((aa.refl _ _).al _)⟩
   ·clear F d;go_enter func7,ntmps7;go_wp2_with fail;go_ret;exact⟨rfl,C.o.same ((aa.refl _ _).al _)⟩
theorem yP{q:Nat}{s:List Nat}(w:ab)(h:iB N K w c q s G)(v:N<=9999999000)(u:K<=10000000000):ba prog 9 #[X (V ⟨c,0,Y⟩),X (V ⟨q,0,Y⟩)] w (iE N K c q s G w):=by
 have Q:=E h;obtain⟨xb,yb,tx,A,B,F,D,l,t,b,rfl⟩:=id h.oK;have t0:w.cell? ⟨c,0,Y⟩=V (X (V ⟨xb,0,Y⟩)):=ae l 0;have T:QS (∀W,aa (·∈F++D) w W->W.cell? ⟨c,1,Y⟩=V (X (V ⟨yb,0,Y⟩))):=λW hW=>hW.cell (p:=⟨c,1,Y⟩) (ae l 1) b;have P:=E (vZ l b t (by omega:N<=10000000000));have o:=E (λW=>eP A.dQ.2 W);have S:=E v;have R:=E u;generalize A.dQ.1=r1 at*;generalize A.dQ.2=r2 at*;clear h l t b v u;go_enter func9,ntmps9;go_wp2_with(first
  |(go_at_call 18;go_must(refine(P.o).mono ?_;rintro e w1 ⟨rfl,C,z⟩;have HY:=E z;have d1:=T.o _ C;clear z))
  |(go_at_call 19;go_must(refine(HY.o _ (aa.refl _ _)).mono ?_;rintro e w3 ⟨rfl,k3,y⟩;have n:=E (Q.o.gD y);clear y k3 C))
  |(go_at_call 20;go_must(refine(o.o _).mono ?_;rintro e w3 ⟨rfl,rfl⟩))
  |(go_at_call 21;go_must(obtain⟨H,G',k,d,f,g⟩:=n.o;refine(zB r1 ByteArray.empty (-1) _ k (by have:=S.o;omega) R.o (by simp[maxLen]) (by omega)).mono ?_;rintro e w5 ⟨rfl,x⟩;have M:=E x;have HQ:=E (And.intro k (And.intro d (And.intro f g)));clear x k d f g)))
 go_ret;refine⟨rfl,?_⟩;obtain⟨k,d,f,g⟩:=HQ.o;obtain⟨m,L,c1,c2,c3,c4⟩:=M.o;have hz:=d.size;refine⟨m,L,c1,d.trans c2 (λi hi a=>?_),λj r=>?_,λj r=>?_⟩
 ·rcases a with a|a
  ·rcases cT.1 a with rfl|a
   ·exact .inl (by simp)
   ·rcases f i a with h|h
    ·exact .inl (ef _ h)
    ·omega
  ·rcases g i a with h|h
   ·exact .inr h
   ·omega
 ·rcases c3 j r with h|h
  ·exact f j h
  ·exact .inr (by omega)
 ·rcases c4 j r with h|h
  ·exact g j h
  ·exact .inr (by omega)
end Go.Proofs.YtjbkfdeldlajhaaGreatDoor
