import Derived.Test.YtjbkfdeldlajhaaGreatDoorM18
set_option linter.unusedSimpArgs false
namespace Go.Proofs.YtjbkfdeldlajhaaGreatDoor
set_option maxRecDepth 100000
set_option maxHeartbeats 2000000
open Go.RowKit Go.Shelf Go.Proofs.Tryz
open Go.Value renaming int->Z,string->O,slice->J,bool->ao,tuple->bt,pointer->X
open Go.IntKind renaming i64->U
open Go.Obj renaming cells->I
open Go renaming World->ab,Calls->ba,Value->ax,TypeId->cI
open Go.Ending renaming returned->ay
open Option renaming none->Y,some->V
variable{a k n b d c B g:Nat}{w i W wr:ab}{rest l r:List UInt8}{S:Nat->Prop}{t:cI}{u v:ax}
section
attribute [local go_sem] Oper.semAt_some
def KZ(a:Bool)(s:List UInt8)(w:ab)(e:Ending)(b:ab):Prop:=(if a=true then e=ay (bt #[O (aU s),.nilIface])else∃t v,vC w t v/\e=ay (bt #[O ⟨#[]⟩,.iface t v]))/\aa n_ w b
theorem dD{c:Bool}{a b:Int}{l:List an}(h:cC c a b l=true):(0<=a/\a<=1000000000)/\(0<=b/\b<=1000000000)/\l.length<=1000/\Small l:=by unfold cC at h;simp only[ss,tT]at h;obtain⟨⟨d,g⟩,i⟩:=h;unfold kN gB at d;simp only[ss,tT]at d;refine⟨d.1.1,d.1.2,g,λr o=>?_⟩;obtain⟨k,n,rfl⟩:=Sb.1 o;have f:=tE (show k+1<=l.length by omega) i;rw[kX n,ss]at f;have e:=f.2;unfold jv at e;simp only[ss]at e;obtain⟨⟨⟨j,m⟩,_⟩,_⟩:=e;simp[dw]at j;simp[fM]at m;omega
theorem zW(c:Bool)(a b:Int)(i:Option Addr)(d:Nat)(l:List an)(w:ab)(x:cG w i l)(u:l.length<=maxLen)(y:∀r∈l,r.key.size<=maxLen/\r.value.size<=maxLen)(n:∀g,2<=g->g<=6->oR w g)(f:cC c a b l=false):ba prog 94 #[.agg #[ao c,Z U a,Z U b,J i l.length d]] w (KZ false [] w):=by
 have j:=aa.alloc n_ w (I #[ao c,Z U a,Z U b,J i l.length d] 28);have p:QS (∀t v,vC (w.alloc (I #[ao c,Z U a,Z U b,J i l.length d] 28)) t v->vC w t v):=λt v h=>by obtain⟨g,o,s⟩:=h;obtain⟨C,D,q⟩:=n g o.1 o.2;have:=j.cell q id;rw[this]at s;exact⟨g,o,q.trans s⟩
 have k:=E (zd c a b i d l _ (x.ai j) u y (λg m A=>(n g m A).ai j));rw[f]at k;clear x u y n f j;go_enter func94,ntmps94;go_wp2_with fail;refine k.o.mono ?_;rintro e F ⟨m,B⟩;obtain⟨t,v,f,rfl⟩:∃t v,vC _ t v/\e=ay (.iface t v):=m;have z:=E (p.o t v f);clear p f;clear k;go_wp2;go_ret2;exact⟨⟨t,v,z.o,rfl⟩,((aa.refl _ w).al _).tr B i_⟩
theorem NM(B a:Nat)(w:ab)(b:B<=a)(h:w.heap[a]?=V (I #[X Y,J Y 0 0] 221 (0,0))):DY B w a []:=by refine .inl ⟨b,J Y 0 0,h,⟨rfl,.inl ⟨rfl,rfl⟩⟩,by simp[Value.ownBlock]⟩
theorem DI(d:Bool)(a b:Nat)(r:List Rec):(cS d a b++bW r)++iO (lz 0 (cS d a b++bW r)) r.length=cB ⟨d,a,b,r⟩:=by
 have e:BO ⟨d,a,b,r⟩=(cS d a b++bW r)++(bf 0++bf r.length):=by simp only[BO,mE]
 unfold cB iO bM;rw[e,lA (c:=0) (cS d a b++bW r) (bf 0++bf r.length)];simp only[mE]
theorem Af.ai{e:Nat}{c:ab}{b:List UInt8}(h:Af B e g c b n W)(f:aa S W i)(q:e<c.heap.size)(r:g<c.heap.size)(d:∀k,S k->c.heap.size<=k/\¬bD W k 5):Af B e g c b n i:=by obtain⟨j,o,p⟩:=h;refine⟨(f.block e (lg j) (λa=>by have:=(d _ a).1;omega)).trans j,o.ai f (λa=>by have:=(d _ a).1;omega) (λk m a=>(d _ a).2 m),p.trans f (λk l a=>by have:=(d _ a).1;omega)⟩
theorem PT{i h:Nat}{c:ab}{f:List Nat->List UInt8}{g:List Nat->Nat}(m:i<c.heap.size)(n:h<c.heap.size):OwnFrom c.heap.size (λa W=>Af B i h c (f a) (g a) W):=by intro a W u t s q r;refine s.ai (aa.grown q) m n (λk e=>?_);obtain⟨l,o,d,p⟩:=r k e.symm;refine⟨l,?_⟩;rintro⟨j,b⟩;rw[b]at d;cases d;cases p
theorem Oz{w u:Nat}{L M:cI}{h p:ab}{f j:List UInt8}(h1:b<h.heap.size)(h2:d<h.heap.size)(D:b≠d)(ha:bD h w L)(F:L≠5)(hb:bD h u M)(G:M≠5)(y:w≠b/\w≠d)(z:u≠b/\u≠d)(hI:Af B b d h f n W)(K:p.heap[b]?=V (I #[Z .u32 (lz (lz 0 f) j:Nat),Z U ((n+c:Nat):Int)] 184 (0,0)))(v:aa (·=b) W p)(q2:DY B i d (f++j))(s:aa (qn B d p) p i):KeepsFrom h.heap.size W i/\OX [w,u] W i/\Af B b d h (f++j) (n+c) i:=by
 obtain⟨p1,p2,H⟩:=hI;have a1:=H.size;have g:∀(k:Nat) (o:Obj),W.heap[k]?=V o->k≠b->k≠d->(∀a,o≠I a 5 (0,0))->i.heap[k]?=V o:=λk o Q R S T=>by
  have N:p.heap[k]?=V o:=(v.block k (lg Q) R).trans Q;refine(s.block k (lg N) ?_).trans N;rintro⟨_,e|⟨a,e⟩⟩
  ·exact S e
  ·rw[N]at e;cases e;exact T _ rfl
 have q:∀(k:Nat) (t:cI),bD h k t->t≠5->k≠b/\k≠d->i.heap[k]?=W.heap[k]?:=λk t ht r e=>by
  obtain⟨a,m⟩:=ht;have x:W.heap[k]?=V (I a t (0,0)):=(H.block k (lg m) (by
   rintro(l|⟨_,l|l⟩)
   ·exact e.1 l
   ·exact e.2 l
   ·exact bD.ne ⟨a,m⟩ r l)).trans m
  rw[x];exact g k _ x e.1 e.2 (λP l=>by cases l;exact r rfl)
 refine⟨⟨mA v.size s.size,λk o a0 C m=>g k o C (by omega) (by omega) (λa e=>by rw[e]at m;cases m)⟩,⟨mA v.size s.size,λk A=>?_⟩,?_,q2,?_⟩
 ·rcases cT.1 A with rfl|A
  ·exact q _ L ha F y
  ·have e:k=u:=by simpa using A
   rw[e];exact q _ M hb G z
 ·rw[lA];refine(s.block b (lg K) ?_).trans K;rintro⟨_,e|e⟩
  ·exact D e
  ·exact bD.ne ⟨_,K⟩ (by decide) e
 ·exact(H.trans v (λk _ e=>.inl e)).QP s
theorem Gv{a c f:ab}{d:Array ax}{x y i j:ax}{n:ax}(s:w.heap.size+1<=a.heap.size)(q:aa n_ (w.alloc (I d 28)) ((a.alloc (I #[x,y] 184)).alloc (I #[i,j] 221)))(m:((a.alloc (I #[x,y] 184)).alloc (I #[i,j] 221)).heap[w.heap.size]?=V (I d 28 (0,0)))(b:c.heap[a.heap.size]?=V (I #[n,y] 184 (0,0)))(o:aa (·=a.heap.size) ((a.alloc (I #[x,y] 184)).alloc (I #[i,j] 221)) c)(g:aa (qn w.heap.size (a.heap.size+1) c) c f):f.heap[a.heap.size]?=V (I #[n,y] 184 (0,0))/\f.heap[w.heap.size]?=V (I d 28 (0,0))/\aa n_ w f:=by
 have l:c.heap[w.heap.size]?=V (I d 28 (0,0)):=(o.block _ (lg m) (by show¬(_=_);omega)).trans m;refine⟨(g.block _ (lg b) ?_).trans b,(g.block _ (lg l) ?_).trans l,?_⟩
 ·rintro⟨_,e|e⟩
  ·omega
  ·exact bD.ne ⟨_,b⟩ (by decide) e
 ·rintro⟨_,e|e⟩
  ·omega
  ·exact bD.ne ⟨_,l⟩ (by decide) e
 ·refine((((aa.refl n_ w).al _).tr q i_).trans o (λk p e=>?_)).trans g (λk p e=>?_)
  ·have r:k=a.heap.size:=e;omega
  ·have:=e.1;omega
theorem xX(c:Bool)(a b:Nat)(q:Option Addr)(f:Nat)(l:List an)(w:ab)(hr:cG w q l)(d6:l.length<=f)(d5:f<=maxLen)(he:∀g,2<=g->g<=6->oR w g)(ht:cM w)(S:cC c a b l=true):ba prog 94 #[.agg #[ao c,Z U (a:Nat),Z U (b:Nat),J q l.length f]] w (KZ true (cB ⟨c,a,b,l.map an.bS⟩) w):=by
 obtain⟨ha,hb,hl,b5⟩:=dD S;have ka:=aa.alloc n_ w (I #[ao c,Z U (a:Nat),Z U (b:Nat),J q l.length f] 28);have HJ:QS (ba prog 142 #[.agg #[ao c,Z U (a:Nat),Z U (b:Nat),J q l.length f]] (w.alloc (I #[ao c,Z U (a:Nat),Z U (b:Nat),J q l.length f] 28)) λe R=>e=ay .nilIface/\aa n_ (w.alloc (I #[ao c,Z U (a:Nat),Z U (b:Nat),J q l.length f] 28)) R):=by refine(zd c a b q f l _ (hr.ai ka) (by unfold maxLen;omega) (λr hr=>by have:=b5 r hr;unfold maxLen;omega) (λg M h2=>(he g M h2).ai ka)).mono ?_;rintro e R ⟨M,h2⟩;rw[S]at M;exact⟨M,h2⟩
 have HR:=E hr;have HT:=E ht;have a2:=E b5;have e9:=E d6;have e7:=E d5;have HL:=E hl;have c4:QS (a<9223372036854775808/\b<9223372036854775808):=E (by omega);have a6:QS (a<34359738368/\b<34359738368):=E (by omega);clear hr ht b5 he S ka ha hb d6 d5 hl;refine(callsIn_wide (n:=8)).1 ?_;refine callsIn_of_wp_marks func94 rfl trivial ?_ rfl;simp only[ntmps94,vE,fN,pa,Nat.reduceAdd,Nat.reduceSub,QW,QX,Rv,Re,uE,tI];have c8:QS (∀W:ab,∀wb,cM W->W.heap[wb]?=V (I #[Z .u32 0,Z U 0] 184 (0,0))->ba prog 144 #[X (V ⟨wb,0,Y⟩),ao c,Z U (a:Nat),Z U (b:Nat)] W λe R=>e=ay (O (aU (cS c a b)))/\R.heap[wb]?=V (I #[Z .u32 (lz 0 (cS c a b):Nat),Z U ((0:Nat):Int)] 184 (0,0))/\aa (·=wb) W R):=λW wb M h2=>
  Cs wb 0 #[Z .u32 0,Z U 0] 184 c a b 0 W h2 rfl (by omega) c4.o.1 c4.o.2 M
 have a1:QS ((aU (cS c a b)).size<=100):=by have n1:=cj 8 a (by have:=a6.o.1;omega);have n2:=cj 8 b (by have:=a6.o.2;omega);show _<=_;rw[bn];unfold cS gg;split<;>simp<;>omega
 generalize hhd:cS c a b=u at c8 a1;gi_wp2_with (first
  |(refine⟨trivial,?_⟩;gi_at_call 142;go_must(refine(callsIn_wide.2 HJ.o).mono ?_;rintro e d ⟨rfl,y⟩;have T:=(y.al (I #[Z .u32 0,Z U 0] 184)).al (I #[X Y,J Y 0 0] 221);have b2:=(T.block w.heap.size (by simp) id).trans (az w _);have c0:=ae b2 0;have c1:=ae b2 1;have c2:=ae b2 2;simp at c0 c1 c2;have b8:w.heap.size+1<=d.heap.size:=(by have:=y.size;simp at this;omega);have a4:=E b8;have K2:=E T;have B2:=E b2;clear y T b2 HJ b8))
  |(refine⟨trivial,?_⟩;gi_at_call 144;go_must(refine(callsIn_wide.2 (c8.o _ _ (HT.o.ai (((aa.refl n_ w).al _).tr K2.o i_) id) ((Below.heap_alloc _ _ _ (by simp)).trans (az d _)))).mono ?_;rintro e w3 ⟨rfl,e3,k3⟩;have d2:DY w.heap.size w3 (d.heap.size+1) []:=NM _ _ _ (by have:=a4.o;omega) ((k3.block (d.heap.size+1) (by simp) (by show¬(_=_);omega)).trans (by have:=az (d.alloc (I #[Z .u32 0,Z U 0] 184)) (I #[X Y,J Y 0 0] 221);simpa using this));have d0:=E e3;have c5:=E d2;have K3:=E k3;clear e3 d2 k3 c0 c1 c2))
  |(refine⟨trivial,?_⟩;gi_at_call 143;go_must(refine(callsIn_wide.2 (kE w.heap.size (d.heap.size+1) [] (aU u) w3 c5.o (by have:=a1.o;simp;omega) (by have M:=K3.o.size;have h2:=a4.o;simp at M;omega))).mono ?_;rintro e s ⟨rfl,d3,k4⟩;obtain⟨e4,b7,e6⟩:=Gv a4.o K2.o B2.o d0.o K3.o k4;have c3:=ae b7 3;simp at c3;have c6:=E d3;have b0:=E e4;have f0:=E b7;have d1:=E e6;have f1:QS (d.heap.size+2<=s.heap.size):=(by have M:=K3.o.size;have h2:=k4.size;simp at M;show _<=_;omega);clear d3 k4 e4 b7 e6 c5 K3 d0 K2 B2))
  |(refine⟨trivial,?_⟩;gi_at_call 145;go_must(refine(callsIn_wide.2 (ID q l.length f s)).mono ?_;rintro e H ⟨rfl,rfl⟩)))
 obtain⟨H,G⟩:∃H,(s.alloc (I #[J q l.length f] 26)).alloc (I #[Z U 4] 3)=H:=⟨_,rfl⟩
 rw[G];have k5:aa n_ s H:=by rw[<-G];exact((aa.refl _ s).al _).al _
 have pA:H.heap[s.heap.size]?=V (I #[J q l.length f] 26 (0,0)):=by rw[<-G];exact(Below.heap_alloc _ _ _ (by simp)).trans (az s _)
 have pB:H.heap[s.heap.size+1]?=V (I #[Z U 4] 3 (0,0)):=by rw[<-G];have:=az (s.alloc (I #[J q l.length f] 26)) (I #[Z U 4] 3);simpa using this
 have f9:H.heap.size=s.heap.size+2:=by rw[<-G];simp
 have f8:=f1.o;have b8:=a4.o;clear G;have h0:Af w.heap.size d.heap.size (d.heap.size+1) H (u++fR l []) (ic l []) H:=by refine⟨(k5.block _ (lg b0.o) id).trans (by rw[b0.o];simp[fR,ic]),?_,aa.refl _ _⟩;have:=c6.o.ai k5 id k_;simpa[fR,aU]using this
 have d8:l.length=0\/∃g b9,q=V ⟨g,b9,Y⟩:=by
  rcases Ry l.length with e|e
  ·exact .inl e
  ·obtain⟨g,b9,e,_⟩:=HR.o 0 e;exact .inr ⟨g,b9,e⟩
 have C:=EB s.heap.size (s.heap.size+1) q l.length f H pA pB HL.o e9.o e7.o d8;rw[show(λx:Nat=>#[Ao q l.length x])=λx=>#[J (sX q x) (bu l x).length (ft l.length x)]from funext λx=>by rw[IC]]at C;have K5:=E (d1.o.tr k5 i_);have PA:=E pA;have PB:=E pB;clear k5 pA pB d8 b0 c6 f0 d1 c3;refine xU (α:=Nat) rfl (by omega) (gf:=182) (lb:=#[X (V ⟨s.heap.size,0,Y⟩),X (V ⟨s.heap.size+1,0,Y⟩)]) rfl trivial (enters_of func182 (by kernel_rfl) rfl) C ?cs (λh k=>⟨mA h.1 k.1,λj S=>(k.2 j S).trans (h.2 j S)⟩) ?kb (λ_=>rfl) (λi W=>Af w.heap.size d.heap.size (d.heap.size+1) H (u++fR l i) (ic l i) W) (PT (by omega) (by omega)) (λi A B hC h=>h.ai hC (by omega) (by omega) (λ_ h=>h.elim)) h0 ?act ?assign ?body ?done
 case cs=>
  rintro A B k hC hk ⟨o,ho,_⟩;exact hC.block k (lg ho) id
 case kb=>
  intro W k o' hk;exact⟨by simp,λj S=>World.putObj_heap_other (by
   rcases cT.1 S with rfl|S
   ·omega
   ·have e:j=s.heap.size+1:=by simpa using S
    omega)⟩
 case act=>exact(λx=>{tmps:=#[Value.agg #[ao c,Z U (a:Nat),Z U (b:Nat),J q l.length f],X (V ⟨w.heap.size,0,Y⟩),O ⟨#[]⟩,.nilIface,.nilIface,X (V ⟨d.heap.size,0,Y⟩),X (V ⟨d.heap.size+1,0,Y⟩),J (sX q x) (bu l x).length (ft l.length x),.agg #[ao c,Z U (a:Nat),Z U (b:Nat),J q l.length f],.nilIface,.nilIface,ao false,undef,X (V ⟨w.heap.size,0,Y⟩),ao c,X (V ⟨w.heap.size,1,Y⟩),Z U (a:Nat),X (V ⟨w.heap.size,2,Y⟩),Z U (b:Nat),O (aU u),bt #[Z U (aU u).size,.nilIface],X (V ⟨w.heap.size,3,Y⟩),J q l.length f,.func (.func 182) #[] #[X (V ⟨s.heap.size,0,Y⟩),X (V ⟨s.heap.size+1,0,Y⟩)],J (sX q x) (bu l x).length (ft l.length x),undef,undef,undef,undef,undef,undef],defers:=[]})
 case assign=>
  intro l' x W K hK;have ez:∀(t:Array ax) (v:ax),(#[24].zip #[v]).foldl (λt (p,v)=>t.setIfInBounds p v) t=t.setIfInBounds 24 v:=λt v=>by simp[Array.zip]
  simp only[ez];gi_wp2;exact hK
 case body=>
  intro l' i x W F f3;have kW:aa n_ w W:=K5.o.trans F.2.2 (λk hk e=>by
   rcases e with e|e
   ·omega
   ·have:=e.1;omega)
  have e5:=F.2.2.size;obtain⟨f4,f5⟩:=tJ a2.o i;have hl:=HL.o;have d4:=yR d.heap.size 0 _ _ (lz 0 (u++fR l i)) (ic l i) (sX q x) (ft l.length x) (bu l x) W F.1 rfl rfl (tG _ _) (by omega) (by have:=lj l x;omega) ((HR.o.ai kW).chunk x) (iZ a2.o x) (HT.o.ai kW id);have a5:=sU (iZ a2.o x) (lj l x);have d9:∀m L,m.heap[d.heap.size]?=V (I #[Z .u32 (lz (lz 0 (u++fR l i)) (dW ((bu l x).map an.bS)):Nat),Z U ((ic l i+(bu l x).length:Nat):Int)] 184 (0,0))->aa (·=d.heap.size) W m->DY w.heap.size L (d.heap.size+1) ((u++fR l i)++dW ((bu l x).map an.bS))->aa (qn w.heap.size (d.heap.size+1) m) m L->KeepsFrom H.heap.size W L/\OX [s.heap.size,s.heap.size+1] W L/\Af w.heap.size d.heap.size (d.heap.size+1) H (u++fR l (i++[x])) (ic l (i++[x])) L:=λm L q1 y q2 T=>by rw[uj,CR,<-mE];exact Oz (by omega) (by omega) (by omega) ⟨_,PA.o⟩ (by decide) ⟨_,PB.o⟩ (by decide) (by omega) (by omega) F q1 y q2 T
  have P:(u++fR l i).length<=10000000:=by have:=a1.o;rw[bn]at this;rw[hQ];omega
  have HI:=E F;have a3:=E d9;have a0:=E d4;have N:=E P;have c7:=E a5;have b3:=E e5;clear F d9 d4 P a5 f4 f5 f3 hl kW e5 C h0;generalize dW ((bu l x).map an.bS)=eT at a3 a0 c7;generalize ic l i=n at a3 a0 HI;generalize u++fR l i=z at a3 a0 HI N;have b1:QS (∀m,aa (·=d.heap.size) W m->ba prog 143 #[X (V ⟨d.heap.size+1,0,Y⟩),O (aU eT)] m λe R=>e=ay (bt #[Z U (aU eT).size,.nilIface])/\DY w.heap.size R (d.heap.size+1) (z++eT)/\aa (qn w.heap.size (d.heap.size+1) m) m R):=λm y=>by
   have b4:DY w.heap.size m (d.heap.size+1) z:=HI.o.2.1.ai y (by show¬(_=_);omega) (λk ht e=>by have e':k=d.heap.size:=e;rw[e']at ht;exact bD.ne ⟨_,HI.o.1⟩ (by decide) ht)
   have hz:=y.size;have f6:=b3.o;have:=kE w.heap.size (d.heap.size+1) z (aU eT) m b4 (by rw[bn];have M:=N.o;have h2:=c7.o;omega) (by omega);rwa[iK]at this
  gi_wp2_with (first
   |(refine⟨trivial,?_⟩;gi_at_call 146;go_must(refine(CallsIn.inRound l' (callsIn_wide.2 a0.o)).mono ?_;rintro e m ⟨rfl,r1,y⟩))
   |(refine⟨trivial,?_⟩;gi_at_call 143;go_must(refine(CallsIn.inRound l' (callsIn_wide.2 (b1.o m y))).mono ?_;rintro e L ⟨rfl,r2,T⟩)))
  exact a3.o m L r1 y r2 T
 case done=>
  rintro D xs W hD rfl F hK;obtain⟨e1,e2⟩:=tH l.length l (eb _);rw[e1,e2]at F;have a5:(bW (l.map an.bS)).length<=10000000:=by rw[<-e1];have:=(tJ a2.o (List.range ((l.length+3)/4))).1;have hl:=HL.o;rw[SY]at this;omega
  have P:(u++bW (l.map an.bS)).length<=10000100:=by have:=a1.o;rw[bn]at this;rw[hQ];omega
  have kW:aa n_ w W:=K5.o.trans F.2.2 (λk hk e=>by
   rcases e with e|e
   ·omega
   ·have:=e.1;omega)
  have b6:=DI c a b (l.map an.bS);rw[hO,hhd]at b6;have hl:=HL.o;have e0:=DD d.heap.size 0 _ _ (lz 0 (u++bW (l.map an.bS))) l.length W F.1 rfl rfl (tG _ _) (by omega) (HT.o.ai kW id);have hn:(iO (lz 0 (u++bW (l.map an.bS))) l.length).length<=100:=by have n1:=cj 8 0 (by omega);have n2:=cj 8 l.length (by omega);unfold iO tR;simp only[hQ,fN,pa];omega
  have HI:=E F;have a8:=E e0;have a9:=E b6;have HN:=E hn;have N:=E P;have e8:=E kW;have HK:=E hK;have HD:=E hD;have d7:(u++bW (l.map an.bS))++iO (lz 0 (u++bW (l.map an.bS))) l.length≠[]:=by unfold iO tR;simp
  have a7:=E d7;have b3:=E F.2.2.size;clear F e0 b6 hn P a5 e1 e2 kW hl hK hD d7 C h0;generalize iO (lz 0 (u++bW (l.map an.bS))) l.length=tl at a8 a9 HN a7;generalize u++bW (l.map an.bS)=z at a8 a9 HN HI N a7;have b1:QS (∀m,aa n_ W m->ba prog 143 #[X (V ⟨d.heap.size+1,0,Y⟩),O (aU tl)] m λe R=>e=ay (bt #[Z U (aU tl).size,.nilIface])/\DY w.heap.size R (d.heap.size+1) (z++tl)/\aa (qn w.heap.size (d.heap.size+1) m) m R):=λm y=>by have b4:DY w.heap.size m (d.heap.size+1) z:=HI.o.2.1.ai y id (λk ht e=>e);have hz:=y.size;have f6:=b3.o;have:=kE w.heap.size (d.heap.size+1) z (aU tl) m b4 (by rw[bn];have M:=N.o;have h2:=HN.o;omega) (by omega);rwa[iK]at this
  have Q:∀(A B:ab),A.heap[D]?=V (.deferred (V []))->aa (qn w.heap.size (d.heap.size+1) A) A B->B.heap[D]?=V (.deferred (V [])):=λA B hA hk=>by
   have hD:=HD.o;refine(hk.block D (lg hA) ?_).trans hA;rintro⟨_,e|⟨f7,e⟩⟩
   ·omega
   ·rw[hA]at e;cases e
  have c9:=E Q;clear Q;gi_wp2_with (first
   |(refine⟨trivial,?_⟩;gi_at_call 147;go_must(refine(callsIn_wide.2 a8.o).mono ?_;rintro e m ⟨rfl,y⟩))
   |(refine⟨trivial,?_⟩;gi_at_call 143;go_must(refine(callsIn_wide.2 (b1.o m y)).mono ?_;rintro e L ⟨rfl,r2,T⟩))
   |(refine⟨trivial,?_⟩;gi_at_call 148;go_must(refine(callsIn_wide.2 (Gd w.heap.size (d.heap.size+1) _ L r2 a7.o)).mono ?_;rintro e W3 ⟨rfl,k3⟩)))
  have f2:W3.heap[D]?=V (.deferred (V [])):=c9.o L W3 (c9.o m L ((y.block D (lg HK.o) id).trans HK.o) T) k3;refine⟨by simp,.inl ⟨_,_,rfl,run_takeDeferred f2,?_⟩⟩;refine⟨_,results_tmp2 rfl _ _ _,?_⟩;refine⟨by rw[fy rfl,<-a9.o];rfl,?_⟩;have kp:=aa.grown (grownBy_putObj' W3 D (.deferred Y));refine(((e8.o.tr y i_).trans T (λk hk e=>?_)).trans k3 (λk hk e=>?_)).trans kp (λk hk e=>?_)
  ·have:=e.1;omega
  ·have:=e.1;omega
  ·have hD:=HD.o;simp only[vv]at e;omega
end
abbrev Rd(α:Type):Type:=Nat⊕(α×List UInt8)
abbrev Rd.bad{α:Type}(left:Nat):Rd α:=.inl left
abbrev Rd.ok{α:Type}(a:α)(rest:List UInt8):Rd α:=.inr (a,rest)
def Rd.bind{α β:Type}(x:Rd α)(f:α->List UInt8->Rd β):Rd β:=
 match x with
 |.inl k=>.bad k
 |.inr (a,r)=>f a r
theorem Rd.bT{α β:Type}(a:α)(r:List UInt8)(f:α->List UInt8->Rd β):(Rd.ok a r).bind f=f a r:=rfl
theorem Rd.iG{α β:Type}(k:Nat)(f:α->List UInt8->Rd β):(Rd.bad k:Rd α).bind f=.bad k:=rfl
def ee(n:Nat)(l:List UInt8):Rd (List UInt8):=if n<=l.length then .ok (l.take n) (l.drop n)else .bad l.length
def lY(l:List UInt8):Rd Nat:=
 match zr l with
 |none=>.bad l.length
 |some x=>.ok x.1 (l.drop x.2)
def dg(a b:Nat)(l:List UInt8):Rd Nat:=(lY l).bind λn r=>if a<=n/\n<=b then .ok n r else .bad l.length
def xP(b:List UInt8)(a:Nat)(l:List UInt8):Rd Rec:=
 if a=0 then .ok ⟨b,[],true⟩ l else(ee (a-1) l).bind λv r=>.ok ⟨b,v,false⟩ r
def kR(a:List UInt8)(l:List UInt8):Rd Rec:=
 (dg 0 a.length l).bind λc b=>(dg (1-c) (10-c) b).bind λm d=>(ee m d).bind λrest e=>
  (dg 0 41 e).bind λs f=>xP (a.take c++rest) s f
def fC:Nat->List UInt8->List UInt8->Rd (List Rec)
 |0,_,l=>.ok [] l
 |n+1,ahead,l=>(kR ahead l).bind λr a=>(fC n r.key a).bind λx b=>.ok (r::x) b
def yt(l:List UInt8)(x:List Rec)(a:List UInt8):Rd (List Rec):=
 (ee 4 a).bind λs b=>if s=bM (l.take (l.length-a.length))then .ok x b else .bad a.length
def eS(l:List UInt8):Rd (List Rec):=
 (dg 0 4 l).bind λn a=>if n=0 then .ok [] a else(fC n [] a).bind λx b=>yt l x b
def dY:Nat->List Rec->List UInt8->Rd (List Rec)
 |0,acc,l=>.ok acc l
 |f+1,acc,l=>(eS l).bind λb a=>if b=[]then .ok acc a else dY f (acc++b) a
def iH(l:List UInt8):Rd Bool:=
 (ee 4 l).bind λx r=>if x=gg true then .ok true r else if x=gg false then .ok false r else .bad l.length
def lK(n:Nat)(l:List UInt8):Rd Unit:=
 (lY l).bind λm r=>if m=n then(if r=[]then .ok () r else .bad r.length)else .bad l.length
def ju(l:List UInt8):Rd kG:=
 (iH l).bind λk c=>(lY c).bind λa d=>(lY d).bind λb e=>(dY (l.length+1) [] e).bind λx f=>
  (lK x.length f).bind λ_ g=>.ok ⟨k,a,b,x⟩ g
theorem PE(h:lY l=.ok n r):n<34359738368/\∃k,0<k/\k<=5/\k<=l.length/\r=l.drop k:=by
 unfold lY at h;cases hn:zr l with
 |none=>rw[hn]at h;cases h
 |some x=>
  rw[hn]at h;simp only[Sum.inr.injEq,tB]at h;obtain⟨rfl,rfl⟩:=h;obtain⟨a,b,c,d⟩:=wS hn;exact⟨a,x.2,b,c,d,rfl⟩
theorem Of(h:lY l=.bad k):k=l.length:=by
 unfold lY at h;cases hn:zr l with
 |none=>rw[hn]at h;simp only[Sum.inl.injEq]at h;exact h.symm
 |some x=>rw[hn]at h;cases h
theorem GH(h:dg a b l=.ok n r):lY l=.ok n r/\a<=n/\n<=b:=by
 unfold dg at h;rcases hn:lY l with k|⟨m,d⟩
 ·rw[hn]at h;cases h
 ·rw[hn,Rd.bT]at h;split at h
  ·rename_i c;simp only[Sum.inr.injEq,tB]at h;obtain⟨rfl,rfl⟩:=h;exact⟨rfl,c⟩
  ·cases h
theorem BN(h:dg a b l=.bad k):k=l.length:=by
 unfold dg at h;rcases hn:lY l with c|⟨m,d⟩
 ·rw[hn,Rd.iG]at h;simp only[Sum.inl.injEq]at h;rw[<-h];exact Of hn
 ·rw[hn,Rd.bT]at h;split at h
  ·cases h
  ·simp only[Sum.inl.injEq]at h;exact h.symm
def lO(w:ab)(d:Nat)(b:ByteArray)(c a:Nat)(e:ax):Prop:=w.heap[d]?=V (I #[O b,Z U (c:Nat),Z U (a:Nat),e] 235 (0,0))
def cH(a:ByteArray)(b:Nat):List UInt8:=a.data.toList.drop b
theorem gh(a:ByteArray)(b:Nat):(cH a b).length=a.size-b:=by unfold cH ByteArray.size;rw[mR,RA]
def dV(g:Nat):Prop:=g<=15/\g≠0/\g≠7/\g≠8
def eQ(w:ab):Prop:=∀g,dV g->oR w g
def Ab(w c:ab)(v:ax)(a:Nat):Prop:=∃b t u g,v=.iface 231 (X (V ⟨b,0,Y⟩))/\w.heap.size<=b/\c.heap[b]?=V (I #[Z U (a:Nat),.iface t u] 233 (0,0))/\dV g/\w.cell? ⟨g,0,Y⟩=V (.iface t u)
def gU{α:Type}(f:α->ax)(zero:ax)(g:Nat)(b:ByteArray)(c:Nat)(h:ax)(x:Rd α)(w:ab)(e:Ending)(d:ab):Prop:=match x with
 |.inl left=>(∃v,e=ay (bt #[zero,v])/\Ab w d v (b.size-left))/\aa (·=g) w d
 |.inr (a,rest)=>e=ay (bt #[f a,.nilIface])/\lO d g b (b.size-rest.length) c h/\aa (·=g) w d
theorem iu(s:ByteArray)(i n:Nat):s.extract i (i+n)=aU ((cH s i).take n):=by unfold cH aU;apply TD;apply Array.ext';simp[ByteArray.data_extract,Array.toList_extract,List.extract_eq_take_drop]
theorem DE(f:Nat)(a:ByteArray)(b c n:Nat)(m:ax)(w:ab)(h:lO w f a b c m)(x:b<=a.size)(y:a.size<=1000000000000)(C:n<=1000000000000)(k:eQ w):ba prog 210 #[X (V ⟨f,0,Y⟩),Z U (n:Nat)] w (gU (λl=>O (aU l)) (O ⟨#[]⟩) f a c m (ee n (cH a b)) w):=by
 have z:w.cell? ⟨f,0,Y⟩=V (O a):=ae h 0;have A:w.cell? ⟨f,1,Y⟩=V (Z U (b:Nat)):=ae h 1;have B:w.frozen? ⟨f,1,Y⟩=false:=aj h 1;have p:=E h;have d:=gh a b;by_cases o:n<=a.size-b
 ·have e:ee n (cH a b)=.ok ((cH a b).take n) ((cH a b).drop n):=by unfold ee;rw[fy (by omega)]
  have g:=iu a b n;have i:a.size-((cH a b).drop n).length=b+n:=by rw[mR,d];omega
  rw[e];have q:QS (lO (w.setCell ⟨f,1,Y⟩ (Z U ((b:Int)+n))) f a (a.size-((cH a b).drop n).length) c m):=by show _=_;rw[ak p.o,i];simp
  have v:=E g;clear e i g d h k;go_enter func210,ntmps210;go_wp2;go_region;go_wp2;go_region;go_wp2;go_ret2;refine⟨?_,q.o,((aa.setCell w ⟨f,1,Y⟩ (Z U ((b:Int)+n))).dr).dr⟩;show _=ay (bt #[O (aU ((cH a b).take n)),.nilIface]);rw[<-v.o];rfl
 ·have e:ee n (cH a b)=.bad (cH a b).length:=by unfold ee;rw[el (by omega)]
  rw[e,d];obtain⟨t,u,j⟩:=k 10 (by unfold dV;omega);have i:a.size-(a.size-b)=b:=by omega
  have r:=E j;have s:=E i;clear e d h k i;go_enter func210,ntmps210;go_wp2;go_region;go_wp2;go_region;go_wp2;go_ret2;refine⟨⟨_,rfl,_,t,u,10,rfl,?_,?_,(by unfold dV;omega),r.o⟩,?_⟩
  ·simp
  ·rw[s.o];exact az _ _
  ·exact((((aa.refl _ w).dr).dr).al _)
theorem and127(c:d<256):bits BinOp.and IntKind.u8 (d:Int) 127=((d%128:Nat):Int):=by have h:=bits_mask .u8 8 (by simp[IntKind.bits]) (λn a b=>wraps_u8 n a b) 7 (by omega) (d:Int) (by omega) (by omega);simpa using h
structure jt(rest:List UInt8)(k acc:Nat):Prop where
 Qf:k<=5
 len:k<=rest.length
 low:acc<128^k
 same:zr rest=lZ (5-k) k acc (rest.drop k)
theorem jt.cut(h:jt rest k a)(b:rest.length=k):lY rest=.bad rest.length:=by unfold lY;rw[h.same,Sj (by omega)];cases 5-k<;>rfl
theorem jt.full(h:jt rest 5 a):lY rest=.bad rest.length:=by unfold lY;rw[h.same];rfl
theorem jt.digit(h:jt rest k a)(c:k<5)(b:k<rest.length):zr rest=if rest[k].toNat<128 then(if rest[k].toNat=0/\0<k then Y else V (a+rest[k].toNat*128^k,k+1))else lZ (5-(k+1)) (k+1) (a+(rest[k].toNat-128)*128^k) (rest.drop (k+1)):=by rw[h.same,SW b,show 5-k=5-(k+1)+1 by omega];rfl
theorem jt.zero(h:jt rest k a)(d:k<5)(e:k<rest.length)(c:rest[k].toNat=0)(b:0<k):lY rest=.bad rest.length:=by unfold lY;rw[h.digit d e,fy (by omega),fy ⟨c,b⟩]
theorem jt.last(h:jt rest k a)(d:k<5)(e:k<rest.length)(c:rest[k].toNat<128)(b:¬(rest[k].toNat=0/\0<k)):lY rest=.ok (a+rest[k].toNat*128^k) (rest.drop (k+1)):=by unfold lY;rw[h.digit d e,fy c,el b]
theorem jt.next(h:jt rest k a)(d:k<5)(b:k<rest.length)(c:¬rest[k].toNat<128):jt rest (k+1) (a+(rest[k].toNat-128)*128^k):=by
 refine⟨by omega,b,?_,?_⟩
 ·have e:=h.low;have f:rest[k].toNat<256:=TJ _;have g:(rest[k].toNat-128)*128^k<=127*128^k:=xw _ (by omega);rw[Nat.pow_succ];omega
 ·rw[h.digit d b,el c]
theorem Mr{x:Nat}(g:k<5)(c:a<128^k)(j:x<128):bits BinOp.or U (a:Int) ((x*128^k:Nat):Int)=((a+x*128^k:Nat):Int):=by
 have e:128^k=2^(7*k):=by rw[Nat.pow_mul]
 have b:128^k<=128^4:=Tt (by omega) (by omega);have i:x*128^k<=127*128^4:=Nat.mul_le_mul (by omega) b;have h:=(bits_nat U 63 (by simp[IntKind.bits]) (λn d f=>by rw[IntKind.wrap_i64];omega) a (x*128^k) (by omega) (by omega)).2;rw[h,e,TK x,Nat.or_comm,<-Nat.two_pow_add_eq_or_of_lt (by rw[<-e];exact c),Nat.add_comm]
theorem Ms(c:k<5)(f:a<128^k):bits BinOp.or U (a:Int) (wrap64 ((d:Int)%128*2^(7*k)))=((a+d%128*128^k:Nat):Int):=by
 have e:128^k=2^(7*k):=by rw[Nat.pow_mul]
 have b:128^k<=128^4:=Tt (by omega) (by omega);have h:d%128*128^k<=127*128^4:=Nat.mul_le_mul (by omega) b;have g:((d:Int)%128*2^(7*k))=((d%128*128^k:Nat):Int):=by rw[e];push_cast;rfl
 rw[g,IntWalk.wrap64_in _ (by omega)];exact Mr c f (by omega)
theorem zH{a:ByteArray}(h:k<(cH a b).length)(c:b+k<a.size):(cH a b)[k]=a[b+k]:=by simp only[cH,SZ];rfl
theorem wY{α:Type}{e:α->ax}{zero:ax}{r:Nat}{a:ByteArray}{s:ax}{x:Rd α}(q:x=.bad (cH a b).length)(m:b<=a.size)(l:dV g)(o:eQ w)(f:aa n_ w wr)(d:wr.cell? ⟨g,0,Y⟩=V (.iface t u))(k:aa n_ wr i):gU e zero r a c s x w (ay (bt #[zero,.iface 231 (X (V ⟨i.heap.size,0,Y⟩))])) (i.alloc (I #[Z U (b:Int),.iface t u] 233)):=by
 subst q;have p:a.size-(cH a b).length=b:=by rw[gh];omega
 have v:=f.size;have y:=k.size;have n:w.cell? ⟨g,0,Y⟩=V (.iface t u):=by obtain⟨z,A,j⟩:=o g l;have:=f.cell j id;rw[this]at d;rw[j];exact d
 refine⟨⟨_,rfl,_,t,u,g,rfl,by omega,?_,l,n⟩,?_⟩
 ·rw[p];exact az _ _
 ·exact((f.tr k i_).al _).mono (λ_ _ h=>h.elim)
theorem Hj{α:Type}{g:α->ax}{zero:ax}{f:Nat}{b:ByteArray}{i:ax}{x:Rd α}{a:α}{m:ab}(y:x=.ok a ((cH b c).drop n))(o:c+n<=b.size)(t:v=g a)(p:wr.heap[f]?=V (I #[O b,Z U (c:Nat),Z U (d:Nat),i] 235 (0,0)))(q:aa n_ w wr)(u:ax)(s:u=Z U ((c+n:Nat):Int))(j:aa n_ (wr.setCell ⟨f,1,Y⟩ u) m):gU g zero f b d i x w (ay (bt #[v,.nilIface])) m:=by
 subst y;subst t;subst s;have r:b.size-((cH b c).drop n).length=c+n:=by rw[mR,gh];omega
 have l:(wr.setCell ⟨f,1,Y⟩ (Z U ((c+n:Nat):Int))).heap[f]?=V (I #[O b,Z U ((c+n:Nat):Int),Z U (d:Nat),i] 235 (0,0)):=by rw[ak p];simp
 refine⟨rfl,?_,?_⟩
 ·rw[r];exact(j.block f (lg l) id).trans l
 ·exact(q.mono (λ_ _ h=>h.elim)).trans ((aa.setCell wr ⟨f,1,Y⟩ _).trans j (λ_ _ h=>h.elim)) (λk _ e=>e)
theorem pS(q:Nat)(a:ByteArray)(b g:Nat)(rv:ax)(w:ab)(h:lO w q a b g rv)(u:b<=a.size)(P:a.size<=1000000000000)(he:eQ w):ba prog 187 #[X (V ⟨q,0,Y⟩)] w (gU (λn:Nat=>Z U (n:Int)) (Z U 0) q a g rv (lY (cH a b)) w):=by
 have HB:=E h;have B:=E he;have p:=gh a b;have S:QS (jt (cH a b) 0 0):=⟨by omega,by omega,by simp,rfl⟩
 have r:=E p;have a3:(a.size:Int)<=1000000000000:=by omega
 have a4:=E P;clear h he p P;go_enter func187,ntmps187;go_wp2_with fail;go_loopw [4,7] (λz i wr=>∃k c:Nat,i=Z U (k:Int)/\z=Z U (c:Int)/\jt (cH a b) k c/\aa n_ w wr) (λ_ i _=>5-(intOf i).toNat)
 case atStart=>exact⟨0,0,rfl,rfl,S.o,aa.refl _ _⟩
 case round=>
  obtain⟨k,c,rfl,rfl,hN,L⟩:=hrel;have K:wr.heap[q]?=_:=(L.block q (lg HB.o) id).trans HB.o;have c0:wr.cell? ⟨q,0,Y⟩=V (O a):=ae K 0;have c1:wr.cell? ⟨q,1,Y⟩=V (Z U (b:Nat)):=ae K 1;have f1:wr.frozen? ⟨q,1,Y⟩=false:=aj K 1;have A:=E K;have h5:=hN.Qf;have v:=E L;have l:=E hN;obtain⟨b2,b4,G⟩:=(B.o 11 (by unfold dV;omega)).ai L;obtain⟨b1,b3,a0⟩:=(B.o 10 (by unfold dV;omega)).ai L;clear K L hN;by_cases m:k<5
  ·by_cases a2:b+k=a.size
   ·have e:QS (lY (cH a b)=.bad (cH a b).length):=l.o.cut (by have:=r.o;omega);have a8:((b:Int)+(k:Int)==(a.size:Int))=true:=by rw[TS];omega
    clear l;go_wp2;go_region;go_wp2;go_region;go_wp2;go_ret2;exact wY e.o u (by unfold dV;omega) B.o v.o a0 (((aa.refl _ _).dr).dr)
   ·have a1:b+k<a.size:=by have y:=l.o.len;have Q:=r.o;omega
    have b0:((b:Int)+(k:Int)==(a.size:Int))=false:=by rw[mK];omega
    have a9:∀W,(Instr.index 9 (O a) (Z U ((b:Int)+(k:Int)))).run prog W=.ok (Z .u8 (a[b+k].toNat:Nat)) W:=λW=>by
     rw[run_index_string W 9 a U _ Tryz.underlying9,dif_pos ⟨by omega,by omega⟩];have hn:((b:Int)+(k:Int)).toNat=b+k:=by omega
     simp only[hn]
    have j:k<(cH a b).length:=by have:=r.o;omega
    have o:=zH j a1;have hZ:=λy Q=>l.o.zero m j y Q;have hL:=λy Q=>l.o.last m j y Q;have hX:=λy=>l.o.next m j y;rw[o]at hZ hL hX;have hd:a[b+k].toNat<256:=TJ _;have s:=E (Ms (d:=a[b+k].toNat) m l.o.low);have F:=E hZ;have x:=E hL;have D:=E hX;have e1:=and127 hd;have R:QS (b+(k+1)<=a.size):=by show _<=_;omega
    clear o j hZ hL hX h5;generalize a[b+k].toNat=d at*;have a7:(d:Int)<256:=by omega
    by_cases H:d=0
    ·by_cases M:0<k
     ·have e:=E (F.o H M);have N:(0:Int)<k:=by omega
      clear F x D s R;subst H;go_wp2;go_region;go_wp2;go_region;go_wp2;go_region;go_wp2;go_ret2;exact wY e.o u (by unfold dV;omega) B.o v.o G (((aa.refl _ _).dr).dr.dr)
     ·have N:¬(0:Int)<k:=by omega
      have e:=E (x.o (by omega) (λh=>M h.2));have C:QS (bits BinOp.or U (c:Int) 0=((c+0*128^k:Nat):Int)):=by have:=s.o;rw[H,show((0:Nat):Int)%128*2^(7*k)=0 by simp,IntWalk.wrap64_in 0 (by omega)]at this;show _=_;simpa using this
      clear F x D s;subst H;have e0:bits BinOp.and IntKind.u8 0 127=0:=by simpa using e1
      clear e1;go_wp2;go_region;go_wp2;go_region;go_wp2;go_ret2;exact Hj e.o R.o (by show Z U _=_;rw[C.o]) A.o v.o _ (Rc _ (by omega)) (((aa.refl _ _).dr).dr)
    ·by_cases f:d<128
     ·have C:QS (bits BinOp.or U (c:Int) (wrap64 ((d:Int)*2^(7*k)))=((c+d*128^k:Nat):Int)):=by have:=s.o;rw[Sc f,show(d:Int)%128=d by omega]at this;exact this
      have hm:d%128=d:=Sc f;have t:(d:Int)<128:=by omega
      have a5:((d:Int)==0)=false:=by rw[mK];omega
      have e:=E (x.o f (λh=>H h.1));have a6:¬(d:Int)=0:=by omega
      clear F x D s;go_wp2;go_region;go_wp2;go_region;go_wp2;go_ret2;exact Hj e.o R.o (by show Z U _=_;rw[C.o]) A.o v.o _ (Rc _ (by omega)) (((aa.refl _ _).dr).dr)
     ·have t:(128:Int)<=d:=by omega
      have C:QS (bits BinOp.or U (c:Int) (wrap64 ((d:Int)%128*2^(7*k)))=((c+(d-128)*128^k:Nat):Int)):=by have:=s.o;rw[show d%128=d-128 by omega]at this;exact this
      have T:=E (D.o f);clear F x D s;go_wp2;go_region;go_wp2;go_region;go_wp2;exact⟨⟨k+1,c+(d-128)*128^k,by go_num,by rw[C.o],T.o,v.o.dr.dr⟩,by simp only[intOf];omega⟩
  ·obtain rfl:k=5:=by omega
   have e:=E l.o.full;clear l;go_wp2;go_region;go_wp2;go_ret2;exact wY e.o u (by unfold dV;omega) B.o v.o G ((aa.refl _ _).dr)
theorem eQ.ai{b:ab}(h:eQ w)(e:aa S w b)(c:∀g,g<16->¬S g):eQ b:=λg a=>by obtain⟨t,u,d⟩:=h g a;refine⟨t,u,e.cell d (c g ?_)⟩;unfold dV at a;omega
theorem AP(h:lY l=.ok n r):n<34359738368/\r.length<l.length:=by
 unfold lY at h;split at h
 ·cases h
 ·rename_i x a;have:=wS a;cases h;rw[mR];omega
theorem Ab.on{d e:ab}{p:Nat}(h:Ab w d v p)(m:aa S d e)(l:∀k,w.heap.size<=k->¬S k):Ab w e v p:=by obtain⟨b,t,u,g,f,a,c,i,j⟩:=h;exact⟨b,t,u,g,f,a,(m.block b (lg c) (l b a)).trans c,i,j⟩
theorem BP(m:Nat)(a:ByteArray)(f i c d:Nat)(G:ax)(w:ab)(h:lO w m a f i G)(o:f<=a.size)(q:a.size<=1000000000000)(B:16<=m)(D:eQ w):ba prog 211 #[X (V ⟨m,0,Y⟩),Z U (c:Nat),Z U (d:Nat)] w (gU (λn:Nat=>Z U (n:Int)) (Z U 0) m a i G (dg c d (cH a f)) w):=by
 have c1:w.cell? ⟨m,1,Y⟩=V (Z U (f:Nat)):=ae h 1;have x:=pS m a f i G w h o q D;have l:=gh a f;rcases hx:lY (cH a f)with left|⟨n,rest⟩
 ·rw[hx]at x;have e:dg c d (cH a f)=.bad left:=by unfold dg;rw[hx];rfl
  rw[e];have C:=E x;clear x h D o q l hx e B;go_enter func211,ntmps211;go_wp2_with(go_at_call 187;go_must(refine C.o.mono ?_;rintro e k ⟨⟨v,rfl,hf⟩,j⟩;obtain⟨b,t,u,g,rfl,F⟩:=hf;have HF:=E F;have z:=E j;clear F j))
  go_ret2;exact⟨⟨_,rfl,b,t,u,g,rfl,HF.o⟩,z.o⟩
 ·rw[hx]at x;by_cases p:c<=n/\n<=d
  ·have e:dg c d (cH a f)=.ok n rest:=by unfold dg;rw[hx];show(if c<=n/\n<=d then _ else _)=_;rw[fy p]
   rw[e];have a0:¬(n:Int)<c:=by omega
   have a1:¬(d:Int)<n:=by omega
   have C:=E x;clear x h D o q l hx e B p;go_enter func211,ntmps211;go_wp2_with(go_at_call 187;go_must(refine C.o.mono ?_;rintro e k ⟨rfl,y,j⟩;have K:=E y;have z:=E j;clear y j))
   go_ret2;exact⟨rfl,K.o,z.o⟩
  ·have e:dg c d (cH a f)=.bad (cH a f).length:=by unfold dg;rw[hx];show(if c<=n/\n<=d then _ else _)=_;rw[el p]
   rw[e,l];have S:a.size-(a.size-f)=f:=by omega
   have HP:=E S;have C:=E x;have W:=E D;have N:QS (∀k,aa (·=m) w k->eQ k):=λk j=>D.ai j (λg hg e=>by have e':g=m:=e;omega);have s:∀k H t u,aa (·=m) w k->aa n_ k H->k.cell? ⟨15,0,Y⟩=V (.iface t u)->gU (λn:Nat=>Z U (n:Int)) (Z U 0) m a i G (.bad (a.size-f)) w (ay (bt #[Z U 0,.iface 231 (X (V ⟨H.heap.size,0,Y⟩))])) (H.alloc (I #[Z U (f:Int),.iface t u] 233)):=λk H t u j T R=>by
    have Q:=j.size;have h2:=T.size;have L:w.cell? ⟨15,0,Y⟩=V (.iface t u):=by obtain⟨t',u',P⟩:=W.o 15 (by unfold dV;omega);have:=j.cell P (λe=>by have e':(15:Nat)=m:=e;omega);rw[this]at R;rw[P];exact R
    refine⟨⟨_,rfl,_,t,u,15,rfl,by omega,?_,(by unfold dV;omega),L⟩,?_⟩
    ·rw[HP.o];exact az _ _
    ·exact(j.trans T (λ_ _ h=>h.elim)).al _
   have r:=E s;have M:(n:Int)<c\/(¬(n:Int)<c/\(d:Int)<n):=by omega
   clear x h D o q l hx e B S s p;rcases M with Q|⟨Q,h2⟩
   ·go_enter func211,ntmps211;go_wp2_with(go_at_call 187;go_must(refine C.o.mono ?_;rintro e k ⟨rfl,y,j⟩;obtain⟨t,u,A⟩:=N.o k j 15 (by unfold dV;omega);have K:=E y;have z:=E j;clear y j))
    go_region;go_wp2;go_ret2;exact r.o k _ t u z.o ((aa.refl _ _).dr) A
   ·go_enter func211,ntmps211;go_wp2_with(go_at_call 187;go_must(refine C.o.mono ?_;rintro e k ⟨rfl,y,j⟩;obtain⟨t,u,A⟩:=N.o k j 15 (by unfold dV;omega);have K:=E y;have z:=E j;clear y j))
    go_region;go_wp2;go_ret2;exact r.o k _ t u z.o ((aa.refl _ _).dr) A
theorem AR{a:List UInt8}{b:Array UInt8}(h:a≠b.toList):((aU a).toList==(⟨b⟩:ByteArray).toList)=false:=by refine(Lib.bytes_beq_false_iff _ _).2 (λe=>h ?_);have:=Rc (λx:ByteArray=>x.data.toList) e;exact this
theorem zD{α:Type}{enc:α->ax}{zero:ax}{count left:Nat}{b:ByteArray}{rv:ax}{j k:ab}(q:b.size-left=a)(f:dV g)(r:16<=c)(o:eQ w)(i:aa (·=c) w j)(m:j.cell? ⟨g,0,Y⟩=V (.iface t u))(n:aa n_ j k):gU enc zero c b count rv (.bad left) w (ay (bt #[zero,.iface 231 (X (V ⟨k.heap.size,0,Y⟩))])) (k.alloc (I #[Z U (a:Int),.iface t u] 233)):=by
 have v:=i.size;have x:=n.size;have d:w.cell? ⟨g,0,Y⟩=V (.iface t u):=by
  obtain⟨y,z,l⟩:=o g f;have p:g<16:=by unfold dV at f;omega
  have:=i.cell l (λe=>by have s:g=c:=e;omega);rw[this]at m;rw[l];exact m
 refine⟨⟨_,rfl,_,t,u,g,rfl,by omega,?_,f,d⟩,?_⟩
 ·rw[q];exact az _ _
 ·exact(i.trans n (λ_ _ h=>h.elim)).al _
theorem Mc(i:Nat)(a:ByteArray)(c:Nat)(B:ax)(w:ab)(h:lO w i a 0 c B)(m:a.size<=1000000000000)(l:16<=i)(x:eQ w):ba prog 186 #[X (V ⟨i,0,Y⟩)] w (gU (λb:Bool=>ao b) (ao false) i a c B (iH (cH a 0)) w):=by
 have k:=DE i a 0 c 4 B w h (eL _) m (by omega) x;have d:=gh a 0;rcases hx:ee 4 (cH a 0)with left|⟨y,rest⟩
 ·rw[hx]at k;have e:iH (cH a 0)=.bad left:=by unfold iH;rw[hx];rfl
  rw[e];have q:=E k;clear k h x m d hx e l;go_enter func186,ntmps186;go_wp2_with(go_at_call 210;go_must(refine q.o.mono ?_;rintro e p ⟨⟨v,rfl,T⟩,j⟩;obtain⟨b,t,u,g,rfl,C⟩:=T;have P:=E C;have r:=E j;clear C j))
  go_ret2;exact⟨⟨_,rfl,b,t,u,g,rfl,P.o⟩,r.o⟩
 ·rw[hx]at k;have e:iH (cH a 0)=if y=gg true then .ok true rest else if y=gg false then .ok false rest else .bad (cH a 0).length:=by unfold iH;rw[hx];rfl
  rw[e];by_cases s:y=gg true
  ·rw[fy s];rw[s]at k;have f:ba prog 210 #[X (V ⟨i,0,Y⟩),Z U 4] w λe o=>e=ay (bt #[O ⟨#[65,78,78,70]⟩,.nilIface])/\lO o i a (a.size-rest.length) c B/\aa (·=i) w o:=k;have q:=E f;clear k f h x m d hx e l s;go_enter func186,ntmps186;go_wp2_with(go_at_call 210;go_must(refine q.o.mono ?_;rintro e p ⟨rfl,n,j⟩;have D:=E n;have r:=E j;clear n j))
   go_ret2;exact⟨rfl,D.o,r.o⟩
  ·rw[el s];by_cases A:y=gg false
   ·rw[fy A];rw[A]at k;have f:ba prog 210 #[X (V ⟨i,0,Y⟩),Z U 4] w λe o=>e=ay (bt #[O ⟨#[65,78,78,68]⟩,.nilIface])/\lO o i a (a.size-rest.length) c B/\aa (·=i) w o:=k;have q:=E f;clear k f h x m d hx e l s A;go_enter func186,ntmps186;go_wp2_with(go_at_call 210;go_must(refine q.o.mono ?_;rintro e p ⟨rfl,n,j⟩;have D:=E n;have r:=E j;clear n j))
    go_ret2;exact⟨rfl,D.o,r.o⟩
   ·rw[el A,d];have G:((aU y).toList==(⟨#[65,78,78,70]⟩:ByteArray).toList)=false:=AR s;have H:((aU y).toList==(⟨#[65,78,78,68]⟩:ByteArray).toList)=false:=AR A;have f:ba prog 210 #[X (V ⟨i,0,Y⟩),Z U 4] w λe o=>e=ay (bt #[O (aU y),.nilIface])/\lO o i a (a.size-rest.length) c B/\aa (·=i) w o:=k;have q:=E f;have Q:QS (∀p,aa (·=i) w p->eQ p):=λp j=>x.ai j (λg hg e=>by have W:g=i:=e;omega);have N:=E x;have M:a.size-(a.size-0)=0:=by omega
    have R:=E M;have F:=E l;clear k f h x m d hx e l s A M;generalize aU y=z at*;have K:(z.toList==[65,78,78,70])=false:=by
     have e:(⟨#[65,78,78,70]⟩:ByteArray).toList=[65,78,78,70]:=by simp
     rwa[e]at G
    have L:(z.toList==[65,78,78,68])=false:=by
     have e:(⟨#[65,78,78,68]⟩:ByteArray).toList=[65,78,78,68]:=by simp
     rwa[e]at H
    have q1:¬z.toList=[65,78,78,70]:=λe=>by rw[e]at K;simp at K
    have q2:¬z.toList=[65,78,78,68]:=λe=>by rw[e]at L;simp at L
    clear G H;go_enter func186,ntmps186;go_wp2_with(go_at_call 210;go_must(refine q.o.mono ?_;rintro e p ⟨rfl,n,j⟩;obtain⟨t,u,S⟩:=Q.o p j 9 (by unfold dV;omega);have D:=E n;have r:=E j;clear n j))
    go_region;go_wp2;go_ret2;exact zD R.o (by unfold dV;omega) F.o N.o r.o S ((aa.refl _ _).dr)
end Go.Proofs.YtjbkfdeldlajhaaGreatDoor
