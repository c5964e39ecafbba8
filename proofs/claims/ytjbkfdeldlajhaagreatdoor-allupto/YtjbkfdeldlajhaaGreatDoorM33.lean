import Derived.Test.YtjbkfdeldlajhaaGreatDoorM32
set_option linter.unusedSimpArgs false
namespace Go.Proofs.YtjbkfdeldlajhaaGreatDoor
set_option maxRecDepth 100000
set_option maxHeartbeats 4000000
open Go.RowKit Go.Shelf Go.Proofs.Tryz Go.ChangeMaps Go.MapKept Go.Maps Go.Sort
open Go.Value renaming string->O,int->Z,slice->J,pointer->X,bool->ao,tuple->bt
open Go renaming World->ab,Calls->ba,Value->ax,TypeId->cI
open Option renaming none->Y,some->V
open Go.IntKind renaming i64->U
open Go.Obj renaming cells->I
open Go.Ending renaming returned->ay
variable{w wr:ab}{c:Bool}{s:kG}{d g e f k n:Nat}{v:ax}{l:List an}{r:an}{t:ByteArray}
theorem mw(a:ByteArray)(w:ab)(e:a.size<=1000000000):ba prog 43 #[O a] w (nI (cA a.data.toList) w):=by
 have b:a.data.toList.length=a.size:=rfl;unfold cA;by_cases d:a.size<4
 ·rw[fy (by rw[b];exact d)];exact uP a w d
 ·rw[el (by rw[b];exact d)];by_cases c:a.data.toList.drop (a.data.toList.length-4)=bM (a.data.toList.take (a.data.toList.length-4))
  ·rw[fy c];exact xm a w (by omega) e c
  ·rw[el c];exact yE a w (by omega) (by omega) c
section
attribute [local go_sem] Oper.semAt_some
def Nu(w:ab)(a:Nat):Prop:=w.heap[a]?=V (I #[ao false,Z U 0,Z U 0,.map Y] 177 (0,0))
def ni(M:List (ByteArray×an)):List (ByteArray×ax):=M.map λp=>(p.1,p.2.val)
structure iT(w:ab)(cb mb:Nat)(full:Bool)(a b:Nat)(M:List (ByteArray×an)):Prop where
 top:w.heap[cb]?=V (I #[ao full,Z U (a:Nat),Z U (b:Nat),.map (V mb)] 177 (0,0))
 map:aQ O w mb (ni M)
theorem iT.ai{S:Nat->Prop}{g:ab}{a b:Nat}{M:List (ByteArray×an)}(h:iT w d e c a b M)(f:aa S w g)(i:¬S d)(j:¬S e):iT g d e c a b M:=
 ⟨(f.block d (lg h.top) i).trans h.top,h.map.ai f j⟩
theorem iT.ne{a b:Nat}{M:List (ByteArray×an)}(h:iT w e g c a b M):e≠g:=by rintro rfl;obtain⟨i,d,f,-⟩:=h.map;rw[h.top]at f;cases f
theorem Mi(M:List (ByteArray×an))(r:an):put (ni M) r.key r.val=ni (put M r.key r):=oj an.val M r.key r
theorem Mh(M:List (ByteArray×an))(k:ByteArray):del (ni M) k=ni (del M k):=nR an.val M k
theorem Row.Mq{l a b:Nat}{d:Bool}{M:List (ByteArray×an)}{o:List ax}(h:iT w f l d a b M)(k:Row w 70 3 v n o)(j:v.ownBlock=V g):¬(g=f\/g=l):=by
 rintro(rfl|rfl)
 ·exact(k.aR j).ne (e':=177) (by decide) ⟨_,h.top⟩
 ·obtain⟨c,m⟩:=k.aR j;obtain⟨p,e,i,-⟩:=h.map;rw[m]at i;cases i
theorem yY(b:Nat)(w:ab):(binOp BinOp.eql 175 (.map (V b)) (.map Y)).run prog w=.ok (ao false) w:=by kernel_rfl
theorem Je(w:ab):(binOp BinOp.eql 175 (.map Y) (.map Y)).run prog w=.ok (ao true) w:=by kernel_rfl
def pZ(g:Nat)(S:Nat->Prop)(c:Bool)(a b:Nat)(M:List (ByteArray×an))(w:ab)(e:Ending)(f:ab):Prop:=e=ay (ao true)/\∃d,iT f g d c a b M/\(S d\/w.heap.size<=d)/\aa S w f
theorem add_not(m r:Nat)(f j:Bool)(a b d t:Nat)(M:List (ByteArray×an))(s:ax)(w:ab)(h:iT w m r f a b M)(y:∃o n c,s=J o n c)(k:j=true\/d≠b):ba prog 106 #[X (V ⟨m,0,Y⟩),.agg #[ao j,Z U (d:Nat),Z U (t:Nat),s]] w λe z=>e=ay (ao false)/\aa n_ w z:=by
 obtain⟨o,n,c,rfl⟩:=y;have q:=aa.alloc n_ w (I #[ao j,Z U (d:Nat),Z U (t:Nat),J o n c] 28);have i:=h.ai q id id;have u:=ae i.top 0;have v:=ae i.top 2;have x:=ae i.top 3;simp at u v x;have A:=yY r;clear i h q;cases j with
 |true=>
  clear k;go_enter func106,ntmps106;go_wp2_with fail;go_region;go_wp2;go_ret;exact⟨rfl,((aa.refl _ w).al _).dr⟩
 |false=>
  have l:d≠b:=by simpa using k
  have g:¬((d:Int)=b):=by omega
  have p:((d:Int)==b)=false:=by rw[mK];exact g
  clear k l;go_enter func106,ntmps106;go_wp2_with fail;go_region;go_wp2;go_ret;exact⟨rfl,((aa.refl _ w).al _).dr⟩
theorem iT.set{g:ab}{a b:Nat}{M i:List (ByteArray×an)}{o:Obj}(h:iT w f d c a b M)(j:aa n_ w g)(k:aQ O (setBlock g d o) d (ni i)):iT (setBlock g d o) f d c a b i:=
 ⟨((aa.setBlock g d o).block f (kz (lg h.top) j.size) (λe=>h.ne e)).trans ((j.block f (lg h.top) id).trans h.top),k⟩
theorem iT.update{a b:Nat}{M:List (ByteArray×an)}(h:iT w f d c a b M)(r:an):∃o,(Instr.mapUpdate 175 (.map (V d)) (O r.key) r.val).run prog w=.ok () (setBlock w d o)/\aQ O (setBlock w d o) d (ni (put M r.key r)):=by obtain⟨o,g,e⟩:=h.map.update bJ Tryz.underlying175 Tryz.underlying9 r.key r.val;rw[Mi]at e;exact⟨o,g,e⟩
theorem iT.delete{a b:Nat}{M:List (ByteArray×an)}(h:iT w g d c a b M)(k:ByteArray)(f:cI):∃o,(Builtin.delete_ #[175,9] f #[.map (V d),O k]).run prog w=.ok (bt #[]) (setBlock w d o)/\aQ O (setBlock w d o) d (ni (del M k)):=by obtain⟨o,i,e⟩:=h.map.delete bJ Tryz.underlying175 Tryz.underlying9 k f;rw[Mh]at e;exact⟨o,i,e⟩
theorem Lc(m f:Nat)(c:Bool)(a b n:Nat)(M:List (ByteArray×an))(v:Option Addr)(d:Nat)(l:List an)(w:ab)(h:iT w m f c a b M)(hr:Row w 70 3 (J v l.length d) l.length (cP l))(hl:l.length<=1000):ba prog 106 #[X (V ⟨m,0,Y⟩),.agg #[ao false,Z U (b:Nat),Z U (n:Nat),J v l.length d]] w (pZ m (λj=>j=m\/j=f) c a n (l.foldl (dh c) M) w):=by
 have k0:=aa.alloc n_ w (I #[ao false,Z U (b:Nat),Z U (n:Nat),J v l.length d] 28);have z:=h.ai k0 id id;have c0:=ae z.top 0;have c2:=ae z.top 2;have c3:=ae z.top 3;have f2:=aj z.top 2;simp at c0 c2 c3;have hq:=yY f;have a0:=E (az w (I #[ao false,Z U (b:Nat),Z U (n:Nat),J v l.length d] 28));have HC:=E h;have HR:=E hr;have HL:=E hl;have a8:(l.length:Int)<=1000:=by omega
 clear h hr hl z k0;go_enter func106,ntmps106;go_wp2_with fail;go_region;go_wp2_with fail;have H5:QS (iT ((w.alloc (I #[ao false,Z U (b:Nat),Z U (n:Nat),J v l.length d] 28)).setCell ⟨m,2,Y⟩ (Z U (n:Nat))).drew m f c a n M):=by have T:=aa.alloc n_ w (I #[ao false,Z U (b:Nat),Z U (n:Nat),J v l.length d] 28);have z:=HC.o.ai T id id;have ks:=aa.setCell (w.alloc (I #[ao false,Z U (b:Nat),Z U (n:Nat),J v l.length d] 28)) ⟨m,2,Y⟩ (Z U (n:Nat));exact⟨(ak z.top _).trans (by simp),z.map.ai ks.dr (λe=>z.ne (show f=m from e).symm)⟩
 have a1:QS (aa (λj=>j=m\/j=f) w ((w.alloc (I #[ao false,Z U (b:Nat),Z U (n:Nat),J v l.length d] 28)).setCell ⟨m,2,Y⟩ (Z U (n:Nat))).drew):=(((aa.refl (λj=>j=m\/j=f) w).al _).st (p:=⟨m,2,Y⟩) (.inr (.inl rfl)) _).dr;generalize ((w.alloc (I #[ao false,Z U (b:Nat),Z U (n:Nat),J v l.length d] 28)).setCell ⟨m,2,Y⟩ (Z U (n:Nat))).drew=w5 at*;have sa:0<l.length->∃g,v=V ⟨g,0,Y⟩:=by obtain⟨a9,a5,he,-,sa⟩:=HR.o.form;cases he;exact sa
 have SA:=E sa;clear c0 c2 c3 f2 a0 sa;go_loopw [39] (λi wr=>∃k:Nat,k<=l.length/\i=Z U (k:Nat)/\iT wr m f c a n ((l.take k).foldl (dh c) M)/\aa (λj=>j=m\/j=f) w wr) (λi _=>l.length-(intOf i).toNat)
 case atStart=>exact⟨0,eL _,rfl,H5.o,a1.o⟩
 case round=>
  obtain⟨k,hk,rfl,Q,R⟩:=hrel;have a6:(k:Int)<=l.length:=by omega
  have D:=E Q;have L:=E R;by_cases r:k<l.length
  ·obtain⟨g,rfl⟩:=SA.o (by omega);have t:fE wr (J (V ⟨g,0,Y⟩) l.length d) l:=HR.o.ai R (λg hg=>Row.Mq HC.o HR.o hg);obtain⟨r0,r1,r2⟩:=jI t k r;have a3:(k:Int)<l.length:=by omega
   have H:(l.take (k+1)).foldl (dh c) M=dh c ((l.take k).foldl (dh c) M) l[k]:=by rw[eu r,Ri];rfl
   have F:=E H;obtain⟨y,hy⟩:∃y,y=l[k]:=⟨_,rfl⟩
   rw[<-hy]at r0 r1 r2 F;obtain⟨q,C,u⟩:=y;simp only at r0 r1 r2;generalize (l.take k).foldl (dh c) M=N at*;have T:aa n_ wr (wr.alloc (I #[O q,O C,ao u] 70)):=aa.alloc _ _ _;have P:=Q.ai T id id;have t0:=ae P.top 0;have t3:=ae P.top 3;simp at t0 t3;have x:=E r;have hB:=P.ai ((aa.refl n_ _).dr) id id;have B:QS (∀W o M',aa n_ wr W->aQ O (setBlock W f o) f (ni M')->iT (setBlock W f o) m f c a n M'/\aa (λj=>j=m\/j=f) w (setBlock W f o)):=λW o M' h1 h2=>⟨D.o.set h1 h2,(L.o.tr h1 (λ_ h=>h.elim)).tr (aa.setBlock W f o) (λ_ e=>.inr e)⟩;by_cases A:c=true/\u=true
   ·obtain⟨rfl,rfl⟩:=A;obtain⟨o,G,s⟩:=hB.delete q 0;have HO:=E s;have K:QS (dh true N ⟨q,C,true⟩=del N q):=rfl;clear Q R t H hy hk r P hB s T;go_wp2_with fail;go_region;go_wp2;have S:=B.o _ o (del N q) (((aa.refl n_ wr).al _).dr) HO.o;exact⟨⟨k+1,x.o,by go_num,by rw[F.o];exact S.1,S.2⟩,by simp only[intOf];have:=x.o;omega⟩
   ·obtain⟨o,G,s⟩:=hB.update ⟨q,C,u⟩;have a4:(Instr.mapUpdate 175 (.map (V f)) (O q) (.agg #[O q,O C,ao u])).run prog (wr.alloc (I #[O q,O C,ao u] 70)).drew=.ok () (setBlock (wr.alloc (I #[O q,O C,ao u] 70)).drew f o):=G;have HO:=E s;have K:QS (dh c N ⟨q,C,u⟩=put N q ⟨q,C,u⟩):=by show(if(c&&u)=true then _ else _)=_;rw[el (by rw[ss];exact A)]
    have a2:c=false\/(c=true/\u=false):=by
     cases c with
     |false=>exact .inl rfl
     |true=>
      cases u with
      |false=>exact .inr ⟨rfl,rfl⟩
      |true=>exact absurd ⟨rfl,rfl⟩ A
    clear Q R t H hy hk r P hB G s T A;rcases a2 with rfl|⟨rfl,rfl⟩;all_goals
     go_wp2_with fail;go_region;go_wp2;have S:=B.o _ o _ (((aa.refl n_ wr).al _).dr) HO.o;exact⟨⟨k+1,x.o,by go_num,by rw[F.o,K.o];exact S.1,S.2⟩,by simp only[intOf];have:=x.o;omega⟩
  ·have e:l.take k=l:=ep (by omega);rw[e]at D;have a7:¬((k:Int)<l.length):=by omega
   clear Q R e;go_wp2;go_ret;exact⟨rfl,f,D.o,.inl (.inr rfl),L.o⟩
theorem BU(c:Nat)(b:Bool)(a d:Nat)(z:Option Addr)(f:Nat)(l:List an)(w:ab)(h:Nu w c)(hr:Row w 70 3 (J z l.length f) l.length (cP l))(hl:l.length<=1000):ba prog 106 #[X (V ⟨c,0,Y⟩),.agg #[ao b,Z U (a:Nat),Z U (d:Nat),J z l.length f]] w (pZ c (λj=>j=c) b a d (l.foldl (dh b) []) w):=by
 have a7:c<w.heap.size:=(lg h);have c0:=ae h 0;have c1:=ae h 1;have c2:=ae h 2;have c3:=ae h 3;have f0:=aj h 0;have f1:=aj h 1;have f2:=aj h 2;have f3:=aj h 3;simp at c0 c1 c2 c3;have hq:=Je;have b1:=@run_makeMap prog;have HC:=E h;have HR:=E hr;have HL:=E hl;have b0:(l.length:Int)<=1000:=by omega
 have a3:¬(c=w.heap.size):=by omega
 have S:¬(w.heap.size=c):=by omega
 have T:¬(c=w.heap.size+1):=by omega
 have a0:¬(w.heap.size+1=c):=by omega
 clear h hr hl;go_enter func106,ntmps106;go_wp2_with fail;have H5:QS (iT (((((((w.setCell ⟨c,0,Y⟩ (ao b)).setCell ⟨c,1,Y⟩ (Z U (a:Nat))).setCell ⟨c,2,Y⟩ (Z U 0)).setCell ⟨c,3,Y⟩ (.map (V (w.heap.size+1)))).setCell ⟨c,2,Y⟩ (Z U (d:Nat))).alloc (I #[ao b,Z U (a:Nat),Z U (d:Nat),J z l.length f] 28)).alloc (.map #[] 0)) c (w.heap.size+1) b a d []):=by
  have hs:(((((w.setCell ⟨c,0,Y⟩ (ao b)).setCell ⟨c,1,Y⟩ (Z U (a:Nat))).setCell ⟨c,2,Y⟩ (Z U 0)).setCell ⟨c,3,Y⟩ (.map (V (w.heap.size+1)))).setCell ⟨c,2,Y⟩ (Z U (d:Nat))).heap[c]?=V (I #[ao b,Z U (a:Nat),Z U (d:Nat),.map (V (w.heap.size+1))] 177 (0,0)):=by have e0:=ak (i:=0) HC.o (ao b);have e1:=ak (i:=1) e0 (Z U (a:Nat));have e2:=ak (i:=2) e1 (Z U 0);have e3:=ak (i:=3) e2 (.map (V (w.heap.size+1)));have e4:=ak (i:=2) e3 (Z U (d:Nat));simpa using e4
  have kk:=((aa.refl n_ (((((w.setCell ⟨c,0,Y⟩ (ao b)).setCell ⟨c,1,Y⟩ (Z U (a:Nat))).setCell ⟨c,2,Y⟩ (Z U 0)).setCell ⟨c,3,Y⟩ (.map (V (w.heap.size+1)))).setCell ⟨c,2,Y⟩ (Z U (d:Nat)))).al (I #[ao b,Z U (a:Nat),Z U (d:Nat),J z l.length f] 28)).al (.map #[] 0);refine⟨(kk.block c (lg hs) id).trans hs,?_⟩;have:=aQ.made O ((((((w.setCell ⟨c,0,Y⟩ (ao b)).setCell ⟨c,1,Y⟩ (Z U (a:Nat))).setCell ⟨c,2,Y⟩ (Z U 0)).setCell ⟨c,3,Y⟩ (.map (V (w.heap.size+1)))).setCell ⟨c,2,Y⟩ (Z U (d:Nat))).alloc (I #[ao b,Z U (a:Nat),Z U (d:Nat),J z l.length f] 28));simpa[ni]using this
 have a1:QS (aa (λj=>j=c) w (((((((w.setCell ⟨c,0,Y⟩ (ao b)).setCell ⟨c,1,Y⟩ (Z U (a:Nat))).setCell ⟨c,2,Y⟩ (Z U 0)).setCell ⟨c,3,Y⟩ (.map (V (w.heap.size+1)))).setCell ⟨c,2,Y⟩ (Z U (d:Nat))).alloc (I #[ao b,Z U (a:Nat),Z U (d:Nat),J z l.length f] 28)).alloc (.map #[] 0))):=(((((((aa.refl (λj=>j=c) w).st (p:=⟨c,0,Y⟩) (.inr rfl) _).st (p:=⟨c,1,Y⟩) (.inr rfl) _).st (p:=⟨c,2,Y⟩) (.inr rfl) _).st (p:=⟨c,3,Y⟩) (.inr rfl) _).st (p:=⟨c,2,Y⟩) (.inr rfl) _).al _).al _;generalize ((((((w.setCell ⟨c,0,Y⟩ (ao b)).setCell ⟨c,1,Y⟩ (Z U (a:Nat))).setCell ⟨c,2,Y⟩ (Z U 0)).setCell ⟨c,3,Y⟩ (.map (V (w.heap.size+1)))).setCell ⟨c,2,Y⟩ (Z U (d:Nat))).alloc (I #[ao b,Z U (a:Nat),Z U (d:Nat),J z l.length f] 28)).alloc (.map #[] 0)=w5 at*;obtain⟨m,R⟩:∃m,m=w.heap.size+1:=⟨_,rfl⟩
 rw[<-R]at H5;have K:QS (w.heap.size<=m):=by show _<=_;omega
 clear R;have sa:0<l.length->∃g,z=V ⟨g,0,Y⟩:=by obtain⟨b2,a6,he,-,sa⟩:=HR.o.form;cases he;exact sa
 have SA:=E sa;clear c0 c1 c2 c3 f0 f1 f2 f3 sa a3 S T a0;go_loopw [39] (λi wr=>∃k:Nat,k<=l.length/\i=Z U (k:Nat)/\iT wr c m b a d ((l.take k).foldl (dh b) [])/\aa (λj=>j=c) w wr) (λi _=>l.length-(intOf i).toNat)
 case atStart=>exact⟨0,eL _,rfl,H5.o,a1.o⟩
 case round=>
  obtain⟨k,hk,rfl,M,P⟩:=hrel;have a8:(k:Int)<=l.length:=by omega
  have B:=E M;have H:=E P;by_cases q:k<l.length
  ·obtain⟨g,rfl⟩:=SA.o (by omega);have s:fE wr (J (V ⟨g,0,Y⟩) l.length f) l:=HR.o.ai P (λg hg e=>(HR.o.aR hg).ne (e':=177) (by decide) ((show g=c from e)▸⟨_,HC.o⟩));obtain⟨r0,r1,r2⟩:=jI s k q;have a4:(k:Int)<l.length:=by omega
   have F:(l.take (k+1)).foldl (dh b) []=dh b ((l.take k).foldl (dh b) []) l[k]:=by rw[eu q,Ri];rfl
   have C:=E F;obtain⟨y,hy⟩:∃y,y=l[k]:=⟨_,rfl⟩
   rw[<-hy]at r0 r1 r2 C;obtain⟨n,A,t⟩:=y;simp only at r0 r1 r2;generalize (l.take k).foldl (dh b) []=N at*;have ka:aa n_ wr (wr.alloc (I #[O n,O A,ao t] 70)):=aa.alloc _ _ _;have L:=M.ai ka id id;have t0:=ae L.top 0;have t3:=ae L.top 3;simp at t0 t3;have u:=E q;have hB:=L.ai ((aa.refl n_ _).dr) id id;have x:QS (∀W o M',aa n_ wr W->aQ O (setBlock W m o) m (ni M')->iT (setBlock W m o) c m b a d M'/\aa (λj=>j=c) w (setBlock W m o)):=λW o M' h1 h2=>⟨B.o.set h1 h2,(H.o.tr h1 (λ_ h=>h.elim)).trans (aa.setBlock W m o) (λk hk e=>by have e':k=m:=e;have:=K.o;omega)⟩;by_cases v:b=true/\t=true
   ·obtain⟨rfl,rfl⟩:=v;obtain⟨o,D,r⟩:=hB.delete n 0;have HO:=E r;have G:QS (dh true N ⟨n,A,true⟩=del N n):=rfl;clear M P s F hy hk q L hB r ka;go_wp2_with fail;go_region;go_wp2;have Q:=x.o _ o (del N n) (((aa.refl n_ wr).al _).dr) HO.o;exact⟨⟨k+1,u.o,by go_num,by rw[C.o];exact Q.1,Q.2⟩,by simp only[intOf];have:=u.o;omega⟩
   ·obtain⟨o,D,r⟩:=hB.update ⟨n,A,t⟩;have a5:(Instr.mapUpdate 175 (.map (V m)) (O n) (.agg #[O n,O A,ao t])).run prog (wr.alloc (I #[O n,O A,ao t] 70)).drew=.ok () (setBlock (wr.alloc (I #[O n,O A,ao t] 70)).drew m o):=D;have HO:=E r;have G:QS (dh b N ⟨n,A,t⟩=put N n ⟨n,A,t⟩):=by show(if(b&&t)=true then _ else _)=_;rw[el (by rw[ss];exact v)]
    have a2:b=false\/(b=true/\t=false):=by
     cases b with
     |false=>exact .inl rfl
     |true=>
      cases t with
      |false=>exact .inr ⟨rfl,rfl⟩
      |true=>exact absurd ⟨rfl,rfl⟩ v
    clear M P s F hy hk q L hB D r ka v;rcases a2 with rfl|⟨rfl,rfl⟩;all_goals
     go_wp2_with fail;go_region;go_wp2;have Q:=x.o _ o _ (((aa.refl n_ wr).al _).dr) HO.o;exact⟨⟨k+1,u.o,by go_num,by rw[C.o,G.o];exact Q.1,Q.2⟩,by simp only[intOf];have:=u.o;omega⟩
  ·have e:l.take k=l:=ep (by omega);rw[e]at B;have a9:¬((k:Int)<l.length):=by omega
   clear M P e;go_wp2;go_ret;exact⟨rfl,m,B.o,.inr K.o,H.o⟩
end
theorem zm(M:List (ByteArray×an)):(ni M).map (·.1)=M.map (·.1):=by unfold ni;rw[tO];rfl
theorem Jp(n:Nat)(M:List (ByteArray×an))(w:ab)(t:aQ O w n (ni M))(A:∀p∈M,p.1.size<=maxLen)(G:M.length<=2000000000):ba prog 157 #[.func (.func 196) #[] #[X (V ⟨w.heap.size,0,Y⟩)]] (w.alloc (I #[.map (V n)] 175)) λe o=>∃v i,e=ay v/\Row o 9 1 v i.length (i.map O)/\bh i/\i.Perm (M.map (·.1))/\aa n_ w o:=by
 have m:=t.nodup;have B:(ni M).length=M.length:=hO _;obtain⟨D,j,c,d⟩:=t.owns (λp C=>by obtain⟨q,F,rfl⟩:=fI.1 C;exact A q F) (by unfold maxLen;omega)
 refine(callsIn_wide.1 (Tryz.slices_Sorted_keys_157_158 n (ni M).length D _ w j (by rw[d];unfold maxLen;omega) (by rw[d];omega))).mono ?_;rintro e o ⟨v,b,rfl,s,g,u,z⟩;have r:(ni M).map (λp=>p.1.data.toList)=((ni M).map (·.1)).map (λk=>k.data.toList):=by rw[tO];rfl
 have l:bh (cN b):=nJ ((s.trans c).nodup_iff.2 (by rw[r];exact jS (λ_ _ h=>data_inj h) m))
 have a:(cN b).Perm ((ni M).map (·.1)):=pf (by have:=s.trans c;rwa[r]at this)
 have f:(cN b).length=b.length:=by simp[cN]
 refine⟨v,cN b,rfl,?_,l,by rw[<-zm];exact a,((aa.refl _ w).al _).tr (aa.below z) i_⟩;rw[f];have:=pT g;have e:(cN b).map O=(b.mergeSort (λx y=>decide (x<=y))).map encStr:=by simp[cN,tQ]
 rw[e];exact this
structure xZ(w:ab)(cb mb:Nat)(full:Bool)(a b:Nat)(M:List (ByteArray×an))(xb:Nat)(v:ax)(l:List an)(wr:ab):Prop where
 ch:iT wr cb mb full a b M
 top:wr.heap[xb]?=V (I #[ao full,Z U (a:Nat),Z U (b:Nat),v] 28 (0,0))
 row:Row wr 70 3 v l.length (cP l)
 own:∀g,v.ownBlock=V g->w.heap.size<=g
 res:qK wr w.heap.size
 keep:aa n_ w wr
 Gz:w.heap.size<xb
theorem xZ.quiet{a b:Nat}{M:List (ByteArray×an)}{i:ab}(h:xZ w f g c a b M e v l wr)(d:aa n_ wr i):xZ w f g c a b M e v l i:=
 ⟨h.ch.ai d id id,(d.block e (lg h.top) id).trans h.top,h.row.ai d k_,h.own,h.res.ai d id,h.keep.tr d i_,h.Gz⟩
theorem xZ.ne{j:Nat}{a b:Nat}{M:List (ByteArray×an)}(h:xZ w g j c a b M d v l wr):g≠d/\j≠d:=by
 constructor
 ·intro e;exact bD.ne (w:=wr) (k:=d) (e:=28) (e':=177) ⟨_,h.top⟩ (by decide) (e▸⟨_,h.ch.top⟩)
 ·intro e;obtain⟨m,f,i,-⟩:=h.ch.map;rw[e,h.top]at i;cases i
theorem xZ.push{u z:Nat}{d:Bool}{a b:Nat}{M:List (ByteArray×an)}{i:Nat}{m:ax}{x:an}{o n:ab}(h:xZ w u z d a b M i v l wr)(B:aa n_ wr o)(y:Row n 70 3 m (l.length+1) (cP l++x.cells))(C:o.grownBy n v.ownBlock)(F:m.ownBlock=v.ownBlock\/m.ownBlock=V o.heap.size):n.heap[i]?=V (I #[ao d,Z U (a:Nat),Z U (b:Nat),v] 28 (0,0))/\xZ w u z d a b M i m (l++[x]) (n.setCell ⟨i,3,Y⟩ m):=by
 have c:=h.quiet B;have s:=aa.grown C;have r:∀k,V k=v.ownBlock->bD o k 70:=λk e=>c.row.aR e.symm;have A:=h.Gz;have G:=c.keep.size;have q:=c.ne;have f:n.heap[i]?=V (I #[ao d,Z U (a:Nat),Z U (b:Nat),v] 28 (0,0)):=(s.block i (lg c.top) (λe=>(r i e).ne (e':=28) (by decide) ⟨_,c.top⟩)).trans c.top;have t:=aa.setCell n ⟨i,3,Y⟩ m;refine⟨f,?_⟩;refine⟨(c.ch.ai s (λe=>(Row.Mq c.ch c.row e.symm) (.inl rfl)) (λe=>(Row.Mq c.ch c.row e.symm) (.inr rfl))).ai t (λe=>q.1 e) (λe=>q.2 e),(ak f _).trans (by simp),?_,λg j=>?_,?_,?_,A⟩
 ·have e:cP (l++[x])=cP l++x.cells:=by simp[cP]
  rw[e,hQ,Ro];exact y.ai t (λg j e=>(y.aR j).ne (e':=28) (by decide) ((show g=i from e)▸⟨_,f⟩))
 ·rcases F with e|e
  ·exact h.own g (e▸j)
  ·rw[j]at e;have p:g=o.heap.size:=by simpa using e
   omega
 ·refine(c.res.ai s (λe=>(r _ e).ne (e':=28) (by decide) ⟨_,c.res⟩)).ai t (λe=>?_);have p:w.heap.size=i:=e;omega
 ·refine(c.keep.trans s (λk D e=>?_)).trans t (λk D e=>?_)
  ·have:=c.own k e.symm;omega
  ·have p:k=i:=e;omega
theorem tM{c:Func}{p:Tmp}{d:cI}(h:c.results=#[.cell p d])(b:Array ax)(P:Program)(w:ab):(results c b).run P w=((asAddr (b.getD p undef)).run P w).andThen λa e=>(loadVar d a).run P e:=by simp only[results,h];simp[Sem.run_bind,Result.andThen]
def OV(d:Bool)(a b:Nat)(M:List (ByteArray×an))(w:ab)(e:Ending)(h:ab):Prop:=∃f l g c,e=ay (.agg #[ao d,Z U (a:Nat),Z U (b:Nat),J g l.length c])/\bh f/\f.Perm (M.map (·.1))/\f.map (aD M)=l.map V/\Row h 70 3 (J g l.length c) l.length (cP l)/\aa n_ w h
section
attribute [local go_sem] Oper.semAt_some
theorem Tryz.OA(w:ab):(zeroValue 70).run prog w=.ok (.agg #[O ⟨#[]⟩,O ⟨#[]⟩,ao false]) w:=by kernel_rfl
theorem iT.lookup{a b:Nat}{M:List (ByteArray×an)}(h:iT w e d c a b M){k:ByteArray}(f:aD M k=V r):(Instr.lookup 175 (.map (V d)) (O k) false).run prog w=.ok (.agg #[O r.key,O r.value,ao r.aO]) w:=by have:=h.map.lookup bJ Tryz.underlying175 Tryz.underlying9 (Tryz.OA w) k false;rw[this];unfold ni;rw[cd,f];rfl
theorem JO{M:List (ByteArray×an)}(g:(M.map (·.1)).Nodup){a:List ByteArray}(e:a.Perm (M.map (·.1))):∃l:List an,a.map (aD M)=l.map V:=by
 have h:∀k∈a,∃r,aD M k=V r:=λk b=>by obtain⟨p,c,d⟩:=fI.1 (e.mem_iff.1 b);exact⟨p.2,by rw[<-d];exact jc g c⟩
 clear e;induction a with
 |nil=>exact⟨[],rfl⟩
 |cons k a ih=>
  obtain⟨r,i⟩:=h k (by simp);obtain⟨l,f⟩:=ih (λk b=>h k (ef _ b));exact⟨r::l,by rw[mU,mU,i,f]⟩
theorem An(D L:Nat)(c:Bool)(a b:Nat)(M:List (ByteArray×an))(w:ab)(h:iT w D L c a b M)(K:∀p∈M,p.1.size<=maxLen)(hl:M.length<=2000000000):ba prog 107 #[X (V ⟨D,0,Y⟩)] w (OV c a b M w):=by
 obtain⟨i0,hi,c7,c8,c9⟩:=info_parts Tryz.kP;have b4:QS ((M.map (·.1)).Nodup):=by have:=h.map.nodup;rw[zm]at this;exact this
 have P:=E (λW (hW:iT W D L c a b M)=>Jp L M W hW.map K hl);have a9:=E hl;have HC:=E h;have c0:=ae h.top 0;have c1:=ae h.top 1;have H:=ae h.top 2;have c3:=ae h.top 3;simp at c0 c1 H c3;have d6:D<w.heap.size:=(lg h.top);have e0:¬(D=w.heap.size):=by omega
 clear h K hl;go_enter func107,ntmps107;go_wp2_with fail;go_region;go_wp2_with fail;have B:QS (xZ w D L c a b M (w.heap.size+1) (J Y 0 0) [] ((w.alloc (I #[ao false,Z U 0,Z U 0,J Y 0 0] 28)).alloc (I #[ao c,Z U (a:Nat),Z U (b:Nat),J Y 0 0] 28)).drew):=by have ka:=aa.alloc n_ w (I #[ao false,Z U 0,Z U 0,J Y 0 0] 28);have kb:=(aa.alloc n_ (w.alloc (I #[ao false,Z U 0,Z U 0,J Y 0 0] 28)) (I #[ao c,Z U (a:Nat),Z U (b:Nat),J Y 0 0] 28)).dr;have kc:=ka.tr kb i_;refine⟨HC.o.ai kc id id,?_,Row.nil _ _ _,λg hg=>(by cases hg),(kb.block _ (by simp) id).trans (az w _),kc,by omega⟩;have:=az (w.alloc (I #[ao false,Z U 0,Z U 0,J Y 0 0] 28)) (I #[ao c,Z U (a:Nat),Z U (b:Nat),J Y 0 0] 28);rw[World.size_alloc]at this;exact this
 generalize ((w.alloc (I #[ao false,Z U 0,Z U 0,J Y 0 0] 28)).alloc (I #[ao c,Z U (a:Nat),Z U (b:Nat),J Y 0 0] 28)).drew=w2 at*;generalize w.heap.size+1=xb at*;refine(callsIn_wide.1 (Tryz.maps_Keys_158 (V L) _)).mono ?_;rintro e w3 ⟨rfl,rfl⟩;go_wp2_with fail;refine(P.o _ B.o.ch).mono ?_;rintro e w4 ⟨v,f,rfl,r,A,d,k4⟩;obtain⟨ok,ck,rfl,c5,sk⟩:=r.form;have b8:=E (B.o.quiet k4);have b7:=E r;have b6:=E A;have b5:=E d;have SK:=E sk;obtain⟨l,G⟩:=JO b4.o d;have R:=E G;have u:l.length=f.length:=by have:=Rc List.length G;simpa using this.symm
 have c4:f.length<=2000000000:=by have h1:=d.length_eq;rw[hO]at h1;have:=a9.o;omega
 have t:=E u;have a8:=E c4;have d4:(f.length:Int)<=2000000000:=by omega
 clear r A d k4 sk G u B P c0 c1 H c3 c5;go_wp2_with fail;go_loopw [26] (λi wr=>∃(k:Nat) (v2:ax),k<=f.length/\i=Z U (k:Nat)/\xZ w D L c a b M xb v2 (l.take k) wr/\Row wr 9 1 (J ok f.length ck) f.length (f.map O)) (λi _=>f.length-(intOf i).toNat)
 case atStart=>exact⟨0,_,eL _,rfl,b8.o,b7.o⟩
 case round=>
  obtain⟨k,v2,K,rfl,o,hR⟩:=hrel;have d7:(k:Int)<=f.length:=by omega
  obtain⟨o2,H,rfl,-,-⟩:=o.row.form;by_cases q:k<f.length
  ·obtain⟨gk,rfl⟩:=SK.o (by omega);have F:k<l.length:=by have:=t.o;omega
   have m:aD M f[k]=V l[k]:=by have h1:=Rc (λz=>z[k]?) R.o;simp only[vk,ec q,ec F,uW]at h1;exact tv h1
   have r0:wr.cell? ⟨gk,k,Y⟩=V (O f[k]):=by rw[hR.cellAt k (by omega),vk,ec q];rfl
   have S:QS (l.take (k+1)=l.take k++[l[k]]):=eu F;have c6:(l.take k).length=k:=by rw[js];omega
   obtain⟨y,hy⟩:∃y,y=l[k]:=⟨_,rfl⟩
   rw[<-hy]at m S;have d5:(k:Int)<f.length:=by omega
   have s:=E o;have HR:=E hR;have Q:=E q;generalize f[k]=e1 at*;have T:(l.take k).length<=2000000000:=by have:=a8.o;omega
   have N:=E T;clear o hR hy;generalize l.take k=C at*;have d2:(C.length:Int)<=2000000000:=by omega
   have d9:=(s.o.ch.ai ((aa.refl n_ wr).dr) id id).lookup m;have t3:=ae s.o.top 3;have d3:=ae s.o.ch.top 3;simp at t3 d3;have t4:=(aa.alloc n_ wr (I #[O y.key,O y.value,ao y.aO] 70)).cell t3 id;clear K q F T c6 m;go_wp2_with fail;go_region_law((refine bV _ (by rfl) _ _ 26 (by rfl) 70 i0 _ 3 40 Tryz.underlying26 hi c7 c8 c9 (by rfl) (J o2 C.length H) C.length _ (by rfl) (s.o.row.ai ((aa.refl n_ wr).al _).dr k_) ⟨wr.heap.size,0,Y⟩ 1 1 [O y.key,O y.value,ao y.aO] (by rfl) (by rfl) (br wr #[O y.key,O y.value,ao y.aO] _) (by simp[Value.oneCell']) (by have:=N.o;unfold maxLen;omega) (by have:=N.o;omega) ?_;intro v' w8 n j _ a4;obtain⟨g',d1,rfl⟩:=n.succ;have hp:=s.o.push (x:=y) (((aa.refl n_ wr).al _).dr) n j a4;have q3:=ae hp.1 3;have p3:=aj hp.1 3;simp at q3;have HP:=E hp.2;have b9:=E hp.1;have a7:=E j;clear n j a4 hp));all_goals
    go_wp2;have a5:=HR.o.ai (((aa.refl n_ wr).al (I #[O y.key,O y.value,ao y.aO] 70)).dr) k_;have a6:=a5.ai (aa.grown a7.o) (λg hg e=>(a5.aR hg).ne (e':=70) (by decide) ((s.o.row.ai (((aa.refl n_ wr).al _).dr) k_).aR e.symm));exact⟨⟨k+1,_,Q.o,by go_num,by rw[S.o];exact HP.o,a6.ai (aa.setCell w8 ⟨xb,3,Y⟩ _) (λg hg e=>(a6.aR hg).ne (e':=28) (by decide) ((show g=xb from e)▸⟨_,b9.o⟩))⟩,by simp only[intOf];have:=Q.o;omega⟩
  ·have d8:¬((k:Int)<f.length):=by omega
   have e:l.take k=l:=ep (by have:=t.o;omega);rw[e]at o;have s:=E o;obtain⟨a0,a1,a2,a3,b0,b1,b2,b3,-,-,-,-⟩:=o.res.facts;have t0:=ae o.top 0;have t1:=ae o.top 1;have t2:=ae o.top 2;have t3:=ae o.top 3;simp at t0 t1 t2 t3;clear o hR e q K;generalize hln:l.length=d0 at*;go_wp2;refine bodyPost_ret (v:=.agg #[ao c,Z U (a:Nat),Z U (b:Nat),J o2 d0 H]) ?_ rfl ?_
   ·rw[tM rfl];go_simp
   ·have h9:=s.o.row;rw[hln]at h9;refine⟨f,l,o2,H,by rw[hln],b6.o,b5.o,R.o,?_,s.o.keep.trans (fw wr w.heap.size _ _ _ _) (λk K e=>by have e':k=w.heap.size:=e;omega)⟩;rw[hln];exact h9.ai (fw wr w.heap.size _ _ _ _) (λi hi e=>(h9.aR hi).ne (e':=28) (by decide) ⟨_,(show i=w.heap.size from e)▸s.o.res⟩)
end
structure sL where
 full:Bool
 a:Nat
 b:Nat
 M:List (ByteArray×an)
 L:List an
 follow:Bool
def sL.first(s:kG):sL:=⟨s.full,s.a,s.b,(s.aW.map bX).foldl (dh s.full) [],(s.aW.map bX).foldl aS [],true⟩
abbrev sL.goes(c:sL)(s:kG):Prop:=s.full=false/\s.a=c.b
def sL.add(c:sL)(s:kG):sL:=if c.follow=true/\c.goes s then⟨c.full,c.a,s.b,(s.aW.map bX).foldl (dh c.full) c.M,(s.aW.map bX).foldl aS c.L,true⟩else{c with follow:=false}
def kM(o:Option sL)(s:kG):Option sL:=match o with
 |none=>V (.first s)
 |some c=>V (c.add s)
def vd(a:List kG):Option sL:=a.foldl kM Y
theorem py(a:List kG)(s:kG):vd (a++[s])=kM (vd a) s:=by unfold vd;rw[Ri];rfl
theorem sL.Ag{c:sL}(h:c.follow=true)(a:c.goes s):c.add s=⟨c.full,c.a,s.b,(s.aW.map bX).foldl (dh c.full) c.M,(s.aW.map bX).foldl aS c.L,true⟩:=fy ⟨h,a⟩
theorem sL.vI{c:sL}(a:¬(c.follow=true/\c.goes s)):c.add s={c with follow:=false}:=el a
theorem BV(c:sL)(h:c.follow=false)(s:kG):∃d,kM (V c) s=V d/\d.follow=false:=⟨_,rfl,by rw[sL.vI (λe=>by rw[h]at e;cases e.1)]⟩
theorem Co:∀(a:List kG) (c:sL),c.follow=false->∃d,a.foldl kM (V c)=V d/\d.follow=false
 |[],c,h=>⟨c,rfl,h⟩
 |s::a,c,h=>by obtain⟨d,b,e⟩:=BV c h s;rw[yk,b];exact Co a d e
theorem NQ{a:List kG}{c:sL}(h:vd (a.take k)=V c)(b:c.follow=false):∃d,vd a=V d/\d.follow=false:=by
 have e:vd a=(a.drop k).foldl kM (vd (a.take k)):=by unfold vd;rw[<-Ri,RJ]
 rw[e,h];exact Co _ c b
structure oP(n:Nat)(c:sL):Prop where
 inv:qH c.full c.M c.L
 keys:∀p∈c.M,p.1.size<=1000
 EY:c.M.length<=n*1000
 Pp:c.L.length<=n*1000
 small:∀r∈c.L,r.key.size<=1000/\r.value.size<=1000
theorem Ez(a:Bool)(M:List (ByteArray×an))(r:an):(dh a M r).length<=M.length+1:=by
 unfold dh;split
 ·have:∀(M:List (ByteArray×an)) k,(del M k).length<=M.length:=by
   intro M k;induction M with
   |nil=>exact eb _
   |cons p M ih=>
    unfold del;split
    ·simp
    ·simp;exact ih
  have:=this M r.key;omega
 ·rw[oc];split<;>omega
theorem BW(a:Bool)(M:List (ByteArray×an))(d:(M.map (·.1)).Nodup)(r:an)(h:∀p∈M,p.1.size<=1000)(e:r.key.size<=1000):∀p∈dh a M r,p.1.size<=1000:=by
 intro p b;unfold dh at b;split at b
 ·rw[nQ M d]at b;exact h p (kB.1 b).1
 ·have:∀(M:List (ByteArray×an)),p∈put M r.key r->p∈M\/p.1=r.key:=by
   intro M;induction M with
   |nil=>intro h;simp[put]at h;exact .inr (by rw[h])
   |cons q M ih=>
    intro h;unfold put at h;split at h
    ·rcases cT.1 h with h|h
     ·exact .inr (by rw[h])
     ·exact .inl (ef _ h)
    ·rcases cT.1 h with h|h
     ·exact .inl (by rw[h];simp)
     ·rcases ih h with h|h
      ·exact .inl (ef _ h)
      ·exact .inr h
  rcases this M b with c|c
  ·exact h p c
  ·rw[c];exact e
theorem wW(L:List an)(r:an):(aS L r).length<=L.length+1:=by rw[oh];have a:=Td (p:=λx:an=>de x.key r.key) (l:=L);have b:=Rc List.length a;rw[hQ]at b;have c:=Rp (λx:an=>decide (x.key≠r.key)) (L.dropWhile (λx=>de x.key r.key));rw[hQ,fN];omega
theorem AX{L:List an}(h:∀x∈L,x.key.size<=1000/\x.value.size<=1000)(c:r.key.size<=1000/\r.value.size<=1000):∀x∈aS L r,x.key.size<=1000/\x.value.size<=1000:=by
 intro x b;rw[oh]at b;rcases cQ.1 b with a|a
 ·exact h x (iI a).2
 ·rcases cT.1 a with a|a
  ·rw[a];exact c
  ·exact h x ((List.dropWhile_sublist _).mem (kB.1 a).1)
theorem oP.steps{full:Bool}:∀(a:List an) {M:List (ByteArray×an)} {L:List an} (N:Nat),qH full M L->(∀p∈M,p.1.size<=1000)->M.length<=N->L.length<=N->(∀r∈L,r.key.size<=1000/\r.value.size<=1000)->(∀r∈a,r.key.size<=1000/\r.value.size<=1000)->qH full (a.foldl (dh full) M) (a.foldl aS L)/\(∀p∈a.foldl (dh full) M,p.1.size<=1000)/\(a.foldl (dh full) M).length<=N+a.length/\(a.foldl aS L).length<=N+a.length/\∀r∈a.foldl aS L,r.key.size<=1000/\r.value.size<=1000
 |[],M,L,N,h1,h2,h3,h4,h5,_=>⟨h1,h2,h3,h4,h5⟩
 |r::a,M,L,N,h1,h2,h3,h4,h5,h6=>by have b:=h6 r (by simp);have d:=Ez full M r;have e:=wW L r;have:=oP.steps a (N+1) (h1.step r) (BW full M h1.nodup r h2 b.1) (by omega) (by omega) (AX h5 b) (λx c=>h6 x (ef _ c));rw[yk,yk,fN];refine⟨this.1,this.2.1,by have:=this.2.2.1;omega,by have:=this.2.2.2.1;omega,this.2.2.2.2⟩
def oG(s:kG):Prop:=s.aW.length<=1000/\∀r∈s.aW.map bX,r.key.size<=1000/\r.value.size<=1000
theorem oP.first(h:oG s):oP 1 (.first s):=by obtain⟨d,e,b,c,f⟩:=oP.steps (full:=s.full) (s.aW.map bX) 0 (qH.zero s.full) (λp a=>by cases a) (eb _) (eb _) (λp a=>by cases a) h.2;have g:=h.1;rw[hO]at b c;exact⟨d,e,mA b (by omega),mA c (by omega),f⟩
theorem oP.add{c:sL}(a:oP n c)(h:oG s):oP (n+1) (c.add s):=by
 by_cases b:c.follow=true/\c.goes s
 ·rw[sL.Ag b.1 b.2];obtain⟨f,g,d,e,i⟩:=oP.steps (full:=c.full) (s.aW.map bX) (n*1000) a.inv a.keys a.EY a.Pp a.small h.2;have j:=h.1;rw[hO]at d e;exact⟨f,g,mA d (by omega),mA e (by omega),i⟩
 ·rw[sL.vI b];exact⟨a.inv,a.keys,mA a.EY (by omega),mA a.Pp (by omega),a.small⟩
theorem EA:∀(n:Nat) (a:List kG),a.length=n->(∀s∈a,oG s)->∀c,vd a=V c->oP n c
 |0,a,hn,_,c,hc=>by rw[hU hn]at hc;cases hc
 |n+1,a,hn,h,c,hc=>by
  have b:a≠[]:=λe=>by rw[e]at hn;cases hn
  have e:=Tk b;rw[<-e,py]at hc;have j:a.dropLast.length=n:=by rw[List.length_dropLast];omega
  have i:oG (a.getLast b):=h _ (List.getLast_mem b);cases hq:vd a.dropLast with
  |none=>
   rw[hq]at hc;cases hc;have g:n=0:=by
    rcases Ry n with g|g
    ·exact g
    ·exfalso;have f:a.dropLast≠[]:=λe=>by rw[e]at j;simp at j;omega
     rw[<-Tk f,py]at hq;unfold kM at hq;split at hq<;>cases hq
   subst g;exact oP.first i
  |some d=>
   rw[hq]at hc;cases hc;exact(EA n a.dropLast j (λs i=>h s ((List.dropLast_sublist _).mem i)) d hq).add i
def rR(c:Bool)(a b:Nat)(l:List an):ByteArray×Nat:=if cC c a b l=true then(aU (cB ⟨c,a,b,l.map an.bS⟩),0)else(⟨#[]⟩,6)
def zu(t:ByteArray):Option kG:=match cA t.data.toList with
 |some (.inr s)=>V s
 |_=>Y
def ON(a:List kG):ByteArray×Nat:=match vd a with
 |none=>(⟨#[]⟩,6)
 |some c=>if c.follow=true then rR c.full c.a c.b (tF c.full c.L)else(⟨#[]⟩,8)
def Bq(a:List ByteArray):ByteArray×Nat:=if∀t∈a,(zu t).isSome=true then ON (a.filterMap zu)else(⟨#[]⟩,6)
theorem Hc{a:List ByteArray}(c:k<a.length)(h:zu a[k]=Y):Bq a=(⟨#[]⟩,6):=by unfold Bq;rw[el];intro b;have:=b a[k] (nE c);rw[h]at this;cases this
theorem CO{a:List ByteArray}(b:k<a.length)(h:zu a[k]=V s):(a.take (k+1)).filterMap zu=(a.take k).filterMap zu++[s]:=by rw[eu b,Su];simp[h]
section
attribute [local go_sem] Oper.semAt_some
def lh(w:ab)(c:Option Addr)(b:List ByteArray):Prop:=∀i (h:i<b.length),∃g a,c=V ⟨g,a,Y⟩/\w.cell? ⟨g,a+i,Y⟩=V (O b[i])
theorem lh.ai{d:ab}{b:Option Addr}{c:List ByteArray}(h:lh w b c)(k:aa n_ w d):lh d b c:=λi j=>by obtain⟨g,a,e,f⟩:=h i j;exact⟨g,a,e,k.cell f id⟩
theorem sj(h:cA t.data.toList=.ok s):zu t=V s:=by unfold zu;rw[h]
theorem CN(h:∀s,cA t.data.toList≠.ok s):zu t=Y:=by
 unfold zu;rcases hx:cA t.data.toList with _|p|s
 ·rfl
 ·rfl
 ·exact absurd hx (h s)
theorem oo{l:List UInt8}(h:cA l=.ok s):oG s:=by
 unfold cA at h;split at h
 ·cases h
 ·split at h
  ·split at h
   ·cases h
   ·split at h
    ·rename_i c;cases h;obtain⟨-,-,a,b⟩:=dD c.1;rw[hO]at a;exact⟨a,b⟩
    ·cases h
  ·cases h
def qI(a:List ByteArray)(w:ab)(e:Ending)(b:ab):Prop:=e=ay (bt #[O (Bq a).1,Z U ((Bq a).2:Nat)])/\aa n_ w b
structure Ea(w:ab)(cb:Nat)(ts:List ByteArray)(k:Nat)(fl:Bool)(wr:ab):Prop where
 le:k<=ts.length
 PF:∀t∈ts.take k,(zu t).isSome=true
 keep:aa n_ w wr
 QL:w.heap.size<=cb
 strs:∀s∈(ts.take k).filterMap zu,oG s
 st:match vd ((ts.take k).filterMap zu)with
  |none=>fl=true/\Nu wr cb
  |some c=>fl=c.follow/\(c.follow=true->∃mb,w.heap.size<=mb/\iT wr cb mb c.full c.a c.b c.M)
theorem jO{α β:Type}{f:α->Option β}:∀{l:List α},(∀t∈l,(f t).isSome=true)->(l.filterMap f).length=l.length
 |[],_=>rfl
 |a::l,h=>by obtain⟨b,c⟩:=QV.1 (h a (by simp));rw[TA,c];simp[jO (λt d=>h t (ef _ d))]
theorem Ea.next{f:List ByteArray}{m fl':Bool}{wq:ab}(h:Ea w g f k m wr)(i:k<f.length)(j:cA f[k].data.toList=.ok s)(a:aa n_ w wq)(l:match kM (vd ((f.take k).filterMap zu)) s with|none=>fl'=true/\Nu wq g|some c=>fl'=c.follow/\(c.follow=true->∃mb,w.heap.size<=mb/\iT wq g mb c.full c.a c.b c.M)):Ea w g f (k+1) fl' wq:=by
 have e:=CO i (sj j);refine⟨i,λt b=>?_,a,h.QL,λx d=>?_,?_⟩
 ·rw[eu i]at b;rcases cQ.1 b with b|b
  ·exact h.PF t b
  ·rw[QZ.1 b,sj j];rfl
 ·rw[e]at d;rcases cQ.1 d with d|d
  ·exact h.strs x d
  ·rw[QZ.1 d];exact oo j
 ·rw[e,py];exact l
theorem Ea.all{c:Nat}{a:List ByteArray}{d:Bool}(h:Ea w c a a.length d wr):Bq a=ON (a.filterMap zu):=by have b:=h.PF;rw[ep (eb _)]at b;unfold Bq;rw[fy b]
def yX:sS->Bool
 |some (.inr s)=>s.full
 |_=>false
def dA:sS->Nat
 |some (.inr s)=>s.a
 |_=>0
def dB:sS->Nat
 |some (.inr s)=>s.b
 |_=>0
def dL:sS->List an
 |some (.inr s)=>s.aW.map bX
 |_=>[]
def QF:sS->Nat
 |some (.inl p)=>p
 |_=>0
def dE:sS->Nat
 |some (.inr _)=>0
 |none=>7
 |some (.inl _)=>6
def uU(x:sS)(w:ab)(e:Ending)(c:ab):Prop:=∃b a,e=ay (bt #[.agg #[ao (yX x),Z U (dA x:Nat),Z U (dB x:Nat),J b (dL x).length a],Z U (QF x:Nat),Z U (dE x:Nat)])/\Row c 70 3 (J b (dL x).length a) (dL x).length (cP (dL x))/\(∀g,(J b (dL x).length a).ownBlock=V g->w.heap.size<=g)/\aa n_ w c
theorem nI.view{x:sS}{f:ab}{e:Ending}(h:nI x w e f):uU x w e f:=by
 obtain⟨h,d⟩:=h;rcases x with _|p|s
 ·exact⟨Y,0,h,Row.nil _ _ _,λg b=>(by cases b),d⟩
 ·exact⟨Y,0,h,Row.nil _ _ _,λg b=>(by cases b),d⟩
 ·obtain⟨c,a,j,k,l⟩:=h;have i:(s.aW.map bX).length=s.aW.length:=hO _;refine⟨c,a,?_,?_,λg b=>l g ((qj c _ _ a).trans b),d⟩
  ·rw[j];show _=ay (bt #[.agg #[ao s.full,Z U (s.a:Nat),Z U (s.b:Nat),J c (s.aW.map bX).length a],Z U 0,Z U 0]);rw[i]
  ·show Row f _ 3 (J c (s.aW.map bX).length a) (s.aW.map bX).length (cP (s.aW.map bX));rw[i];exact k
theorem EH(t:List UInt8):(dL (cA t)).length<=1000:=by
 rcases hx:cA t with _|p|s
 ·exact eL _
 ·exact eL _
 ·show(s.aW.map bX).length<=1000;rw[hO];exact(oo hx).1
theorem tZ{K N:Nat}{G:List Nat}(a:ByteArray)(w:ab)(h:oJ K w N G)(R:gK w)(D:a.size<=1000000000)(hK:K<=10000000000):ba prog 15 #[X (V ⟨N,0,Y⟩),O a] w λe w'=>e=ay (ao true)/\iX (K+1) N G w w':=by
 have HB:=E h;have s:QS (∀k∈G,k<w.heap.size):=h.lt;have a3:=E hK;have m:QS (ba prog 42 #[O a] w (uU (cA a.data.toList) w)):=(jD a w (by omega) R).mono (λ_ _ h=>h.view);have n:QS (∀W,ba prog 43 #[O a] W (uU (cA a.data.toList) W)):=λW=>(mw a W D).mono (λ_ _ h=>h.view);have d:=EH a.data.toList;unfold uU at m n;generalize cA a.data.toList=x at*;generalize yX x=F at*;generalize dA x=A at*;generalize dB x=B at*;generalize dL x=L at*;generalize QF x=P at*;generalize dE x=a8 at*;have c:=E d;have a7:(L.length:Int)<=1000:=by omega
 clear h hK D R d x;go_enter func15,ntmps15;go_wp2_with fail;refine m.o.mono ?_;rintro e w1 ⟨oa,Q,rfl,j,f,k1⟩;have K1:=E k1;have R1:=E j;have O1:=E f;clear j f k1 m;go_wp2_with fail;refine(n.o _).mono ?_;rintro e p ⟨ob,cb,rfl,l,-,S⟩;have X2:=E ((S.block w1.heap.size (by simp) (λh=>h)).trans (az w1 (I #[ao F,Z U (A:Nat),Z U (B:Nat),J oa L.length Q] 28)));have K2:QS (aa n_ w p):=(K1.o.al _).tr S i_;have a6:QS (Row p 70 3 (J oa L.length Q) L.length (cP L)):=(R1.o.ai ((aa.refl n_ w1).al _) k_).ai S k_;have R2:=E l;clear l S n R1;obtain⟨q,b⟩:∃q,q=p.alloc (I #[ao F,Z U (A:Nat),Z U (B:Nat),J ob L.length cb] 28):=⟨_,rfl⟩
 have H:aa n_ p q:=by rw[b];exact aa.alloc _ _ _
 have X3:=E ((H.block _ (lg X2.o) (λh=>h)).trans X2.o);have Y3:QS (q.heap[p.heap.size]?=V (I #[ao F,Z U (A:Nat),Z U (B:Nat),J ob L.length cb] 28 (0,0))):=by show _=_;rw[b];exact az p _
 have u:=E (a6.o.ai H k_);have y:=E (pU oa ob Q cb L q (cG.ofRow u.o) (cG.ofRow (R2.o.ai H k_)) (by have:=c.o;omega));have K3:QS (aa n_ w q):=K2.o.tr H i_;have a5:=E b;have x3:=ae X3.o 3;have y3:=ae Y3.o 3;simp at x3 y3;rw[b]at x3 y3;clear H b;go_wp2_with fail;rw[<-a5.o];refine y.o.mono ?_;rintro e w4 ⟨rfl,M⟩;have X4:=E ((M.block _ (lg X3.o) (λh=>h)).trans X3.o);have Y4:=E ((M.block _ (lg Y3.o) (λh=>h)).trans Y3.o);have K4:QS (aa n_ w w4):=K3.o.tr M i_;have v:=E (u.o.ai M k_);have x4:=ae X4.o 3;simp at x4;have t:=E (PZ (J oa L.length Q) L.length (cP L) w4 (HB.o.ai K4.o k_) v.o (λg R e=>by have h1:=O1.o g R;have h2:=s.o g e;omega) (by have:=c.o;omega) a3.o)
 clear M x3 y3 y;go_wp2_with fail;refine t.o.mono ?_;rintro e w5 ⟨rfl,G',z,k5,C⟩;have o:∀i cs,w4.heap[i]?=V (I cs 28 (0,0))->w.heap.size<=i->w5.heap[i]?=V (I cs 28 (0,0)):=λi cs hi hz=>
  (k5.block i (lg hi) (by
   rintro(e|e)
   ·have:=s.o i e;omega
   ·exact(v.o.aR e).ne (e':=28) (by decide) ⟨_,hi⟩)).trans hi
 have x5:=o _ _ X4.o (by have:=K1.o.size;omega);have y5:=o _ _ Y4.o (by have:=K2.o.size;omega);have a0:=ae x5 0;have a1:=ae x5 1;have a2:=ae x5 2;have b0:=ae y5 0;have b1:=ae y5 1;have b2:=ae y5 2;simp at a0 a1 a2 b0 b1 b2;have r:QS (iX (K+1) N G w w5):=⟨G',z,(K4.o.mono (T:=(·∈G)) (λ_ _ h=>h.elim)).trans k5 (λk hk e=>e.elim id (λe=>by have:=O1.o k e;omega)),λk hk=>by
  have h4:=K4.o.size;rcases C k hk with e|e|e
  ·exact .inl e
  ·exact .inr (O1.o k e)
  ·exact .inr (by omega)⟩
 have a4:=E (λW=>eP (a8:Nat) W);clear z k5 C o x5 y5 x4 t;go_wp2_with(go_at_call 20;go_must(refine(a4.o _).mono ?_;rintro e w6 ⟨rfl,rfl⟩))
 go_ret;exact⟨rfl,r.o⟩
end
end Go.Proofs.YtjbkfdeldlajhaaGreatDoor
