import Derived.Test.YtjbkfdeldlajhaaGreatDoorM05
import Derived.Deep.LoopGhost
set_option linter.unusedSimpArgs false
namespace Go.Proofs.YtjbkfdeldlajhaaGreatDoor
set_option maxRecDepth 100000
set_option maxHeartbeats 2000000
open Go.RowKit Go.Proofs.Tryz
open Option renaming none->Y,some->V
open Go.Value renaming int->Z,string->O,slice->J,pointer->X,bool->ao,tuple->bt
open Go.IntKind renaming i64->U
open Go.Obj renaming cells->I
open Go renaming World->ab,Value->ax,Calls->ba,TypeId->cI
open Go.Ending renaming returned->ay
variable{R:aF}{w wr W:ab}{v:ax}{a:ByteArray}{C:List Nat}{j n:Nat}{b:List ByteArray}{x:mO}
def km(b:List (ByteArray×bF))(a:Int)(c:ByteArray):bF:={((aD b c).getD bF.zero)with aG:=a}
def vy(w:ab)(R:aF)(x:mO)(i:Nat)(b:List ax)(f:List Nat)(e:Ending)(d:ab):Prop:=
 ∃v a,bh a/\a.Perm (x.ar.map (·.1))/\((∃j m g C,∃h:j<a.length,x.aI<eE (aw R.au a[j])/\e=ay (Z U 4)/\fX w R i b f v a (km x.ar (R.now+1)) j d m g C)\/
  ((∀k∈a,eE (aw R.au k)<=x.aI)/\e=ay (Z U 0)/\∃c l C,aq d {c with now:=R.now+1}/\jx R a (km x.ar (R.now+1)) c/\iP d i l C/\l.length<=b.length+a.length+1/\
   aa (λk=>k∈R.fp\/k∈f) w d/\(∀k∈C,k∉c.fp)/\(∀k∈c.fp,k∈R.fp\/w.heap.size<=k)/\(∀k∈C,k∈f\/w.heap.size<=k)))
theorem Row.form{e:cI}{c:Nat}{f:List ax}(h:Row w e c v n f):∃a b,v=J a n b/\n<=maxLen/\(0<n->∃g,a=V ⟨g,0,Y⟩):=by
 rcases h.2 with⟨rfl,rfl⟩|⟨g,b,d,rfl,_,i,j,_⟩
 ·exact⟨Y,0,rfl,by unfold maxLen;omega,λh=>by omega⟩
 ·exact⟨_,b,rfl,by omega,λ_=>⟨g,rfl⟩⟩
theorem vM{m:ab}{d:List Nat}{l:List ByteArray}{c:ByteArray->bF}(h:aq w R)(t:il R)(o:iP w n [] d)(p:∀k∈d,k∉R.fp)(b:aa n_ w m)(r:Row m 9 1 v l.length (l.map O))(s:∀k,v.ownBlock=V k->w.heap.size<=k):fX w R n [] d v l c 0 m R [] d:=by
 refine⟨h.ai b k_,by simpa using jx.refl t c,by simpa using o.ai b k_,rfl,λi q=>by simp at q,r,b.mono (λ_ _ h=>h.elim),p,λk j=>.inl j,λk j=>.inl j,?_,eb _⟩;intro k a;have g:=bG h;have e:=o.lt;rcases a with a|a|⟨_,a,_⟩
 ·have:=s k a;exact⟨λf=>by have:=g _ f;omega,λf=>by have:=e _ f;omega⟩
 ·simp at a
 ·simp at a
theorem fX.ai{e:ab}{k:aF}{l:Nat}{b:List ax}{g c:List Nat}{m:List ByteArray}{d:ByteArray->bF}(h:fX w R l b g v m d j wr k c C)(a:aa n_ wr e):fX w R l b g v m d j e k c C:=
 ⟨h.store.ai a k_,h.jr,h.uH.ai a k_,h.len,λi f=>⟨(a.block _ (QY.1 (h.boxes i f).1).1 id).trans (h.boxes i f).1,(a.block _ (QY.1 (h.boxes i f).2).1 id).trans (h.boxes i f).2⟩,h.row.ai a k_,h.keeps.tr a (λ_ h=>h.elim),h.GP,h.Nr,h.cE,h.apart,h.yu⟩
theorem xH(g:bh b)(d:j<b.length)(f:b[j]=a):bR (b.take j) a=false:=by rw[SG];intro h;rw[bA]at h;obtain⟨i,c,e⟩:=Rr h;simp only[js]at c;rw[To]at e;have:=RE.1 g i j (by omega) d (by omega);rw[e,f,bw]at this;cases this
theorem Bo{n:Int}{d:List ByteArray}(g:Good R)(o:(n,x)∈R.af)(m:d.Perm (x.ar.map (·.1)))(i:j<d.length)(k:d[j]=a):∃f h,aD x.ar a=V ⟨0,f,h⟩:=by
 have l:a∈x.ar.map (·.1):=m.mem_iff.1 (k▸nE i);cases hl:aD x.ar a with
 |none=>
  obtain⟨p,b,e⟩:=fI.1 l;exact absurd e (dU.1 hl p b)
 |some v=>
  have:=(g.nF _ o _ (bj hl)).2.2;obtain⟨q,f,h⟩:=v;have c:q=0:=this;subst c;exact⟨f,h,rfl⟩
theorem xQ(g:Good R)(a:ByteArray):(aw R.au a).length<1000000000000:=by
 unfold aw;cases hl:aD R.au a with
 |none=>simp
 |some y=>
  have b:=bj hl;have c:=jT y.aE 0 R.now (g.rising _ b) (g.fH _ b);have d:=g.now;simp only[uW,lp];omega
theorem jK.keeps{v:bF}{b:ab}(h:jK R a v w b):aa (·∈R.fp) w b:=by obtain⟨_,_,_,_,h,_⟩:=h;exact h
def sB(w:ab)(b:Nat)(a:ByteArray)(v:bF):ab:=(((w.alloc (I #[X (V ⟨b,0,Y⟩)] 32)).alloc (I #[O a] 9)).alloc (I #[Z U v.aG,O v.value,ao v.aO] 144))
theorem zK(w:ab)(a b c:Obj):(((w.alloc a).alloc b).alloc c).heap[w.heap.size]?=V a/\(((w.alloc a).alloc b).alloc c).heap[w.heap.size+1]?=V b/\(((w.alloc a).alloc b).alloc c).heap[w.heap.size+2]?=V c:=by
 refine⟨?_,?_,?_⟩
 ·rw[Below.heap_alloc _ _ _ (by simp;omega),Below.heap_alloc _ _ _ (by simp)];exact az w a
 ·rw[Below.heap_alloc _ _ _ (by simp)];have:=az (w.alloc a) b;simpa using this
 ·have:=az ((w.alloc a).alloc b) c;simpa using this
theorem xy{wb:ab}{a b c d f:ax}{l m n:cI}(t:aq w R)(p:aa n_ (((w.alloc (I #[a] l)).alloc (I #[b] m)).alloc (I #[c,d,f] n)) W)(u:aa (·∈R.fp) W wb):wb.cell? ⟨w.heap.size,0,Y⟩=V a/\wb.cell? ⟨w.heap.size+1,0,Y⟩=V b/\wb.cell? ⟨w.heap.size+1+1,0,Y⟩=V c/\wb.cell? ⟨w.heap.size+1+1,1,Y⟩=V d/\wb.cell? ⟨w.heap.size+1+1,2,Y⟩=V f:=by
 have j:=bG t;obtain⟨q,r,i⟩:=zK w (I #[a] l) (I #[b] m) (I #[c,d,f] n);have v:=p.size;simp at v;have g:∀k o,w.heap.size<=k->k<w.heap.size+3->(((w.alloc (I #[a] l)).alloc (I #[b] m)).alloc (I #[c,d,f] n)).heap[k]?=V o->wb.heap[k]?=V o:=λk o x y s=>by rw[u.block k (by omega) (λe=>by have:=j _ e;omega),p.block k (by simp;omega) id];exact s
 exact⟨ae (g _ _ (by omega) (by omega) q) 0,ae (g _ _ (by omega) (by omega) r) 0,ae (g _ _ (by omega) (by omega) i) 0,ae (g _ _ (by omega) (by omega) i) 1,ae (g _ _ (by omega) (by omega) i) 2⟩
def mL(R:aF)(a:ByteArray)(v:bF)(f:Nat)(g:List ax)(C:List Nat)(w e:ab):Prop:=
 ∃b c d,aa n_ w b/\b.heap[w.heap.size]?=V (I #[X (V ⟨R.sb,0,Y⟩)] 32 (0,0))/\b.heap[w.heap.size+1]?=V (I #[O a] 9 (0,0))/\w.heap.size+1<b.heap.size/\jK R a v b c/\aa (·∈C) c e/\iP e f (g++[ve w.heap.size]) d/\∀k∈d,k∈C\/c.heap.size<=k
theorem Kd{d f:ab}{v:bF}{g:Nat}{i:List ax}{e:List Nat}(c:aa n_ (sB w R.sb a v) W)(b:jK R a v W d)(p:aa (·∈C) d f)(o:iP f g (i++[ve w.heap.size]) e)(n:∀k∈e,k∈C\/d.heap.size<=k):mL R a v g i C w f:=by
 obtain⟨j,l,r⟩:=zK w (I #[X (V ⟨R.sb,0,Y⟩)] 32) (I #[O a] 9) (I #[Z U v.aG,O v.value,ao v.aO] 144);have q:=c.size;simp[sB]at q;have m:aa n_ w (sB w R.sb a v):=(((aa.refl n_ w).al _).al _).al _;refine⟨W,d,e,m.tr c i_,?_,?_,by omega,b,p,o,n⟩
 ·rw[c.block _ (by simp[sB];omega) id];exact j
 ·rw[c.block _ (by simp[sB]) id];exact l
theorem Dh(R:aF)(a:ByteArray)(f:Int)(c:ByteArray)(d:Bool)(j:Nat)(i:List ax)(C:List Nat)(w:ab)(h:aq w R)(t:il R)(p:R.keys.length<1000000000000)(q:(aw R.au a).length<1000000000000)(P:iP w j i C)(G:∀k∈C,k∉R.fp)(Q:i.length<1000000000000):ba prog 134 #[X (V ⟨R.sb,0,Y⟩),X (V ⟨j,0,Y⟩),O a,.agg #[Z U f,O c,ao d]] w λe B=>e=ay (bt #[])/\mL R a ⟨f,c,d⟩ j i C w B:=by
 have l:QS (∀W,aa n_ (sB w R.sb a ⟨f,c,d⟩) W->ba prog 175 #[X (V ⟨R.sb,7,Y⟩),O a,.agg #[Z U f,O c,ao d]] W λe B=>e=ay (bt #[])/\jK R a ⟨f,c,d⟩ W B):=λW hW=>
  Nx R a ⟨f,c,d⟩ W (h.ai (((((aa.refl n_ w).al _).al _).al _).tr hW i_) k_) t p q
 have n:QS (aq w R):=h;have S:QS (iP w j i C):=P;have r:QS (∀k∈C,k∉R.fp):=G;have T:QS (i.length<1000000000000):=Q;have a0:=h.lt;have a1:=mf_;clear h t p q P G Q;go_enter func134,ntmps134;go_wp2_with fail;obtain⟨-,-,y,z,A⟩:=xy (wb:=(sB w R.sb a ⟨f,c,d⟩).drew) n.o (aa.drew n_ (sB w R.sb a ⟨f,c,d⟩)) (aa.refl _ _);simp only[sB]at y z A;go_region_held3(λW=>W.cell? ⟨w.heap.size,0,Y⟩=V (X (V ⟨R.sb,0,Y⟩))/\W.cell? ⟨w.heap.size+1,0,Y⟩=V (O a)/\W.cell? ⟨w.heap.size+1+1,0,Y⟩=V (Z U f)/\W.cell? ⟨w.heap.size+1+1,1,Y⟩=V (O c)/\W.cell? ⟨w.heap.size+1+1,2,Y⟩=V (ao d)) (go_keep) (first|(go_at_call 175;refine(l.o _ ((aa.refl n_ _).dr)).mono ?_;rintro e D ⟨rfl,b⟩;obtain⟨H,K,L,M,N⟩:=xy n.o ((aa.refl n_ _).dr) b.keeps;have m:=E b;clear b));have g:iP D j i C:=S.o.ai ((((((aa.refl (λk=>k∈R.fp) w).al _).al _).al _).dr).tr m.o.keeps i_) (λk hk hf=>r.o k hk hf);have s:=dz j i C (.func 176) #[X (V ⟨w.heap.size,0,Y⟩),X (V ⟨w.heap.size+1,0,Y⟩)] D g T.o;clear g;go_wp2_with(go_at_call 92;go_must(refine s.mono ?_;rintro e wc ⟨rfl,C',v,x,u⟩))
 go_end0;exact⟨rfl,Kd ((aa.refl n_ _).dr) m.o x v u⟩
theorem Er{wc:ab}{c:aF}{s:Nat}{e:List ax}{D r B:List Nat}(o:bh b)(j:b.Perm (x.ar.map (·.1)))(g:∀i' (h:i'<b.length),i'<b.length->eE (aw R.au b[i'])<=x.aI)(h:fX w R s [] D v b (km x.ar (R.now+1)) b.length wr c B C)(H:e.length=b.length+1)(t:iP wc s e r)(n:aa (λk=>k∈C\/k=R.sb) wr wc)(l:∀k∈r,k∈C\/wr.heap.size<=k)(u:wc.heap[R.sb]?=(wr.setCell ⟨R.sb,0,Y⟩ (Z U (R.now+1))).heap[R.sb]?):vy w R x s [] D (ay (Z U 0)) wc:=by
 obtain⟨p,G,K⟩:=h.jr.sb;have m:=bG h.store;have z:=h.store.nodup;have q:wc.heap[c.sb]?=V (I (bo {c with now:=R.now+1}) 61 (0,0)):=by have:=h.store.set (R':={c with now:=R.now+1}) rfl (i:=0) (v:=Z U (R.now+1)) rfl;rw[p]at this⊢;rw[u];exact this
 have A:aq wc {c with now:=R.now+1}:=h.store.nums n (λk a f=>by
  rcases f with f|rfl
  ·exact h.GP k f (by simp only[aF.fp,cT];exact .inr a)
  ·rw[<-p]at a;exact(ey.1 z).1 a) (R.now+1) c.aK c.aJ q
 refine⟨v,b,o,j,.inr ⟨λk a=>?_,rfl,c,e,r,A,by have:=h.jr;rwa[RG]at this,t,by simp;omega,?_,?_,h.Nr,?_⟩⟩
 ·obtain⟨i,y,rfl⟩:=Rr a;exact g i y y
 ·refine h.keeps.trans n (λi y f=>?_);rcases f with f|rfl
  ·rcases h.cE i f with d|d
   ·exact .inr d
   ·omega
  ·exact .inl (by simp[aF.fp])
 ·intro k a F;rcases l k a with d|d
  ·exact h.GP k d F
  ·have:=m k F;omega
 ·intro k a;have L:w.heap.size<=wr.heap.size:=h.keeps.size;rcases l k a with d|d
  ·exact h.cE k d
  ·exact .inr (by omega)
theorem Ep(R:aF)(n:Int)(x:mO)(N:Nat)(C0:List Nat)(w:ab)(h:aq w R)(g:Good R)(t:il R)(hx:(n,x)∈R.af)(hc:iP w N [] C0)(hC:∀k∈C0,k∉R.fp)(c3:R.keys.length<900000000000):ba prog 77 #[X (V ⟨R.sb,0,Y⟩),X (V ⟨N,0,Y⟩),bE x] w (vy w R x N [] C0):=by
 obtain⟨c0,c1,hM⟩:=h.af.work hx;have c4:=g.now;have b7:=g.writes30 _ hx;have c9:=g.nF _ hx;have n0:w.cell? ⟨R.sb,0,Y⟩=V (Z U R.now):=h.cell 0;have f0:=h.lt;have l:=Jq x.eT x.mb (x.ar.map λq=>(q.1,q.2.val)) w c1 hM (λp hp=>by obtain⟨q,hq,rfl⟩:=fI.1 hp;have:=(c9 q hq).1;simp[dw]at this;unfold maxLen;show q.1.size<=_;omega) (by simp;simp at b7;omega)
 have c5:(x.ar.map λq=>(q.1,q.2.val)).map (·.1)=x.ar.map (·.1):=by simp[tO,tQ]
 rw[c5]at l;have d6:=E h;have HG:=E g;have HT:=E t;have HX:=E hx;have HC:=E hc;have d1:=E hC;have d4:=E c3;obtain⟨e6,e7⟩:=c4;unfold bE;clear h g t hx hc hC c3 hM c0 c1 c9 b7 c5;go_enter func77,ntmps77;go_wp2_with(go_at_call 127;go_must(refine l.mono ?_;rintro e w1 ⟨v,d,rfl,K,a0,m,c2,c8⟩;obtain⟨av,D,rfl,f1,d9⟩:=K.form))
 have e9:d.length<=30:=by have h1:=m.length_eq;have h2:=HG.o.writes30 _ HX.o;simp at h1 h2;omega
 have c7:fX w R N [] C0 (J av d.length D) d (km x.ar (R.now+1)) 0 w1 R [] C0:=vM d6.o HT.o HC.o d1.o c2 K (λk hk=>SI (c8 k hk));have B:=E a0;have f:=E m;clear K a0 m c2 l n0 c8;go_loopw [19] (λi wr=>∃(j:Nat) (L:aF) (z C:List Nat),j<=d.length/\i=Z U j/\(∀i' (h:i'<d.length),i'<j->eE (aw R.au d[i'])<=x.aI)/\fX w R N [] C0 (J av d.length D) d (km x.ar (R.now+1)) j wr L z C) (λi _=>d.length-(intOf i).toNat)
 case atStart=>exact⟨0,R,[],C0,eL _,rfl,λi' _ h=>by omega,c7⟩
 case round=>
  obtain⟨j,L,z,C,hj,rfl,F,hB⟩:=hrel;have b:=E hB;have A:=E F;clear c7 hB F;by_cases u:j<d.length
  ·obtain⟨g,rfl⟩:=d9 (by omega);have b0:wr.cell? ⟨g,j,Y⟩=V (O d[j]):=by rw[b.o.row.cellAt j (by omega)];simp[u]
   obtain⟨a,r⟩:∃a,d[j]=a:=⟨_,rfl⟩
   rw[r]at b0;obtain⟨c,s,P⟩:=b.o.jr.sb;have H:bR (d.take j) a=false:=xH B.o u r;have Q:aw L.au a=aw R.au a:=by rw[b.o.jr.aE,H];rfl
   have d0:(n,x)∈L.af:=by rw[s];exact HX.o
   obtain⟨e0,e1,eM⟩:=b.o.store.af.work d0;have f2:x.eT<wr.heap.size:=World.block_lt_of_cell? _ _ e0;have M:QS (∀W,aa n_ wr W->ba prog 133 #[X (V ⟨R.sb,7,Y⟩),O a] W λe w'=>e=ay (Z U (eE (aw R.au a)))/\w'=W):=λW hk=>by have hS:=b.o.store.ai hk k_;have:=Ju L.sb a L.vm _ _ (aw L.au a) W (hS.cell 8) hS.cg.ed rfl (hS.cg.slice a) (by rw[Q];exact(HG.o.aE a).2);rw[c,Q]at this;exact this
   have d7:=E Q;have S:=E c;have b5:=E H;have d3:=E eM;have o:=E r;clear Q c P H eM r s d0;by_cases b1:x.aI<eE (aw R.au a)
   ·obtain⟨lv,y⟩:∃lv,eE (aw R.au a)=lv:=⟨_,rfl⟩
    rw[y]at M b1;have d5:=E y;clear y;go_wp2_with fail;go_region_held3(λW=>W.cell? ⟨x.eT,0,Y⟩=V (Z U x.aI)) (go_keep) (first|(go_at_call 133;refine(M.o _ ((aa.refl n_ wr).dr)).mono ?_;rintro e w' ⟨rfl,rfl⟩));go_wp2;go_ret;refine⟨J (V ⟨g,0,Y⟩) d.length D,d,B.o,f.o,.inl ⟨j,L,z,C,u,?_,rfl,b.o.ai ((aa.refl n_ wr).dr)⟩⟩;rw[o.o,d5.o];exact b1
   ·have T:eE (aw R.au a)<=x.aI:=by omega
    have d2:=E T;obtain⟨lv,y⟩:∃lv,eE (aw R.au a)=lv:=⟨_,rfl⟩
    rw[y]at M T b1;clear y;obtain⟨q2,q3,hq⟩:∃q2 q3,aD x.ar a=V ⟨0,q2,q3⟩:=Bo HG.o HX.o f.o u o.o;have a9:km x.ar (R.now+1) a=⟨R.now+1,q2,q3⟩:=by unfold km;rw[hq];rfl
    have b6:=E a9;have b4:QS ((aD (x.ar.map λq=>(q.1,q.2.val)) a).getD (.agg #[Z U 0,O ByteArray.empty,ao false])=.agg #[Z U 0,O q2,ao q3]):=by rw[cd,hq];exact rfl
    have b2:QS (∀W,aa n_ wr W->ba prog 134 #[X (V ⟨R.sb,0,Y⟩),X (V ⟨N,0,Y⟩),O a,.agg #[Z U (R.now+1),O q2,ao q3]] W λe w'=>e=ay (bt #[])/\mL L a ⟨R.now+1,q2,q3⟩ N ([]++z.map ve) C W w'):=λW hk=>by have:=Dh L a (R.now+1) q2 q3 N ([]++z.map ve) C W (b.o.store.ai hk k_) b.o.jr.tied (by have:=b.o.yu;have:=d4.o;omega) (by rw[d7.o];exact xQ HG.o a) (b.o.uH.ai hk k_) b.o.GP (by have:=b.o.len;simp;omega);rw[S.o]at this;exact this
    clear hq a9;go_wp2_with fail;go_region_held3(λW=>W.cell? ⟨x.eT,0,Y⟩=V (Z U x.aI)) (go_keep) (first|(go_at_call 133;refine(M.o _ ((aa.refl n_ wr).dr)).mono ?_;rintro e w' ⟨rfl,rfl⟩));go_wp2_with(first
     |(at_lookup;go_must(refine iA _ rfl _ _ 124 rfl 9 144 bJ Tryz.underlying124 Tryz.underlying9 _ (Tryz.gu _) x.mb rfl a rfl _ (d3.o.ai ((aa.refl n_ wr).dr) id) ?_;rw[b4.o]))
     |(go_at_call 134;go_must(refine(b2.o _ (((aa.refl n_ wr).al _).dr)).mono ?_;rintro e wc ⟨rfl,hs⟩)))
    obtain⟨wa,wb,C',a1,a2,a3,a4,a5,a6,a7,a8⟩:=hs;have k1:aa n_ wr _:=((aa.refl n_ wr).al (I #[Z U (R.now+1),O q2,ao q3] 144)).dr;obtain⟨R',hN⟩:=b.o.next (key:=a) u (by rw[<-o.o];simp[u]) b5.o (k1.tr a1 i_) k1.size (by rw[<-S.o];exact a2) a3 a4 (by rw[b6.o];exact a5) a6 a7 a8;refine⟨⟨j+1,R',_,C',by omega,by simp,λi' h hi=>?_,hN⟩,?_⟩
    ·rcases Nat.lt_or_ge i' j with h1|h1
     ·exact A.o i' h h1
     ·obtain rfl:i'=j:=by omega
      rw[o.o];exact d2.o
    ·simp only[intOf];omega
  ·obtain rfl:j=d.length:=by omega
   obtain⟨c,s,P⟩:=b.o.jr.sb;have c6:R.sb∉C:=λhf=>b.o.GP _ hf (by rw[<-c];simp[aF.fp]);have G:([]++z.map ve).length=d.length:=by have:=b.o.len;simp[this]
   have b8:wr.cell? ⟨R.sb,0,Y⟩=V (Z U R.now):=by have:=b.o.store.cell 0;rw[c]at this;rw[this];simp[bo,P]
   have b9:wr.frozen? ⟨R.sb,0,Y⟩=false:=by rw[<-c];exact b.o.store.frozen 0
   have b3:=iU N _ C R.sb 0 R.now (R.now+1) wr b.o.uH b8 b9 c6 (by rw[G];omega);rw[G]at b3;clear c6 G b8 b9 c s P;go_wp2_with(go_at_call 60;go_must(refine b3.mono ?_;rintro e wc ⟨rfl,e8,C',e3,e2,e5,d8,e4⟩))
   go_ret;exact Er B.o f.o A.o b.o e3 e2 e5 d8 e4
end Go.Proofs.YtjbkfdeldlajhaaGreatDoor
namespace Go.Proofs
open Go.Shelf Go.Proofs.Tryz
open Option renaming none->Y,some->V
open Go.Value renaming int->Z,string->O,slice->J
open Go.IntKind renaming i64->U
open Go.Obj renaming cells->I
open Go renaming World->ab,Value->ax,Calls->ba
open Go.Ending renaming returned->ay
namespace YtjbkfdeldlajhaaGreatDoor
open Go.RowKit
theorem DA(a:List ByteArray):(Lib.strsOf (λj=>a.getD j ByteArray.empty) a.length).map encStr=a.map O:=by
 apply List.ext_getElem
 ·simp[Lib.strsOf]
 ·intro i c b;simp at b;simp[Lib.strsOf,b,encStr]
theorem EI(v:ax)(a:List ByteArray)(i:Nat)(w:ab)(h:Row w 9 1 v a.length (a.map O))(C:i<a.length):ba prog 222 #[v,Z U i,Z U ((i:Int)+1)] w λe x=>∃g b,v.ownBlock=V g/\e=ay (J (V ⟨g,0,Y⟩) (a.length-1) b)/\Row x 9 1 (J (V ⟨g,0,Y⟩) (a.length-1) b) (a.length-1) ((a.eraseIdx i).map O)/\aa (λk=>v.ownBlock=V k) w x:=by
 have c:((a.eraseIdx i).map O).length=(a.length-1)*1:=by rw[hO,List.length_eraseIdx_of_lt C];omega
 rcases h.2 with⟨rfl,G⟩|⟨g,b,d,rfl,z,u,m,n,l⟩
 ·omega
 ·have y:b<=d.size:=by simpa using n
  have f:∀j,j<a.length->w.cell? ⟨g,0+j,Y⟩=V (O ((λj=>a.getD j ByteArray.empty) j)):=by intro j D;rw[tA,h.cellAt j (by omega)];simp[D]
  have o:d.toList.take a.length=a.map O:=by simpa using l
  refine(Any.slices_Delete_string_cells Tryz.laysNm224 g 0 a.length b i (i+1) (λj=>a.getD j ByteArray.empty) w u (by unfold maxLen at m;omega) (by omega) (by omega) f (λj _=>aj z _)).mono ?_;rintro e x ⟨rfl,q,rfl⟩;have A:a.length-(i+1-i)=a.length-1:=by omega
  rw[A];have B:((Lib.strsOf (λj=>a.getD j ByteArray.empty) a.length).take i++(Lib.strsOf (λj=>a.getD j ByteArray.empty) a.length).drop (i+1)++List.replicate (i+1-i) []).map encStr=(a.eraseIdx i).map O++[O ⟨#[]⟩]:=by rw[show i+1-i=1 from by omega,List.eraseIdx_eq_take_drop_succ];simp only[xT,List.map_take,TT,DA];rfl
  rw[B];have r:(w.drewN q).heap[g]?=V (I d 9 (0,0)):=z;have p:((a.eraseIdx i).map O++[O ⟨#[]⟩]).length=a.length:=by rw[hQ,c];simp;omega
  have t:aa (·=g) w (w.drewN q):=⟨rfl,rfl,rfl,eb _,λ_ _ _=>rfl⟩
  refine⟨g,b,rfl,rfl,⟨c,.inr ⟨g,b,_,rfl,fe _ _ g 0 d r,by omega,m,by rw[gI];exact n,?_⟩⟩,(t.tr (aa.setCells _ _ _ _) i_).mono (λk _ F=>by have s:k=g:=F;simp[Value.ownBlock,s])⟩;rw[gr _ _ _ (by rw[p];omega)];simp only[List.take_zero,uE];rw[mE,Ss c]
end YtjbkfdeldlajhaaGreatDoor
end Go.Proofs
namespace Go.Proofs.YtjbkfdeldlajhaaGreatDoor
set_option maxRecDepth 100000
set_option maxHeartbeats 600000
open Go.RowKit Go.Proofs.Tryz Go.Shelf
open Option renaming none->Y,some->V
open Go.Value renaming string->O,slice->J,pointer->X,tuple->bt,int->Z,bool->ao
open Go.Obj renaming cells->I
open Go renaming World->ab,Value->ax,Calls->ba
open Go.Ending renaming returned->ay
open Go.IntKind renaming i64->U
variable{w W q:ab}{R:aF}{a:ByteArray}{b g s n c m:Nat}{S:Nat->Prop}{v:bF}{f:ax}
theorem FA(h:s≠g):¬(J (V ⟨g,0,Y⟩) n c).ownBlock=V s:=λe=>h (by simpa[Value.ownBlock,eq_comm]using e)
theorem mv(h:(J (V ⟨g,0,Y⟩) n c).ownBlock=V s):g=s:=by simpa[Value.ownBlock]using h
theorem aq.LO(a:ByteArray){kv':ax}{keys':List ByteArray}(h:aq w R)(B:aa S w q)(A:∀k,k<w.heap.size->S k->k=R.sb\/R.kv.ownBlock=V k\/R.vm=V k)(F:q.heap[R.sb]?=V (I (bo {R with kv:=kv'}) 61 (0,0)))(s:Row q 9 1 kv' keys'.length (keys'.map O))(z:R.vm=V b)(D:aQ O q b (del (R.au.map λp=>(p.1,p.2.sl)) a))(t:kv'.ownBlock=R.kv.ownBlock):aq q {R with kv:=kv',keys:=keys',au:=del R.au a}/\(aF.fp {R with kv:=kv',keys:=keys',au:=del R.au a}).Sublist R.fp:=by
 have j:=bG h;have l:=h.nodup;have i:(aF.fp {R with kv:=kv',keys:=keys',au:=del R.au a}).Sublist R.fp:=by show(R.sb::(R.aP++(kv'.ownBlock.toList++R.vm.toList++(del R.au a).flatMap (λp=>p.2.sl.ownBlock.toList)))).Sublist (R.sb::(R.aP++(R.kv.ownBlock.toList++R.vm.toList++R.au.flatMap (λp=>p.2.sl.ownBlock.toList))));rw[t];exact List.Sublist.cons_cons _ (List.Sublist.append_left (List.Sublist.append_left (iR _ (dC _ _)) _) _)
 have f:=l;simp only[aF.fp,aF.bp,ey,lf,cQ,Th]at f;obtain⟨⟨G,⟨K,L⟩,H⟩,M,⟨⟨N,P,Q⟩,T,n⟩,o⟩:=f;have v:∀k∈R.aP,¬S k:=by
  intro k d y;rcases A k (j k (by simp[aF.fp,d])) y with e|e|e
  ·exact G (e▸d)
  ·exact o k d k (.inl (.inl (by simp[e]))) rfl
  ·exact o k d k (.inl (.inr (by simp[e]))) rfl
 have u:∀p∈R.au,∀g,p.2.sl.ownBlock=V g->¬S g:=by
  intro p x g C y;have c:g∈R.au.flatMap (λp=>p.2.sl.ownBlock.toList):=ns.2 ⟨p,x,by simp[C]⟩;rcases A g (j g (by simp only[aF.fp,aF.bp,cT,cQ];exact .inr (.inr (.inr c)))) y with e|e|e
  ·exact H (e▸c)
  ·exact n g (.inl (by simp[e])) g c rfl
  ·exact n g (.inr (by simp[e])) g c rfl
 have r:=h.af.ai B v;refine⟨⟨F,⟨r.cy,r.eA,r.dc,r.cU⟩,⟨s,?_,?_⟩,i.nodup l⟩,i⟩
 ·show dG _ _ R.vm _;rw[z];show aQ _ _ _ _;rw[<-nR];exact D
 ·intro p x;have m:=(dC _ _).subset x;exact(h.cg.fA p m).ai B (u p m)
def vB(R:aF)(a:ByteArray)(w c:ab):Prop:=
 ∃b,aq c {R with kv:=b,keys:=R.keys.eraseIdx (below R.keys a),au:=del R.au a}/\(aF.fp {R with kv:=b,keys:=R.keys.eraseIdx (below R.keys a),au:=del R.au a}).Sublist R.fp/\aa (·∈R.fp) w c
theorem Fb(R:aF)(c:ByteArray)(w:ab)(h:aq w R)(hr:bh R.keys)(hm:bR R.keys c=true)(b:Nat)(t:R.vm=V b)(hl:R.keys.length<1000000000000):ba prog 207 #[X (V ⟨R.sb,7,Y⟩),O c] w λe w'=>e=ay (bt #[])/\vB R c w w':=by
 have hM:aQ O w b (R.au.map λp=>(p.1,p.2.sl)):=by have:=h.cg.ed;rw[t]at this;exact this
 have c6:w.cell? ⟨R.sb,8,Y⟩=V (.map (V b)):=(h.cell 8).trans (by rw[<-t];rfl);have l:=h.cg.cW;obtain⟨C,a3⟩:=(sT (x:=c) hr).2 ((bA _ _).1 hm);obtain⟨a,d,r,b2,ha⟩:=l.form;obtain⟨g,rfl⟩:=ha (by omega);have c5:w.cell? ⟨R.sb,7,Y⟩=V (J (V ⟨g,0,Y⟩) R.keys.length d):=(h.cell 7).trans (by rw[<-r];rfl);have S:=h.lt;have a4:w.frozen? ⟨R.sb,7,Y⟩=false:=h.frozen 7;have j:=h.nodup;simp only[aF.fp,aF.bp,ey,lf,cQ,Th,r,t]at j;have H:R.sb≠g:=λe=>j.1.2.1.1 (by simp[Value.ownBlock,e]);have G:R.sb≠b:=λe=>j.1.2.1.2 (by simp[e]);have D:g≠b:=λe=>j.2.2.1.1.2.2 g (by simp[Value.ownBlock]) b (by simp) e;rw[r]at l;have a8:QS (Row w 9 1 (J (V ⟨g,0,Y⟩) R.keys.length d) R.keys.length (R.keys.map O)):=l;have o:QS (∀n,aa (·=b) w n->Row n 9 1 (J (V ⟨g,0,Y⟩) R.keys.length d) R.keys.length (R.keys.map O)):=λn hk=>l.ai hk (λk a6 e=>by have T:k=b:=e;exact D ((mv a6).trans T))
 have W:QS (∀n K v,aa (·=b) w n->aa n_ n K->aa (λk=>(J (V ⟨g,0,Y⟩) R.keys.length d).ownBlock=V k) K v->v.frozen? ⟨R.sb,7,Y⟩=false):=λn K v N T h3=>by rw[h3.frozen (by have:=N.size;have:=T.size;show R.sb<_;omega) (FA H),T.frozen (by have:=N.size;show R.sb<_;omega) id,N.frozen S G];exact a4
 have M:QS (aq w R):=h;have HR:QS (bh R.keys):=hr;have HM:QS (aQ O w b (R.au.map λp=>(p.1,p.2.sl))):=hM;have y:QS (R.kv=J (V ⟨g,0,Y⟩) R.keys.length d):=r;have B:QS (R.vm=V b):=t;have HL:QS (R.keys.length<1000000000000):=hl;have A:QS (R.sb≠g):=H;have z:QS (R.sb≠b):=G;have a0:QS (g≠b):=D;have L:QS (bR R.keys c=true):=hm;obtain⟨i,hi⟩:∃i,below R.keys c=i:=⟨_,rfl⟩
 rw[hi]at C;have HI:QS (below R.keys c=i):=hi;have b1:i<1000000000000:=by omega
 clear h hr hM r t hl j H G D l hm hi a3;go_enter func207,ntmps207;go_wp2_with(first
  |(at_delete;go_must(refine fm _ rfl _ _ 57 9 rfl 135 bJ Tryz.underlying57 Tryz.underlying9 b rfl c rfl _ HM.o ?_;intro n a7 f b3;have a1:=f.cell (p:=⟨R.sb,7,Y⟩) c5 z.o))
  |(go_at_call 170;go_must(refine(je _ R.keys c n (o.o n f) HR.o (by have:=HL.o;omega)).mono ?_;rw[HI.o,L.o];rintro e K ⟨rfl,m⟩;have a2:=m.cell (p:=⟨R.sb,7,Y⟩) a1 id))
  |(go_at_call 222;go_must(refine(EI _ R.keys i K ((o.o n f).ai m k_) C).mono ?_;rintro e v ⟨g',u,a5,rfl,F,q⟩;obtain rfl:g=g':=mv a5;have b0:=q.cell (p:=⟨R.sb,7,Y⟩) a2 (FA A.o);have a9:v.frozen? ⟨R.sb,7,Y⟩=false:=W.o n K v f m q)))
 go_end0;have P:aa (λk=>k=R.sb\/k=g\/k=b) w (v.setCell ⟨R.sb,7,Y⟩ (J (V ⟨g,0,Y⟩) (R.keys.length-1) u)):=(((f.mono (λ_ _ h=>.inr (.inr h))).tr m (λ_ h=>h.elim)).tr q (λ_ h=>.inr (.inl (mv h).symm))).tr (aa.setCell _ _ _) (λ_ h=>.inl h);have Q:(R.keys.eraseIdx i).length=R.keys.length-1:=List.length_eraseIdx_of_lt C;have h3:v.heap[R.sb]?=V (I (bo R) 61 (0,0)):=by rw[q.block R.sb (by have:=f.size;have:=m.size;omega) (FA A.o),m.block R.sb (by have:=f.size;omega) id,f.block R.sb S z.o];exact M.o.top
 have s:=M.o.LO c (kv':=J (V ⟨g,0,Y⟩) (R.keys.length-1) u) (keys':=R.keys.eraseIdx i) (b:=b) P (λk _ hs=>?_) ?_ ?_ B.o ?_ (by rw[y.o];rfl)
 ·rw[<-HI.o]at s;refine⟨rfl,_,s.1,s.2,P.mono (λk _ hs=>?_)⟩;rcases hs with rfl|rfl|rfl
  ·simp[aF.fp]
  ·simp[aF.fp,aF.bp,y.o,Value.ownBlock]
  ·simp[aF.fp,aF.bp,B.o]
 ·rcases hs with h|h|h
  ·exact .inl h
  ·exact .inr (.inl (by rw[y.o,h];rfl))
  ·exact .inr (.inr (by rw[B.o,h]))
 ·rw[ak h3];rfl
 ·rw[Q];exact F.ai (aa.setCell _ _ _) (λk hk e=>A.o (by have N:k=R.sb:=e;exact N.symm.trans (mv hk).symm))
 ·exact((a7.ai m id).ai q (λh=>a0.o (mv h))).ai (aa.setCell _ _ _) (λe=>z.o (Eq.symm e))
theorem EC(g m a:Nat)(n:List ax)(w:ab)(h:Row w 144 3 (J (V ⟨g,0,Y⟩) (m+1) a) (m+1) n):∃wc,(Builtin.clear_ #[135] 0 #[J (V ⟨g,m*3,Y⟩) 1 (a-m)]).run prog w=.ok (bt #[]) wc/\aa (·=g) w wc/\Row wc 144 3 (J (V ⟨g,0,Y⟩) m m) m (n.take (m*3)):=by
 rcases h.2 with⟨e,_⟩|⟨s,l,c,e,f,i,o,d,k⟩
 ·cases e
 ·cases e;have q:(m+1)*3<=c.size:=mA (xw 3 i) d;have b:=run_storeCells_cells (P:=prog) g (m*3) [Z U 0,O ⟨#[]⟩,ao false] 0 w (λj p=>by rw[ae f];simp at p⊢;omega) (λj _=>aj f _) (by simp[Value.oneCell'])
  refine⟨w.setCells g (m*3) [Z U 0,O ⟨#[]⟩,ao false],?_,aa.setCells _ _ _ _,⟨?_,.inr ⟨g,m,_,rfl,fe _ _ _ _ _ f,eb _,by omega,by rw[gI];omega,?_⟩⟩⟩
  ·have r:(Builtin.zeroCells (Value.agg #[Z U 0,O ⟨#[]⟩,ao false]).cells 1).toList=[Z U 0,O ⟨#[]⟩,ao false]:=by kernel_rfl
   simp only[Tw]at b;simp[Builtin.clear_,run_underlying Tryz.underlying135,r,b]
  ·rw[js,h.1];omega
  ·rw[gr _ _ _ (by simp;omega),mE,RU (by simp;omega),TR,Nat.min_self,<-k,TR,Nat.min_eq_left (by omega)]
theorem KA{a:List bF}(b:a.length=m):((a++[v]).flatMap bF.cells).take (m*3)=a.flatMap bF.cells:=by rw[List.flatMap_append,Ss (by rw[nP,b])]
theorem aq.dropped{wc:ab}{x:sM}{r:List bF}{z:Nat}{q:Obj}(h:aq w R)(P:aD R.au a=V x)(G:x.aE=r++[v])(H:r.length=m)(y:x.sl=J (V ⟨g,0,Y⟩) (r.length+1) z)(d:R.vm=V b)(C:aa (·=g) w wc)(t:Row wc 144 3 (J (V ⟨g,0,Y⟩) m m) m ((x.aE.flatMap bF.cells).take (m*3)))(A:aQ O (Go.ChangeMaps.setBlock wc.drew b q) b (put (R.au.map λp=>(p.1,p.2.sl)) a (J (V ⟨g,0,Y⟩) m m)))(L:g≠R.sb/\g≠b/\R.sb≠b/\g<w.heap.size):aq (Go.ChangeMaps.setBlock wc.drew b q) {R with vm:=V b,au:=put R.au a ⟨J (V ⟨g,0,Y⟩) m m,r⟩}/\aa (·∈R.fp) w (Go.ChangeMaps.setBlock wc.drew b q)/\∀k∈aF.fp {R with vm:=V b,au:=put R.au a ⟨J (V ⟨g,0,Y⟩) m m,r⟩},k∈R.fp:=by
 obtain⟨B,o,F,N⟩:=L;have u:iz R.au a=x.sl:=by unfold iz;rw[P];rfl
 have j:aa (λk=>k=g\/k=b) w (Go.ChangeMaps.setBlock wc.drew b q):=((C.mono (λ_ _ h=>.inl h)).dr).tr (aa.setBlock wc.drew b q) (λ_ h=>.inr h);have f:∀k,R.kv.ownBlock=V k->k≠b/\k≠g:=λk c=>by have K:=((eX R a).nodup_iff).1 h.nodup;rw[lf]at K;have l:=K.2.2;rw[u,y]at l;exact⟨λe=>l k (by simp[c]) k (fx _ (by simp[aF.bY,d,e])) rfl,λe=>l k (by simp[c]) k (fQ _ (by simp[e,Value.ownBlock])) rfl⟩
 have i:(iz R.au a).ownBlock=V g:=by rw[u,y];rfl
 refine⟨h.added a j (λk _ D=>?_) ?_ ?_ A ?_ (λg M=>.inl M) (λk c=>.inl ?_) (.inl d) ?_,j.mono (λk _ D=>?_),λk c=>?_⟩
 ·rcases D with rfl|rfl
  ·exact .inr (.inr (.inr i))
  ·exact .inr (.inr (.inl d))
 ·have e:bo {R with kv:=R.kv,vm:=V b}=bo R:=by simp[bo,d]
  rw[e];exact(j.block R.sb h.lt (by rintro(h|h);exact B h.symm;exact F h)).trans h.top
 ·exact h.cg.cW.ai j (λk c=>by rintro(h|h);exact(f k c).2 h;exact(f k c).1 h)
 ·rw[G,KA H]at t;rw[H];exact(t.ai (aa.drew n_ wc) k_).ai (aa.setBlock wc.drew b q) (λk c e=>o ((mv c).trans e))
 ·rw[i,mv c]
 ·cases hkb:R.kv.ownBlock with
  |none=>simp[Value.ownBlock,o]
  |some k=>
   have s:=f k hkb;simp[Value.ownBlock,o,s.1,s.2]
 ·rw[(eX R a).mem_iff];rcases D with rfl|rfl
  ·exact fx _ (fQ _ (by simp[i]))
  ·exact fx _ (fx _ (by simp[aF.bY,d]))
 ·rcases La (R:=R) (key:=a) (kv':=R.kv) (sl':=J (V ⟨g,0,Y⟩) m m) (keys':=R.keys) (b:=b) (vs':=r) (n:=k+1) (λ_ h=>.inl h) (λk c=>.inl (by rw[i,mv c])) (.inl d) k c with s|s
  ·exact s
  ·omega
theorem fK{a:List ByteArray}(b:bh a):a.Nodup:=by refine b.imp (λh e=>?_);rw[e,bw]at h;cases h
theorem Fo{c:List ByteArray}{x:ByteArray}(g:bh c)(j:bR c x=true)(k:ByteArray):bR (c.eraseIdx (below c x)) k=(decide (x≠k)&&bR c k):=by
 obtain⟨l,b⟩:=(sT (x:=x) g).2 ((bA _ _).1 j);have f:=fK g;rw[QT,bA,List.mem_eraseIdx_iff_getElem];simp only[ss,tT,bA];constructor
 ·rintro⟨i,d,a,rfl⟩;refine⟨λe=>a ?_,nE d⟩;exact(List.getElem_inj f).1 (e.symm.trans b.symm)
 ·rintro⟨a,h⟩;obtain⟨i,d,rfl⟩:=Rr h;refine⟨i,d,λe=>a ?_,rfl⟩;subst e;exact b.symm
def fY(R:aF)(b:ByteArray)(d:List bF)(w c:ab):Prop:=
 ∃a,aq c a/\a={R with kv:=a.kv,keys:=a.keys,vm:=a.vm,au:=a.au}/\il a/\(∀k,aw a.au k=if b=k then d else aw R.au k)/\aa (·∈R.fp) w c/\(∀k∈a.fp,k∈R.fp)/\a.keys.length<=R.keys.length
theorem IW{c:List bF}{g:ab}(h:aq w R)(t:il R)(d:c≠[])(n:bR R.keys a=true)(j:aq g {R with vm:=V b,au:=put R.au a ⟨f,c⟩})(m:aa (·∈R.fp) w g)(l:∀k∈aF.fp {R with vm:=V b,au:=put R.au a ⟨f,c⟩},k∈R.fp):fY R a c w g:=by
 refine⟨_,j,rfl,⟨t.bP,λk=>?_,λp o=>?_⟩,λk=>rj _ _ _ _,m,l,eb _⟩
 ·show bR R.keys k=(aD (put R.au a ⟨f,c⟩) k).isSome;rw[ke];split
  ·rename_i e;rw[<-e,n];rfl
  ·exact t.keys k
 ·rcases jl (dv h.cg) o with rfl|⟨i,_⟩
  ·exact d
  ·exact t.filled p i
theorem IV{d:List bF}{r:ab}(h:aq w R)(t:il R)(n:d=[])(v:bR R.keys a=true)(g:aa (·∈R.fp) w q)(o:∀k∈aF.fp {R with vm:=V b,au:=put R.au a ⟨f,d⟩},k∈R.fp)(u:vB {R with vm:=V b,au:=put R.au a ⟨f,d⟩} a q r):fY R a d w r:=by
 obtain⟨y,s,l,m⟩:=u;have c:del (put R.au a ⟨f,d⟩) a=del R.au a:=rN _ _ _;have i:=dv h.cg;refine⟨_,s,rfl,⟨?_,λk=>?_,λp x=>?_⟩,λk=>?_,g.tr m (λk g=>o k g),λk g=>o k (l.subset g),?_⟩
 ·exact t.bP.sublist (List.eraseIdx_sublist _ _)
 ·show bR (R.keys.eraseIdx (below R.keys a)) k=(aD (del (put R.au a ⟨f,d⟩) a) k).isSome;rw[c,mZ _ i,Fo t.bP v,t.keys];by_cases e:a=k
  ·simp[e]
  ·simp[e]
 ·have j:p∈del (put R.au a ⟨f,d⟩) a:=x;rw[c]at j;exact t.filled p ((dC _ _).subset j)
 ·show aw (del (put R.au a ⟨f,d⟩) a) k=_;rw[c];unfold aw;rw[mZ _ i];split
  ·rw[n];rfl
  ·rfl
 ·exact(List.eraseIdx_sublist _ _).length_le
theorem LF(R:aF)(a:ByteArray)(c:List bF)(v:bF)(w:ab)(h:aq w R)(t:il R)(o:aw R.au a=c++[v])(hl:R.keys.length<1000000000000)(b6:c.length<1000000000000):ba prog 177 #[X (V ⟨R.sb,7,Y⟩),O a] w λe w'=>e=ay (bt #[])/\fY R a c w w':=by
 obtain⟨x,n⟩:∃x,aD R.au a=V x:=by
  cases n:aD R.au a with
  |some x=>exact⟨x,rfl⟩
  |none=>
   unfold aw at o;rw[n]at o;simp at o
 have C:x.aE=c++[v]:=by unfold aw at o;rw[n]at o;exact o
 obtain⟨b,i⟩:∃b,R.vm=V b:=by
  cases o:R.vm with
  |some b=>exact⟨b,rfl⟩
  |none=>
   have:=h.cg.ed;rw[o]at this;have e:R.au=[]:=Sl.1 this;rw[e]at n;cases n
 have hM:aQ O w b (R.au.map λp=>(p.1,p.2.sl)):=by have:=h.cg.ed;rw[i]at this;exact this
 have c6:w.cell? ⟨R.sb,8,Y⟩=V (.map (V b)):=(h.cell 8).trans (by rw[<-i];rfl);have b5:=h.lt;have D:=h.cg.fA _ (bj n);have a5:x.aE.length=c.length+1:=by rw[C];simp
 rw[a5]at D;have M:Row w 144 3 x.sl (c.length+1) (x.aE.flatMap bF.cells):=D;obtain⟨g,d,f⟩:=M.succ;have B:aD (R.au.map λp=>(p.1,p.2.sl)) a=V (J (V ⟨g,0,Y⟩) (c.length+1) d):=by rw[cd,n,<-f];rfl
 obtain⟨m,hm⟩:∃m,c.length=m:=⟨_,rfl⟩
 rw[hm]at B b6;have a7:QS (aD (R.au.map λp=>(p.1,p.2.sl)) a=V (J (V ⟨g,0,Y⟩) (m+1) d)):=B;have s:QS (aq w R):=h;have HT:QS (il R):=t;have HX:QS (aD R.au a=V x):=n;have b1:QS (R.vm=V b):=i;have HM:QS (aQ O w b (R.au.map λp=>(p.1,p.2.sl))):=hM;have HR:QS (Row w 144 3 x.sl (c.length+1) (x.aE.flatMap bF.cells)):=D;have HL:QS (R.keys.length<1000000000000):=hl;have b2:QS (x.aE=c++[v]):=C;have r:QS (c.length=m):=hm;have b0:QS (x.sl=J (V ⟨g,0,Y⟩) (c.length+1) d):=f;have b8:m+1<=d:=by
  rcases D.2 with⟨e,h0⟩|⟨g',b7,b9,e,hg,c3,c1,c2,c4⟩
  ·omega
  ·rw[f]at e;cases e;omega
 have u:Row w 144 3 (J (V ⟨g,0,Y⟩) (m+1) d) (m+1) (x.aE.flatMap bF.cells):=by rw[<-hm,<-f];exact D
 obtain⟨wc,S,l,N⟩:=EC g m d _ w u;obtain⟨A,z,a3,W⟩:g≠R.sb/\g≠b/\R.sb≠b/\g<w.heap.size:=by
  have hn:=((eX R a).nodup_iff).1 h.nodup;rw[lf,lf]at hn;have a4:iz R.au a=x.sl:=by unfold iz;rw[n];rfl
  have y:=hn.2.1.2.2;have hr:=hn.2.1.2.1;rw[a4,f]at y;refine⟨λe=>y g (by simp[Value.ownBlock]) g (by simp[aF.bY,e]) rfl,λe=>y g (by simp[Value.ownBlock]) g (by simp[aF.bY,i,e]) rfl,λe=>?_,u.lt rfl⟩;simp only[aF.bY,ey,cQ,Th]at hr;exact hr.1.2.1 (by simp[i,e])
 have b3:wc.cell? ⟨R.sb,8,Y⟩=V (.map (V b)):=l.cell (p:=⟨R.sb,8,Y⟩) c6 (Ne.symm A);have L:aQ O wc.drew b (R.au.map λp=>(p.1,p.2.sl)):=(hM.ai l (Ne.symm z)).ai (aa.drew n_ wc) id;obtain⟨ob,a2,K⟩:=L.update (P:=prog) (t:=57) bJ Tryz.underlying57 Tryz.underlying9 a (J (V ⟨g,0,Y⟩) m m);have a8:QS (aQ O (Go.ChangeMaps.setBlock wc.drew b ob) b (put (R.au.map λp=>(p.1,p.2.sl)) a (J (V ⟨g,0,Y⟩) m m))):=K;have a9:QS (Row wc 144 3 (J (V ⟨g,0,Y⟩) m m) m ((x.aE.flatMap bF.cells).take (m*3))):=N;have a6:QS (aa (·=g) w wc):=l;have HN:QS (g≠R.sb/\g≠b/\R.sb≠b/\g<w.heap.size):=⟨A,z,a3,W⟩
 have c0:R.sb<wc.heap.size:=kz b5 l.size;clear u l N L K A z a3 W;clear h t n i hM D M hl C hm f B o a5;go_enter func177,ntmps177;go_wp2_with(at_lookup;go_must(refine iA _ rfl _ _ 57 rfl 9 135 bJ Tryz.underlying57 Tryz.underlying9 _ (Tryz.cJ _) b rfl a rfl _ HM.o ?_;rw[a7.o];simp only[lp]))
 go_region;obtain⟨Q,a0,T⟩:=s.o.dropped HX.o b2.o r.o b0.o b1.o a6.o a9.o a8.o HN.o;have q:bR R.keys a=true:=by rw[HT.o.keys,HX.o];rfl
 have H:QS (aq (Go.ChangeMaps.setBlock wc.drew b ob) {R with vm:=V b,au:=put R.au a ⟨J (V ⟨g,0,Y⟩) m m,c⟩}):=Q;have G:QS (aa (·∈R.fp) w (Go.ChangeMaps.setBlock wc.drew b ob)):=a0;have F:QS (∀k∈aF.fp {R with vm:=V b,au:=put R.au a ⟨J (V ⟨g,0,Y⟩) m m,c⟩},k∈R.fp):=T;have j:QS (bR R.keys a=true):=q;clear Q a0 T q S a2 b3;by_cases a1:m=0
 ·have b4:=Fb {R with vm:=V b,au:=put R.au a ⟨J (V ⟨g,0,Y⟩) m m,c⟩} a _ H.o HT.o.bP j.o b rfl HL.o;go_wp2_with(go_at_call 207;go_must(refine b4.mono ?_;rintro e w4 ⟨rfl,hf⟩))
  go_end0;exact⟨rfl,IV s.o HT.o (hU (r.o.trans a1)) j.o G.o F.o hf⟩
 ·go_wp2;go_end0;exact⟨rfl,IW s.o HT.o (λe=>a1 (r.o.symm.trans (by rw[e];rfl))) j.o H.o G.o F.o⟩
theorem fY.keeps{c:List bF}{b:ab}(h:fY R a c w b):aa (·∈R.fp) w b:=by obtain⟨_,_,_,_,_,h,_⟩:=h;exact h
theorem fY.from{b:List bF}{d c:ab}(h:fY R a b w c)(m:aa n_ d w):fY R a b d c:=by obtain⟨e,f,g,i,j,k,l⟩:=h;exact⟨e,f,g,i,j,(m.mono (λ_ _ h=>h.elim)).tr k i_,l⟩
theorem fY.id(h:aq w R)(t:il R)(b:aw R.au a=[]):fY R a (aw R.au a).dropLast w w:=by
 refine⟨R,h,rfl,t,λk=>?_,aa.refl _ _,λ_ h=>h,eb _⟩;split
 ·rename_i e;rw[<-e,b];rfl
 ·rfl
theorem IX(R:aF)(a:ByteArray)(w:ab)(h:aq w R)(g:aD R.au a=Y):ba prog 177 #[X (V ⟨R.sb,7,Y⟩),O a] w λe k=>e=ay (bt #[])/\k=w:=by
 have i:w.cell? ⟨R.sb,8,Y⟩=V (.map R.vm):=h.cell 8;have f:=h.cg.ed;have j:=h.lt;have b:QS ((aD (R.au.map λp=>(p.1,p.2.sl)) a).getD (J Y 0 0)=J Y 0 0):=by unfold QS;rw[cd,g];rfl
 obtain⟨d,c⟩:∃d,R.vm=d:=⟨_,rfl⟩
 rw[c]at i f;clear h g;go_enter func177,ntmps177;go_wp2_with(at_lookup;go_must(refine dd _ rfl _ _ 57 rfl 9 135 bJ Tryz.underlying57 Tryz.underlying9 _ (Tryz.cJ _) d rfl a rfl _ f ?_;rw[b.o]))
 refine bodyPost_ret (results_none rfl _ _ _) rfl ?_;exact⟨rfl,rfl⟩
theorem LD(R:aF)(a:ByteArray)(w:ab)(h:aq w R)(t:il R)(g:R.keys.length<1000000000000)(d:(aw R.au a).length<1000000000000):ba prog 177 #[X (V ⟨R.sb,7,Y⟩),O a] w λe f=>e=ay (bt #[])/\fY R a (aw R.au a).dropLast w f:=by
 cases hx:aD R.au a with
 |none=>
  refine(IX R a w h hx).mono ?_;rintro e f ⟨rfl,rfl⟩;exact⟨rfl,.id h t (by unfold aw;rw[hx];rfl)⟩
 |some x=>
  have c:aw R.au a=x.aE:=by unfold aw;rw[hx];rfl
  have b:=t.filled _ (bj hx);rw[c];exact LF R a x.aE.dropLast (x.aE.getLast b) w h t (by rw[c];exact(Tk b).symm) g (by rw[c]at d;simp;omega)
theorem Nk(R:aF)(a:ByteArray)(s c:Nat)(w:ab)(h:aq w R)(t:il R)(o:R.keys.length<1000000000000)(g:(aw R.au a).length<1000000000000)(q:w.cell? ⟨s,0,Y⟩=V (X (V ⟨R.sb,0,Y⟩)))(i:w.cell? ⟨c,0,Y⟩=V (O a))(f:s∉R.fp)(d:c∉R.fp):ba prog 176 #[X (V ⟨s,0,Y⟩),X (V ⟨c,0,Y⟩)] w λe n=>e=ay (bt #[])/\fY R a (aw R.au a).dropLast w n:=by
 obtain⟨m,b⟩:∃m,(aw R.au a).dropLast=m:=⟨_,rfl⟩
 rw[b];have r:QS (∀W,aa n_ w W->ba prog 177 #[X (V ⟨R.sb,7,Y⟩),O a] W λe n=>e=ay (bt #[])/\fY R a m W n):=λW i=>b▸LD R a W (h.ai i k_) t o g;have k:QS (s∉R.fp):=f;have j:QS (c∉R.fp):=d;have y:=h.lt;have A:s<w.heap.size:=World.block_lt_of_cell? _ _ q;have x:c<w.heap.size:=World.block_lt_of_cell? _ _ i;clear h t o g f d b;go_enter func176,ntmps176;go_region_held3(λW=>W.cell? ⟨s,0,Y⟩=V (X (V ⟨R.sb,0,Y⟩))/\W.cell? ⟨c,0,Y⟩=V (O a)) (go_keep) (first|(go_at_call 177;refine(r.o _ (aa.drew n_ w)).mono ?_;rintro e B ⟨rfl,l⟩;have z:=l.keeps.cell (p:=⟨s,0,Y⟩) (v:=X (V ⟨R.sb,0,Y⟩)) q k.o;have u:=l.keeps.cell (p:=⟨c,0,Y⟩) (v:=O a) i j.o));go_end0;exact⟨rfl,l.from (aa.drew n_ w)⟩
section
attribute [local go_sem] Oper.semAt_some
def QC(B g:Nat)(A C:ab):Prop:=C.heap[B]?=A.heap[B]?/\C.heap[g]?=A.heap[g]?
def oH(n k:Nat):List (Fin n):=((List.finRange n).drop k).reverse
theorem ED{k:Nat}(h:k<n):oH n k=oH n (k+1)++[⟨k,h⟩]:=by unfold oH;rw[SW (i:=k) (by simpa using h)];simp
theorem Ar(n k:Nat):(oH n k).length=n-k:=by simp[oH]
theorem IG(n:Nat):oH n n=[]:=by simp[oH]
theorem yf(F:Fence)(n:Nat)(R:F.fn 165)(G:F.round=Y)(hn:1<=n)(l B g q:Nat)(a:List ax)(a0 K:List (Fin a.length)->ab->Prop)(C:∀c x W,a0 c W->c.length<a.length->YieldAt F (n-1) prog l #[Z U (x.val:Nat),a[x.val]] W λe p=>(e=ay (ao true)/\a0 (c++[x]) p/\QC B g W p)\/(e=ay (ao false)/\K (c++[x]) p))(W:ab)(z:W.cell? ⟨B,0,Y⟩=V (J (V ⟨g,0,Y⟩) a.length q))(f:∀i (h:i<a.length),W.cell? ⟨g,i,Y⟩=V a[i])(hl:a.length<1000000000000)(Q:a0 [] W):CallsIn F n prog 165 #[.func (.yield l) #[] #[],X (V ⟨B,0,Y⟩)] W λe p=>(∃v,e=ay v)/\(a0 (oH a.length 0) p\/∃c,K c p):=by
 refine callsIn_of_wp func165 rfl R ?_ G;simp only[ntmps165,vE,fN,pa,Nat.reduceAdd,Nat.reduceSub,QW,QX,Rv,Re,uE,tI];gi_wp2;gi_loopw [3] (λi wr=>∃k:Nat,k<=a.length/\i=Z U ((k:Int)-1)/\a0 (oH a.length k) wr/\QC B g W wr) (λi _=>(intOf i+1).toNat)
 case atStart=>exact⟨a.length,eb _,rfl,by rw[IG];exact Q,rfl,rfl⟩
 case round=>
  obtain⟨k,hk,rfl,d,b⟩:=hrel;have r:wr.cell? ⟨B,0,Y⟩=V (J (V ⟨g,0,Y⟩) a.length q):=by rw[<-z];simp only[World.cell?,b.1]
  rcases Ry k with rfl|S
  ·gi_wp2;go_end0;exact⟨⟨_,rfl⟩,.inl d⟩
  ·obtain⟨j,rfl⟩:∃j,k=j+1:=⟨k-1,by omega⟩
   have D:j<a.length:=by omega
   have w:wr.cell? ⟨g,j,Y⟩=V a[j]:=by rw[<-f j D];simp only[World.cell?,b.2]
   have P:((j+1:Nat):Int)-1=(j:Int):=by omega
   rw[P];obtain⟨T,M,y,L,H,A⟩:=C _ ⟨j,D⟩ wr d (by rw[Ar];omega);simp only at H;gi_wp2;refine A.mono ?_;have o:=ED D;rintro e N (⟨rfl,s,m⟩|⟨rfl,t⟩)
   ·rw[<-o]at s;have u:QC B g W N:=⟨m.1.trans b.1,m.2.trans b.2⟩
    clear C o m H A r w f z b d;gi_wp2;refine⟨⟨j,by omega,rfl,s,u⟩,?_⟩;simp only[intOf];omega
   ·clear C o H A r w f z b d;gi_wp2;refine bodyPost_ret (results_none rfl _ _ _) rfl ?_;exact⟨⟨_,rfl⟩,.inr ⟨_,t⟩⟩
theorem vL(F:Fence)(n:Nat)(r:F.fn 165)(j:F.round=Y)(C:1<=n)(B g b:Nat)(a:List ax)(w:ab)(s:B<w.heap.size)(y:g<w.heap.size)(u:w.cell? ⟨B,0,Y⟩=V (J (V ⟨g,0,Y⟩) a.length b))(f:∀i (h:i<a.length),w.cell? ⟨g,i,Y⟩=V a[i])(A:a.length<1000000000000):SeqStopsK F n prog 165 #[X (V ⟨B,0,Y⟩)] (λx:Fin a.length=>#[Z U (x.val:Nat),a[x.val]]) (QC B g) (λD=>D=oH a.length 0) (λ_=>True) a.length w:=λl H o W m _ _ t q=>by
 have d:=(m.cell (p:=⟨B,0,Y⟩) s).trans u;refine(yf F n r j C l B g b a H o t W d (λi z=>(m.cell (p:=⟨g,i,Y⟩) y).trans (f i z)) A q).mono λe G ⟨v,c⟩=>⟨v,?_⟩;rcases c with c|⟨k,c⟩
 ·exact .inl ⟨_,rfl,c⟩
 ·exact .inr ⟨k,trivial,c⟩
end
def yr(n:Nat)(a:List bF):List bF:=a.take (a.length-n)
theorem tg(a:List bF):yr 0 a=a:=by simp[yr]
theorem IT(n:Nat)(a:List bF):(yr n a).dropLast=yr (n+1) a:=by unfold yr;rw[List.dropLast_eq_take,TR,js];congr 1;omega
theorem Ly(a:List bF)(v:bF):yr 1 (a++[v])=a:=by unfold yr;rw[hQ];exact Ss rfl
theorem NT(n:Nat)(a:List bF):(yr n a).length<=a.length:=by simp[yr]
def uI(a:List ByteArray)(k:ByteArray):Nat:=(a.filter (λx=>decide (x=k))).length
theorem IF(a:List ByteArray)(x k:ByteArray):uI (a++[x]) k=uI a k+if x=k then 1 else 0:=by
 unfold uI;rw[yv,hQ];by_cases e:x=k
 ·simp[e]
 ·simp[e]
theorem vR:∀{b:List ByteArray},b.Nodup->∀k,uI b k=if bR b k then 1 else 0
 |[],_,k=>by simp[uI,bR]
 |a::r,h,k=>by
  rw[ey]at h;have ih:=vR h.2 k;unfold uI bR at ih⊢;by_cases e:a=k
  ·subst e;have f:r.any (λx=>decide (x=a))=false:=by rw[SG];intro d;exact h.1 ((bA r a).1 d)
   rw[f]at ih;simp at ih⊢;exact ih
  ·have c:decide (a=k)=false:=by simp[e]
   rw[List.filter_cons_of_neg (by simp[e]),ih,List.any_cons,c,Bool.false_or]
theorem Aq(a:List ByteArray)(k:ByteArray):uI a.reverse k=uI a k:=by unfold uI;rw[List.filter_reverse,List.length_reverse]
def iS(b:aF)(w:ab)(c:List ByteArray)(W:ab):Prop:=
 ∃a,aq W a/\a={b with kv:=a.kv,keys:=a.keys,vm:=a.vm,au:=a.au}/\il a/\(∀k,aw a.au k=yr (uI c k) (aw b.au k))/\(∀x∈a.fp,x∈b.fp)/\aa (·∈b.fp) w W/\a.keys.length<=b.keys.length
theorem iS.ai{b:aF}{a:List ByteArray}{e:ab}(h:iS b w a W)(s:aq w b)(k:aa S W e)(g:∀i,S i->w.heap.size<=i):iS b w a e:=by obtain⟨l,m,n,o,p,f,q,r⟩:=h;have c:=bG s;exact⟨l,m.ai k (λi j d=>by have:=g i d;have:=c i (f i j);omega),n,o,p,f,q.trans k (λi j d=>by have:=g i d;omega),r⟩
theorem BF{b:aF}{n:List ByteArray}{d:Nat}(h:iS b w n W)(g:w.heap[d]?=V (I #[O a] 9 (0,0)))(c:w.heap[s]?=V (I #[X (V ⟨b.sb,0,Y⟩)] 32 (0,0)))(j:s∉b.fp)(i:d∉b.fp)(N:b.keys.length<1000000000000)(z:∀x,(aw b.au x).length<1000000000000):ba prog 176 #[X (V ⟨s,0,Y⟩),X (V ⟨d,0,Y⟩)] W λe q=>e=ay (bt #[])/\iS b w (n++[a]) q/\aa (·∈b.fp) W q:=by
 obtain⟨o,L,B,M,r,f,t,Q⟩:=h;have l:o.sb=b.sb:=by rw[B]
 have u:W.cell? ⟨s,0,Y⟩=V (X (V ⟨o.sb,0,Y⟩)):=by rw[l];exact t.cell (p:=⟨s,0,Y⟩) (ae c 0) j
 have v:W.cell? ⟨d,0,Y⟩=V (O a):=t.cell (p:=⟨d,0,Y⟩) (ae g 0) i;refine(Nk o a s d W L M (by omega) (by rw[r];exact Nat.lt_of_le_of_lt (NT _ _) (z _)) u v (λy=>j (f _ y)) (λy=>i (f _ y))).mono ?_;rintro e q ⟨rfl,C,D,F,G,H,A,K,P⟩;refine⟨rfl,⟨C,D,by rw[F,B],G,λk=>?_,λx m=>f x (K x m),t.tr A (λx m=>f x m),by omega⟩,A.mono (λx _ m=>f x m)⟩;rw[H,IF];by_cases e:a=k
 ·subst e;rw[fy rfl,fy rfl,r,IT]
 ·rw[el e,el e,r,Tw]
theorem iS.all{a:aF}{d:List ByteArray}{b:ByteArray->bF}(h:iS a w d.reverse W)(e:jx R d b a)(p:d.Nodup):∃c,aq W c/\jx R [] b c/\(∀x∈c.fp,x∈a.fp)/\aa (·∈a.fp) w W/\c.keys.length<=a.keys.length:=by
 obtain⟨f,g,i,j,l,m,n,o⟩:=h;have q:=e.same;refine⟨f,g,⟨by rw[i,q],λk=>?_,j⟩,m,n,o⟩;rw[l,Aq,vR p,e.aE];cases hm:bR d k with
 |true=>simpa[bR]using Ly _ _
 |false=>simpa[bR]using tg _
end Go.Proofs.YtjbkfdeldlajhaaGreatDoor
