import Derived.Test.YtjbkfdeldlajhaaGreatDoorM36
import Derived.Laws.IdiomStrings
set_option linter.unusedSimpArgs false
namespace Go.Proofs.YtjbkfdeldlajhaaGreatDoor
set_option maxRecDepth 100000
set_option maxHeartbeats 4000000
open Go.RowKit Go.Shelf Go.Proofs.Tryz
open Option renaming none->Y,some->V
open Go.Value renaming int->Z,string->O,slice->J,pointer->X,bool->ao,tuple->bt
open Go.IntKind renaming i64->U
open Go.Obj renaming cells->I
open Go renaming World->ab,Calls->ba,Value->ax
open Go.Ending renaming returned->ay
variable{w wr wc:ab}{b N j:Nat}{l L:List an}{a:Int}{F C:List Nat}{R d:aF}{c:Bool}{x:bB}
section
attribute [local go_sem] Oper.semAt_some
theorem Kt(R:aF)(n:Int)(w:ab)(h:aq w R)(x:aD R.aA n=Y):ba prog 50 #[X (V ⟨R.sb,0,Y⟩),Z U n] w λe C=>e=ay (Z U 1)/\aa n_ w C:=by
 have z:=mf_;have o:=E (iQ R n _ (h.ai (((aa.refl n_ w).al (I #[Z U 0] 71)).al (I #[J Y 0 0] 114)) k_));rw[x]at o;simp only[yg,Rk,bB.val,bB.zero]at o;clear h x;generalize R.sb=D at*;go_enter_defers func50,ntmps50;go_wp2_with fail;refine o.o.mono ?_;rintro e c ⟨rfl,l⟩;have a:c.heap[w.heap.size]?=V (I #[Z U 0] 71 (0,0)):=(l.block w.heap.size (by simp;omega) id).trans ((Below.heap_alloc _ _ _ (by simp)).trans (az w _));have j:c.heap[w.heap.size+1]?=V (I #[J Y 0 0] 114 (0,0)):=(l.block (w.heap.size+1) (by simp) id).trans (by have:=az (w.alloc (I #[Z U 0] 71)) (I #[J Y 0 0] 114);simpa using this);have A:w.heap.size+2<=c.heap.size:=by have:=l.size;simp at this;omega
 have G:c.cell? ⟨w.heap.size,0,Y⟩=V (Z U 0):=ae a 0;have H:c.frozen? ⟨w.heap.size,0,Y⟩=false:=aj a 0;have q:=E a;have d:=E j;have r:=E l;have B:w.heap.size<c.heap.size:=by omega
 clear a j l o;go_wp2;refine leaves_cons (f:=116) (args:=#[X (V ⟨w.heap.size+1,0,Y⟩),X (V ⟨w.heap.size,0,Y⟩)]) (by simp) (by simp[go_sem]) ?_;have b:=ak (i:=0) q.o (Z U 1);have k:=((aa.setCell c ⟨w.heap.size,0,Y⟩ (Z U 1)).block (w.heap.size+1) (lg d.o) (by simp)).trans d.o;have s:aa n_ w (c.setCell ⟨w.heap.size,0,Y⟩ (Z U 1)):=((((aa.refl n_ w).al _).al _).tr r.o i_).st (p:=⟨w.heap.size,0,Y⟩) (.inl (eb _)) _;generalize c.setCell ⟨w.heap.size,0,Y⟩ (Z U 1)=w2 at*;refine(Gc (w.heap.size+1) w.heap.size 1 (by omega) _ ?_ ?_).mono ?_
 ·exact ae ((Below.heap_alloc _ _ _ (lg k)).trans k) 0
 ·exact ae ((Below.heap_alloc _ _ _ (lg b)).trans b) 0
 rintro e F m ⟨rfl,rfl,v⟩;have y:m.cell? ⟨w.heap.size,0,Y⟩=V (Z U 1):=v.cell (p:=⟨w.heap.size,0,Y⟩) (ae ((Below.heap_alloc _ _ _ (lg b)).trans b) 0) id;have t:aa n_ w m:=(s.al _).tr v i_;simp[Leaves,settle,results,Tryz.results50,go_sem,y];exact t
theorem Ku(R:aF)(n:Int)(x:bB)(w:ab)(h:aq w R)(N:aD R.aA n=V x):ba prog 50 #[X (V ⟨R.sb,0,Y⟩),Z U n] w λe w'=>e=ay (Z U 0)/\oU R n true x w w':=by
 have a6:=mf_;obtain⟨q,a⟩:∃q,R.cm=V q:=by
  cases a:R.cm with
  |some q=>exact⟨q,rfl⟩
  |none=>
   have:=h.af.cU;rw[a]at this;have h2:(R.aA.map λp=>(p.1,p.2.val))=[]:=this;have h3:R.aA=[]:=by simpa using h2
   rw[h3]at N;cases N
 have u:=E (iQ R n _ (h.ai (((aa.refl n_ w).al (I #[Z U 0] 71)).al (I #[J Y 0 0] 114)) k_));rw[N]at u;simp only[lp,Ra]at u;have b:=bG h;have a8:=h.lt;have H:q∈R.fp:=(bH R).mem_iff.2 (ef _ (fQ _ (by simp[cL,a])));have a7:=b q H;have a0:=E h;have m:=E a;obtain⟨xf,xa,xt,xh,xn,xs,xc⟩:=x;simp only[bB.val]at u;clear h a N;go_enter_defers func50,ntmps50;go_wp2_with fail;refine u.o.mono ?_;rintro e P ⟨rfl,K⟩;obtain⟨l,r⟩:∃l,l=P.alloc (I #[ao xf,Z U xa,Z U xt,ao xh,O xn,Z .u32 xs,Z U xc] 186):=⟨_,rfl⟩
 have j:aa n_ P l:=by rw[r];exact aa.alloc _ _ _
 have s:aa n_ w l:=((((aa.refl n_ w).al _).al _).tr K i_).tr j i_;have B:P.heap[w.heap.size]?=V (I #[Z U 0] 71 (0,0)):=(K.block w.heap.size (by simp;omega) id).trans ((Below.heap_alloc _ _ _ (by simp)).trans (az w _));have a9:w.heap.size+2<=P.heap.size:=by have:=K.size;simp at this;omega
 have C:l.heap[w.heap.size]?=V (I #[Z U 0] 71 (0,0)):=(j.block w.heap.size (by omega) id).trans B;have A:iP l (w.heap.size+1) [] [w.heap.size+1]:=((fU w (I #[Z U 0] 71)).ai K k_).ai j k_;have g:=a0.o.ai s k_;have c6:l.cell? ⟨R.sb,6,Y⟩=V (.map (V q)):=(g.cell 6).trans (by rw[<-m.o];rfl);have F:aQ (Z U) l q (R.aA.map λp=>(p.1,p.2.val)):=by have:=g.af.cU;rw[m.o]at this;exact this
 have HR:=E (xo (w.heap.size+1) [] [w.heap.size+1] q n _ ((aD R.aA n).getD bB.zero) l A F (kV _ _) (by simp;omega) (by simp));have t:=E C;have S:=E s;have W:=E g;have y:=E r;clear C s g A F K u r j B;go_upto_region 4 with fail;rw[<-y.o];clear y;go_wp2_with(go_at_call 118;go_must(refine(HR.o).mono ?_;rintro e L ⟨rfl,a3,C3,a5,a4,o,a2,G⟩;have d:L.heap[w.heap.size]?=V (I #[Z U 0] 71 (0,0)):=(o.block w.heap.size (lg t.o) (by rintro(hc|hc);(simp at hc);omega)).trans t.o;have y0:L.cell? ⟨w.heap.size,0,Y⟩=V (Z U 0):=ae d 0;have y1:L.frozen? ⟨w.heap.size,0,Y⟩=false:=aj d 0;have Q:=E d;have T:=E G;have v:=E o;clear d G o))
 refine leaves_cons (f:=116) (args:=#[X (V ⟨w.heap.size+1,0,Y⟩),X (V ⟨w.heap.size,0,Y⟩)]) (by simp) (by simp[go_sem]) ?_;have D:=ak (i:=0) Q.o (Z U 0);refine(Nb (w.heap.size+1) w.heap.size _ ?_).mono ?_
 ·exact ae D 0
 rintro e u' b0 ⟨rfl,rfl,rfl⟩;have c:oU R n true ⟨xf,xa,xt,xh,xn,xs,xc⟩ w (L.setCell ⟨w.heap.size,0,Y⟩ (Z U 0)):=by
  have hm:=T.o;rw[Ce]at hm;have s3:=W.o.rJ m.o v.o (λk M hf=>by have:=b k hf;simp at M;omega) hm;refine⟨s3.ai (aa.setCell _ _ _) (λk M e=>?_),?_⟩
  ·have e':k=w.heap.size:=e;have a1:k∈R.fp:=M;have:=b k a1;omega
  ·refine((S.o.mono (λ_ _ h=>h.elim)).trans v.o (λk M h=>?_)).st (.inl (eb _)) _;rcases h with h|h
   ·simp at h;omega
   ·rw[h];exact H
 have hb:=ae D 0;generalize L.setCell ⟨w.heap.size,0,Y⟩ (Z U 0)=W3 at c hb;simp at hb;simp[Leaves,settle,results,Tryz.results50,go_sem,hb];exact c
def aX.mf(A:aX)(n:Int):Int:=if(aD A.aA n).isSome then 0 else 1
def aX.lI(A:aX)(n:Int):aX:=if(aD A.aA n).isSome then{A with aA:=del A.aA n}else A
theorem PO{A:aX}(n:Int)(h:ml N w b A F):ba prog 50 #[X (V ⟨b,0,Y⟩),Z U n] w λe d=>e=ay (Z U (A.mf n))/\gT N b (A.lI n) F w d:=by
 have j:=h;obtain⟨R,a,rfl,rfl,rfl⟩:=h;unfold aX.mf aX.lI;cases hx:aD R.aA n with
 |none=>
  rw[show aD R.gE.aA n=Y from hx];refine(Kt R n w a.st hx).mono ?_;rintro e d ⟨rfl,c⟩;exact⟨rfl,j.after (by omega) c⟩
 |some x=>
  rw[show aD R.gE.aA n=V x from hx];refine(Ku R n x w a.st hx).mono ?_;rintro e d ⟨rfl,g,i⟩;refine⟨rfl,R.fp,⟨_,a.rJ (eb _) g (ya _) a.fG.2 (λp f=>?_) ?_,rfl,rfl,rfl⟩,i,λk c=>.inl c⟩
  ·simp only[Rz]at f;exact a.ji p (CC f)
  ·simp only[Rz];have:=wK R.aA n;have:=a.kH;omega
end
def kD(l:List an)(a:Int)(k:ByteArray):bF:=((l.find? (λr=>decide (r.key=k))).map (λr=>(⟨a,r.value,r.aO⟩:bF))).getD bF.zero
theorem vu{too:Int}(d:bh (l.map an.key))(c:j<l.length):kD l too l[j].key=⟨too,l[j].value,l[j].aO⟩:=by
 unfold kD;have a:l.find? (λr=>decide (r.key=l[j].key))=V l[j]:=by rw[List.find?_eq_some_iff_getElem];refine⟨by simp,j,c,rfl,λi b=>?_⟩;simp only[Bool.not_eq_true',decide_eq_false_iff_not];intro e;have:=RE.1 d i j (by simp;omega) (by simp;omega) b;rw[Se,Se,e,bw]at this;cases this
 rw[a];rfl
structure qu(w:ab)(R:aF)(cb:Nat)(C0:List Nat)(ks:List ByteArray)(eW:ByteArray->bF)(j:Nat)(wr:ab)(Rj:aF)(fs:List ax)(C:List Nat):Prop where
 store:aq wr Rj
 jr:jx R (ks.take j) eW Rj
 uH:iP wr cb fs C
 len:fs.length=j
 keeps:aa (λk=>k∈R.fp\/k∈C0) w wr
 GP:∀k∈C,k∉Rj.fp
 Nr:∀k∈Rj.fp,k∈R.fp\/w.heap.size<=k
 cE:∀k∈C,k∈C0\/w.heap.size<=k
 yu:Rj.keys.length<=R.keys.length+j
theorem qu.ai{b:ab}{e:aF}{f:Nat}{g:List ax}{d:List Nat}{i:List ByteArray}{a:ByteArray->bF}(h:qu w R f d i a j wr e g C)(c:aa n_ wr b):qu w R f d i a j b e g C:=
 ⟨h.store.ai c k_,h.jr,h.uH.ai c k_,h.len,h.keeps.tr c (λ_ h=>h.elim),h.GP,h.Nr,h.cE,h.yu⟩
theorem qu.next{c:aF}{y:Nat}{H:List ax}{G:List Nat}{a:List ByteArray}{g:ByteArray->bF}(h:qu w R y G a g j wr c H C)(S:j<a.length)(s:bR (a.take j) a[j]=false)(o:mL c a[j] (g a[j]) y H C wr wc):∃v z x,qu w R y G a g (j+1) wc v z x:=by
 obtain⟨wa,wb,x,K,-,-,-,⟨t,b,u,B,r,M,N,P⟩,q,D,n⟩:=o;have W:w.heap.size<=wr.heap.size:=h.keeps.size;have a0:=K.size;have T:=r.size;have A:=h.uH.lt;have L:=bG h.store;have f:=La (R:=c) (key:=a[j]) (keys':=(if bR c.keys a[j]then c.keys else eK c.keys (below c.keys a[j]) a[j])) (vs':=aw c.au a[j]++[g a[j]]) M N P;have F:(if bR c.keys a[j]then c.keys else eK c.keys (below c.keys a[j]) a[j]).length<=R.keys.length+(j+1):=by
  have:=h.yu;split
  ·omega
  ·rw[iw _ _ _ (iF _ _)];omega
 have p:=h.jr.snoc h.store s t u b;generalize hR':({c with kv:=t,keys:=(if bR c.keys a[j]then c.keys else eK c.keys (below c.keys a[j]) a[j]),vm:=V b,au:=put c.au a[j] ⟨u,aw c.au a[j]++[g a[j]]⟩}:aF)=v at B f p;have i:∀k∈C,k∉v.fp:=λk e l=>by
  rcases f k l with d|d
  ·exact h.GP k e d
  ·have:=A k e;omega
 have m:a.take (j+1)=a.take j++[a[j]]:=eu S;refine⟨v,_,x,B.ai q (λk e Q=>i k Q e),by rw[m];exact p,D,by simp[h.len],?_,?_,?_,?_,by rw[<-hR'];exact F⟩
 ·refine((h.keeps.tr K (λ_ h=>h.elim)).trans r (λk e l=>?_)).trans q (λk e l=>?_)
  ·rcases h.Nr k l with d|d
   ·exact .inl d
   ·omega
  ·rcases h.cE k l with d|d
   ·exact .inr d
   ·omega
 ·intro k e l;rcases n k e with d|d
  ·exact i k d l
  ·have:=bG B k l;omega
 ·intro k e;rcases f k e with d|d
  ·exact h.Nr k d
  ·right;omega
 ·intro k e;rcases n k e with d|d
  ·exact h.cE k d
  ·right;omega
def GB(R:aF)(d:List Nat)(l:List an)(a:Int)(w c:ab):Prop:=
 ∃b,aq c {b with now:=a}/\jx R (l.map an.key) (kD l a) b/\aa (λk=>k∈R.fp\/k∈d) w c/\(∀k∈b.fp,k∈R.fp\/w.heap.size<=k)/\b.keys.length<=R.keys.length+l.length
theorem Fa{u:ab}{b:aF}{x:Nat}{y:List ax}{q:List Nat}(h:qu u R x q (l.map an.key) (kD l a) l.length wr b y C)(d:aa n_ w u)(e:aa (λk=>k∈C\/k=R.sb) wr wc)(m:wc.heap[R.sb]?=(wr.setCell ⟨R.sb,0,Y⟩ (Z U a)).heap[R.sb]?):GB R q l a w wc:=by
 obtain⟨g,t,z⟩:=h.jr.sb;have o:=h.store.nodup;have j:wc.heap[b.sb]?=V (I (bo {b with now:=a}) 61 (0,0)):=by have:=h.store.set (R':={b with now:=a}) rfl (i:=0) (v:=Z U a) rfl;rw[g]at this⊢;rw[m];exact this
 have p:aq wc {b with now:=a}:=h.store.nums e (λk d c=>by
  rcases c with c|rfl
  ·exact h.GP k c (by simp only[aF.fp,cT];exact .inr d)
  ·rw[<-g]at d;exact(ey.1 o).1 d) a b.aK b.aJ j
 have s:=h.jr;rw[show(l.map an.key).take l.length=l.map an.key by rw[<-hO (f:=an.key),RG]]at s;refine⟨b,p,s,?_,λk n=>(h.Nr k n).imp id (λh=>mA d.size h),by have:=h.yu;exact this⟩;refine((d.mono (λ_ _ h=>h.elim)).tr h.keeps i_).trans e (λi A c=>?_);rcases c with c|rfl
 ·rcases h.cE i c with r|r
  ·exact .inr r
  ·have:=d.size;omega
 ·exact .inl (by simp[aF.fp])
theorem wu(R:aF)(p:Nat)(f:List Nat)(m:Bool)(d:Int)(b:Nat)(oa:Option Addr)(A:Nat)(l:List an)(w:ab)(h:aq w R)(g:Good R)(t:il R)(hc:iP w p [] f)(hC:∀k∈f,k∉R.fp)(a0:R.keys.length<900000000000)(hl:l.length<=1000)(hr:cG w oa l)(a3:∀a,oa=V a->a.block∉R.fp/\a.block∉f)(a4:bh (l.map an.key)):ba prog 120 #[X (V ⟨R.sb,0,Y⟩),X (V ⟨p,0,Y⟩),.agg #[ao m,Z U d,Z U (b:Nat),J oa l.length A]] w λe w'=>e=ay (bt #[])/\GB R f l (b:Nat) w w':=by
 have c3:=h.lt;have v:=hc.lt;have D:=bG h;obtain⟨z,u⟩:∃z,z=w.alloc (I #[ao m,Z U d,Z U (b:Nat),J oa l.length A] 28):=⟨_,rfl⟩
 have k1:aa n_ w z:=by rw[u];exact aa.alloc _ _ _
 have r:QS (z.heap[w.heap.size]?=V (I #[ao m,Z U d,Z U (b:Nat),J oa l.length A] 28 (0,0))):=by show _=_;rw[u];exact az w _
 have a8:QS (qu z R p f (l.map an.key) (kD l (b:Nat)) 0 z R [] f):=⟨h.ai k1 k_,by simpa using jx.refl t _,hc.ai k1 k_,rfl,aa.refl _ _,hC,λk x=>.inl x,λk x=>.inl x,eb _⟩
 have M:QS (w.heap.size∉R.fp/\w.heap.size∉f):=⟨λS=>by have:=D _ S;omega,λS=>by have:=v _ S;omega⟩
 have HR:=E (hr.ai k1);have b2:=E a3;have P:=E a4;have HG:=E g;have HT:=E t;have b1:=E a0;have b0:=E k1;have b3:=E u;have HL:=E hl;have c2:(l.length:Int)<=1000:=by omega
 have x2:=ae r.o 2;have x3:=ae r.o 3;simp at x2 x3;clear h g t hc hC a0 hl hr a3 a4 k1 u v D;go_enter func120,ntmps120;go_wp2_with fail;rw[<-b3.o];go_loopw [11] (λi wr=>∃(j:Nat) (H:aF) (K:List ax) (C:List Nat),j<=l.length/\i=Z U (j:Nat)/\qu z R p f (l.map an.key) (kD l (b:Nat)) j wr H K C) (λi _=>l.length-(intOf i).toNat)
 case atStart=>exact⟨0,R,[],f,eL _,rfl,a8.o⟩
 case round=>
  obtain⟨j,H,K,C,hj,rfl,hB⟩:=hrel;have c:=E hB;have B:=(hB.keeps.block w.heap.size (lg r.o) (λh=>h.elim M.o.1 M.o.2)).trans r.o;have y2:=ae B 2;simp at y2;have b9:=(lg B);obtain⟨a6,-,-⟩:=hB.jr.sb;have q:=E a6;clear hB B x2 x3 a6;by_cases n:j<l.length
  ·have c1:(j:Int)<l.length:=by omega
   obtain⟨g,c4,a2,r0,r1,r2⟩:=HR.o j n;obtain⟨n1,n2⟩:=b2.o _ a2;have ng:¬(g∈R.fp\/g∈f):=λh=>h.elim n1 n2;have s0:=c.o.keeps.cell r0 ng;have s1:=c.o.keeps.cell r1 ng;have s2:=c.o.keeps.cell r2 ng;have G:j<(l.map an.key).length:=by simpa using n
   have F:(l.map an.key)[j]=l[j].key:=Se ..;have o:bR ((l.map an.key).take j) (l.map an.key)[j]=false:=xH P.o G rfl;have y:=vu (too:=(b:Nat)) P.o n;have L:QS (∀W,aa n_ wr W->ba prog 134 #[X (V ⟨R.sb,0,Y⟩),X (V ⟨p,0,Y⟩),O l[j].key,.agg #[Z U (b:Nat),O l[j].value,ao l[j].aO]] W λe w'=>e=ay (bt #[])/\mL H l[j].key ⟨(b:Nat),l[j].value,l[j].aO⟩ p K C W w'):=λW x=>by
    have b7:aw H.au l[j].key=aw R.au l[j].key:=by rw[c.o.jr.aE,<-F,o];rfl
    have:=Dh H l[j].key (b:Nat) l[j].value l[j].aO p K C W (c.o.store.ai x k_) c.o.jr.tied (by have:=c.o.yu;have:=b1.o;have:=HL.o;omega) (by rw[b7];exact xQ HG.o _) (c.o.uH.ai x k_) c.o.GP (by have:=c.o.len;have:=HL.o;omega);rw[q.o]at this;exact this
   have N:QS (∀wc W,aa n_ wr W->mL H l[j].key ⟨(b:Nat),l[j].value,l[j].aO⟩ p K C W wc->∃R' s C',qu z R p f (l.map an.key) (kD l (b:Nat)) (j+1) wc R' s C'):=λwc W x hs=>(c.o.ai x).next G o (by rw[F,y];exact hs);subst a2;have a9:=E n;clear G F o y r0 r1 r2 n1 n2 ng hj;generalize l[j].key=rk at*;generalize l[j].value=rv at*;generalize l[j].aO=rg at*;clear n;go_wp2_with fail;refine(L.o _ ((aa.refl n_ wr).al _)).mono ?_;rintro e wc ⟨rfl,hs⟩;have b6:=N.o _ _ ((aa.refl n_ wr).al _) hs;clear hs;go_wp2;obtain⟨R',s,C',hN⟩:=b6;have:=a9.o;refine⟨⟨j+1,R',s,C',by omega,by simp,hN⟩,?_⟩;simp only[intOf];omega
  ·obtain rfl:j=l.length:=by omega
   have a5:R.sb∉C:=λS=>c.o.GP _ S (by rw[<-q.o];simp[aF.fp]);have a1:=c.o.jr.sb.2.2;have Q:wr.cell? ⟨R.sb,0,Y⟩=V (Z U R.now):=by have:=c.o.store.cell 0;rw[q.o]at this;rw[this];simp[bo,a1]
   have T:wr.frozen? ⟨R.sb,0,Y⟩=false:=by rw[<-q.o];exact c.o.store.frozen 0
   have a7:=E (iU p K C R.sb 0 R.now (b:Nat) wr.drew (c.o.uH.ai (aa.drew n_ _) k_) ((aa.drew n_ wr).cell Q id) T a5 (by rw[c.o.len];have:=HL.o;omega));clear a5 Q T a1;go_wp2_with fail;go_region_with(go_at_call 60;refine(a7.o).mono ?_;rintro e wc ⟨rfl,s,C',D,c0,b5,b8,b4⟩)
   go_end0;exact⟨rfl,Fa c.o b0.o (((aa.drew n_ wr).mono (λ_ _ h=>h.elim)).tr b5 i_) b4⟩
theorem Cv{b:Int}(h:cC c a b l=true){k:Nat}(e:k<l.length):jv c (bL l k) l[k]=true:=by unfold cC at h;simp only[ss]at h;have d:=tE (show k+1<=l.length by omega) h.2;rw[kX e,ss]at d;exact d.2
theorem ja{f:Bool}{b:Int}(h:cC f a b l=true):bh (l.map an.key):=by
 have c:∀j (k:j+1<l.length),de l[j].key l[j+1].key=true:=λj k=>by have:=Cv h k;unfold jv at this;simp only[ss]at this;have n:=this.1.2;rwa[jy (by omega)]at n
 have m:∀d i (g:i+(d+1)<l.length),de l[i].key l[i+(d+1)].key=true:=λd=>by
  induction d with
  |zero=>exactλi g=>c i g
  |succ d ih=>exactλi g=>eO (ih i (by omega)) (c (i+(d+1)) g)
 unfold bh;rw[RE];intro i j o k p;simp only[hO]at o k;rw[Se,Se];have:=m (j-i-1) i (by omega);have e:i+(j-i-1+1)=j:=by omega
 simp only[e]at this;exact this
theorem ze{b:Int}(h:cC c a b l=true):∀r∈l,dw r.key=true/\fM r.value=true/\(c=true->r.aO=false):=λr g=>by obtain⟨k,f,rfl⟩:=Sb.1 g;have:=Cv h f;unfold jv at this;simp only[ss]at this;refine⟨this.1.1.1,this.1.1.2,λe=>?_⟩;have d:=this.2;rw[e]at d;simpa using d
def aX.told(l:List an)(a:Int):aX:=⟨a,a,0,[],[],0,[],l.map an.key,λk=>if bR (l.map an.key) k then [kD l a k]else []⟩
theorem KF{f:List ByteArray}{c:ByteArray->bF}(h:jx (aF.zero b) f c d)(o:bh f):d.keys=f/\aw d.au=λk=>if bR f k then [c k]else []:=by
 have i:aw d.au=λk=>if bR f k then [c k]else []:=funext λk=>by rw[h.aE];have e:aw (aF.zero b).au k=[]:=rfl;rw[e];rfl
 refine⟨jd h.tied.bP o (λk=>?_),i⟩;have a:=congrFun i k;constructor
 ·intro g;have l:(aD d.au k).isSome=true:=by rw[<-h.tied.keys];exact(bA _ _).2 g
  obtain⟨x,j⟩:=QV.1 l;have m:=h.tied.filled _ (bj j);have n:aw d.au k=x.aE:=by unfold aw;rw[j];rfl
  cases hm:bR f k with
  |true=>exact(bA _ _).1 hm
  |false=>
   simp only[hm]at a;exact absurd (n.symm.trans a) m
 ·intro g;refine fJ h.tied ?_;rw[a];simp only[(bA _ _).2 g,Rz];simp
theorem nj{α:Type}{P:α->Prop}{l:List α}(h:l=[]):∀p∈l,P p:=λp a=>(by rw[h]at a;cases a)
theorem Ng{c:Nat}(P:aq w {d with now:=(c:Nat),aK:=(c:Nat)})(h:jx (aF.zero b) (l.map an.key) (kD l (c:Nat)) d)(B:cC true 0 (c:Nat) l=true):oS 1000 w {d with now:=(c:Nat),aK:=(c:Nat)}/\aF.gE {d with now:=(c:Nat),aK:=(c:Nat)}=aX.told l (c:Nat)/\d.sb=b:=by
 have N:=ja B;obtain⟨C,K⟩:=KF h N;have W:=ze B;obtain⟨-,H,M,-⟩:=dD B;have f:=h.same;have o:d.af=[]:=by rw[f];rfl
 have u:d.aN=[]:=by rw[f];rfl
 have y:d.aA=[]:=by rw[f];rfl
 have L:d.aB=0:=by rw[f];rfl
 have z:d.aJ=0:=by rw[f];rfl
 have Q:d.sb=b:=by rw[f];rfl
 have hn:=dv P.cg;have n:∀k,k∈l.map an.key->dw k=true/\fM (kD l (c:Nat) k).value=true/\(kD l (c:Nat) k).aG=(c:Nat):=λk D=>by obtain⟨r,G,rfl⟩:=fI.1 D;obtain⟨j,s,rfl⟩:=Sb.1 G;rw[vu N s];have:=W _ (nE s);exact⟨this.1,this.2.1,rfl⟩
 have g:∀p∈d.au,p.2.aE=[kD l (c:Nat) p.1]/\p.1∈l.map an.key:=λp i=>by
  have R:=h.tied.filled p i;have S:=(mg hn i).2;have q:=congrFun K p.1;have T:aw d.au p.1=p.2.aE:=S;rw[T]at q;cases hmm:bR (l.map an.key) p.1 with
  |true=>simp only[hmm,Rz]at q;exact⟨q,(bA _ _).1 hmm⟩
  |false=>simp only[hmm]at q;exact absurd q R
 have F:aF.cF {d with now:=(c:Nat),aK:=(c:Nat)}<=(1000:Nat):=by show(d.aN.map (·.2)).sum<=_;rw[u];simp
 have t:0<=d.aB/\d.aB<=(1000:Nat):=by rw[L];omega
 refine⟨⟨P,?_,⟨h.tied.bP,h.tied.keys,h.tied.filled⟩,by show(0:Int)<=(c:Nat);omega,by show d.aJ<=(1000:Nat);rw[z];omega,by show d.keys.length<=1000;rw[C,hO];exact M,?_,nj u,F,t,nj y,by show d.aA.length<=4;rw[y];simp⟩,?_,Q⟩
 ·refine⟨⟨by show(0:Int)<=(c:Nat);omega,H.2⟩,by show 0<=d.aJ/\d.aJ<=1000000000000000;rw[z];omega,by show d.af.length<=8;rw[o];simp,nj o,nj o,nj o,nj o,λp i=>?_,λp i v m=>?_,h.tied.filled,λp i=>(n _ (g p i).2).1,λp i v m=>?_,?_,?_⟩
  ·rw[(g p i).1];exact List.pairwise_singleton _ _
  ·rw[(g p i).1]at m;have e:v=kD l (c:Nat) p.1:=by simpa using m
   rw[e,(n _ (g p i).2).2.2];exact⟨by omega,ya _⟩
  ·rw[(g p i).1]at m;have e:v=kD l (c:Nat) p.1:=by simpa using m
   rw[e];exact(n _ (g p i).2).2.1
  ·exact h.tied.bP.imp (λ{a b} A=>(jQ a b).1 A)
  ·intro k;show k∈d.keys↔∃x,aD d.au k=V x;rw[<-bA,h.tied.keys];exact QV
 ·show(d.keys.map (λk=>(aw d.au k).length)).sum<=1000;have:=oA (λk=>(aw d.au k).length) 1 d.keys (λk _=>by rw[K];simp only;split<;>simp);have e:d.keys.length<=1000:=by rw[C,hO];exact M
  omega
 ·show(⟨(c:Nat),(c:Nat),d.aJ,d.af.map _,d.aN,d.aB,d.aA,d.keys,aw d.au⟩:aX)=_;rw[o,u,y,L,z,C,K];rfl
def KU(x:sS)(w:ab)(e:Ending)(a:ab):Prop:=(match x with
 |some (.inr s)=>if s.full=true then∃b F,e=ay (bt #[X (V ⟨b,0,Y⟩),Z U 0])/\ml 1000 a b (aX.told (s.aW.map bX) (s.b:Nat)) F/\∀k∈F,w.heap.size<=k
  else e=ay (bt #[X Y,Z U 6])
 |_=>e=ay (bt #[X Y,Z U 6]))/\aa n_ w a
theorem jH{t:List UInt8}{s:kG}(h:cA t=.ok s):cC s.full s.a s.b (s.aW.map bX)=true:=by
 unfold cA at h;split at h
 ·cases h
 ·split at h
  ·split at h
   ·cases h
   ·rename_i b _ _;split at h
    ·rename_i a;cases h;exact a.1
    ·cases h
  ·cases h
theorem Db(c:ByteArray)(w:ab)(a7:c.size<=10000000000)(hg:gK w):ba prog 55 #[O c] w (KU (cA c.data.toList) w):=by
 have P:=E (jD c w a7 hg);have HJ:=E (λs (h:cA c.data.toList=.ok s)=>jH h);generalize cA c.data.toList=b5 at*;clear a7 hg;rcases b5 with _|p|s
 ·go_enter func55,ntmps55;go_wp2_with fail;refine P.o.mono ?_;rintro e d ⟨rfl,F⟩;unfold eC;go_wp2;go_ret2;exact⟨rfl,F.al _⟩
 ·go_enter func55,ntmps55;go_wp2_with fail;refine P.o.mono ?_;rintro e d ⟨rfl,F⟩;unfold eC;go_wp2;go_ret2;exact⟨rfl,F.al _⟩
 ·have B:=HJ.o s rfl;obtain⟨a1,a,b,o⟩:=s;simp only at B;cases a1 with
  |false=>
   go_enter func55,ntmps55;go_wp2_with fail;refine P.o.mono ?_;rintro e d ⟨⟨N,q,rfl,m,u⟩,F⟩;simp only;clear B HJ P m u;generalize o.length=n at*;go_wp2;go_ret2;exact⟨rfl,F.al _⟩
  |true=>
   have ha:a=0:=by unfold cC kN at B;simp at B;omega
   subst ha;obtain⟨-,b9,hl,-⟩:=dD B;have b4:=ja B;have b0:=E B;have K:(o.map bX).length=o.length:=hO ..;generalize hrb:o.map bX=l at*;have W:=E hrb;clear HJ B hrb;go_enter func55,ntmps55;go_wp2_with fail;refine P.o.mono ?_;rintro e d ⟨⟨N,q,rfl,m,u⟩,F⟩;simp only at m u⊢;rw[W.o,<-K]at m;rw[<-K]at u⊢;have C:cG d N l:=cG.ofRow m;have a6:∀ad,N=V ad->ad.block<d.heap.size:=λad e=>by
    rcases m.2 with⟨r,-⟩|⟨g',b6,b8,r,h2,-⟩
    ·injection r with r;rw[e]at r;cases r
    ·injection r with r;rw[e]at r;cases r;exact (lg h2)
   have b3:=E C;have b2:=E a6;have T:=E F;clear m u F P C a6 K;go_wp2_with fail;refine(He _).mono ?_;rintro e w3 ⟨rfl,H,k3⟩;have M:aa n_ d w3:=(((aa.refl n_ d).al _).al _).tr k3 i_;have t:w3.heap[d.heap.size]?=V (I #[ao true,Z U 0,Z U (b:Nat),J N l.length q] 28 (0,0)):=(k3.block d.heap.size (by simp;omega) id).trans ((Below.heap_alloc _ _ _ (by simp)).trans (az d _));have a3:iP w3 (d.heap.size+1) [] [d.heap.size+1]:=(fU d (I #[ao true,Z U 0,Z U (b:Nat),J N l.length q] 28)).ai k3 k_;obtain⟨g,L⟩:∃g,((d.alloc (I #[ao true,Z U 0,Z U (b:Nat),J N l.length q] 28)).alloc (I #[J Y 0 0] 114)).heap.size=g:=⟨_,rfl⟩
   have x:g=d.heap.size+2:=by rw[<-L];simp
   rw[L]at H⊢;have x0:=ae t 0;have x1:=ae t 1;have x2:=ae t 2;have x3:=ae t 3;simp at x0 x1 x2 x3;have b7:=T.o.size;have HF:=E (wu (aF.zero g) (d.heap.size+1) [d.heap.size+1] true 0 b N q l w3 H (za g) (zR g) a3 (λk Q hf=>by simp at Q;simp[aF.zero,aF.fp,aF.aP,aF.bp,cL,Value.ownBlock]at hf;omega) (by simp[aF.zero]) hl (b3.o.ai M) (λad e=>by have:=b2.o ad e;refine⟨λhf=>?_,λhf=>?_⟩;(simp[aF.zero,aF.fp,aF.aP,aF.bp,cL,Value.ownBlock]at hf;omega);(simp at hf;omega)) b4);have e0:(aF.zero g).sb=g:=rfl;rw[e0]at HF;have y:=E M;have a0:=E x;clear H a3 t k3 M L e0 x;go_wp2_with fail;refine HF.o.mono ?_;rintro e S ⟨rfl,z,j,G,a4,A,-⟩;obtain⟨D,-,-⟩:=G.sb;have f:z.sb=g:=D;have c0:S.cell? ⟨g,0,Y⟩=V (Z U (b:Nat)):=by have:=j.cell 0;rw[<-f];exact this
   have c1:S.cell? ⟨g,1,Y⟩=V (Z U z.aK):=by have:=j.cell 1;rw[<-f];exact this
   have f1:S.frozen? ⟨g,1,Y⟩=false:=by have:=j.frozen 1;rw[<-f];exact this
   have a2:aq (S.setCell ⟨g,1,Y⟩ (Z U (b:Nat))) {z with now:=(b:Nat),aK:=(b:Nat)}:=by have r:=j.set (R':={z with now:=(b:Nat),aK:=(b:Nat)}) rfl (i:=1) (v:=Z U (b:Nat)) (by simp[bo]);rw[<-f];refine aq.nums (R:={z with now:=(b:Nat)}) j (aa.setCell S ⟨z.sb,1,Y⟩ _) (λk Q e=>?_) (b:Nat) (b:Nat) z.aJ r;have a5:=j.nodup;simp only[aF.fp,ey]at a5;have e':k=z.sb:=e;exact a5.1 (e'▸Q)
   obtain⟨i1,i2,i3⟩:=Ng a2 G (by have:=b0.o;simpa using this);have HI:=E i1;have a9:=E i2;have b1:QS (aa n_ w S):=(T.o.tr y.o i_).trans a4 (λk Q h=>by
    have x:=a0.o;rcases h with h|h
    ·simp[aF.zero,aF.fp,aF.aP,aF.bp,cL,Value.ownBlock]at h;omega
    ·simp at h;omega)
   have a8:=E A;have c2:d.heap.size<=w3.heap.size:=y.o.size;clear j G a4 A a2 i1 i2 D HF x0 x1 x2 x3;go_wp2;go_ret2;have x:=a0.o;refine⟨?_,b1.o.st (p:=⟨g,1,Y⟩) (.inl (by show w.heap.size<=g;omega)) _⟩;show if true=true then _ else _
   rw[fy rfl];refine⟨g,_,rfl,⟨_,HI.o,f,?_,rfl⟩,λk Q=>?_⟩
   ·rw[a9.o,W.o]
   ·rcases a8.o k Q with h|h
    ·simp[aF.zero,aF.fp,aF.aP,aF.bp,cL,Value.ownBlock]at h;omega
    ·omega
section
attribute [local go_sem] Oper.semAt_some
def KP(R:aF)(l:List an)(a:Int)(w c:ab):Prop:=
 ∃b,aq c {b with now:=a}/\jx R (l.map an.key) (kD l a) b/\aa (·∈R.fp) w c/\(∀k∈b.fp,k∈R.fp\/w.heap.size<=k)/\b.keys.length<=R.keys.length+l.length
theorem Lf(R:aF)(n:ByteArray)(a b:Nat)(d:List Rec)(w:ab)(h:aq w R)(g:Good R)(td:il R)(b3:n.size<=10000000000)(hg:gK w)(j:cA n.data.toList=.ok ⟨false,a,b,d⟩)(ha:R.now=(a:Nat))(hw:R.af=[])(a9:R.keys.length<900000000000):ba prog 52 #[X (V ⟨R.sb,0,Y⟩),O n] w λe w'=>e=ay (Z U 0)/\KP R (d.map bX) (b:Nat) w w':=by
 have d0:=mf_;have L:aa n_ w ((w.alloc (I #[Z U 0] 71)).alloc (I #[J Y 0 0] 114)):=((aa.refl n_ w).al _).al _;have HD:=E (jD n _ b3 (hg.ai L));have hj:=jH j;rw[j]at HD;simp only at hj;obtain⟨-,d2,hl,-⟩:=dD hj;have b2:=ja hj;have K:(d.map bX).length=d.length:=hO ..;generalize hrb:d.map bX=l at*;have c1:=E hrb;have m:=bG h;have d1:=h.lt;have c4:=E h;have b6:=E g;have c5:=E td;have c6:=E hw;have b7:=E a9;have b9:=E ha;have b8:=E hl;have c2:=E b2;clear hg j hj hrb h g td hw a9 ha hl b2 b3;go_enter_defers func52,ntmps52;go_wp2_with fail;refine HD.o.mono ?_;rintro e z ⟨⟨oa,o,rfl,t,y⟩,k1⟩;simp only at t y⊢;rw[c1.o,<-K]at t;rw[<-K]at y⊢;have b4:aa n_ w z:=L.tr k1 i_;have a4:z.heap[w.heap.size]?=V (I #[Z U 0] 71 (0,0)):=(k1.block w.heap.size (by simp;omega) (λh=>h)).trans ((Below.heap_alloc _ _ _ (by simp)).trans (az w _));have a3:iP z (w.heap.size+1) [] [w.heap.size+1]:=(fU w (I #[Z U 0] 71)).ai k1 k_;have d4:w.heap.size+2<=z.heap.size:=by have:=k1.size;simp at this;omega
 have F:cG z oa l:=cG.ofRow t;have b1:∀ad,oa=V ad->w.heap.size+2<=ad.block:=λad e=>by
  rcases t.2 with⟨u,-⟩|⟨g',c8,c9,u,h2,-⟩
  ·injection u with u;rw[e]at u;cases u
  ·injection u with u;rw[e]at u;cases u;have:=y g' (by rw[e];rfl);simp at this;omega
 obtain⟨c,x⟩:∃c,c=z.alloc (I #[ao false,Z U (a:Nat),Z U (b:Nat),J oa l.length o] 28):=⟨_,rfl⟩
 have s:aa n_ z c:=by rw[x];exact aa.alloc _ _ _
 have M:aa n_ w c:=b4.tr s i_;have p:=c4.o.ai M k_;have q:c.heap[z.heap.size]?=V (I #[ao false,Z U (a:Nat),Z U (b:Nat),J oa l.length o] 28 (0,0)):=by rw[x];exact az z _
 have x0:=ae q 0;have x1:=ae q 1;have x2:=ae q 2;have x3:=ae q 3;simp at x0 x1 x2 x3;have c0:c.cell? ⟨R.sb,0,Y⟩=V (Z U (a:Nat)):=(p.cell 0).trans (by rw[<-b9.o];rfl);have c3:c.cell? ⟨R.sb,3,Y⟩=V (.map R.wm):=p.cell 3;have A:QS (∀W,aa n_ c W->(Builtin.len_ #[54] 3 #[.map R.wm]).run prog W=.ok (Z U 0) W):=λW hW=>by have:=(p.ai hW k_).af.cy.length (P:=prog) Tryz.underlying54 3;rw[c6.o]at this;exact this
 have HF:=E (λW (hW:aa n_ c W)=>wu R (w.heap.size+1) [w.heap.size+1] false (a:Nat) b oa o l W (p.ai hW k_) b6.o c5.o ((a3.ai s k_).ai hW k_) (λk C hf=>by have:=m k hf;simp at C;omega) b7.o b8.o ((F.ai s).ai hW) (λad e=>by have:=b1 ad e;refine⟨λhf=>?_,λhf=>?_⟩;(have:=m _ hf;omega);(simp at hf;omega)) c2.o);have a5:c.heap[w.heap.size]?=V (I #[Z U 0] 71 (0,0)):=(s.block w.heap.size (by omega) (λh=>h)).trans a4;have S:=E a5;have a0:=E M;have a2:=E x;clear t y k1 b4 a4 a3 F b1 s M p q a5 HD x K L;go_wp2_with fail;rw[<-a2.o];go_region;have b0:=A.o c.drew (aa.drew _ _);have T:=E (HF.o c.drew (aa.drew _ _));have a1:QS (aa n_ w c.drew):=a0.o.dr;have G:QS (c.drew.heap[w.heap.size]?=V (I #[Z U 0] 71 (0,0))):=S.o;have y0:=(aa.drew n_ c).cell x0 (λh=>h);have y1:=(aa.drew n_ c).cell x1 (λh=>h);have y2:=(aa.drew n_ c).cell x2 (λh=>h);have y3:=(aa.drew n_ c).cell x3 (λh=>h);have d3:=(aa.drew n_ c).cell c3 (λh=>h);clear x0 x1 x2 x3 c0 c3 A HF S a0 a2;generalize c.drew=w3 at*;go_wp2_with fail;refine T.o.mono ?_;rintro e N ⟨rfl,Q,a8,a7,H,B,D⟩;have v:N.heap[w.heap.size]?=V (I #[Z U 0] 71 (0,0)):=(H.block w.heap.size (lg G.o) (by rintro(hc|hc);(have:=m _ hc;omega);(simp at hc))).trans G.o;have z0:N.cell? ⟨w.heap.size,0,Y⟩=V (Z U 0):=ae v 0;have z1:N.frozen? ⟨w.heap.size,0,Y⟩=false:=aj v 0;have b5:=E v;have HP:QS (∃Q,aq N {Q with now:=((b:Nat):Int)}/\jx R (l.map an.key) (kD l (b:Nat)) Q/\aa (·∈R.fp) w N/\(∀k∈Q.fp,k∈R.fp\/w.heap.size+1<=k)/\Q.keys.length<=R.keys.length+l.length):=by
  have hz:=a1.o.size;have h2:=(lg G.o);refine⟨Q,a8,a7,(a1.o.mono (λ_ _ h=>h.elim)).trans H (λk C h=>?_),λk C=>?_,D⟩
  ·rcases h with h|h
   ·exact h
   ·simp at h;omega
  ·rcases B k C with h|h
   ·exact .inl h
   ·exact .inr (by omega)
 clear a8 a7 H B D v T y0 y1 y2 y3 d3 b0;go_wp2;refine leaves_cons (f:=119) (args:=#[X (V ⟨w.heap.size+1,0,Y⟩),X (V ⟨w.heap.size,0,Y⟩)]) (by simp) (by simp[go_sem]) ?_;have a6:=ak (i:=0) b5.o (Z U 0);refine(Ip (w.heap.size+1) w.heap.size _ ?_).mono ?_
 ·exact ae a6 0
 rintro e u' d5 ⟨rfl,rfl,rfl⟩;have r:KP R l (b:Nat) w (N.setCell ⟨w.heap.size,0,Y⟩ (Z U 0)):=by
  obtain⟨Rm,q1,q2,q3,q4,q5⟩:=HP.o;refine⟨Rm,q1.ai (aa.setCell _ _ _) (λk C e=>?_),q2,q3.st (.inl (eb _)) _,λk C=>(q4 k C).imp id (λh=>by omega),q5⟩;have e':k=w.heap.size:=e;have c7:k∈Rm.fp:=C;rcases q4 k c7 with h|h
  ·have:=m k h;omega
  ·omega
 have hb:=ae a6 0;generalize N.setCell ⟨w.heap.size,0,Y⟩ (Z U 0)=W3 at r hb;simp at hb;simp[Leaves,settle,results,Tryz.results52,go_sem,hb];exact r
end
structure yK(A:aX):Prop where
 now:0<=A.now/\A.now<=1000000000
 aJ:0<=A.aJ
 fresh:aD A.af (A.aJ+1)=Y
 bP:bh A.keys
 keys:∀k,k∈A.keys↔A.aE k≠[]
 rising:∀k,dP (A.aE k)
 fH:∀k,∀v∈A.aE k,0<=v.aG/\v.aG<=A.now
 QJ:∀k,∀v∈A.aE k,fM v.value=true
 dw:∀k∈A.keys,dw k=true
 aB:0<=A.aB
 Pq:aD A.aA (A.aB+1)=Y
 aK:0<=A.aK
theorem ml.ok{A:aX}(h:ml N w b A F):yK A:=by
 obtain⟨R,a,rfl,rfl,rfl⟩:=h;have d:=λk=>qd a.cD k;refine⟨a.cD.now,a.cD.aJ.1,?_,a.tied.bP,λk=>⟨λc=>oE a.tied c,λc=>fJ a.tied c⟩,λk=>(d k).1,λk v g=>((d k).2.1 v g).1,λk v g=>((d k).2.1 v g).2,λk c=>(d k).2.2 (oE a.tied c),a.fG.1,?_,a.aK⟩
 ·rw[jZ];have e:R.gE.aJ=R.aJ:=rfl;have i:aD R.af (R.aJ+1)=Y:=dU.2 (λp f e=>by have:=a.cD.numbers p f;omega);rw[e,i];rfl
 ·exact dU.2 (λp f e=>by have:=(a.ji p f).2.1;have j:p.1=R.aB+1:=e;omega)
theorem yK.last{A:aX}(h:yK A)(k:ByteArray):eE (A.aE k)<=A.now:=GY h.now.1 (h.fH k)
def aX.lB(A:aX)(s:Int):List (ByteArray×ByteArray):=A.keys.filterMap (gA [] A.aE s)
theorem zl(k:ByteArray):de k ⟨#[]⟩=false:=by
 cases h:de k ⟨#[]⟩with
 |false=>rfl
 |true=>
  have:=(jQ _ _).1 h;simp at this
theorem nN(a:List ByteArray):below a ByteArray.empty=0:=by
 unfold below;cases a with
 |nil=>rfl
 |cons k r=>
  have:de k ByteArray.empty=false:=zl k
  simp[this]
theorem CA:∀(k a:List UInt8),(k<a++[0])↔¬(a<k)
 |[],[]=>by simp
 |c::k,[]=>by
  have i:¬c<0:=by simp
  simp[Tl]
 |[],x::a=>by simp
 |c::k,x::a=>by
  have ih:=CA k a;rw[tI,Tl,Tl,ih];constructor
  ·rintro(h|⟨e,h⟩) (b|⟨g,b⟩)
   ·exact absurd (UInt8.lt_trans h b) (UInt8.lt_irrefl _)
   ·rw[g]at h;exact UInt8.lt_irrefl _ h
   ·rw[e]at b;exact UInt8.lt_irrefl _ b
   ·exact h b
  ·intro h;by_cases d:c<x
   ·exact .inl d
   ·by_cases f:x<c
    ·exact absurd (.inl f) h
    ·have e:c=x:=UInt8.le_antisymm (UInt8.not_lt.1 f) (UInt8.not_lt.1 d);exact .inr ⟨e,λb=>h (.inr ⟨e.symm,b⟩)⟩
theorem Cz(k a:ByteArray):(!de k (a++⟨#[0]⟩))=de a k:=by
 rw[QT,jQ];have e:(a++(⟨#[0]⟩:ByteArray)).data.toList=a.data.toList++[0]:=by simp[ByteArray.data_append]
 have h:=CA k.data.toList a.data.toList;rw[<-e,<-jQ]at h;cases hb:de k (a++⟨#[0]⟩)with
 |false=>
  rw[hb]at h;simp only[TO,true_iff];exact Classical.not_not.1 (λb=>by have:=h.2 b;cases this)
 |true=>
  rw[hb]at h;simp only[TU,vg,false_iff];exact h.1 rfl
theorem filterMap_filter{f:ByteArray->Option an}(b:∀k r,f k=V r->r.key=k)(p:ByteArray->Bool):∀a:List ByteArray,(a.filter p).filterMap f=(a.filterMap f).filter (λr=>p r.key)
 |[]=>rfl
 |k::a=>by
  have ih:=filterMap_filter b p a;cases hk:f k with
  |none=>cases hp:p k<;>simp[hp,hk,ih]
  |some r=>
   have e:=b k r hk;cases hp:p k<;>simp[hp,hk,ih,e]
theorem xI{a:ByteArray->List bF}{k:ByteArray}{r:an}(h:fD x a k=V r):r.key=k:=by
 unfold fD at h;cases hv:cX (a k) x.to with
 |none=>rw[hv]at h;cases h
 |some v=>
  rw[hv]at h;cases ht:kC x v with
  |true=>
   simp only[nC,ht,Rz,vv]at h;rw[<-h]
  |false=>
   simp only[nC,ht]at h;cases h
theorem KB{a:List ByteArray}(d:bh a)(b:ByteArray->List bF)(x:bB):cK a b x=(cK a b (bB.new x.full x.gY x.to)).filter (λr=>!de r.key x.next):=by unfold cK;have c:(bB.new x.full x.gY x.to).next=ByteArray.empty:=rfl;rw[qT d,c,nN,SD,filterMap_filter (λk r h=>xI h)];rfl
theorem Gh{b:List ByteArray}(f:bh b)(a:ByteArray->List bF)(x:bB):bh ((cK b a x).map an.key):=by
 have d:∀c:List ByteArray,((c.filterMap (fD x a)).map an.key).Sublist c:=λc=>by
  induction c with
  |nil=>exact RV _
  |cons k c ih=>
   cases hk:fD x a k with
   |none=>simp only[TA,hk];exact ih.cons _
   |some r=>
    have e:=xI hk;simp only[TA,hk,mU,e];exact ih.cons_cons _
 unfold cK;exact(f.sublist (Tm _ _)).sublist (d _)
theorem zI(m:bh (L.map an.key)){n:Nat}(o:0<n)(p:n<=L.length):L.filter (λr=>!de r.key ((L[n-1]'(by omega)).key++⟨#[0]⟩))=L.drop n:=by
 have c:∀i j (b:i<L.length) (g:j<L.length),i<j->de L[i].key L[j].key=true:=λi j b g d=>by have:=RE.1 m i j (by simpa using b) (by simpa using g) d;simpa using this
 obtain⟨q,f⟩:∃q,q=(L[n-1]'(by omega)).key:=⟨_,rfl⟩
 rw[<-f];conv=>lhs;rw[<-RJ n L]
 rw[yv];have h:(L.take n).filter (λr=>!de r.key (q++⟨#[0]⟩))=[]:=by
  rw[RR];intro r a;obtain⟨i,b,rfl⟩:=Sb.1 a;rw[js]at b;rw[To,Cz];rw[f];by_cases e:i=n-1
  ·subst e;rw[bw];simp
  ·intro l;have:=eO (c i (n-1) (by omega) (by omega) (by omega)) l;rw[bw]at this;cases this
 have k:(L.drop n).filter (λr=>!de r.key (q++⟨#[0]⟩))=L.drop n:=by rw[RT];intro r a;obtain⟨i,b,rfl⟩:=Sb.1 a;rw[mR]at b;rw[SZ,Cz,f];exact c _ _ _ _ (by omega)
 rw[h,k,uE]
structure Bs(L:List an)(full:Bool)(a b:Nat)(i:Nat)(T:List UInt8)(x:bB):Prop where
 LU:x.full=full
 aH:x.gY=a
 PR:x.to=b
 first:i=0->T=[]/\x=bB.new full a b
 jj:0<i->x.jj=true
 less:0<i->4*(i-1)<L.length+4
 text:0<i->T++bW ((L.drop (4*(i-1))).map an.bS)=cS full a b++bW (L.map an.bS)
 sum:0<i->x.sum=(lz 0 T:Nat)
 count:0<i->x.count=(min (4*(i-1)) L.length:Nat)
 rest:0<i->L.filter (λr=>!de r.key x.next)=L.drop (4*(i-1))
theorem IH(L:List an)(c:Bool)(a b:Nat):Bs L c a b 0 [] (bB.new c a b):=
 ⟨rfl,rfl,rfl,λ_=>⟨rfl,rfl⟩,λh=>absurd h (by omega),λh=>absurd h (by omega),λh=>absurd h (by omega),λh=>absurd h (by omega),λh=>absurd h (by omega),λh=>absurd h (by omega)⟩
theorem Al{a:List Rec}(h:a≠[]):bW a=dW (a.take 4)++bW (a.drop 4):=by rw[rD h]
theorem Dz(c:Bool)(a b:Nat)(d:List Rec):cB ⟨c,a,b,d⟩=(cS c a b++bW d)++iO (lz 0 (cS c a b++bW d)) d.length:=by unfold cB BO iO bM;simp only;rw[<-mE (cS c a b),lA (cS c a b++bW d),mE]
theorem Lv{a i:Nat}{T:List UInt8}(h:Bs L c a b i T x)(s:bh (L.map an.key)):((pH x ((L.filter (λr=>!de r.key x.next)).take 4)).2.1=false/\Bs L c a b (i+1) (T++(pH x ((L.filter (λr=>!de r.key x.next)).take 4)).1) (pH x ((L.filter (λr=>!de r.key x.next)).take 4)).2.2)\/((pH x ((L.filter (λr=>!de r.key x.next)).take 4)).2.1=true/\T++(pH x ((L.filter (λr=>!de r.key x.next)).take 4)).1=cB ⟨c,a,b,L.map an.bS⟩):=by
 cases i with
 |zero=>
  obtain⟨rfl,rfl⟩:=h.first rfl;left;have e:pH (bB.new c a b) ((L.filter (λr=>!de r.key (bB.new c a b).next)).take 4)=(cS c a b,false,{bB.new c a b with jj:=true,sum:=(lz 0 (cS c a b):Nat)}):=by unfold pH;rw[fy (show(bB.new c a b).jj=false from rfl)];rfl
  rw[e];refine⟨rfl,rfl,rfl,rfl,λh=>absurd h (by omega),λ_=>rfl,λ_=>by simp,λ_=>by simp,λ_=>by simp,λ_=>by simp[bB.new],λ_=>?_⟩;simp only[bB.new,tA,RZ,Nat.mul_zero,SD];rw[RT];intro r _
  have:de r.key ByteArray.empty=false:=zl _
  simp[this]
 |succ i=>
  have o:=h.jj (by omega);have v:=h.less (by omega);have g:=h.text (by omega);have p:=h.sum (by omega);have k:=h.count (by omega);have q:=h.rest (by omega);rw[Rn]at v g k q;rw[q];unfold pH;rw[el (by rw[o];simp)];by_cases y:L.length<=4*i
  ·right;have e:L.drop (4*i)=[]:=Sj y;rw[e,List.take_nil,fy rfl];refine⟨rfl,?_⟩;rw[e]at g;simp only[RY]at g;have t:bW []=[]:=by rw[lS]
   rw[t,Kp]at g;have u:min (4*i) L.length=L.length:=by omega
   rw[Dz,<-g,hO,p,k,u];rfl
  ·left;have m:(L.drop (4*i)).take 4≠[]:=λe=>by have:=Rc List.length e;simp at this;omega
   rw[el m];have d:((L.drop (4*i)).take 4).length=min 4 (L.length-4*i):=by simp
   have f:((L.drop (4*i)).take 4).getLast?=L[min (4*(i+1)) L.length-1]?:=by rw[Ty,d,List.getElem?_take,fy (by omega),Sa];congr 1;omega
   have l:min (4*(i+1)) L.length-1<L.length:=by omega
   rw[f,ec l];refine⟨rfl,h.LU,h.aH,h.PR,λh=>absurd h (by omega),λ_=>o,λ_=>by rw[Rn];omega,λ_=>?_,λ_=>?_,λ_=>?_,λ_=>?_⟩
   ·rw[Rn,<-g,mE];congr 1;have j:(L.drop (4*i)).map an.bS≠[]:=λe=>by have:=Rc List.length e;simp at this;omega
    rw[Al j,<-List.map_take,<-TT,List.drop_drop];rfl
   ·simp only[p];rw[lA];simp
   ·simp only[k,d];rw[Rn];omega
   ·rw[Rn];simp only[uW,lp];by_cases w:4*(i+1)<=L.length
    ·have:=zI s (n:=4*(i+1)) (by omega) w;have e:min (4*(i+1)) L.length-1=4*(i+1)-1:=by omega
     simp only[e];exact this
    ·have:=zI s (n:=L.length) (by omega) (eb _);have e:min (4*(i+1)) L.length-1=L.length-1:=by omega
     simp only[e];rw[this,List.drop_length,Sj (by omega)]

def aX.grown(A:aX)(l:List an)(t:Int):aX:={A with now:=t,keys:=ib A.keys (l.map an.key),aE:=λk=>if bR (l.map an.key) k then A.aE k++[kD l t k]else A.aE k}
theorem NB{A:aX}(i:ByteArray)(a t:Nat)(g:List Rec)(h:ml N w b A F)(hN:N<=100000000000)(L:i.size<=10000000000)(hg:gK w)(m:cA i.data.toList=.ok ⟨false,a,t,g⟩)(ha:A.now=(a:Nat))(hw:A.af=[]):ba prog 52 #[X (V ⟨b,0,Y⟩),O i] w λe S=>e=ay (Z U 0)/\gT (N+1000) b (A.grown (g.map bX) (t:Nat)) F w S:=by
 obtain⟨R,d,rfl,rfl,rfl⟩:=h;have M:R.af=[]:=Sl.1 (show R.af.map _=[]from hw);have C:R.now=(a:Nat):=ha;have a0:=d.mX;have a1:=d.xL;have s:=jH m;simp only at s;obtain⟨-,K,hl,-⟩:=dD s;have G:=ja s;have y:=ze s;have B:R.now<(t:Nat):=by unfold cC kN at s;simp at s;omega
 refine(Lf R i a t g w d.st d.cD d.tied L hg m C M (by omega)).mono ?_;rintro e S ⟨rfl,c,Q,o,h3,h4,h5⟩;generalize g.map bX=l at*;have n:∀k,k∈l.map an.key->dw k=true/\fM (kD l (t:Nat) k).value=true/\(kD l (t:Nat) k).aG=(t:Nat):=λk z=>by obtain⟨r,D,rfl⟩:=fI.1 z;obtain⟨j,v,rfl⟩:=Sb.1 D;rw[vu G v];have:=y _ (nE v);exact⟨this.1,this.2.1,rfl⟩
 have q:=o.same;have W:c.af=R.af:=by rw[q]
 have H:=xM d.tied o;rw[hO]at H;have x:=d.cD.jr o (dv Q.cg) (t:Nat) ⟨by omega,K.2⟩ (λk f=>(n k f).1) (λk f=>⟨(n k f).2.1,(n k f).2.2,B⟩);have P:aw c.au=λk=>if bR (l.map an.key) k then aw R.au k++[kD l (t:Nat) k]else aw R.au k:=funext λk=>o.aE k
 have T:c.keys=ib R.keys (l.map an.key):=jd o.tied.bP (eY _ d.tied.bP) (λk=>by
  rw[gy];constructor
  ·intro f;rcases zb d.tied o f with h|h
   ·exact .inr h
   ·exact .inl h
  ·intro f;refine fJ o.tied ?_;rw[P];simp only;rcases f with f|f
   ·have:=oE d.tied f;split
    ·simp
    ·exact this
   ·rw[fy ((bA _ _).2 f)];simp)
 refine⟨rfl,_,⟨_,⟨Q,x,⟨o.tied.bP,o.tied.keys,o.tied.filled⟩,?_,?_,?_,?_,?_,?_,?_,?_,?_⟩,?_,?_,rfl⟩,h3,λk f=>h4 k f⟩
 ·show 0<=c.aK;rw[q];exact d.aK
 ·show c.aJ<=_;rw[q];have:=d.dR;show R.aJ<=_;omega
 ·show c.keys.length<=_;omega
 ·show c.total<=_;omega
 ·show∀p∈c.aN,_;rw[q];exact d.aN
 ·show c.cF<=_
  have:c.cF=R.cF:=by unfold aF.cF;rw[q]
  rw[this];have:=d.du;omega
 ·show 0<=c.aB/\c.aB<=_;rw[q];exact⟨d.fG.1,by have:=d.fG.2;show R.aB<=_;omega⟩
 ·show∀p∈c.aA,_/\p.1<=c.aB/\_;rw[q];exact d.ji
 ·show c.aA.length<=4;rw[q];exact d.kH
 ·show c.sb=R.sb;rw[q]
 ·have u:c.aK=R.aK/\c.aJ=R.aJ/\c.aN=R.aN/\c.aB=R.aB/\c.aA=R.aA:=by rw[q];exact⟨rfl,rfl,rfl,rfl,rfl⟩
  simp only[aF.gE,aX.grown,P,T,u.1,u.2.1,u.2.2.1,u.2.2.2.1,u.2.2.2.2,W]
end Go.Proofs.YtjbkfdeldlajhaaGreatDoor
