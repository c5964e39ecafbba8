import Derived.Test.YtjbkfdeldlajhaaGreatDoorM34
set_option linter.unusedSimpArgs false
namespace Go.Proofs.YtjbkfdeldlajhaaGreatDoor
set_option maxRecDepth 100000
set_option maxHeartbeats 4000000
open Go.RowKit Go.Shelf Go.Proofs.Tryz
open Option renaming none->Y,some->V
open Go.Value renaming int->Z,string->O,slice->J,pointer->X,bool->ao,tuple->bt
open Go.IntKind renaming i64->U
open Go.Obj renaming cells->I
open Go renaming World->ab,Value->ax,Calls->ba
open Go.Ending renaming returned->ay
variable{w wr a:ab}{R:aF}{C:List Nat}
section
attribute [local go_sem] Oper.semAt_some
theorem Ph(R:aF)(a:ByteArray)(t:Int)(w:ab)(h:aq w R)(g:Good R):ba prog 128 #[X (V ⟨R.sb,7,Y⟩),O a,Z U t] w λe d=>e=ay (bt #[((cX (aw R.au a) t).getD bF.zero).val,ao (cX (aw R.au a) t).isSome])/\aa n_ w d:=by obtain⟨b,c⟩:=g.aE a;exact GD R.sb a t R.vm _ _ (aw R.au a) w (h.cell 8) h.cg.ed rfl (h.cg.slice a) b c
theorem KC(x:bB)(v:bF)(w:ab):ba prog 198 #[x.val,v.val] w λe b=>e=ay (ao (kC x v))/\aa n_ w b:=by
 obtain⟨c,h,m,j,k,l,i⟩:=x;obtain⟨f,g,d⟩:=v;unfold bB.val bF.val kC;have a:∀(x:Bool) (w:ab),(Op.unary .not (ao x)).run prog w=.ok (ao (!x)) w:=λ_ _=>rfl;cases c with
 |true=>
  go_enter func198,ntmps198;go_wp2;go_ret;exact⟨rfl,((aa.refl _ w).al _).al _⟩
 |false=>
  go_enter func198,ntmps198;go_wp2;go_ret;exact⟨by simp,((aa.refl _ w).al _).al _⟩
structure PW(wr W:ab)(p:Nat)(v:bF):Prop where
 cells:W.heap[p]?=V (I #[Z U v.aG,O v.value,ao v.aO] 144 (0,0))
 keep:aa n_ wr W
 ge:wr.heap.size<=p
theorem OT(v:bF)(k:aa n_ wr.drew a):PW wr (a.alloc (I #[Z U v.aG,O v.value,ao v.aO] 144)) a.heap.size v:=
 ⟨az a _,(((aa.refl n_ wr).dr).tr k i_).al _,k.size⟩
theorem OU{x y z:ax}(v:bF)(k:aa n_ (wr.alloc (I #[x,y,z] 144)).drew a):PW wr (((a.setCell ⟨wr.heap.size,0,Y⟩ (Z U v.aG)).setCell ⟨wr.heap.size,1,Y⟩ (O v.value)).setCell ⟨wr.heap.size,2,Y⟩ (ao v.aO)) wr.heap.size v:=by have e:a.heap[wr.heap.size]?=V (I #[x,y,z] 144 (0,0)):=(k.block wr.heap.size (by show _<(wr.alloc _).heap.size;simp) id).trans (az wr _);have b:=ak (i:=0) e (Z U v.aG);have c:=ak (i:=1) b (O v.value);have d:=ak (i:=2) c (ao v.aO);refine⟨by simpa using d,(((((aa.refl n_ wr).al _).dr).tr k i_).st (p:=⟨wr.heap.size,0,Y⟩) (.inl (eb _)) _|>.st (p:=⟨wr.heap.size,1,Y⟩) (.inl (eb _)) _).st (p:=⟨wr.heap.size,2,Y⟩) (.inl (eb _)) _,eb _⟩
def sP(w:ab)(c:Option Addr)(b:List ByteArray):Prop:=∀i (h:i<b.length),∃g a,c=V ⟨g,a,Y⟩/\w.cell? ⟨g,a+i,Y⟩=V (O b[i])
theorem sP.ai{d:ab}{c:Option Addr}{b:List ByteArray}(h:sP w c b)(k:aa n_ w d):sP d c b:=λi j=>by obtain⟨g,a,e,f⟩:=h i j;exact⟨g,a,e,k.cell f id⟩
theorem sP.Qp{G:List Nat}{v:ax}{d:List ByteArray}(h:pd G w v d):∃b a,v=J b d.length a/\sP w b d:=by
 rcases h with⟨rfl,b,a,rfl⟩|⟨g,e,a,-,rfl,-,-,h⟩
 ·exact⟨b,a,rfl,λi c=>absurd c (Sr _)⟩
 ·exact⟨_,a,rfl,λi c=>⟨g,e,rfl,h i c⟩⟩
theorem xK(R:aF)(x:bB)(b:Nat)(w:ab)(h:aq w R)(g:Good R)(hr:bh R.keys)(hl:R.keys.length<=200000000000)(hm:b<=1000000):ba prog 160 #[X (V ⟨R.sb,0,Y⟩),x.val,Z U (b:Nat)] w λe w'=>∃v,e=ay v/\Made 70 3 an.cells w w' v ((cK R.keys (aw R.au) x).take b):=by
 obtain⟨i0,hi,c2,c3,c4⟩:=info_parts Tryz.kP;obtain⟨F,C,t,G,r,H,D⟩:=x;have b9:QS (∀W v,ba prog 198 #[.agg #[ao F,Z U C,Z U t,ao G,O r,Z .u32 H,Z U D],.agg #[Z U v.aG,O v.value,ao v.aO]] W λe w'=>e=ay (ao (kC ⟨F,C,t,G,r,H,D⟩ v))/\aa n_ W w'):=λW v=>KC ⟨F,C,t,G,r,H,D⟩ v W;unfold bB.val;simp only;obtain⟨w1,Q⟩:∃w1,w1=w.alloc (I #[ao F,Z U C,Z U t,ao G,O r,Z .u32 H,Z U D] 186):=⟨_,rfl⟩
 have k1:aa n_ w w1:=by rw[Q];exact aa.alloc _ _ _
 have M:QS (w1.heap[w.heap.size]?=V (I #[ao F,Z U C,Z U t,ao G,O r,Z .u32 H,Z U D] 186 (0,0))):=by show _=_;rw[Q];exact az w _
 have a7:=E k1;have b8:=E h;have HG:=E g;have a2:=E (λW (hW:aa n_ w W)=>qB R r W (h.ai hW k_) hr (by omega));have d4:R.sb<w.heap.size:=h.lt;obtain⟨c,P⟩:∃c,c=R.keys.drop (below R.keys r):=⟨_,rfl⟩
 rw[<-P]at a2;have n:c.length<=200000000000:=by rw[P,mR];omega
 obtain⟨f,hf⟩:∃f,f=fD ⟨F,C,t,G,r,H,D⟩ (aw R.au):=⟨_,rfl⟩
 have b0:QS (cK R.keys (aw R.au) ⟨F,C,t,G,r,H,D⟩=c.filterMap f):=by show _=_;rw[P,hf];rfl
 have HF:=E hf;have a3:=E hm;have c7:=E n;have d3:(b:Int)<=1000000:=by omega
 have b3:(c.length:Int)<=200000000000:=by omega
 have c0:=E Q;rw[b0.o];clear h g hr hl hm P hf k1 Q n;go_enter func160,ntmps160;go_wp2_with fail;rw[<-c0.o];have x4:=ae M.o 4;have x2:=ae M.o 2;simp at x4 x2;go_region_held3(λW=>W.cell? ⟨w.heap.size,4,Y⟩=V (O r)) (go_keep) (first|(go_at_call 126;refine(a2.o _ (a7.o.dr)).mono ?_;rintro e w2 ⟨v2,rfl,b5,k2⟩;obtain⟨oa,ca,rfl,N⟩:=sP.Qp b5;have b6:=E N;have a1:=E ((aa.drew n_ w1).tr k2 i_);have z4:w2.cell? ⟨w.heap.size,4,Y⟩=V (O r):=a1.o.cell x4 id;clear b5 k2 N));clear a2;have z:QS (aa n_ w w2):=a7.o.tr a1.o i_;go_wp2_with fail;go_loopw [7,19] (λv i wr=>∃k:Nat,k<=c.length/\i=Z U (k:Nat)/\Made 70 3 an.cells w2 wr v ((c.take k).filterMap f)/\((c.take k).filterMap f).length<=b) (λ_ i _=>c.length-(intOf i).toNat)
 case atStart=>exact⟨0,eL _,rfl,Made.nil (aa.refl _ _),eL _⟩
 case round=>
  obtain⟨k,hk,rfl,S,B⟩:=hrel;have d1:(k:Int)<=c.length:=by omega
  obtain⟨ob,cb,rfl,-,-⟩:=S.row.form;have HM:=E S;have hX:=((a1.o.tr S.keep i_).block _ (lg M.o) id).trans M.o;have HX:=E hX;have L:QS (aa n_ w wr):=z.o.tr S.keep i_;have y2:=ae hX 2;simp at y2;by_cases n:k<c.length
  ·have N:=(b6.o.ai S.keep) k n;have T:f c[k]=fD ⟨F,C,t,G,r,H,D⟩ (aw R.au) c[k]:=by rw[HF.o]
   have s:=E (qq (f:=f) c n);have y:=E (λW (hW:aa n_ w W)=>Ph R c[k] t W (b8.o.ai hW k_) HG.o);have b3:(k:Int)<c.length:=by omega
   have HK:=E n;have c8:=E B;generalize c[k]=l at*;obtain⟨g,d5,rfl,r0⟩:=N;by_cases j:((c.take k).filterMap f).length=b
   ·have a0:=E (qp (f:=f) c j);have c1:((((c.take k).filterMap f).length:Int)==(b:Int))=true:=by rw[TS];omega
    have d0:(((c.take k).filterMap f).length==b)=true:=by rw[TS];exact j
    clear S hk hX j B;generalize (c.take k).filterMap f=al at*;go_wp2;go_ret;exact⟨_,rfl,by rw[<-a0.o];exact HM.o.OM z.o⟩
   ·have b4:((c.take k).filterMap f).length<b:=by omega
    have c1:((((c.take k).filterMap f).length:Int)==(b:Int))=false:=by rw[mK];omega
    have c9:¬((((c.take k).filterMap f).length:Int)=b):=by omega
    clear S hk hX j B;generalize (c.take k).filterMap f=al at*;obtain⟨ov,a4⟩:∃ov,ov=cX (aw R.au l) t:=⟨_,rfl⟩
    rw[<-a4]at y;have b2:f l=nC ⟨F,C,t,G,r,H,D⟩ l ov:=by rw[T,a4];rfl
    have K:=E b2;have u:QS (al.length<b):=b4;have c6:(al.length:Int)<=1000000:=by have:=a3.o;omega
    have d6:=(aa.alloc n_ wr (I #[Z U 0,O ⟨#[]⟩,ao false] 144)).cell y2 id;clear T b2 b4 a4 n;cases ov with
    |none=>
     simp only[yg,Rk,bF.val,bF.zero]at y;go_wp2_with fail;go_region_with(go_at_call 128;refine(y.o _ (by first|exact L.o.dr|exact(L.o.al _).dr)).mono ?_;rintro e w4 ⟨rfl,k4⟩;(try(have q:=(k4.block wr.heap.size (by simp) id).trans (az wr _);have m0:=ae q 0;have m1:=ae q 1;have m2:=ae q 2;have q0:=aj q 0;have q1:=aj q 1;have q2:=aj q 2;simp at m0 m1 m2;clear q)))
     all_goals
      simp only[Tv,Rf,Ru,Act.put,SO,Sz,SB];go_wp2;refine⟨⟨k+1,HK.o,by go_num,?_,?_⟩,by simp only[intOf];have:=HK.o;omega⟩
      ·rw[s.o,K.o];simp only[nC,SJ,Kp];exact HM.o.ai (by first|exact(OT ⟨0,ByteArray.empty,false⟩ k4).keep|exact(OU ⟨0,ByteArray.empty,false⟩ k4).keep)
      ·rw[s.o,K.o];simp only[nC,SJ,Kp];exact SI u.o
    |some v=>
     simp only[lp,Ra,bF.val]at y;go_wp2_with fail;go_region_with(go_at_call 128;refine(y.o _ (by first|exact L.o.dr|exact(L.o.al _).dr)).mono ?_;rintro e w4 ⟨rfl,k4⟩;(try(have q:=(k4.block wr.heap.size (by simp) id).trans (az wr _);have m0:=ae q 0;have m1:=ae q 1;have m2:=ae q 2;have q0:=aj q 0;have q1:=aj q 1;have q2:=aj q 2;simp at m0 m1 m2;clear q)))
     all_goals
      simp only[Tv,Rf,Ru,Act.put,SO,Sz,SB];first
       |(have d:=E (OT (wr:=wr) v k4);generalize w4.alloc (I #[Z U v.aG,O v.value,ao v.aO] 144)=W5 at d⊢;generalize w4.heap.size=pb at d⊢)
       |(have d:=E (OU (wr:=wr) v k4);generalize ((w4.setCell ⟨wr.heap.size,0,Y⟩ (Z U v.aG)).setCell ⟨wr.heap.size,1,Y⟩ (O v.value)).setCell ⟨wr.heap.size,2,Y⟩ (ao v.aO)=W5 at d⊢;generalize wr.heap.size=pb at d⊢)
      have m:=(d.o.keep.block _ (lg HX.o) id).trans HX.o;have z0:=ae m 0;have z1:=ae m 1;have z2:=ae m 2;have z3:=ae m 3;have z4:=ae m 4;have z5:=ae m 5;have z6:=ae m 6;have p0:=ae d.o.cells 0;have p1:=ae d.o.cells 1;have p2:=ae d.o.cells 2;simp at z0 z1 z2 z3 z4 z5 z6 p0 p1 p2;clear m k4;go_wp2_with fail;refine(b9.o _ v).mono ?_;rintro e w6 ⟨rfl,k6⟩;have a8:=E (d.o.keep.tr k6 i_);have q1:=k6.cell (p:=⟨pb,1,Y⟩) p1 id;have q2:=k6.cell (p:=⟨pb,2,Y⟩) p2 id;clear z0 z1 z2 z3 z4 z5 z6 p0 p1 p2 k6;cases htl:kC ⟨F,C,t,G,r,H,D⟩ v with
      |false=>
       have a5:QS (f l=Y):=by show _=_;rw[K.o];simp only[nC,htl];rfl
       clear htl;go_wp2;refine⟨⟨k+1,HK.o,by go_num,?_,?_⟩,by simp only[intOf];have:=HK.o;omega⟩
       ·rw[s.o,a5.o];simp only[SJ,Kp];exact HM.o.ai a8.o
       ·rw[s.o,a5.o];simp only[SJ,Kp];exact SI u.o
      |true=>
       have a6:QS (f l=V ⟨l,v.value,v.aO⟩):=by show _=_;rw[K.o];simp only[nC,htl];rfl
       have a9:=E (HM.o.ai a8.o);clear htl;go_wp2_with(first|(at_builtin;go_must(refine aL _ rfl _ _ 26 rfl 70 i0 _ 3 40 Tryz.underlying26 hi c2 c3 c4 rfl (J ob al.length cb) al.length _ rfl (a9.o.row.ai (aa.alloc n_ _ _) k_) ⟨w6.heap.size,0,Y⟩ 1 1 [O l,O v.value,ao v.aO] rfl rfl (br _ #[O l,O v.value,ao v.aO] _) (by simp[Value.oneCell']) (by have h1:=u.o;have h2:=a3.o;unfold maxLen;omega) (by have h1:=u.o;have h2:=a3.o;omega) ?_;intro v' w9 o A _ b1;obtain⟨g',c5,rfl⟩:=o.succ;have b7:=E (a9.o.push (a:=⟨l,v.value,v.aO⟩) (aa.alloc n_ _ _) o A b1);clear o A b1))|fail)
       refine⟨⟨k+1,HK.o,by go_num,?_,?_⟩,by simp only[intOf];have:=HK.o;omega⟩
       ·rw[s.o,a6.o];exact b7.o
       ·rw[s.o,a6.o];simp only[RM,hQ,Ro];exact u.o
  ·have d2:¬((k:Int)<c.length):=by omega
   have e:c.take k=c:=ep (by omega);rw[e]at HM B;have a0:QS ((c.filterMap f).take b=c.filterMap f):=ep B;clear S hk n hX;go_wp2;go_ret;refine⟨_,rfl,?_⟩;rw[a0.o];exact HM.o.OM z.o
def jk(b a:Bool)(n c:Nat)(x:bB):Int:=
 if b=false\/x.full=false/\a=false then 5 else if kN x.full x.gY x.to=false then 6 else if 4<=n\/1000<c then 3 else 0
theorem qU(R:aF)(x:bB)(w:ab)(h:aq w R)(g:Good R)(hr:bh R.keys)(hl:R.keys.length<=200000000000)(a6:R.aA.length<=4):ba prog 110 #[X (V ⟨R.sb,0,Y⟩),x.val] w λe w'=>e=ay (Z U (jk (decide (R.aK<=x.to)&&decide (x.to<=R.now)) (decide (R.aK<=x.gY)&&decide (x.gY<=R.now)) R.aA.length (cK R.keys (aw R.au) x).length x))/\aa n_ w w':=by
 obtain⟨m,u,v,S,T,xs,Q⟩:=x;unfold jk;simp only;have N:=E (λW (r:aa n_ w W)=>rY R v W (h.ai r k_));have HF:=E (λW (r:aa n_ w W)=>rY R u W (h.ai r k_));have k:=E (λW (r:aa n_ w W)=>xK R ⟨m,u,v,S,T,xs,Q⟩ 1001 W (h.ai r k_) g hr hl (by omega));have H:=E (λW=>qE m u v W);have o:=E (λW (r:aa n_ w W)=>((h.ai r k_).af.cU).length (P:=prog) Tryz.underlying56 3);have G:=E (λW (r:aa n_ w W)=>(h.ai r k_).cell 6);generalize (decide (R.aK<=v)&&decide (v<=R.now))=j at*;generalize (decide (R.aK<=u)&&decide (u<=R.now))=hf at*;generalize kN m u v=fi at*;generalize cK R.keys (aw R.au) ⟨m,u,v,S,T,xs,Q⟩=tl at*;have K:(R.aA.map λp=>(p.1,p.2.val)).length=R.aA.length:=hO ..;rw[K]at o;have a8:R.sb<w.heap.size:=h.lt;generalize R.aA.length=D at*;simp only[bB.val]at k⊢;obtain⟨M,t⟩:∃M,M=w.alloc (I #[ao m,Z U u,Z U v,ao S,O T,Z .u32 xs,Z U Q] 186):=⟨_,rfl⟩
 have L:aa n_ w M:=by rw[t];exact aa.alloc _ _ _
 have d:QS (M.heap[w.heap.size]?=V (I #[ao m,Z U u,Z U v,ao S,O T,Z .u32 xs,Z U Q] 186 (0,0))):=by show _=_;rw[t];exact az w _
 have a:=E L;have q:=E t;have x0:=ae d.o 0;have x1:=ae d.o 1;have x2:=ae d.o 2;have x3:=ae d.o 3;have x4:=ae d.o 4;have x5:=ae d.o 5;have x6:=ae d.o 6;simp at x0 x1 x2 x3 x4 x5 x6;have a5:∀(x:Bool) (w:ab),(Op.unary .not (ao x)).run prog w=.ok (ao (!x)) w:=λ_ _=>rfl;have c6:M.cell? ⟨R.sb,6,Y⟩=V (.map R.cm):=(G.o _ L)
 have a7:=o.o _ L;have a4:=o.o _ L.dr;clear h g hr hl L t K G o;by_cases z:j=false\/m=false/\hf=false
 ·rw[fy z];cases j with
  |false=>
   clear z;go_enter func110,ntmps110;go_wp2_with fail;rw[<-q.o];refine(N.o _ a.o).mono ?_;rintro e F ⟨rfl,rfl⟩;go_wp2;go_ret;exact⟨rfl,a.o⟩
  |true=>
   have h6:=z.resolve_left (λh=>by cases h);obtain⟨rfl,rfl⟩:=h6;clear z;go_enter func110,ntmps110;go_wp2_with fail;rw[<-q.o];refine(N.o _ a.o).mono ?_;rintro e F ⟨rfl,rfl⟩;go_wp2_with fail;refine(HF.o _ a.o).mono ?_;rintro e F ⟨rfl,rfl⟩;go_wp2;go_ret;exact⟨rfl,a.o⟩
 ·rw[el z];have a3:j=true:=by cases j with|true=>rfl|false=>exact absurd (.inl rfl) z
  subst a3;have a0:m=true\/m=false/\hf=true:=by
   cases m with
   |true=>exact .inl rfl
   |false=>cases hf with
    |true=>exact .inr ⟨rfl,rfl⟩
    |false=>exact absurd (.inr ⟨rfl,rfl⟩) z
  clear z;obtain⟨c,l⟩:∃c:Int,c=(if fi=false then 6 else if 4<=D\/1000<tl.length then 3 else 0):=⟨_,rfl⟩
  rw[<-l];have y:=E l;clear l;rcases a0 with rfl|⟨rfl,rfl⟩
  ·go_enter func110,ntmps110;go_wp2_with fail;rw[<-q.o];refine(N.o _ a.o).mono ?_;rintro e F ⟨rfl,rfl⟩;go_wp2_with fail;refine(H.o _).mono ?_;rintro e F ⟨rfl,rfl⟩;cases fi with
   |false=>
    go_wp2;go_ret;exact⟨by rw[y.o];rfl,a.o⟩
   |true=>
    by_cases C:4<=D
    ·have e4:decide ((4:Int)<=(D:Nat))=true:=mI (by omega);have b:QS (c=3):=by show _=_;rw[y.o,el (by simp),fy (.inl C)]
     go_wp2;go_ret;exact⟨by rw[b.o];rfl,a.o⟩
    ·have e4:decide ((4:Int)<=(D:Nat))=false:=kg (by omega);have i:QS ((tl.take 1001).length=min 1001 tl.length):=js;by_cases j:1000<tl.length
     ·have b:QS (c=3):=by show _=_;rw[y.o,el (by simp),fy (.inr j)]
      have B:QS ((tl.take 1001).length=1001):=by show _=_;rw[i.o];omega
      clear j C;go_wp2_with fail;refine(k.o _ a.o).mono ?_;rintro e w3 ⟨v3,rfl,f⟩;obtain⟨ob,cb,rfl,-,-⟩:=f.row.form;have A:=E f;clear f;rw[B.o];go_wp2;go_ret;exact⟨by rw[b.o];rfl,a.o.tr A.o.keep i_⟩
     ·have b:QS (c=0):=by show _=_;rw[y.o,el (by simp),el (by omega)]
      obtain⟨n,s⟩:∃n,n=(tl.take 1001).length:=⟨_,rfl⟩
      have a1:decide ((1000:Int)<(n:Nat))=false:=kg (by rw[s,i.o];omega);have a2:decide (1000<n)=false:=kg (by rw[s,i.o];omega);have HN:=E s;clear j C s;go_wp2_with fail;refine(k.o _ a.o).mono ?_;rintro e w3 ⟨v3,rfl,f⟩;obtain⟨ob,cb,rfl,-,-⟩:=f.row.form;have A:=E f;clear f;rw[<-HN.o];go_wp2;go_ret;exact⟨by rw[b.o];rfl,a.o.tr A.o.keep i_⟩
  ·go_enter func110,ntmps110;go_wp2_with fail;rw[<-q.o];refine(N.o _ a.o).mono ?_;rintro e F ⟨rfl,rfl⟩;go_wp2_with fail;refine(HF.o _ a.o).mono ?_;rintro e F ⟨rfl,rfl⟩;go_wp2_with fail;refine(H.o _).mono ?_;rintro e F ⟨rfl,rfl⟩;cases fi with
   |false=>
    go_wp2;go_ret;exact⟨by rw[y.o];rfl,a.o⟩
   |true=>
    by_cases C:4<=D
    ·have e4:decide ((4:Int)<=(D:Nat))=true:=mI (by omega);have b:QS (c=3):=by show _=_;rw[y.o,el (by simp),fy (.inl C)]
     go_wp2;go_ret;exact⟨by rw[b.o];rfl,a.o⟩
    ·have e4:decide ((4:Int)<=(D:Nat))=false:=kg (by omega);have i:QS ((tl.take 1001).length=min 1001 tl.length):=js;by_cases j:1000<tl.length
     ·have b:QS (c=3):=by show _=_;rw[y.o,el (by simp),fy (.inr j)]
      have B:QS ((tl.take 1001).length=1001):=by show _=_;rw[i.o];omega
      clear j C;go_wp2_with fail;refine(k.o _ a.o).mono ?_;rintro e w3 ⟨v3,rfl,f⟩;obtain⟨ob,cb,rfl,-,-⟩:=f.row.form;have A:=E f;clear f;rw[B.o];go_wp2;go_ret;exact⟨by rw[b.o];rfl,a.o.tr A.o.keep i_⟩
     ·have b:QS (c=0):=by show _=_;rw[y.o,el (by simp),el (by omega)]
      obtain⟨n,s⟩:∃n,n=(tl.take 1001).length:=⟨_,rfl⟩
      have a1:decide ((1000:Int)<(n:Nat))=false:=kg (by rw[s,i.o];omega);have a2:decide (1000<n)=false:=kg (by rw[s,i.o];omega);have HN:=E s;clear j C s;go_wp2_with fail;refine(k.o _ a.o).mono ?_;rintro e w3 ⟨v3,rfl,f⟩;obtain⟨ob,cb,rfl,-,-⟩:=f.row.form;have A:=E f;clear f;rw[<-HN.o];go_wp2;go_ret;exact⟨by rw[b.o];rfl,a.o.tr A.o.keep i_⟩
end
theorem Ci(b:Nat)(w:ab):(binOp BinOp.eql 56 (.map (V b)) (.map Y)).run prog w=.ok (ao false) w:=by kernel_rfl
theorem Ch(w:ab):(binOp BinOp.eql 56 (.map Y) (.map Y)).run prog w=.ok (ao true) w:=by kernel_rfl
theorem aq.rJ{r:ab}{b:Nat}{d:List (Int×bB)}(h:aq w R)(f:R.cm=V b)(n:aa (λk=>k∈C\/k=b) w r)(l:∀k∈C,k∉R.fp)(t:aQ (Z U) r b (d.map λp=>(p.1,p.2.val))):aq r {R with aA:=d}:=by
 have a:=(bH R).nodup_iff.1 h.nodup;have s:b∈cL R.pm R.cm:=by simp[cL,f]
 have q:¬(R.sb∈C\/R.sb=b):=by
  rintro(g|e)
  ·exact l _ g (by simp[aF.fp])
  ·rw[ey]at a;exact a.1 (e▸fQ _ s)
 have:=h.side R.pm R.cm R.aN R.aB d n (λk i=>?_) ((n.block _ h.lt q).trans h.top) (h.af.dc.ai n (λc g=>?_)) (by rw[f];exact t) h.nodup
 ·exact this
 ·rintro(g|e)
  ·exact l k g ((bH R).mem_iff.2 (ef _ (fx _ i)))
  ·subst e;rw[ey,lf]at a;exact a.2.2.2 k s k i rfl
 ·have o:c∈cL R.pm R.cm:=by simp[cL,g]
  rintro(m|e)
  ·exact l c m ((bH R).mem_iff.2 (ef _ (fQ _ o)))
  ·rw[ey,lf]at a;have j:=a.2.1;unfold cL at j;rw[f,g,e]at j;simp at j
theorem OK(a:R.cm=Y)(q:Nat):(aF.fp {R with cm:=V q}).Perm (q::R.fp):=by refine(bH _).trans (List.Perm.trans ?_ ((bH R).symm.cons _));simp only[cL,a,RM,SJ,Kp,mE];refine List.Perm.trans (List.Perm.cons _ ?_) (List.Perm.swap _ _ _);exact Sf
theorem aq.Lw{t:ab}{q:Nat}(h:aq w R)(j:R.cm=Y)(r:aa (λk=>k∈C\/k=R.sb) w t)(x:∀k∈C,k∉R.fp)(z:aQ (Z U) w q ([]:List (Int×ax)))(s:q∉C)(o:q∉R.fp)(y:t.heap[R.sb]?=(w.setCell ⟨R.sb,6,Y⟩ (.map (V q))).heap[R.sb]?):aq t {R with cm:=V q}:=by
 have f:R.aA=[]:=by have:=h.af.cU;rw[j]at this;have u:(R.aA.map λp=>(p.1,p.2.val))=[]:=this;simpa using u
 have l:=(bH R).nodup_iff.1 h.nodup;have m:∀k∈R.fp,k≠R.sb->¬(k∈C\/k=R.sb):=λk a b=>by
  rintro(g|e)
  ·exact x k g a
  ·exact b e
 have b:∀k∈cL R.pm R.cm++(R.wm.toList++R.af.flatMap (λp=>[p.2.eT,p.2.mb])++R.bp),k≠R.sb:=λk a e=>by rw[ey]at l;exact l.1 (e▸a)
 have d:∀k∈cL R.pm R.cm++(R.wm.toList++R.af.flatMap (λp=>[p.2.eT,p.2.mb])++R.bp),k∈R.fp:=λk a=>(bH R).mem_iff.2 (ef _ a);have:=h.side R.pm (V q) R.aN R.aB R.aA r (λk a=>m k (d k (fx _ a)) (b k (fx _ a))) ?_ (h.af.dc.ai r (λc g=>?_)) ?_ ((OK j q).nodup_iff.2 (ey.2 ⟨o,h.nodup⟩))
 ·exact this
 ·rw[y];exact h.set (R':={R with cm:=V q}) (i:=6) (v:=.map (V q)) rfl (by simp[bo])
 ·have n:c∈cL R.pm R.cm:=by simp[cL,g]
  exact m c (d c (fQ _ n)) (b c (fQ _ n))
 ·rw[f];exact aQ.ai z r (by
   rintro(g|e)
   ·exact s g
   ·exact o (by rw[e];simp[aF.fp]))
theorem aq.MZ{o:ab}{n:Int}(h:aq w R)(m:aa (λk=>k∈C\/k=R.sb) w o)(q:∀k∈C,k∉R.fp)(r:o.heap[R.sb]?=(w.setCell ⟨R.sb,5,Y⟩ (Z U n)).heap[R.sb]?):aq o {R with aB:=n}:=by
 have l:=(bH R).nodup_iff.1 h.nodup;have g:∀k∈R.fp,k≠R.sb->¬(k∈C\/k=R.sb):=λk a d=>by
  rintro(j|e)
  ·exact q k j a
  ·exact d e
 have d:∀k∈cL R.pm R.cm++(R.wm.toList++R.af.flatMap (λp=>[p.2.eT,p.2.mb])++R.bp),k≠R.sb:=λk a e=>by rw[ey]at l;exact l.1 (e▸a)
 have b:∀k∈cL R.pm R.cm++(R.wm.toList++R.af.flatMap (λp=>[p.2.eT,p.2.mb])++R.bp),k∈R.fp:=λk a=>(bH R).mem_iff.2 (ef _ a);have:=h.side R.pm R.cm R.aN n R.aA m (λk a=>g k (b k (fx _ a)) (d k (fx _ a))) ?_ (h.af.dc.ai m (λc j=>?_)) (h.af.cU.ai m (λc j=>?_)) h.nodup
 ·exact this
 ·rw[r];exact h.set (R':={R with aB:=n}) (i:=5) (v:=Z U n) rfl (by simp[bo])
 ·have f:c∈cL R.pm R.cm:=by simp[cL,j]
  exact g c (b c (fQ _ f)) (d c (fQ _ f))
 ·have f:c∈cL R.pm R.cm:=by simp[cL,j]
  exact g c (b c (fQ _ f)) (d c (fQ _ f))
theorem vU(l:List (Int×bB))(s:Int)(c:bB):put (l.map λp=>(p.1,p.2.val)) s c.val=(put l s c).map λp=>(p.1,p.2.val):=oj bB.val l s c
theorem Ce(l:List (Int×bB))(s:Int):del (l.map λp=>(p.1,p.2.val)) s=(del l s).map λp=>(p.1,p.2.val):=nR bB.val l s
theorem kV(l:List (Int×bB))(s:Int):(aD (l.map λp=>(p.1,p.2.val)) s).getD bB.zero.val=((aD l s).getD bB.zero).val:=by rw[cd bB.val];cases aD l s<;>rfl
def bB.new(c:Bool)(a b:Int):bB:=⟨c,a,b,false,ByteArray.empty,0,0⟩
theorem Kq(R:aF)(c:Bool)(a b j:Int)(w:ab)(h:aq w R)(g:Good R)(G:bh R.keys)(F:R.keys.length<=200000000000)(o:R.aA.length<=4)(C:jk (decide (R.aK<=b)&&decide (b<=R.now)) (decide (R.aK<=a)&&decide (a<=R.now)) R.aA.length (cK R.keys (aw R.au) (bB.new c a b)).length (bB.new c a b)=j)(A:1<=j)(B:j<=9):ba prog 47 #[X (V ⟨R.sb,0,Y⟩),ao c,Z U a,Z U b] w λe y=>e=ay (bt #[Z U 0,Z U j])/\aa n_ w y:=by
 have P:=mf_;have H:QS (∀W,aa n_ w W->ba prog 110 #[X (V ⟨R.sb,0,Y⟩),.agg #[ao c,Z U a,Z U b,ao false,O ByteArray.empty,Z .u32 0,Z U 0]] W λe y=>e=ay (Z U j)/\aa n_ W y):=λW L=>by have:=qU R (bB.new c a b) W (h.ai L k_) g G F o;rw[show(bB.new c a b).to=b from rfl,show(bB.new c a b).gY=a from rfl,C]at this;exact this
 have N:(j==0)=false:=mK.2 (by omega);have u:=E (And.intro A B);clear h g G F o C A B;generalize R.sb=Q at*;go_enter_defers func47,ntmps47;go_wp2_with fail;refine(H.o _ ((((aa.refl n_ w).al _).al _).al _)).mono ?_;rintro e r ⟨rfl,s⟩;have d:r.heap[w.heap.size]?=V (I #[Z U 0] 71 (0,0)):=((s.block w.heap.size (by simp;omega) id).trans (Below.heap_alloc _ _ _ (by simp;omega))).trans ((Below.heap_alloc _ _ _ (by simp)).trans (az w _));have m:r.heap[w.heap.size+1]?=V (I #[J Y 0 0] 114 (0,0)):=((s.block (w.heap.size+1) (by simp) id).trans (Below.heap_alloc _ _ _ (by simp))).trans (by have:=az (w.alloc (I #[Z U 0] 71)) (I #[J Y 0 0] 114);simpa using this);have T:r.cell? ⟨w.heap.size,0,Y⟩=V (Z U 0):=ae d 0;have y1:r.frozen? ⟨w.heap.size,0,Y⟩=false:=aj d 0;have t:=E d;have k:=E m;have v:=E s;clear d m s;go_wp2;refine leaves_cons (f:=109) (args:=#[X (V ⟨w.heap.size+1,0,Y⟩),X (V ⟨w.heap.size,0,Y⟩)]) (by simp) (by simp[go_sem]) ?_;have n:=ak (i:=0) t.o (Z U j);refine(Du (w.heap.size+1) w.heap.size j u.o _ ?_ ?_).mono ?_
 ·have K:=(aa.setCell r ⟨w.heap.size,0,Y⟩ (Z U j)).block (w.heap.size+1) (lg k.o) (by simp);exact ae (K.trans k.o) 0
 ·exact ae n 0
 rintro e S q ⟨rfl,rfl,D⟩;have M:q.cell? ⟨w.heap.size,0,Y⟩=V (Z U j):=D.cell (p:=⟨w.heap.size,0,Y⟩) (ae n 0) id;have x:aa n_ w q:=(((((aa.refl n_ w).al _).al _).al _).tr v.o i_|>.st (p:=⟨w.heap.size,0,Y⟩) (.inl (eb _)) _).tr D i_;simp[Leaves,settle,results,Tryz.results47,go_sem,M];exact x
section
attribute [local go_sem] Oper.semAt_some
def bB.cells(x:bB):Array ax:=#[ao x.full,Z U x.gY,Z U x.to,ao x.jj,O x.next,Z .u32 x.sum,Z U x.count]
theorem iQ(R:aF)(n:Int)(w:ab)(h:aq w R):ba prog 117 #[X (V ⟨R.sb,0,Y⟩),Z U n] w λe f=>e=ay (bt #[((aD R.aA n).getD bB.zero).val,ao (aD R.aA n).isSome])/\aa n_ w f:=by
 have c:=h.ai (aa.alloc n_ w (I #[ao false,Z U 0,Z U 0,ao false,O ⟨#[]⟩,Z .u32 0,Z U 0] 186)) k_;have a:=c.af.cU.lookup (P:=prog) (t:=56) cY Tryz.underlying56 Tryz.underlying3 (Tryz.Hu _) n true;have b:(aD (R.aA.map λp=>(p.1,p.2.val)) n).isSome=(aD R.aA n).isSome:=by rw[cd bB.val];cases aD R.aA n<;>rfl
 simp only[Rz,kV,b]at a;have q:w.cell? ⟨R.sb,6,Y⟩=V (.map R.cm):=h.cell 6;have d:=h.lt;clear h c b;generalize (aD R.aA n).isSome=ok at*;generalize (aD R.aA n).getD bB.zero=x at*;obtain⟨j,g,o,k,l,m,i⟩:=x;simp only[bB.val]at a⊢;generalize R.sb=s at*;generalize R.cm=r at*;go_enter func117,ntmps117;go_wp2;refine bodyPost_ret (v:=bt #[.agg #[ao j,Z U g,Z U o,ao k,O l,Z .u32 m,Z U i],ao ok]) ?_ rfl ?_
 ·rw[results_cell_tmp rfl];go_simp
 ·exact⟨rfl,((aa.refl _ w).al _).al _⟩
def pH(x:bB)(a:List an):List UInt8×Bool×bB:=
 if x.jj=false then(cS x.full x.gY.toNat x.to.toNat,false,{x with jj:=true,sum:=(lz x.sum.toNat (cS x.full x.gY.toNat x.to.toNat):Nat)})
 else if a=[]then(iO x.sum.toNat x.count.toNat,true,x)
 else(dW (a.map an.bS),false,{x with next:=((a.getLast?.map an.key).getD ByteArray.empty)++⟨#[0]⟩,sum:=(lz x.sum.toNat (dW (a.map an.bS)):Nat),count:=x.count+a.length})
def Ac(b:Nat)(r:List UInt8×Bool×bB)(w:ab)(e:Ending)(a:ab):Prop:=
 e=ay (bt #[O (aU r.1),ao r.2.1])/\a.heap[b]?=V (I r.2.2.cells 186 (0,0))/\aa (·=b) w a
theorem Ji(B g:Nat)(d:Bool)(a b s:Nat)(v:ByteArray)(c:Int)(w:ab)(l:w.heap[g]?=V (I (bB.cells ⟨d,a,b,false,v,s,c⟩) 186 (0,0)))(z:a<=1000000000)(A:b<=1000000000)(p:s<4294967296)(q:cM w)(o:g≠8):ba prog 164 #[X (V ⟨B,0,Y⟩),X (V ⟨g,0,Y⟩)] w (Ac g (cS d a b,false,⟨d,a,b,true,v,(lz s (cS d a b):Nat),c⟩) w):=by have f:=ak (i:=3) l (ao true);have k:aa (·=g) w (w.setCell ⟨g,3,Y⟩ (ao true)):=aa.setCell w ⟨g,3,Y⟩ (ao true);have C:=ae l 3;have H:=aj l 3;simp[bB.cells]at C f;have x:=E (Cs g 5 _ _ d a b s (w.setCell ⟨g,3,Y⟩ (ao true)).drew (show(w.setCell ⟨g,3,Y⟩ (ao true)).drew.heap[g]?=_ from f) (by rfl) p (by omega) (by omega) ((q.ai k (λe=>o e.symm)).ai (aa.drew n_ _) id));have D:=ae f 0;have F:=ae f 1;have G:=ae f 2;simp at D F G;have y:=E f;have m:=E k;generalize cS d a b=K at*;clear l f z A p q k;go_enter func164,ntmps164;go_wp2_with fail;generalize w.setCell ⟨g,3,Y⟩ (ao true)=w1 at*;go_region_held3(λW=>W.cell? ⟨g,0,Y⟩=V (ao d)/\W.cell? ⟨g,1,Y⟩=V (Z U (a:Nat))/\W.cell? ⟨g,2,Y⟩=V (Z U (b:Nat))) (go_keep) (first|(go_at_call 144;refine(x.o).mono ?_;rintro e L ⟨rfl,j,n⟩;have r:=ae j 0;have t:=ae j 1;have u:=ae j 2;simp at r t u));clear r t u;go_wp2;go_ret2;exact⟨rfl,by simpa[bB.cells]using j,m.o.tr ((aa.drew n_ w1).mono (λ_ _ h=>h.elim)|>.tr n i_) i_⟩
theorem Jj(t i:Nat)(d:Bool)(a b s c:Nat)(l:ByteArray)(w:ab)(f:w.heap[i]?=V (I (bB.cells ⟨d,a,b,true,l,s,c⟩) 186 (0,0)))(p:s<4294967296)(x:c<=1000000000000)(q:cM w)(j:ba prog 160 #[X (V ⟨t,0,Y⟩),(bB.val ⟨d,a,b,true,l,s,c⟩),Z U (4:Nat)] w λe w'=>∃v,e=ay v/\Made 70 3 an.cells w w' v []):ba prog 164 #[X (V ⟨t,0,Y⟩),X (V ⟨i,0,Y⟩)] w (Ac i (iO s c,true,⟨d,a,b,true,l,s,c⟩) w):=by have z:=ae f 0;have A:=ae f 1;have B:=ae f 2;have C:=ae f 3;have D:=ae f 4;have F:=ae f 5;have G:=ae f 6;simp[bB.cells]at z A B C D F G;have g:=E j;have n:=E f;have u:=E (λW (o:aa n_ w W)=>DD i 5 _ _ s c W ((o.block i (lg f) id).trans f) (by rfl) (by rfl) p (by omega) (q.ai o id));simp only[bB.val]at g;generalize iO s c=L at*;clear f p x q j;go_enter func164,ntmps164;go_wp2_with fail;refine g.o.mono ?_;rintro e N ⟨M,rfl,k⟩;obtain⟨K,H,rfl,-,-⟩:=k.row.form;have m:=E k;simp only[pa];clear k g;go_wp2_with fail;refine(u.o _ m.o.keep).mono ?_;rintro e P ⟨rfl,y⟩;go_wp2;go_ret2;have r:=m.o.keep.tr y i_;exact⟨rfl,(r.block i (lg n.o) id).trans n.o,r.mono (λ_ _ h=>h.elim)⟩
theorem Fe(sb j:Nat)(f:Bool)(a b s c:Nat)(xn:ByteArray)(l:List an)(r:an)(w:ab)(o:w.heap[j]?=V (I (bB.cells ⟨f,a,b,true,xn,s,c⟩) 186 (0,0)))(hs:s<4294967296)(hc:c<=1000000000000)(ht:cM w)(R:j≠8)(T:l.length<=3)(A:Small (l++[r]))(G:ba prog 160 #[X (V ⟨sb,0,Y⟩),(bB.val ⟨f,a,b,true,xn,s,c⟩),Z U (4:Nat)] w λe w'=>∃v,e=ay v/\Made 70 3 an.cells w w' v (l++[r])):ba prog 164 #[X (V ⟨sb,0,Y⟩),X (V ⟨j,0,Y⟩)] w (Ac j (dW ((l++[r]).map an.bS),false,⟨f,a,b,true,r.key++⟨#[0]⟩,(lz s (dW ((l++[r]).map an.bS)):Nat),((c+(l.length+1):Nat):Int)⟩) w):=by
 have x0:=ae o 0;have x1:=ae o 1;have x2:=ae o 2;have x3:=ae o 3;have x4:=ae o 4;have x5:=ae o 5;have x6:=ae o 6;simp[bB.cells]at x0 x1 x2 x3 x4 x5 x6;have Q:=(lg o);have t:=E G;have HX:=E o;have a3:=(A r (by simp)).1;have S:=E (λW u g (hk:aa (·=j) w W) (hb:W.heap[j]?=V (I (bB.cells ⟨f,a,b,true,r.key++⟨#[0]⟩,s,c⟩) 186 (0,0))) (hr:cG W (V ⟨g,0,Y⟩) (l++[r]))=>yR j 5 _ _ s c (V ⟨g,0,Y⟩) u (l++[r]) W hb (by rfl) (by rfl) hs (by omega) (by simp;omega) hr A (ht.ai hk (λe=>R e.symm)));have z:(l++[r]).length=l.length+1:=by simp
 have C:(l++[r])[l.length]?=V r:=by simp
 simp only[bB.val]at t;simp only[z]at S;generalize dW ((l++[r]).map an.bS)=tx at*;have HL:=E T;have a0:=E C;have p:=E z;have a2:(l.length:Int)<=3:=by omega
 clear o hs hc ht G T A C;go_enter func164,ntmps164;go_wp2_with fail;refine t.o.mono ?_;rintro e H ⟨v1,rfl,x⟩;have m:=x.row;rw[p.o]at m;obtain⟨g,u,rfl⟩:=m.succ;have a1:H.cell? ⟨g,l.length*3,Y⟩=V (O r.key):=by have d:=x.row;rw[<-p.o]at d;have:=d.elem an.len l.length (by rw[p.o];omega) 0 (by omega);simpa[an.cells]using this
 have F:cG H (V ⟨g,0,Y⟩) (l++[r]):=λi D=>by
  have d:=x.row;rw[<-p.o]at d;refine⟨g,0,rfl,?_,?_,?_⟩
  ·simpa[an.cells]using d.elem an.len i D 0 (by omega)
  ·simpa[an.cells]using d.elem an.len i D 1 (by omega)
  ·simpa[an.cells]using d.elem an.len i D 2 (by omega)
 have y:j≠g:=λe=>by have:=x.own g rfl;omega
 have q:=(x.keep.block j Q id).trans HX.o;have y4:=ae q 4;have a5:=aj q 4;simp[bB.cells]at y4;have B:=E x.keep;have K:=E F;have L:=E q;clear x m t z F q;generalize l.length=n at*;go_wp2_with fail;have N:=ak (i:=4) L.o (O (r.key++⟨#[0]⟩));have k:aa (·=j) H (H.setCell ⟨j,4,Y⟩ (O (r.key++⟨#[0]⟩))):=aa.setCell H ⟨j,4,Y⟩ _;refine(S.o _ u g ((B.o.mono (λ_ _ h=>h.elim)).tr k i_) (by simpa[bB.cells]using N) (λi D=>?_)).mono ?_
 ·obtain⟨g',a4,e,h1,h2,h3⟩:=K.o i D;cases e;exact⟨g,0,rfl,k.cell h1 (λe=>y e.symm),k.cell h2 (λe=>y e.symm),k.cell h3 (λe=>y e.symm)⟩
 rintro e w3 ⟨rfl,P,M⟩;clear x0 x1 x2 x3 x4 x5 x6;go_wp2;go_ret2;refine⟨rfl,by simpa[bB.cells]using P,((B.o.mono (λ_ _ h=>h.elim)).tr k i_).tr M i_⟩
end
end Go.Proofs.YtjbkfdeldlajhaaGreatDoor
