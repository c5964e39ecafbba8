import Derived.Test.YtjbkfdeldlajhaaGreatDoorM11
set_option linter.unusedSimpArgs false
namespace Go.Proofs.YtjbkfdeldlajhaaGreatDoor
set_option maxRecDepth 100000
set_option maxHeartbeats 4000000
open Go.RowKit Go.Shelf Go.Proofs.Tryz
open Option renaming none->Y,some->V
open Go.Value renaming int->Z,string->O,slice->J,pointer->X,tuple->bt
open Go.IntKind renaming i64->U
open Go.Obj renaming cells->I
open Go renaming World->ab,Value->ax,Calls->ba
open Go.Ending renaming returned->ay
theorem Tryz.GU:(prog.info? 9).map (λi=>(i.zero,i.size,i.bytes))=V (V (O ⟨#[]⟩),1,16):=by kernel_rfl
def Hz(R:aF)(L:Int)(d:List Nat)(w c:ab):Prop:=
 ∃a b,aq c {R with kv:=b,keys:=eF R L R.keys.length,au:=a}/\(∀k,aw a k=if bR R.keys k then(aw R.au k).drop (cO (aw R.au k) L)else aw R.au k)/\(∀k,(aD a k).isSome=true->(aD R.au k).isSome=true)/\(∀p∈a,p.2.aE≠[])/\aa (λk=>k∈R.fp\/k∈d) w c/\∀k∈aF.fp {R with kv:=b,keys:=eF R L R.keys.length,au:=a},k∈R.fp\/w.heap.size<k
def jV(R:aF)(L:Int)(i:Nat):Nat:=((R.keys.take i).map (λk=>cO (aw R.au k) L)).sum
def aF.total(R:aF):Nat:=(R.keys.map (λk=>(aw R.au k).length)).sum
theorem oC{R:aF}{L:Int}{i:Nat}(a:i<R.keys.length):jV R L (i+1)=jV R L i+cO (aw R.au R.keys[i]) L:=by unfold jV;rw[eu a,xT,List.sum_append];simp only[mU,RY,RH,List.sum_nil,Tw]
theorem rh{α:Type}(f g:α->Nat)(h:∀a,f a<=g a):∀l:List α,(l.map f).sum<=(l.map g).sum
 |[]=>by simp
 |a::l=>by have:=h a;have:=rh f g h l;simp;omega
theorem uy{α:Type}(f:α->Nat):∀(l:List α) (i:Nat),((l.take i).map f).sum<=(l.map f).sum
 |[],i=>by simp
 |a::l,0=>by simp
 |a::l,i+1=>by have:=uy f l i;simp only[List.take_succ_cons,mU,RH];omega
theorem Gl(R:aF)(L:Int)(i:Nat):jV R L i<=R.total:=by unfold jV aF.total;refine mA (rh _ (λk=>(aw R.au k).length) (λk=>CI _ _) _) (uy _ _ _)
theorem yA(R:aF)(L:Int)(cb:Nat)(a3:List ax)(C0:List Nat)(w:ab)(h:aq w R)(g:Good R)(t:il R)(hc:iP w cb a3 C0)(d5:∀k∈C0,k∉R.fp)(hl:a3.length<=10)(j0:R.keys.length<900000000000)(c8:R.total<=1000000000000000):ba prog 91 #[X (V ⟨R.sb,7,Y⟩),Z U L,.func (.func 92) #[X (V ⟨cb,0,Y⟩)] #[]] w λe w'=>e=ay (Z U (jV R L R.keys.length))/\Hz R L C0 w w':=by
 have j4:=mf_;obtain⟨av,cv,d7,j1,b4⟩:=h.cg.cW.form;have c5:w.cell? ⟨R.sb,7,Y⟩=V (J av R.keys.length cv):=by rw[<-d7];exact h.cell 7
 have j3:=h.lt;have f4:=bG h;have f3:gL w R L cb a3.length C0 w.heap.size 0 0 R.au a3 C0 (J Y 0 0) (w.alloc (I #[X (V ⟨R.sb,7,Y⟩)] 134)):=by have G:aa n_ w (w.alloc (I #[X (V ⟨R.sb,7,Y⟩)] 134)):=aa.alloc _ _ _;refine⟨h.ai G k_,λk=>by simp[bR],λ_ h=>h,t.filled,Row.nil _ _ _,λg hg=>by simp[Value.ownBlock]at hg,hc.ai G k_,by omega,λk G=>.inl G,λk G=>.inl G,d5,az w _,G.mono (λ_ _ h=>h.elim),by simp⟩
 have e9:=E f3;have i7:=E h;have HG:=E g;have HT:=E t;have HC:=E hc;have i6:=E d5;have e7:=E d7;have c9:=E b4;have e6:=E f4;have f0:=E c8;clear f3 h g t hc d5 d7 b4 f4 c8;go_enter func91,ntmps91;go_wp2_with fail;go_loopw [7,8,19] (λth vl i wr=>∃(k:Nat) (z:Int),k<=R.keys.length/\i=Z U k/\th=Z U z/\z=(jV R L k:Nat)/\∃c fs C,gL w R L cb a3.length C0 w.heap.size k k c fs C vl wr) (λ_ _ i _=>R.keys.length-(intOf i).toNat)
 case atStart=>exact⟨0,0,eL _,rfl,rfl,rfl,_,_,_,e9.o⟩
 case round=>
  obtain⟨k,z,G,rfl,rfl,c0,c,fs,C,hS⟩:=hrel;have i4:0<=z:=by rw[c0];omega
  have i5:z<=1000000000000000:=by rw[c0];have:=Gl R L k;have:=f0.o;omega
  have HZ:=E c0;clear c0;have v:=E hS;clear hS e9;obtain⟨al,cl,rfl,h5,-⟩:=v.o.row.form;by_cases f:k<R.keys.length
  ·obtain⟨ga,rfl⟩:=c9.o (by omega);have T:=v.o.st.cg.cW;simp only at T;rw[e7.o]at T;obtain⟨a,F⟩:∃a,R.keys[k]=a:=⟨_,rfl⟩
   have ck:wr.cell? ⟨ga,k,Y⟩=V (O a):=by rw[T.cellAt k (by omega)];simp[f,F]
   have c3:a∈R.keys:=F▸nE f;have f9:bR (R.keys.take k) a=false:=by
    cases hm:bR (R.keys.take k) a with
    |false=>rfl
    |true=>
     have h6:=(bA _ _).1 hm;obtain⟨q,hq,e⟩:=Rr h6;simp only[js]at hq;rw[To,<-F]at e;have:=(List.getElem_inj (fK HT.o.bP)).1 e;omega
   have e0:aw c a=aw R.au a:=by rw[v.o.aE,f9];simp
   have y:=oE HT.o c3;obtain⟨x,hx,e2⟩:∃x,aD c a=V x/\x.aE=aw R.au a:=by
    rw[<-e0];cases hl:aD c a with
    |none=>rw[<-e0]at y;unfold aw at y;rw[hl]at y;simp at y
    |some x=>exact⟨x,rfl,by unfold aw;rw[hl];rfl⟩
   obtain⟨b,j6,hM,c6,j5,h4,f5⟩:=pW (R:={R with au:=c}) v.o.st hx;have b3:=v.o.st.cg.fA _ (bj hx);simp only at b3;obtain⟨a2,c2,e1,j8,-⟩:=b3.form;obtain⟨g1,g2⟩:=HG.o.aE a;rw[<-e2]at g1 g2;have a4:QS (∀W,aa n_ wr W->(Instr.lookup 57 (.map (V b)) (O a) false).run prog W=.ok (J a2 x.aE.length c2) W):=λW G=>by have:=(hM.ai G id).lookup (P:=prog) (t:=57) bJ Tryz.underlying57 Tryz.underlying9 (Tryz.cJ W) a false;rw[cd,hx]at this;simp only[uW,lp,e1]at this;exact this
   rw[e1]at b3;have b7:QS (∀W,aa n_ wr W->ba prog 138 #[J a2 x.aE.length c2,Z U L] W λe w'=>e=ay (Z U (cO x.aE L:Nat))/\aa n_ W w'):=λW G=>AL _ _ _ W (b3.ai G k_) g1 (by omega);have a9:=ae v.o.box 0;simp at a9;have g3:=v.o.size;have HX:=E hx;have b8:=E e2;have u:=E F;have f1:=E y;have g7:=E (And.intro g1 g2);clear T c3 f9 e0 y hx e2 hM h4 f5 b3 g1 g2 e1 F c9;go_wp2_with fail;have f6:=a4.o ((wr.alloc (I #[O a] 9)).drew) (((aa.refl n_ wr).al _).dr);have f7:=λo=>a4.o (((wr.alloc (I #[O a] 9)).alloc o).drew) ((((aa.refl n_ wr).al _).al _).dr);go_region_held3(λW=>W.cell? ⟨w.heap.size,0,Y⟩=V (X (V ⟨R.sb,7,Y⟩))/\W.cell? ⟨wr.heap.size,0,Y⟩=V (O a)/\W.cell? ⟨R.sb,8,Y⟩=V (.map (V b))) (go_keep) (fail);all_goals
    obtain⟨i0,hi,g4,g5,g6⟩:=info_parts Tryz.GU;have a0:QS (aa n_ wr (((wr.alloc (I #[O a] 9)).alloc (I #[J a2 x.aE.length c2] 135)).drew)):=(((aa.refl _ wr).al _).al _).dr;have BK:QS ((((wr.alloc (I #[O a] 9)).alloc (I #[J a2 x.aE.length c2] 135)).drew).heap[wr.heap.size]?=V (I #[O a] 9 (0,0))):=(Below.heap_alloc _ _ _ (by simp)).trans (az wr _);have BA:QS ((((wr.alloc (I #[O a] 9)).alloc (I #[J a2 x.aE.length c2] 135)).drew).heap[wr.heap.size+1]?=V (I #[J a2 x.aE.length c2] 135 (0,0))):=by have:=az (wr.alloc (I #[O a] 9)) (I #[J a2 x.aE.length c2] 135);rw[World.size_alloc]at this;exact this
    have c7:=CI x.aE L;have d8:0<x.aE.length:=by have:=f1.o;rw[<-b8.o]at this;exact Rq.2 this
    have j7:=g7.o.2;have S:ku R L R.keys[k]=decide (cO x.aE L<x.aE.length):=by unfold ku;rw[u.o,b8.o]
    have j2:(eF R L k).length<=k:=by unfold eF;exact mA (Rp _ _) (wj _ _)
    clear f6 f7 a4 ck a9 c6;obtain⟨A,b2⟩:∃A,cO x.aE L=A:=⟨_,rfl⟩
    have a1:QS (cO (aw R.au R.keys[k]) L=A):=by unfold QS;rw[u.o,<-b8.o,b2]
    rw[b2]at b7 c7 S;by_cases h7:A=0
    ·subst h7;have r:QS (ku R L R.keys[k]=true):=by unfold QS;rw[S];simpa using d8
     clear S b2;generalize hln:x.aE.length=e3 at*;go_wp2_with(first
      |(go_at_call 138;go_must(refine(b7.o _ a0.o).mono ?_;rintro e w3 ⟨rfl,k3⟩;have K3:=E (a0.o.tr k3 i_);have s:=jR (wr:=wr) BK.o (by omega) k3 (λ_ h=>h.elim);have B:=jR (wr:=wr) BA.o (by omega) k3 (λ_ h=>h.elim);have b0:=ae s 0;have a8:=ae B 0;simp at b0 a8;have H:=E s;clear s B k3))
      |(at_builtin;go_must(refine aL _ rfl _ _ 25 rfl 9 i0 (O ⟨#[]⟩) 1 16 Tryz.underlying25 hi g4 g5 g6 rfl (J al (eF R L k).length cl) (eF R L k).length _ rfl ((v.o.row.ai K3.o k_).ai (aa.alloc n_ _ _) k_) ⟨w3.heap.size,0,Y⟩ 1 1 [O a] rfl rfl (cell_one_new _ _ _) (by simp[Value.oneCell']) (by unfold maxLen;omega) (by omega) ?_;intro h9 w4 n l _ b1;obtain⟨gl,h3,rfl⟩:=n.succ;have S4:=E ((v.o.ai K3.o).note f r.o rfl (by rw[u.o];exact n) l b1);have K:=jR (wr:=wr) ((Below.heap_alloc _ (I #[O a] 9) _ (lg H.o)).trans H.o) (by omega) (aa.grown l) (λj e=>v.o.row.lt e.symm);have d3:=ae K 0;have d2:=ae S4.o.box 0;simp at d3 d2;have e5:=E K;clear K n l b1)))
     have S5:=E (S4.o.stay f a1.o);exact⟨⟨k+1,z,by omega,by go_num,rfl,by rw[HZ.o,oC f,a1.o];rfl,_,_,_,S5.o⟩,by simp only[intOf];omega⟩
    ·have i2:0<A:=by omega
     by_cases d9:A<x.aE.length
     ·have r:QS (ku R L R.keys[k]=true):=by unfold QS;rw[S];simpa using d9
      obtain⟨m,hm⟩:∃m,x.aE.length=A+(m+1):=⟨x.aE.length-A-1,by omega⟩
      have c1:=E hm;have e8:QS (A+(m+1)<1000000000000):=by have:=uA HG.o a;rw[<-b8.o,hm]at this;show _<_;omega
      have d1:QS (∀W,aq W {R with au:=c}->ba prog 140 #[X (V ⟨R.sb,7,Y⟩),O a,Z U (A:Nat)] W λe w'=>e=ay (bt #[])/\mN {R with au:=c} a A W w'):=λW hW=>Gk {R with au:=c} a x A m W hW HX.o c1.o e8.o;clear S b2 c1 e8;generalize hln:x.aE.length=e3 at*;have f8:(0:Int)<(A:Int):=by omega
      have i1:(A:Int)<(e3:Int):=by omega
      clear hm;go_wp2_with(first
       |(go_at_call 138;go_must(refine(b7.o _ a0.o).mono ?_;rintro e w3 ⟨rfl,k3⟩;have K3:=E (a0.o.tr k3 i_);have s:=jR (wr:=wr) BK.o (by omega) k3 (λ_ h=>h.elim);have B:=jR (wr:=wr) BA.o (by omega) k3 (λ_ h=>h.elim);have b0:=ae s 0;have a8:=ae B 0;simp at b0 a8;have H:=E s;clear s B k3))
       |(at_builtin;go_must(refine aL _ rfl _ _ 25 rfl 9 i0 (O ⟨#[]⟩) 1 16 Tryz.underlying25 hi g4 g5 g6 rfl (J al (eF R L k).length cl) (eF R L k).length _ rfl ((v.o.row.ai K3.o k_).ai (aa.alloc n_ _ _) k_) ⟨w3.heap.size,0,Y⟩ 1 1 [O a] rfl rfl (cell_one_new _ _ _) (by simp[Value.oneCell']) (by unfold maxLen;omega) (by omega) ?_;intro h9 w4 n l _ b1;obtain⟨gl,h3,rfl⟩:=n.succ;have S4:=E ((v.o.ai K3.o).note f r.o rfl (by rw[u.o];exact n) l b1);have K:=jR (wr:=wr) ((Below.heap_alloc _ (I #[O a] 9) _ (lg H.o)).trans H.o) (by omega) (aa.grown l) (λj e=>v.o.row.lt e.symm);have d3:=ae K 0;have d2:=ae S4.o.box 0;simp at d3 d2;have e5:=E K;clear K n l b1))
       |(go_at_call 92;go_must(refine(dz cb fs C _ _ _ S4.o.uH (by have:=S4.o.len;omega)).mono ?_;rintro e w5 ⟨rfl,C',Q,k5,N⟩;have a6:=jR (wr:=wr) e5.o (by omega) k5 (λj D=>v.o.uH.lt j D);have a7:=(k5.block w.heap.size (lg S4.o.box) (λD=>by rcases v.o.Lp _ D with M|M;(have:=HC.o.lt _ M;omega);omega)).trans S4.o.box;have d4:=ae a6 0;have b9:=ae a7 0;simp at d4 b9;have HU:=E (And.intro Q (And.intro k5 N));have a5:=E (S4.o.st.ai k5 (λj D hC=>S4.o.apart j hC D));clear a6 a7 Q k5 N))
       |(go_at_call 140;go_must(refine(d1.o w5 a5.o).mono ?_;rintro e w6 ⟨rfl,b5⟩;have d0:=E b5;clear b5)))
      obtain⟨d6,S6⟩:=S4.o.bK HT.o.bP f rfl (λj D=>HC.o.lt j D) e6.o HU.o.1 (by simp) HU.o.2.1 HU.o.2.2 (by rw[a1.o,u.o];exact d0.o)
      exact⟨⟨k+1,_,by omega,by go_num,rfl,by rw[HZ.o,oC f,a1.o];omega,_,_,_,S6⟩,by simp only[intOf];omega⟩
     ·have c4:A=x.aE.length:=by omega
      have r:QS (ku R L R.keys[k]=false):=by unfold QS;rw[S];simpa using d9
      have d1:QS (∀W,aq W {R with au:=c}->ba prog 140 #[X (V ⟨R.sb,7,Y⟩),O a,Z U (A:Nat)] W λe w'=>e=ay (bt #[])/\mN {R with au:=c} a A W w'):=λW hW=>by have:=KE {R with au:=c} a x W hW HX.o;rwa[<-c4]at this
      clear S b2 d9 c7;generalize hln:x.aE.length=e3 at*;subst c4;have f8:(0:Int)<(A:Int):=by omega
      go_wp2_with(first
       |(go_at_call 138;go_must(refine(b7.o _ a0.o).mono ?_;rintro e w3 ⟨rfl,k3⟩;have K3:=E (a0.o.tr k3 i_);have s:=jR (wr:=wr) BK.o (by omega) k3 (λ_ h=>h.elim);have B:=jR (wr:=wr) BA.o (by omega) k3 (λ_ h=>h.elim);have b0:=ae s 0;have a8:=ae B 0;simp at b0 a8;have H:=E s;have S3:=E ((v.o.ai K3.o).skip f r.o);have h2:=ae S3.o.box 0;simp at h2;clear s B k3))
       |(go_at_call 92;go_must(refine(dz cb fs C _ _ _ S3.o.uH (by have:=S3.o.len;omega)).mono ?_;rintro e w5 ⟨rfl,C',Q,k5,N⟩;have a6:=jR (wr:=wr) H.o (by omega) k5 (λj D=>v.o.uH.lt j D);have a7:=(k5.block w.heap.size (lg S3.o.box) (λD=>by rcases v.o.Lp _ D with M|M;(have:=HC.o.lt _ M;omega);omega)).trans S3.o.box;have d4:=ae a6 0;have b9:=ae a7 0;simp at d4 b9;have HU:=E (And.intro Q (And.intro k5 N));have a5:=E (S3.o.st.ai k5 (λj D hC=>S3.o.apart j hC D));clear a6 a7 Q k5 N))
       |(go_at_call 140;go_must(refine(d1.o w5 a5.o).mono ?_;rintro e w6 ⟨rfl,b5⟩;have d0:=E b5;clear b5)))
      obtain⟨d6,S6⟩:=S3.o.bK HT.o.bP f rfl (λj D=>HC.o.lt j D) e6.o HU.o.1 (by simp) HU.o.2.1 HU.o.2.2 (by rw[a1.o,u.o];exact d0.o)
      exact⟨⟨k+1,_,by omega,by go_num,rfl,by rw[HZ.o,oC f,a1.o];omega,_,_,_,S6⟩,by simp only[intOf];omega⟩
  ·have e:k=R.keys.length:=by omega
   have d:QS (gL w R L cb a3.length C0 w.heap.size R.keys.length R.keys.length c fs C (J al (eF R L k).length cl) wr):=by have:=v.o;rw[e]at this⊢;exact this
   have h0:wr.cell? ⟨R.sb,7,Y⟩=V (J av R.keys.length cv):=by have:=d.o.st.cell 7;rw[this];simp[bo,e7.o]
   have a9:=ae d.o.box 0;simp at a9;have g3:=d.o.size;have g0:R.sb∉C:=λhC=>d.o.apart _ hC (by simp[aF.fp]);have h8:w.heap.size∉C:=λhC=>by
    rcases d.o.Lp _ hC with M|M
    ·have:=HC.o.lt _ M;omega
    ·omega
   have g8:=E e;clear v e c9 h5;have g9:=E (dz cb fs C (.func 141) #[X (V ⟨wr.heap.size,0,Y⟩),X (V ⟨w.heap.size,0,Y⟩)] (wr.alloc (I #[J av R.keys.length cv] 25)) (d.o.uH.ai (aa.alloc n_ _ _) k_) (by have:=d.o.len;omega));have i3:R.sb<wr.heap.size:=d.o.st.lt;go_wp2_with(go_at_call 92;go_must(refine(g9.o).mono ?_;rintro e w5 ⟨rfl,C',Q,k5,N⟩;have b6:aa (·∈C) wr w5:=((aa.refl _ wr).al _).tr k5 i_;have e4:=d.o.st.ai b6 (λj D hC=>d.o.apart j hC D);have b9:=b6.cell (p:=⟨w.heap.size,0,Y⟩) a9 h8;have i8:=b6.cell (p:=⟨R.sb,7,Y⟩) h0 g0;have i9:w5.frozen? ⟨R.sb,7,Y⟩=false:=e4.frozen 7;have a5:=E e4;have K5:=E b6;clear e4 k5 b6 Q N))
   go_ret;obtain⟨n1,n2⟩:=a5.o.Od (vl:=J al (eF R L k).length cl) (ks:=eF R L R.keys.length) (d.o.row.ai K5.o (λg hg hC=>(d.o.own g hg).2.1 hC)) (λg hg=>(d.o.own g hg).2.2);refine⟨fV (by rw[HZ.o,g8.o]),c,_,n1,λk=>?_,d.o.some_,d.o.filled,?_,λk G=>?_⟩
   ·have:=d.o.aE k;rwa[RG]at this
   ·refine(d.o.keep.trans K5.o (λk G hC=>?_)).trans (aa.setCell _ _ _) (λk G e=>.inl ?_)
    ·rcases d.o.Lp k hC with M|M
     ·exact .inr M
     ·omega
    ·have e':k=R.sb:=e;rw[e'];simp[aF.fp]
   ·rcases n2 k G with M|M
    ·exact d.o.OJ k M
    ·exact .inr (d.o.own k M).1
end Go.Proofs.YtjbkfdeldlajhaaGreatDoor
