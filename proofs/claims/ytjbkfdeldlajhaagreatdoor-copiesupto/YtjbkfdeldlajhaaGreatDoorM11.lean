import Derived.Test.YtjbkfdeldlajhaaGreatDoorM10
set_option linter.unusedSimpArgs false
namespace Go.Proofs.YtjbkfdeldlajhaaGreatDoor
set_option maxRecDepth 100000
set_option maxHeartbeats 1000000
open Go.RowKit Go.Shelf Go.Proofs.Tryz
open Option renaming none->Y,some->V
open Go.Value renaming int->Z,string->O,slice->J,pointer->X,tuple->bt
open Go.IntKind renaming i64->U
open Go renaming World->ab,Value->ax,Calls->ba
open Go.Ending renaming returned->ay
open Go.Obj renaming cells->I
variable{R:aF}{w wr c:ab}{L:Int}{i j f g d b:Nat}{a:List (ByteArray×sM)}{C:List Nat}{l:ax}{o:Obj}
def mN(R:aF)(b:ByteArray)(n:Nat)(w c:ab):Prop:=
 ∃a,aq c {R with au:=a}/\(∀k,aw a k=if k=b then(aw R.au b).drop n else aw R.au k)/\(∀k,(aD a k).isSome=true->(aD R.au k).isSome=true)/\((∀p∈R.au,p.2.aE≠[])->∀p∈a,p.2.aE≠[])/\aa (·∈R.fp) w c/\∀k∈aF.fp {R with au:=a},k∈R.fp\/w.heap.size<=k
theorem Gt(d:(a.map (·.1)).Nodup)(b k:ByteArray):aw (del a b) k=if k=b then []else aw a k:=by
 unfold aw;rw[mZ _ d];by_cases e:k=b
 ·subst e;simp
 ·have c:¬b=k:=λh=>e h.symm;simp[e,c]
theorem pW{f:ByteArray}{x:sM}(h:aq w R)(k:aD R.au f=V x):∃b,R.vm=V b/\aQ O w b (R.au.map λp=>(p.1,p.2.sl))/\w.cell? ⟨R.sb,8,Y⟩=V (.map (V b))/\R.sb≠b/\(∀g,x.sl.ownBlock=V g->g≠R.sb/\g≠b/\g<w.heap.size)/\(∀g,R.kv.ownBlock=V g->g≠b/\x.sl.ownBlock≠V g):=by
 obtain⟨b,a⟩:∃b,R.vm=V b:=by
  cases hv:R.vm with
  |some b=>exact⟨b,rfl⟩
  |none=>
   have:=h.cg.ed;rw[hv]at this;have e:R.au=[]:=Sl.1 this;rw[e]at k;cases k
 have n:=h.cg.fA _ (bj k);have m:iz R.au f=x.sl:=by unfold iz;rw[k];rfl
 have l:=((eX R f).nodup_iff).1 h.nodup;rw[lf,lf]at l;have c:=l.2.2;have d:=l.2.1.2.2;rw[m]at c d;refine⟨b,a,by have:=h.cg.ed;rw[a]at this;exact this,(h.cell 8).trans (by rw[<-a];rfl),λe=>?_,λg i=>⟨λe=>d g (by simp[i]) g (by simp[aF.bY,e]) rfl,λe=>d g (by simp[i]) g (by simp[aF.bY,a,e]) rfl,n.lt i⟩,
  λg i=>⟨λe=>c g (by simp[i]) g (fx _ (by simp[aF.bY,a,e])) rfl,λe=>c g (by simp[i]) g (fQ _ (by simp[e])) rfl⟩⟩
 have j:=h.nodup;simp only[aF.fp,aF.bp,ey,cQ,Th]at j;exact j.1.2.1.2 (by simp[a,e])
theorem KE(R:aF)(a:ByteArray)(x:sM)(w:ab)(h:aq w R)(o:aD R.au a=V x):ba prog 140 #[X (V ⟨R.sb,7,Y⟩),O a,Z U (x.aE.length:Nat)] w λe T=>e=ay (bt #[])/\mN R a x.aE.length w T:=by
 obtain⟨b,m,r,W,v,L,s⟩:=pW h o;have z:=h.cg.fA _ (bj o);obtain⟨C,D,i,-⟩:=z.form;simp only at i;have l:aD (R.au.map λp=>(p.1,p.2.sl)) a=V (J C x.aE.length D):=by rw[cd,o];simp[i]
 have c:=E h;have B:=E o;have f:=E m;have y:=E r;have q:=E l;have t:=h.lt;have K:=r.lt;clear r l o h m i z;generalize hn:x.aE.length=n at*;have A:=E hn;clear hn;go_enter func140,ntmps140;go_wp2_with(first
  |(at_lookup;go_must(refine iA _ rfl _ _ 57 rfl 9 135 bJ Tryz.underlying57 Tryz.underlying9 _ (Tryz.cJ _) b rfl a rfl _ y.o ?_;rw[q.o];simp only[lp]))
  |(at_delete;go_must(refine fm _ rfl _ _ 57 9 rfl 135 bJ Tryz.underlying57 Tryz.underlying9 b rfl a rfl _ y.o ?_;intro w1 u d S)))
 refine bodyPost_ret (results_none rfl _ _ _) rfl ⟨rfl,?_⟩;obtain⟨G,H⟩:=c.o.LO a (kv':=R.kv) (keys':=R.keys) (b:=b) d (λk _ e=>.inr (.inr (by rw[f.o,e]))) ((d.block R.sb t v).trans c.o.top) (c.o.cg.cW.ai d (λg N e=>(s g N).1 e)) f.o u rfl;refine⟨del R.au a,G,λk=>?_,λk j=>?_,λM p P=>M p ((dC _ _).subset P),d.mono (λk _ e=>?_),λk j=>.inl (H.subset j)⟩
 ·rw[Gt (dv c.o.cg)];by_cases e:k=a
  ·subst e;rw[fy rfl,fy rfl];have Q:aw R.au k=x.aE:=by unfold aw;rw[B.o];rfl
   rw[Q,List.drop_of_length_le (by rw[A.o];exact eb _)]
  ·rw[el e,el e]
 ·rw[mZ _ (dv c.o.cg)]at j;by_cases e:a=k
  ·rw[fy e]at j;cases j
  ·rwa[el e]at j
 ·have F:k=b:=e;simp only[aF.fp,aF.bp,cT,cQ];exact .inr (.inr (.inl (.inr (by rw[f.o,F];simp))))
theorem EJ(a:List bF)(n:Nat):(a.drop n).flatMap bF.cells=(a.flatMap bF.cells).drop (n*3):=by
 induction a generalizing n with
 |nil=>simp
 |cons v a ih=>
  cases n with
  |zero=>simp
  |succ n=>
   rw[List.drop_succ_cons,ih];have e:(n+1)*3=3+n*3:=by omega
   simp only[Rh];rw[e,List.drop_append];simp[bF.cells]
theorem IB(b:List bF):∀u∈b.flatMap bF.cells,u.oneCell'=true:=by intro u a;obtain⟨v,_,a⟩:=ns.1 a;simp only[bF.cells,cT,RQ,TP]at a;rcases a with rfl|rfl|rfl<;>rfl
theorem DK{l:List (ByteArray×ax)}{u:ax}(a:g≠d/\g≠b/\g<w.heap.size)(i:aQ O w b l)(h:w.cell? ⟨d,8,Y⟩=V u)(j:w.drew.grownBy c (J (V ⟨g,0,Y⟩) 0 0).ownBlock):aa (·=g) w c/\aQ O c b l/\c.cell? ⟨d,8,Y⟩=V u:=by have f:aa (·=g) w c:=(aa.drew _ w).tr (aa.grown j) (λk e=>by simpa[Value.ownBlock]using e);exact⟨f,i.ai f (λe=>a.2.1 e.symm),f.cell (p:=⟨d,8,Y⟩) h (λe=>a.1 e.symm)⟩
theorem Gk(R:aF)(a:ByteArray)(x:sM)(n m:Nat)(w:ab)(h:aq w R)(hx:aD R.au a=V x)(S:x.aE.length=n+(m+1))(hl:n+(m+1)<1000000000000):ba prog 140 #[X (V ⟨R.sb,7,Y⟩),O a,Z U (n:Nat)] w λe w'=>e=ay (bt #[])/\mN R a n w w':=by
 obtain⟨b,a1,hM,c6,a0,a7,H⟩:=pW h hx;have A:=h.cg.fA _ (bj hx);simp only at A;obtain⟨g,f,y⟩:∃g f,x.sl=J (V ⟨g,0,Y⟩) (n+(m+1)) f:=by rw[S]at A;exact A.succ (n:=n+m)
 have Q:aD (R.au.map λp=>(p.1,p.2.sl)) a=V (J (V ⟨g,0,Y⟩) (n+(m+1)) f):=by rw[cd,hx];simp[y]
 have D:=a7 g (by rw[y];rfl);rw[y,S]at A;obtain⟨b7,a8⟩:n+(m+1)<=f/\f<=maxLen:=by
  rcases A.shape with⟨e,_⟩|⟨i,c,e,L,h2⟩
  ·cases e
  ·simp at e;exact⟨by rw[e.2];exact L,by rw[e.2];exact h2⟩
 have r:Row w 144 3 (J (V ⟨g,0,Y⟩) 0 0) 0 []:=by obtain⟨a4,M⟩:=A.qf (g:=g) rfl;exact⟨rfl,.inr ⟨g,0,a4,rfl,M,eb _,eL _,by simp,by simp⟩⟩
 have v:∀(W:ab),W.heap[g]?=w.heap[g]?->∀j u,((x.aE.drop n).flatMap bF.cells)[j]?=V u->W.cell? ((⟨g,n*3,Y⟩:Addr).add j)=V u:=λW hW j u hj=>by
  rw[EJ,Sa]at hj;have e:((⟨g,n*3,Y⟩:Addr).add j)=⟨g,n*3+j,Y⟩:=by unfold Addr.add;by_cases h0:j=0<;>simp[h0]
  have a9:n*3+j<(n+(m+1))*3:=by have:=(ej.1 hj).1;rw[nP,S]at this;exact this
  have hc:=A.cellAt (n*3+j) a9;rw[hj]at hc;rw[e,<-hc];simp only[World.cell?,hW]
 unfold maxLen at a8;have c1:¬f=n:=by omega
 have c4:(n:Int)<=(n:Int)+((m:Int)+1):=by omega
 have c3:((n:Int)==(n:Int)+((m:Int)+1))=false:=by simp;omega
 have o:=E h;have HX:=E hx;have q:=E a1;have HM:=E hM;have a2:=E Q;have HN:=E S;have HD:=E r;have a3:=E v;have B:=E y;have b1:=h.lt;have c0:=hM.lt;obtain⟨i0,hi,b4,b5,b6⟩:=info_parts Tryz.lW;clear hM Q hx h a1 y A S r v;go_enter func140,ntmps140;go_wp2_with(at_lookup;go_must(refine iA _ rfl _ _ 57 rfl 9 135 bJ Tryz.underlying57 Tryz.underlying9 _ (Tryz.cJ _) b rfl a rfl _ HM.o ?_;rw[a2.o];simp only[lp]))
 go_region_held3(λW=>W.cell? ⟨R.sb,8,Y⟩=V (.map (V b))) (go_keep) ((refine bV _ (by rfl) _ _ 135 (by rfl) 144 i0 _ 3 32 Tryz.underlying135 hi b4 b5 b6 (by rfl) (J (V ⟨g,0,Y⟩) 0 0) 0 [] (by rfl) (HD.o.ai (aa.drew n_ w) k_) ⟨g,n*3,Y⟩ (m+1) (f-n) ((x.aE.drop n).flatMap bF.cells) (by rfl) (by rw[nP,mR,HN.o];omega) (a3.o _ rfl) (IB _) (by unfold maxLen;omega) (by omega) ?_;intro v' w1 l F _ a6;rw[tA,uE]at l;obtain⟨i,c,rfl⟩:=l.succ;obtain⟨b0,b2,r0⟩:=DK D HM.o c6 F;obtain⟨ob,b8,a5⟩:=b2.update (P:=prog) (t:=57) bJ Tryz.underlying57 Tryz.underlying9 a (J (V ⟨i,0,Y⟩) (m+1) c);have t0:=(aa.setBlock w1 b ob).cell (p:=⟨R.sb,8,Y⟩) r0 a0));go_end0;have K:iz R.au a=J (V ⟨g,0,Y⟩) (n+(m+1)) f:=by unfold iz;rw[HX.o];exact B.o
 have b3:aw R.au a=x.aE:=by unfold aw;rw[HX.o];rfl
 have z:aa (λk=>k=g\/k=b) w (Go.ChangeMaps.setBlock w1 b ob):=(b0.mono (λ_ _ h=>.inl h)).tr (aa.setBlock w1 b ob) (λ_ h=>.inr h);have C:i=g\/w.heap.size<=i:=by
  rcases a6 with h|h
  ·left;simpa[Value.ownBlock]using h
  ·right;have h':i=w.drew.heap.size:=by simpa[Value.ownBlock]using h
   have b9:i=w.heap.size:=h';omega
 have s:i≠b:=by
  rcases C with h|h
  ·rw[h];exact D.2.1
  ·omega
 have c2:∀k,(J (V ⟨i,0,Y⟩) (m+1) c).ownBlock=V k->(iz R.au a).ownBlock=V k\/w.heap.size<=k:=λk d=>by
  have G:i=k:=mv d;rw[K];rcases C with h|h
  ·left;rw[<-G,h];rfl
  ·right;omega
 have N:(x.aE.drop n).length=m+1:=by rw[mR,HN.o];omega
 have hS:=o.o.added a (kv':=R.kv) (sl':=J (V ⟨i,0,Y⟩) (m+1) c) (keys':=R.keys) (b:=b) (vs':=x.aE.drop n) z (λk _ T=>by
  rcases T with T|T
  ·exact .inr (.inr (.inr (by rw[K,T];rfl)))
  ·exact .inr (.inr (.inl (by rw[q.o,T]))))
  (by
   have e:bo {R with kv:=R.kv,vm:=V b}=bo R:=by simp[bo,q.o]
   rw[e];exact(z.block R.sb b1 (by rintro(h|h);exact D.1 h.symm;exact a0 h)).trans o.o.top)
  (o.o.cg.cW.ai z (λk d=>by
   rintro(h|h)
   ·exact(H k d).2 (by rw[B.o,h];rfl)
   ·exact(H k d).1 h)) a5
  (by rw[N];exact l.ai (aa.setBlock w1 b ob) (λk d e=>s (by rw[mv d];exact e)))
  (λk d=>.inl d) c2 (.inl q.o) (by
   cases hkb:R.kv.ownBlock with
   |none=>simp[Value.ownBlock,s]
   |some k=>
    have L:=H k hkb;have h3:=o.o.cg.cW.lt hkb;have h2:k≠i:=by
     rcases C with h|h
     ·exactλe=>L.2 (by rw[B.o,e,h];rfl)
     ·omega
    simp[Value.ownBlock,s,L.1,h2])
 have eR:({R with kv:=R.kv,keys:=R.keys,vm:=V b,au:=put R.au a ⟨J (V ⟨i,0,Y⟩) (m+1) c,x.aE.drop n⟩}:aF)={R with au:=put R.au a ⟨J (V ⟨i,0,Y⟩) (m+1) c,x.aE.drop n⟩}:=by rw[<-q.o]
 rw[eR]at hS;refine⟨rfl,_,hS,λk=>?_,λk d=>?_,λhf p hp=>?_,z.mono (λk _ h=>?_),λk d=>?_⟩
 ·rw[rj,b3];by_cases e:a=k
  ·rw[fy e,fy e.symm]
  ·rw[el e,el (λh=>e h.symm)]
 ·rw[ke]at d;by_cases e:a=k
  ·rw[<-e,HX.o];rfl
  ·rwa[el e]at d
 ·rcases jl (dv o.o.cg) hp with rfl|⟨L,_⟩
  ·intro e
   have:(x.aE.drop n).length=0:=by have e':x.aE.drop n=[]:=e;rw[e'];rfl
   omega
  ·exact hf p L
 ·rw[(eX R a).mem_iff,K];rcases h with h|h
  ·exact fx _ (fQ _ (by rw[h];simp[Value.ownBlock]))
  ·exact fx _ (fx _ (by simp[aF.bY,q.o,h]))
 ·have e1:iz (put R.au a ⟨J (V ⟨i,0,Y⟩) (m+1) c,x.aE.drop n⟩) a=J (V ⟨i,0,Y⟩) (m+1) c:=by unfold iz;rw[mu];rfl
  rw[(eX _ a).mem_iff]at d;simp only[e1]at d;rcases cQ.1 d with d|d
  ·exact .inl ((eX R a).mem_iff.2 (fQ _ d))
  ·rcases cQ.1 d with d|d
   ·have G:(J (V ⟨i,0,Y⟩) (m+1) c).ownBlock=V k:=by simpa using d
    rcases c2 k G with h|h
    ·exact .inl ((eX R a).mem_iff.2 (fx _ (fQ _ (by simp[h]))))
    ·exact .inr h
   ·have e2:aF.bY {R with au:=put R.au a ⟨J (V ⟨i,0,Y⟩) (m+1) c,x.aE.drop n⟩} a=R.bY a:=by simp only[aF.bY,aF.aP,rN]
    rw[e2]at d;exact .inl ((eX R a).mem_iff.2 (fx _ (fx _ d)))
def ku(R:aF)(L:Int)(k:ByteArray):Bool:=decide (cO (aw R.au k) L<(aw R.au k).length)
def eF(R:aF)(L:Int)(i:Nat):List ByteArray:=(R.keys.take i).filter (ku R L)
theorem wJ(a:i<R.keys.length):eF R L (i+1)=eF R L i++(if ku R L R.keys[i]=true then [R.keys[i]]else []):=by unfold eF;rw[eu a,yv];congr 1;cases h:ku R L R.keys[i]<;>simp[h]
structure gL(w:ab)(R:aF)(L:Int)(cb nf:Nat)(C0:List Nat)(pB i j:Nat)(au:List (ByteArray×sM))(fs:List ax)(C:List Nat)(vl:ax)(wr:ab):Prop where
 st:aq wr {R with au:=au}
 aE:∀k,aw au k=if bR (R.keys.take i) k then(aw R.au k).drop (cO (aw R.au k) L)else aw R.au k
 some_:∀k,(aD au k).isSome=true->(aD R.au k).isSome=true
 filled:∀p∈au,p.2.aE≠[]
 row:Row wr 9 1 vl (eF R L j).length ((eF R L j).map O)
 own:∀g,vl.ownBlock=V g->w.heap.size<g/\g∉C/\g∉aF.fp {R with au:=au}
 uH:iP wr cb fs C
 len:fs.length<=nf+i
 Lp:∀k∈C,k∈C0\/w.heap.size<k
 OJ:∀k∈aF.fp {R with au:=au},k∈R.fp\/w.heap.size<k
 apart:∀k∈C,k∉aF.fp {R with au:=au}
 box:wr.heap[pB]?=V (I #[X (V ⟨R.sb,7,Y⟩)] 134 (0,0))
 keep:aa (λk=>k∈R.fp\/k∈C0) w wr
 size:w.heap.size<wr.heap.size
theorem gL.ai{k:Nat}{e:List Nat}{g:List ax}(h:gL w R L f k e d i j a g C l wr)(b:aa n_ wr c):gL w R L f k e d i j a g C l c:=
 ⟨h.st.ai b k_,h.aE,h.some_,h.filled,h.row.ai b k_,h.own,h.uH.ai b k_,h.len,h.Lp,h.OJ,h.apart,(b.block d (lg h.box) id).trans h.box,h.keep.tr b (λ_ h=>h.elim),kz h.size b.size⟩
theorem gL.stay{c:Nat}{b:List Nat}{d:List ax}(h:gL w R L c f b g i j a d C l wr)(m:i<R.keys.length)(n:cO (aw R.au R.keys[i]) L=0):gL w R L c f b g (i+1) j a d C l wr:=by
 refine⟨h.st,λk=>?_,h.some_,h.filled,h.row,h.own,h.uH,mA h.len (by omega),h.Lp,h.OJ,h.apart,h.box,h.keep,h.size⟩;rw[h.aE k,eu m,tw];by_cases e:R.keys[i]=k
 ·subst e;simp only[decide_true,Bool.or_true,Rz,n,SD];split<;>rfl
 ·simp[e]
theorem gL.skip{c:Nat}{b:List Nat}{d:List ax}{k:ax}(h:gL w R L c f b g i j a d C k wr)(l:j<R.keys.length)(m:ku R L R.keys[j]=false):gL w R L c f b g i (j+1) a d C k wr:=by
 have e:eF R L (j+1)=eF R L j:=by rw[wJ l,m];simp
 exact⟨h.st,h.aE,h.some_,h.filled,by rw[e];exact h.row,h.own,h.uH,h.len,h.Lp,h.OJ,h.apart,h.box,h.keep,h.size⟩
theorem gL.note{u y:Nat}{t:List Nat}{b:List (ByteArray×sM)}{v:List ax}{p a:ax}{l:ab}(h:gL w R L u y t f i j b v C p wr)(B:j<R.keys.length)(D:ku R L R.keys[j]=true)(G:f=w.heap.size)(H:Row l 9 1 a ((eF R L j).length+1) ((eF R L j).map O++[O R.keys[j]]))(x:(wr.alloc o).grownBy l p.ownBlock)(F:a.ownBlock=p.ownBlock\/a.ownBlock=V (wr.alloc o).heap.size):gL w R L u y t f i (j+1) b v C a l:=by
 have e:eF R L (j+1)=eF R L j++[R.keys[j]]:=by rw[wJ B,D];simp
 have n:aa (λk=>V k=p.ownBlock) wr l:=((aa.refl _ wr).al o).tr (aa.grown x) i_;have r:=bG h.st;have q:=h.uH.lt;have K:=h.size;have M:wr.heap.size+1<=l.heap.size:=by have:=x.size;simpa using this
 refine⟨h.st.ai n (λk d e=>(h.own k e.symm).2.2 d),h.aE,h.some_,h.filled,by rw[e];simpa using H,λg c=>?_,h.uH.ai n (λk s e=>(h.own k e.symm).2.1 s),h.len,h.Lp,h.OJ,h.apart,?_,h.keep.trans n (λk d e=>?_),by omega⟩
 ·rcases F with m|m
  ·exact h.own g (by rw[<-m];exact c)
  ·rw[c]at m;simp at m;exact⟨by omega,λz=>by have:=q g z;omega,λA=>by have:=r g A;omega⟩
 ·refine(n.block f (lg h.box) (λe=>?_)).trans h.box;have:=(h.own f e.symm).1;omega
 ·have:=(h.own k e.symm).1;omega
theorem gL.bK{A T:Nat}{z:List Nat}{m:Nat}{Q r:List ax}{y:List Nat}{W:ax}{x w2:ab}(h:gL w R L A T z m i j a Q C W wr)(hr:bh R.keys)(hi:i<R.keys.length)(a1:m=w.heap.size)(D:∀k∈z,k<w.heap.size)(F:∀k∈R.fp,k<w.heap.size)(S:iP x A r y)(hl:r.length<=Q.length+1)(o:aa (·∈C) wr x)(n:∀k∈y,k∈C\/wr.heap.size<=k)(ht:mN {R with au:=a} R.keys[i] (cO (aw R.au R.keys[i]) L) x w2):∃c,gL w R L A T z m (i+1) j c r y W w2:=by
 obtain⟨c,t1,t2,t3,t4,v,t6⟩:=ht;have a2:=h.size;have a3:=o.size;have u:=bG h.st;have G:=h.uH.lt;have M:bR (R.keys.take i) R.keys[i]=false:=by
  cases hm:bR (R.keys.take i) R.keys[i]with
  |false=>rfl
  |true=>
   have K:=(bA _ _).1 hm;obtain⟨q,hq,e⟩:=Rr K;simp only[js]at hq;rw[To]at e;have:=(List.getElem_inj (fK hr)).1 e;omega
 have N:aw a R.keys[i]=aw R.au R.keys[i]:=by rw[h.aE,M];simp
 have p:∀k∈aF.fp {R with au:=c},k∈aF.fp {R with au:=a}\/x.heap.size<=k:=t6;refine⟨c,t1,λk=>?_,λk f=>h.some_ k (t3 k f),t4 h.filled,?_,λg s=>?_,S.ai v (λk f d=>?_),?_,λk f=>?_,λk f=>?_,λk f d=>?_,?_,?_,?_⟩
 ·rw[t2 k,eu hi,tw];by_cases e:k=R.keys[i]
  ·subst e;simp only[Rz,decide_true,Bool.or_true];have B:aw ({R with au:=a}:aF).au R.keys[i]=aw R.au R.keys[i]:=N;rw[B]
  ·have e':¬R.keys[i]=k:=λh=>e h.symm;rw[el e];have B:aw ({R with au:=a}:aF).au k=aw a k:=rfl;rw[B,h.aE k];simp[e']
 ·exact(h.row.ai o (λg s H=>(h.own g s).2.1 H)).ai v (λg s d=>(h.own g s).2.2 d)
 ·obtain⟨o1,o2,o3⟩:=h.own g s;have a0:=h.row.lt s;refine⟨o1,λl=>?_,λd=>?_⟩
  ·rcases n g l with b|b
   ·exact o2 b
   ·omega
  ·rcases p g d with b|b
   ·exact o3 b
   ·omega
 ·rcases n k f with b|b
  ·exact h.apart k b d
  ·have:=u k d;omega
 ·have:=h.len;omega
 ·rcases n k f with b|b
  ·exact h.Lp k b
  ·right;omega
 ·rcases p k f with b|b
  ·exact h.OJ k b
  ·right;omega
 ·rcases n k f with b|b
  ·rcases p k d with t|t
   ·exact h.apart k b t
   ·have:=G k b;omega
  ·rcases p k d with t|t
   ·have:=u k t;omega
   ·have:=S.lt k f;omega
 ·have P:x.heap[m]?=V (I #[X (V ⟨R.sb,7,Y⟩)] 134 (0,0)):=(o.block m (lg h.box) (λl=>by
   rcases h.Lp m l with b|b
   ·have:=D m b;omega
   ·omega)).trans h.box
  refine(v.block m (lg P) (λd=>?_)).trans P;rcases h.OJ m d with b|b
  ·have:=F m b;omega
  ·omega
 ·refine(h.keep.trans o (λk f l=>?_)).trans v (λk f d=>?_)
  ·rcases h.Lp k l with b|b
   ·exact .inr b
   ·omega
  ·rcases h.OJ k d with b|b
   ·exact .inl b
   ·omega
 ·have:=v.size;omega
theorem CI(a:List bF)(t:Int):cO a t<=a.length:=by
 have h:=ri a t;unfold cO;split
 ·split<;>omega
 ·omega
theorem aq.Od{vl:ax}{ks:List ByteArray}(h:aq w R)(v:Row w 9 1 vl ks.length (ks.map O))(l:∀g,vl.ownBlock=V g->g∉R.fp):aq (w.setCell ⟨R.sb,7,Y⟩ vl) {R with kv:=vl,keys:=ks}/\∀k∈aF.fp {R with kv:=vl,keys:=ks},k∈R.fp\/vl.ownBlock=V k:=by
 have q:aa (·=R.sb) w (w.setCell ⟨R.sb,7,Y⟩ vl):=aa.setCell w ⟨R.sb,7,Y⟩ vl;have i:=h.nodup;simp only[aF.fp,ey,cQ,Th]at i;have m:∀k∈aF.fp {R with kv:=vl,keys:=ks},k∈R.fp\/vl.ownBlock=V k:=λk f=>by
  simp only[aF.fp,aF.aP,aF.bp,cT,cQ,Rx]at f⊢;rcases f with c|c|(c|c)|c
  ·exact .inl (.inl c)
  ·exact .inl (.inr (.inl c))
  ·exact .inr c
  ·exact .inl (.inr (.inr (.inl (.inr c))))
  ·exact .inl (.inr (.inr (.inr c)))
 have n:vl.ownBlock≠V R.sb:=λe=>l R.sb e (by simp[aF.fp]);refine⟨⟨?_,?_,⟨?_,?_,?_⟩,?_⟩,m⟩
 ·show(w.setCell ⟨R.sb,7,Y⟩ vl).heap[R.sb]?=_;rw[ak h.top];simp[bo]
 ·have s:=h.af.ai q (λk f e=>i.1.1 (by rw[<-e];exact f));exact⟨s.cy,s.eA,s.dc,s.cU⟩
 ·exact v.ai q (λg d e=>n (by rw[d,e]))
 ·exact h.cg.ed.ai q (λb u e=>i.1.2 (by rw[<-e];simp[aF.bp,u]))
 ·intro p r;refine(h.cg.fA p r).ai q (λg d e=>i.1.2 ?_);rw[<-e];simp only[aF.bp,cQ,ns];exact .inr ⟨p,r,by simp[d]⟩
 ·have o:(aF.bp {R with kv:=vl,keys:=ks})=vl.ownBlock.toList++(R.vm.toList++R.au.flatMap (λp=>p.2.sl.ownBlock.toList)):=by simp[aF.bp]
  have j:R.bp=R.kv.ownBlock.toList++(R.vm.toList++R.au.flatMap (λp=>p.2.sl.ownBlock.toList)):=by simp[aF.bp]
  have t:=h.nodup;rw[aF.fp,j]at t;rw[aF.fp,o];show(R.sb::(R.aP++(vl.ownBlock.toList++(R.vm.toList++R.au.flatMap (λp=>p.2.sl.ownBlock.toList))))).Nodup;have a:(R.sb::(R.aP++(R.vm.toList++R.au.flatMap (λp=>p.2.sl.ownBlock.toList)))).Nodup:=t.sublist (List.Sublist.cons_cons _ (TC (RV _) (List.sublist_append_right _ _)));cases hv:vl.ownBlock with
  |none=>simpa using a
  |some g=>
   have d:=l g hv;rw[aF.fp,j]at d;simp only[cT,cQ,Th]at d;have r:(R.sb::(R.aP++([g]++(R.vm.toList++R.au.flatMap (λp=>p.2.sl.ownBlock.toList))))).Perm (g::(R.sb::(R.aP++(R.vm.toList++R.au.flatMap (λp=>p.2.sl.ownBlock.toList))))):=by refine List.Perm.trans (List.Perm.cons _ ?_) (List.Perm.swap _ _ _);exact Sf
   rw[RM];refine r.nodup_iff.2 (ey.2 ⟨?_,a⟩);simp only[cT,cQ,Th];exact⟨d.1,d.2.1,d.2.2.2⟩
theorem jR{a:ab}{S:Nat->Prop}(h:a.heap[b]?=V o)(g:wr.heap.size<=b)(f:aa S a c)(d:∀k,S k->k<wr.heap.size):c.heap[b]?=V o:=
 (f.block b (lg h) (λe=>by have:=d b e;omega)).trans h
end Go.Proofs.YtjbkfdeldlajhaaGreatDoor
