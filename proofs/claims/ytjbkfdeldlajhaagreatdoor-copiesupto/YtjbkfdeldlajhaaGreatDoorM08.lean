import Derived.Test.YtjbkfdeldlajhaaGreatDoorM07
import Derived.RangeFuncWrites
import Derived.Stop.RegionWithIn
set_option linter.unusedSimpArgs false
namespace Go.Proofs.YtjbkfdeldlajhaaGreatDoor
set_option maxRecDepth 100000
set_option maxHeartbeats 400000
open Go.RowKit Go.Shelf Go.Proofs.Tryz
open Go renaming World->ab,Value->ax,Calls->ba
open Option renaming none->Y,some->V
open Go.Value renaming string->O,slice->J
open Go.Ending renaming returned->ay
variable{G:List Nat}{w:ab}{R:aF}{k:ByteArray}{v:ax}{e:List ByteArray}
theorem ff{β:Type}(l:List (ByteArray×β))(k:ByteArray):(aD l k).isSome=true↔k∈l.map (·.1):=by
 cases h:aD l k with
 |none=>
  simp only[Rk,vg,false_iff];intro a;obtain⟨q,b,e⟩:=fI.1 a;exact dU.1 h q b e
 |some v=>
  simp only[Ra,true_iff];exact fI.2 ⟨_,bj h,rfl⟩
theorem JC{a:List ByteArray}{b:List (ByteArray×bF)}(c:a.Perm (b.map (·.1)))(k:ByteArray):bR a k=(aD b k).isSome:=by rw[QT,bA,ff];exact c.mem_iff
theorem oE(t:il R)(d:k∈R.keys):aw R.au k≠[]:=by
 have b:(aD R.au k).isSome=true:=by rw[<-t.keys];exact(bA _ _).2 d
 obtain⟨x,a⟩:=QV.1 b;have c:=t.filled _ (bj a);unfold aw;rw[a];exact c
theorem fJ(t:il R)(a:aw R.au k≠[]):k∈R.keys:=by
 rw[<-bA,t.keys];unfold aw at a;cases hl:aD R.au k with
 |none=>rw[hl]at a;simp at a
 |some x=>rfl
theorem zb{d:aF}{b:List ByteArray}{c:ByteArray->bF}(t:il R)(h:jx R b c d)(e:k∈d.keys):k∈b\/k∈R.keys:=by
 have a:=oE h.tied e;rw[h.aE]at a;cases hm:bR b k with
 |true=>exact .inl ((bA _ _).1 hm)
 |false=>
  rw[hm]at a;exact .inr (fJ t (by simpa using a))
theorem Inv.del{K:List ByteArray}{w a:ab}{R:aF}{n:Int}(h:Inv K w R)(c:aq a {R with af:=del R.af n}):Inv K a {R with af:=del R.af n}:=
 ⟨c,h.cD.del n,⟨h.tied.bP,h.tied.keys,h.tied.filled⟩,h.pm,h.wm,h.QG,λp b=>h.QA p ((dC _ _).subset b)⟩
structure Sound(A:rr):Prop where
 now:0<=A.now/\A.now<=1000000000
 aJ:0<=A.aJ
 fresh:aD A.af (A.aJ+1)=Y
 nodup:(A.af.map (·.1)).Nodup
 numbers:∀p∈A.af,p.1<=A.aJ
 aI:∀p∈A.af,0<=p.2.1/\p.2.1<=A.now
 QK:∀p∈A.af,(p.2.2.map (·.1)).Nodup
 rising:∀k,dP (A.aE k)
 fH:∀k,∀v∈A.aE k,0<=v.aG/\v.aG<=A.now
theorem GY{b:List bF}{a:Int}(c:0<=a)(h:∀v∈b,0<=v.aG/\v.aG<=a):eE b<=a:=by
 unfold eE;cases hl:b.getLast? with
 |none=>simpa using c
 |some v=>
  have:=h v (SF hl);simpa using this.2
theorem Sound.last{A:rr}(h:Sound A)(k:ByteArray):eE (A.aE k)<=A.now:=GY h.now.1 (h.fH k)
def rr.next(A:rr)(key:ByteArray)(b:ByteArray)(a:Bool):rr:=
 {A with now:=A.now+1,aJ:=A.aJ+1,aE:=λk=>if k=key then A.aE k++[⟨A.now+1,b,a⟩]else A.aE k}
def pd(G:List Nat)(w:ab)(v:ax)(c:List ByteArray):Prop:=
 (c=[]/\∃d a,v=J d 0 a)\/∃g b a,g∈G/\v=J (V ⟨g,b,Y⟩) c.length a/\c.length<=a/\a<=maxLen/\∀i (h:i<c.length),w.cell? ⟨g,b+i,Y⟩=V (O c[i])
def cf(b:List ByteArray)(a:ByteArray):List ByteArray:=
 match b with
 |[]=>[]
 |x::r=>if x=a then r else x::r
def gw(v:ax)(a:Bool):ax:=
 match v,a with
 |.slice (V ⟨g,off,Y⟩) (n+1) cap,true=>if cap=1 then J (V ⟨g,off,Y⟩) n 0 else J (V ⟨g,off+1,Y⟩) n (cap-1)
 |v,_=>v
def mV(b:List ByteArray)(a:ByteArray):Bool:=
 match b with
 |[]=>false
 |x::_=>decide (x=a)
def dJ(a b:List ByteArray):ByteArray:=
 match a,b with
 |[],[]=>ByteArray.empty
 |[],y::_=>y
 |x::_,[]=>x
 |x::_,y::_=>if de y x=true then y else x
theorem pd.ai{d:ab}(h:pd G w v e)(o:∀k∈G,d.heap[k]?=w.heap[k]?):pd G d v e:=by
 rcases h with h|⟨g,b,a,c,f,j,l,m⟩
 ·exact .inl h
 ·exact .inr ⟨g,b,a,c,f,j,l,λi n=>by rw[<-m i n];simp only[World.cell?,o g c]⟩
theorem pd.behind(h:pd G w v e)(a:ByteArray):pd G w (gw v (mV e a)) (cf e a):=by
 rcases h with⟨rfl,p,b,rfl⟩|⟨g,c,b,m,rfl,k,n,l⟩
 ·exact .inl ⟨rfl,p,b,by simp[mV,gw]⟩
 ·cases e with
  |nil=>exact .inl ⟨rfl,V ⟨g,c,Y⟩,b,by simp[mV,gw]⟩
  |cons x r=>
   by_cases d:x=a
   ·have f:cf (x::r) a=r:=by simp[cf,d]
    have j:mV (x::r) a=true:=by simp[mV,d]
    rw[f,j];simp only[fN,gw]at k⊢;split
    ·exact .inl ⟨hU (by omega),_,0,by rw[show r.length=0 by omega]⟩
    ·refine .inr ⟨g,c+1,b-1,m,rfl,by omega,by omega,λi o=>?_⟩;have:=l (i+1) (by simpa using o);rw[show c+1+i=c+(i+1) by omega];simpa using this
   ·have f:cf (x::r) a=x::r:=by simp[cf,d]
    have j:mV (x::r) a=false:=by simp[mV,d]
    rw[f,j];exact .inr ⟨g,c,b,m,rfl,k,n,l⟩
theorem pd.form{c:List ByteArray}(h:pd G w v c):∃b a,v=J b c.length a:=by
 rcases h with⟨rfl,b,a,rfl⟩|⟨g,d,a,_,rfl,_⟩
 ·exact⟨b,a,rfl⟩
 ·exact⟨_,a,rfl⟩
theorem pd.head{d:Option Addr}{b:Nat}{x:ByteArray}{r:List ByteArray}(h:pd G w (J d (x::r).length b) (x::r)):∃g a,d=V ⟨g,a,Y⟩/\w.cell? ⟨g,a,Y⟩=V (O x):=by
 rcases h with⟨h,_⟩|⟨g,a,c,_,e,_,_,f⟩
 ·cases h
 ·simp at e;exact⟨g,a,e.1,f 0 (by simp)⟩
theorem nM(v:ax)(a:ByteArray)(k:List ByteArray)(w:ab)(h:pd G w v k):ba prog 169 #[v,O a] w λe p=>e=ay (gw v (mV k a))/\p=w:=by
 rcases h with⟨rfl,m,b,rfl⟩|⟨g,c,b,_,rfl,n,o,l⟩
 ·have e:gw (J m 0 b) (mV [] a)=J m 0 b:=by simp[mV,gw]
  rw[e];clear e;go_enter func169,ntmps169;go_wp2;go_ret;exact⟨rfl,rfl⟩
 ·cases k with
  |nil=>
   have e:gw (J (V ⟨g,c,Y⟩) ([]:List ByteArray).length b) (mV [] a)=J (V ⟨g,c,Y⟩) 0 b:=by simp[mV,gw]
   rw[e];clear e;go_enter func169,ntmps169;go_wp2;go_ret;exact⟨rfl,rfl⟩
  |cons x r=>
   have q:w.cell? ⟨g,c,Y⟩=V (O x):=l 0 (by simp);unfold maxLen at o;simp only[fN]at n⊢;clear l;by_cases d:x=a
   ·have f:mV (x::r) a=true:=by simp[mV,d]
    have j:(x.toList==a.toList)=true:=(Lib.bytes_beq_iff _ _).2 d;rw[f];simp only[gw];clear d f;by_cases i:b=1
    ·subst i;obtain rfl:r=[]:=hU (by omega);simp only[Rz,pa];go_enter func169,ntmps169;go_wp2;go_ret;exact⟨rfl,rfl⟩
    ·rw[el i];go_enter func169,ntmps169;go_wp2;go_ret;exact⟨rfl,rfl⟩
   ·have f:mV (x::r) a=false:=by simp[mV,d]
    have j:(x.toList==a.toList)=false:=(Lib.bytes_beq_false_iff _ _).2 d;rw[f];simp only[gw];clear d f;go_enter func169,ntmps169;go_wp2;go_ret;exact⟨rfl,rfl⟩
theorem Oc(x y:ByteArray)(W:ab):(Builtin.min_ #[9,9] 9 #[O x,O y]).run prog W=.ok (O (if de y x=true then y else x)) W:=by
 cases h:de y x with
 |true=>
  simp[Builtin.min_,Builtin.min2,Op.stringOp,asBool];rintro(d|d)
  ·have e:=eO (a:=y) (b:=x) (c:=y) h d;rw[bw]at e;cases e
  ·exact(Lib.bytes_beq_iff x y).1 (by simp[d])
 |false=>
  simp[Builtin.min_,Builtin.min2,Op.stringOp,asBool];intro d _;exact nh h d
theorem Jy(k l:ax)(a b:List ByteArray)(w:ab)(f:pd G w k a)(d:pd G w l b)(c:a≠[]\/b≠[]):ba prog 168 #[k,l] w λe p=>e=ay (O (dJ a b))/\aa n_ w p:=by
 obtain⟨A,s,rfl⟩:=f.form;obtain⟨B,t,rfl⟩:=d.form;cases a with
 |nil=>
  cases b with
  |nil=>simp at c
  |cons y r=>
   obtain⟨g,o,rfl,n⟩:=d.head;clear f d c;have e:dJ [] (y::r)=y:=rfl;rw[e];clear e;go_enter func168,ntmps168;go_wp2;go_ret;exact⟨rfl,aa.refl _ _⟩
 |cons x q=>
  obtain⟨v,i,rfl,n⟩:=f.head;cases b with
  |nil=>
   clear f d c;have e:dJ (x::q) []=x:=rfl;rw[e];clear e;go_enter func168,ntmps168;go_wp2;go_ret;exact⟨rfl,aa.refl _ _⟩
  |cons y r=>
   obtain⟨z,j,rfl,u⟩:=d.head;clear f d c;have e:dJ (x::q) (y::r)=if de y x=true then y else x:=rfl
   rw[e];clear e;have h:=Oc x y w.drew;generalize (if de y x=true then y else x)=m at h⊢;go_enter func168,ntmps168;go_wp2;go_region;go_wp2;go_ret;exact⟨rfl,aa.drew _ _⟩
end Go.Proofs.YtjbkfdeldlajhaaGreatDoor
namespace Go.Proofs.YtjbkfdeldlajhaaGreatDoor
open Go.RowKit Go.Shelf
open Option renaming none->Y,some->V
open Go renaming World->ab,Value->ax
open Go.Value renaming bool->ao
open Go.Ending renaming returned->ay
section
variable{F:Fence} {n:Nat} {P:Program}
def KX{α:Type}(F:Fence)(n:Nat)(P:Program)(g:Nat)(i:Array ax)(b:α->Array ax)(C h:ab->ab->Prop)(S:List α->Prop)(N:Nat)(w:ab):Prop:=
 ∀(l:Nat) (j:List α->ab->Prop) (W:ab),aa n_ w W->(∀a A B,C A B->j a A->j a B)->(∀a x d,j a d->a.length<N->YieldAt F (n-1) P l (b x) d λe c=>e=ay (ao true)/\j (a++[x]) c/\h d c)->j [] W->CallsIn F n P g (#[.func (.yield l) #[] #[]]++i) W λe c=>(∃v,e=ay v)/\∃f,S f/\j f c
def Pt{α:Type}(B:Nat)(a:ab->ab->Prop)(c:List α->ab->Prop)(b:List α)(W:ab):Exit->Act->ab->Prop
 |.normal,_,W'=>KeepsFrom B W W'/\a W W'/\c b W'
 |_,_,_=>False
theorem xU{α:Type}{g:Operand}{ps:Array Tmp}{assign body:Code}{Q:Exit->Act->ab->Prop}{a:Act}{w:ab}(b7:F.round=Y)(h1:1<=n){gf:Nat}{lb:Array ax}(hg:a.eval g=.func (.func gf) #[] lb)(a6:F.fn gf)(eg:∀args w,(callFunc gf args).run P w=.ok (.enter gf args) w){f:α->Array ax}{C u:ab->ab->Prop}{S:List α->Prop}{N:Nat}(a4:KX F (n-1) P gf lb f C u S N w)(z:∀A B k,C A B->w.heap.size<=k->(∃o,A.heap[k]?=V o/\o.isCells=false)->B.heap[k]?=A.heap[k]?)(M:∀{A B D:ab},u A B->u B D->u A D)(L:∀(W:ab) (l:Nat) (o':Obj),w.heap.size<=l->u W (W.putObj l o'))(b6:∀x,(f x).size=ps.size)(b8:List α->ab->Prop)(G:OwnFrom w.heap.size b8)(a8:∀c A B,C A B->b8 c A->b8 c B)(h0:b8 [] w)(a₁:α->Act)(i:∀(l:Nat) (x:α) (W:ab) (K:Act->ab->Prop),K (a₁ x) W->assign.wpIn (F.inRound l) (n-1-1) P (Exit.then K (λ_ _ _=>False)) {tmps:=(ps.zip (f x)).foldl (λt (p,v)=>t.setIfInBounds p v) a.tmps,defers:=[]} W)(m:∀(l:Nat) (c:List α) (x:α) (W:ab),b8 c W->c.length<N->body.wpIn (F.inRound l) (n-1-1) P (Pt w.heap.size u b8 (c++[x]) W) (a₁ x) W)(q:∀(D:Nat) (xs:List α) (W:ab),w.heap.size<=D->S xs->b8 xs W->W.heap[D]?=V (.deferred (V []))->Q .normal {a with defers:={target:=.collected D,args:=#[]}::a.defers} W):(Code.rangeFunc g ps assign body).wpIn F n P Q a w:=by
 refine wpIn_rangeFunc ?_;intro fn b0;rw[b7];obtain⟨d,b⟩:∃d:LoopState->Option Code->Loop,d=λst pe=>{state:=st,pending:=pe,fn,tmps:=a.tmps,params:=ps,assign,body,defers:=w.heap.size}:=⟨_,rfl⟩
 obtain⟨j,h⟩:∃j,(w.alloc (.deferred (V []))).alloc (.loop (d .ready Y))=j:=⟨_,rfl⟩
 have b3:aa n_ w j:=by rw[<-h];exact((aa.refl _ w).al _).al _
 have a9:j.heap[w.heap.size+1]?=V (.loop (d .ready Y)):=by rw[<-h];have:=az (w.alloc (.deferred (V []))) (.loop (d .ready Y));rwa[World.size_alloc]at this
 have a5:j.heap[w.heap.size]?=V (.deferred (V [])):=by rw[<-h];exact(Below.heap_alloc _ _ _ (by simp)).trans (az w _)
 have a7:b8 [] j:=by rw[<-h];exact G.alloc _ (G.alloc _ h0)
 refine⟨w.heap.size+1,[{target:=.collected w.heap.size,args:=#[]}],j,{target:=.fn (.func gf) lb,args:=#[.func (.yield (w.heap.size+1)) #[] #[]]},j,gf,#[.func (.yield (w.heap.size+1)) #[] #[]]++lb,j,?_,?_,?_,?_,λ_=>h1,?_⟩
 ·rw[<-h,b];exact run_enterLoop_outer _ _ _ _ _
 ·simp only[resolve,hg];simp[go_sem]
 ·intro f' R;simp[Target.leads]at R;subst R;exact a6
 ·simp[invoke,go_sem,eg]
 ·refine(a4 (w.heap.size+1) (λc W=>b8 c W/\W.heap[w.heap.size+1]?=V (.loop (d .ready Y))/\W.heap[w.heap.size]?=V (.deferred (V []))) j b3 (λc A B hC H=>⟨a8 c A B hC H.1,(z A B _ hC (by omega) ⟨_,H.2.1,rfl⟩).trans H.2.1,(z A B _ hC (eb _) ⟨_,H.2.2,rfl⟩).trans H.2.2⟩) ?_ ⟨a7,a9,a5⟩).mono ?_
  ·rintro c x W ⟨hi,r,hk⟩ a2;have b5:w.heap.size+1<W.heap.size:=(lg r);have hy:=run_yield (P:=P) (args:=f x) r (by rw[b];exact b6 x);rw[b]at hy;refine⟨fn,_,assign,body,hy,roundIn_of_wpIn b0 (i _ x W _ ⟨_,run_beginRound r (by rw[b]),?_⟩)⟩;have b4:(W.putObj (w.heap.size+1) (.loop {d .ready Y with state:=.busy})).heap[w.heap.size+1]?=V (.loop {d .ready Y with state:=.busy}):=World.putObj_heap_same b5;have b2:(W.putObj (w.heap.size+1) (.loop {d .ready Y with state:=.busy})).heap[w.heap.size]?=V (.deferred (V [])):=(World.putObj_heap_other (by omega)).trans hk;refine wpIn_mono (m _ c x _ (G.putObj _ hi (by omega) r rfl) a2) ?_;rintro e a3 W3 y;cases e with
   |normal=>
    obtain⟨T,a0,b1⟩:=y;have s:=T.same _ _ (by omega) b4 rfl;have hr:=run_endRound (P:=P) Y s;have a1:W3.heap[w.heap.size+1]?=V (.loop {d .ready Y with state:=.busy}):=s;rw[b]at hr;refine⟨_,_,hr,rfl,⟨G.putObj _ b1 (by omega) a1 rfl,?_,?_⟩,M (M (L _ _ _ (by omega)) a0) (L _ _ _ (by omega))⟩
    ·rw[b];exact World.putObj_heap_same (lg s)
    ·exact(World.putObj_heap_other (by omega)).trans (T.same _ _ (eb _) b2 rfl)
   |ret=>exact y.elim
   |exit id=>exact y.elim
   |goto t=>exact y.elim
   |panic ch=>exact y.elim
   |outgrown=>exact y.elim
  ·rintro e W2 ⟨⟨v,rfl⟩,xs,hS,hi,r,hk⟩;exact⟨Y,_,by have:=run_endLoop (P:=P) r (by rw[b];simp);rw[b]at this;exact this,q _ xs _ (eb _) hS (G.putObj _ hi (by omega) r rfl) ((World.putObj_heap_other (by omega)).trans hk)⟩
end
end Go.Proofs.YtjbkfdeldlajhaaGreatDoor
namespace Go.Proofs.YtjbkfdeldlajhaaGreatDoor
open Go.RowKit Go.Shelf
variable{a b:List ByteArray}
structure jM(a b a' b' pre:List ByteArray):Prop where
 come:bh pre
 ra:bh a'
 rb:bh b'
 below:∀k∈pre,∀x,(x∈a'\/x∈b')->de k x=true
 all:∀k,(k∈pre\/k∈a'\/k∈b')↔(k∈a\/k∈b)
 len:pre.length+(a'.length+b'.length)<=a.length+b.length
theorem fS{x:ByteArray}{r:List ByteArray}(h:bh (x::r)):(∀y∈r,de x y=true)/\bh r:=BS.1 h
theorem least_le(i:bh a)(j:bh b)(g:a≠[]\/b≠[]):(dJ a b∈a\/dJ a b∈b)/\(∀x,(x∈a\/x∈b)->x=dJ a b\/de (dJ a b) x=true):=by
 cases a with
 |nil=>
  cases b with
  |nil=>simp at g
  |cons y r=>
   refine⟨.inr (by simp[dJ]),λx c=>?_⟩;simp only[dJ];rcases c with c|c
   ·cases c
   ·rcases cT.1 c with rfl|c
    ·exact .inl rfl
    ·exact .inr ((fS j).1 x c)
 |cons z q=>
  cases b with
  |nil=>
   refine⟨.inl (by simp[dJ]),λx c=>?_⟩;simp only[dJ];rcases c with c|c
   ·rcases cT.1 c with rfl|c
    ·exact .inl rfl
    ·exact .inr ((fS i).1 x c)
   ·cases c
  |cons y r=>
   have h:=(fS i).1;have f:=(fS j).1;simp only[dJ];cases hlt:de y z with
   |true=>
    simp only[Rz];refine⟨.inr (by simp),λx c=>?_⟩;rcases c with c|c
    ·rcases cT.1 c with rfl|c
     ·exact .inr hlt
     ·exact .inr (eO hlt (h x c))
    ·rcases cT.1 c with rfl|c
     ·exact .inl rfl
     ·exact .inr (f x c)
   |false=>
    simp only[vg,RL];refine⟨.inl (by simp),λx c=>?_⟩;rcases c with c|c
    ·rcases cT.1 c with rfl|c
     ·exact .inl rfl
     ·exact .inr (h x c)
    ·have d:y=z\/de z y=true:=by
      cases e:de z y with
      |true=>exact .inr rfl
      |false=>exact .inl (nh hlt e)
     rcases cT.1 c with rfl|c
     ·exact d
     ·rcases d with rfl|e
      ·exact .inr (f x c)
      ·exact .inr (eO e (f x c))
theorem vO{k:ByteArray}(f:bh a)(g:∀x∈a,x=k\/de k x=true):bh (cf a k)/\(∀x,x∈cf a k↔x∈a/\x≠k):=by
 cases a with
 |nil=>exact⟨f,λx=>by simp[cf]⟩
 |cons z q=>
  obtain⟨i,l⟩:=fS f;by_cases e:z=k
  ·subst e;have c:cf (z::q) z=q:=by simp[cf]
   rw[c];refine⟨l,λx=>⟨λb=>⟨ef _ b,λe=>?_⟩,λb=>?_⟩⟩
   ·have:=i x b;rw[e,bw]at this;cases this
   ·rcases cT.1 b.1 with e|h
    ·exact absurd e b.2
    ·exact h
  ·have c:cf (z::q) k=z::q:=by simp[cf,e]
   rw[c];refine⟨f,λx=>⟨λb=>⟨b,λd=>?_⟩,λb=>b.1⟩⟩;subst d;rcases cT.1 b with d|h
   ·exact e d.symm
   ·have m:=i x h;rcases g z (by simp)with j|n
    ·exact e j
    ·have:=eO m n;rw[bw]at this;cases this
theorem vN(a:List ByteArray)(k:ByteArray):(cf a k).length<=a.length:=by
 cases a with
 |nil=>simp[cf]
 |cons z q=>by_cases e:z=k<;>simp[cf,e]
theorem od(a b:List ByteArray)(f:a≠[]\/b≠[]):(cf a (dJ a b)).length+(cf b (dJ a b)).length<a.length+b.length:=by
 cases a with
 |nil=>
  cases b with
  |nil=>simp at f
  |cons y r=>simp[cf,dJ]
 |cons z q=>
  cases b with
  |nil=>simp[cf,dJ]
  |cons y r=>
   by_cases h:de y z=true
   ·have e:dJ (z::q) (y::r)=y:=by simp[dJ,h]
    rw[e];have d:=vN (z::q) y;have c:cf (y::r) y=r:=by simp[cf]
    rw[c];simp only[fN]at d⊢;omega
   ·have e:dJ (z::q) (y::r)=z:=by simp[dJ,h]
    rw[e];have d:=vN (y::r) z;have c:cf (z::q) z=q:=by simp[cf]
    rw[c];simp only[fN]at d⊢;omega
theorem jM.step{d f l:List ByteArray}(h:jM a b d f l)(j:d≠[]\/f≠[]):jM a b (cf d (dJ d f)) (cf f (dJ d f)) (l++[dJ d f]):=by
 obtain⟨p,m⟩:=least_le h.ra h.rb j;obtain⟨u,n⟩:=vO h.ra (λx c=>m x (.inl c));obtain⟨v,o⟩:=vO h.rb (λx c=>m x (.inr c));refine⟨?_,u,v,λk i x c=>?_,λk=>?_,?_⟩
 ·unfold bh;rw[Rg];refine⟨h.come,List.pairwise_singleton _ _,λx c y t=>?_⟩;have s:y=dJ d f:=by simpa using t
  rw[s];exact h.below x c _ p
 ·have g:(x∈d\/x∈f)/\x≠dJ d f:=by
   rcases c with c|c
   ·exact⟨.inl ((n x).1 c).1,((n x).1 c).2⟩
   ·exact⟨.inr ((o x).1 c).1,((o x).1 c).2⟩
  rcases cQ.1 i with i|i
  ·exact h.below k i x g.1
  ·have r:k=dJ d f:=by simpa using i
   rcases m x g.1 with e|q
   ·exact absurd e g.2
   ·rw[r];exact q
 ·rw[<-h.all k,n,o];simp only[cQ,QZ];by_cases e:k=dJ d f
  ·subst e;constructor
   ·intro _;exact .inr p
   ·intro _;exact .inl (.inr rfl)
  ·constructor
   ·rintro((h|h)|h|h)
    ·exact .inl h
    ·exact absurd h e
    ·exact .inr (.inl h.1)
    ·exact .inr (.inr h.1)
   ·rintro(h|h|h)
    ·exact .inl (.inl h)
    ·exact .inr (.inl ⟨h,e⟩)
    ·exact .inr (.inr ⟨h,e⟩)
 ·have q:=od d f j;have w:=h.len;simp only[hQ,fN,pa];omega
end Go.Proofs.YtjbkfdeldlajhaaGreatDoor
