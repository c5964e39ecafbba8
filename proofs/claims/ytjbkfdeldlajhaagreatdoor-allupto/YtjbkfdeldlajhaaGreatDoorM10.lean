import Derived.Test.YtjbkfdeldlajhaaGreatDoorM09
set_option linter.unusedSimpArgs false
namespace Go.Proofs.YtjbkfdeldlajhaaGreatDoor
set_option maxRecDepth 100000
set_option maxHeartbeats 2000000
open Go.RowKit Go.Shelf Go.Proofs.Tryz
open Option renaming none->Y,some->V
open Go.Value renaming string->O,slice->J,pointer->X,int->Z,bool->ao,tuple->bt
open Go.Obj renaming cells->I
open Go renaming World->ab,Value->ax,Calls->ba,TypeId->cI
open Go.Ending renaming returned->ay
open Go.IntKind renaming i64->U
variable{w W i:ab}{g k n c m:Nat}{e:cI}{v:ax}{P:Program}{f:ByteArray->Option (ByteArray×ByteArray)}{F:Fence}{Q:Exit->Act->ab->Prop}{S:Nat->Prop}
theorem Row.QQ{G:List Nat}{b:List ByteArray}(h:Row w 9 1 v b.length (b.map O))(j:∀g,v.ownBlock=V g->g∈G):pd G w v b:=by
 rcases h.2 with⟨rfl,e⟩|⟨g,a,c,rfl,n,d,f,l,m⟩
 ·exact .inl ⟨hU e,Y,0,rfl⟩
 ·refine .inr ⟨g,0,a,j g rfl,rfl,d,f,λi k=>?_⟩;rw[tA,h.cellAt i (by omega)];simp[k]
theorem Fq(h i:Option Addr)(f g b c:Nat)(w:ab):ba prog 125 #[J h f b,J i g c] w λe k=>e=ay (.func (.func 167) #[] #[X (V ⟨w.heap.size,0,Y⟩),X (V ⟨w.heap.size+1,0,Y⟩)])/\k=(w.alloc (I #[J h f b] 25)).alloc (I #[J i g c] 25):=by have j:=mf_;go_enter func125,ntmps125;go_wp2;go_ret;exact⟨rfl,rfl⟩
section
attribute [local go_sem] Oper.semAt_some
def gA(d:List (ByteArray×bF))(c:ByteArray->List bF)(a:Int)(b:ByteArray):Option (ByteArray×ByteArray):=
 if gQ (fT d (c b) a b)=true then V (b,((fT d (c b) a b).getD bF.zero).value)else Y
def df(p:ByteArray×ByteArray):List ax:=[O p.1,O p.2]
def vH(f:ByteArray->Option (ByteArray×ByteArray))(b d e:Nat)(c:ab)(a:List ByteArray)(W:ab):Prop:=
 ∃v,W.heap[b]?=V (I #[v] 66 (0,0))/\Row W 68 2 v (a.filterMap f).length ((a.filterMap f).flatMap df)/\(∀g,v.ownBlock=V g->c.heap.size<=g)/\aa (λk=>k=b\/k=d\/k=e) c W
theorem Row.qf{b:Nat}{i:List ax}(h:Row w e b v n i)(c:v.ownBlock=V g):∃a,w.heap[g]?=V (I a e (0,0)):=by
 rcases h.2 with⟨rfl,_⟩|⟨j,d,a,rfl,f,_⟩
 ·simp[Value.ownBlock]at c
 ·simp[Value.ownBlock]at c;subst c;exact⟨a,f⟩
theorem xz{b t u:Nat}(z:b<i.heap.size):OwnFrom i.heap.size (vH f b t u i):=by
 intro w W y x s c h;obtain⟨v,j,l,p,q⟩:=s;refine⟨v,?_,l.ai (aa.grown c) (λg d e=>?_),p,q.trans (aa.grown c) (λk A e=>?_)⟩
 ·refine((aa.grown c).block b (lg j) (λe=>?_)).trans j;have:=(h b e.symm).1;omega
 ·obtain⟨_,o,m,r⟩:=h g e.symm;obtain⟨n,a⟩:=l.qf d;rw[a]at m;cases m;cases r
 ·have:=(h k e.symm).1;omega
theorem MQ{a b:Nat}{h:ab}(m:a≠b)(n:a≠c)(s:b<h.heap.size)(t:c<h.heap.size)(d:List ByteArray)(A B:ab)(i:aa (λk=>k=b\/k=c) A B)(p:vH f a b c h d A):vH f a b c h d B:=by obtain⟨v,j,q,l,r⟩:=p;refine⟨v,(i.block a (lg j) (by rintro(e|e);exact m e;exact n e)).trans j,q.ai i (λg o e=>?_),l,r.trans i (λk _ e=>.inr e)⟩;have:=l g o;rcases e with e|e<;>omega
theorem Tryz.wC:(prog.info? 68).map (λi=>(i.zero,i.size,i.bytes))=V (V (.agg #[O ⟨#[]⟩,O ⟨#[]⟩]),2,32):=by kernel_rfl
theorem Mv(w:ab)(x y:ax)(t:cI):∀j u,[x,y][j]?=V u->(w.alloc (I #[x,y] t)).cell? ((⟨w.heap.size,0,Y⟩:Addr).add j)=V u:=by
 intro j u a;match j with
 |0=>simp at a;subst a;simp[Addr.add,go_sem]
 |1=>simp at a;subst a;simp[Addr.add,go_sem]
 |j+2=>simp at a
theorem DT{c:Code}{K:Act->ab->Prop}{a:Act}(h:c.wpIn F m P (Exit.then K (λ_ _ _=>False)) a w):c.wpIn F m P (Exit.then K Q) a w:=
 wpIn_mono h (λe _ _ b=>by cases e<;>first|exact b|exact b.elim)
structure GC(W:ab)(m:Nat)(av:Option Addr)(cv pB:Nat)(w5:ab)(g' cap':Nat)(w':ab)(xs:List ax):Prop where
 box:w'.heap[pB]?=V (I #[J av m cv] 66 (0,0))
 row:Row (w'.setCell ⟨pB,0,Y⟩ (J (V ⟨g',0,Y⟩) (m+1) cap')) 68 2 (J (V ⟨g',0,Y⟩) (m+1) cap') (m+1) xs
 own:∀g,(J (V ⟨g',0,Y⟩) (m+1) cap').ownBlock=V g->w5.heap.size<=g
 keep:aa (λk=>k=pB\/V k=(J av m cv).ownBlock) W (w'.setCell ⟨pB,0,Y⟩ (J (V ⟨g',0,Y⟩) (m+1) cap'))
theorem MS{t r s:ab}{i d D F a:Nat}{f:Option Addr}{x:List ax}{o:Obj}(w:aa n_ W t)(v:W.heap[d]?=V (I #[J f m i] 66 (0,0)))(j:∀g,(J f m i).ownBlock=V g->s.heap.size<=g)(l:aa (λk=>k=d\/k=D\/k=F) s W)(A:Row r 68 2 (J (V ⟨n,0,Y⟩) (m+1) a) (m+1) x)(y:(t.alloc o).grownBy r (J f m i).ownBlock)(z:(J (V ⟨n,0,Y⟩) (m+1) a).ownBlock=(J f m i).ownBlock\/(J (V ⟨n,0,Y⟩) (m+1) a).ownBlock=V (t.alloc o).heap.size)(K:d<s.heap.size):GC W m f i d s n a r x:=by
 have B:=w.size;have C:=l.size;have u:V d≠(J f m i).ownBlock:=λe=>by have:=j d e.symm;omega
 have q:aa (λk=>V k=(J f m i).ownBlock) W r:=((w.mono (λ_ _ h=>h.elim)).al o).trans (aa.grown y) (λk _ e=>e);have p:r.heap[d]?=V (I #[J f m i] 66 (0,0)):=(q.block d (lg v) u).trans v;have b:∀g,(J (V ⟨n,0,Y⟩) (m+1) a).ownBlock=V g->s.heap.size<=g:=λg c=>by
  rcases z with e|e
  ·exact j g (by rw[<-e];exact c)
  ·rw[c]at e;simp at e;omega
 refine⟨p,A.ai (aa.setCell _ _ _) (λg c e=>?_),b,(q.mono (λk _ e=>.inr e)).trans (aa.setCell _ _ _) (λk _ e=>.inl e)⟩;have H:=b g c;have G:g=d:=e;omega
theorem qt(w:ab){e:Array Oper}{rest:List Oper}{o:Oper}{a:Act}(k:o.guard=Y)(s x:Operand)(t:cI)(b:o.op=Op.call {callee:=Callee.builtin Builtin.append,args:=#[s,x],argTypes:=#[t,t]})(v y h:ax)(i:ab)(l:a.eval s=v)(m:a.eval x=y)(d:(Builtin.append_ #[t,t] o.type #[v,y]).run P w=.ok h i)(j:wpListIn F n P e Q rest (a.put o.dst h) i):wpListIn F n P e Q (o::rest) a w:=by
 refine wpListIn_plain k λK f=>?_;unfold Oper.wpIn;refine⟨?_,?_⟩
 ·simp[Oper.about,b,resolve,Target.leads,Sem.run_pure]
 ·rw[Oper.semAt_plain F _ _ (by rw[b];intro c g;cases g)];simp[execOp,b,resolve,invoke,builtin,l,m,d,Result.andThen];exact f _ _ j
theorem rV(w:ab)(a b c d:Obj):((((w.alloc a).alloc b).alloc c).alloc d).heap[w.heap.size]?=V a/\((((w.alloc a).alloc b).alloc c).alloc d).heap[w.heap.size+1]?=V b/\((((w.alloc a).alloc b).alloc c).alloc d).heap[w.heap.size+1+1]?=V c/\((((w.alloc a).alloc b).alloc c).alloc d).heap[w.heap.size+1+1+1]?=V d:=by
 have h:=az w a;have e:=az (w.alloc a) b;have f:=az ((w.alloc a).alloc b) c;have g:=az (((w.alloc a).alloc b).alloc c) d;simp only[World.size_alloc]at e f g;refine⟨?_,?_,?_,g⟩
 ·exact(Below.heap_alloc _ _ _ (by simp;omega)).trans ((Below.heap_alloc _ _ _ (by simp;omega)).trans ((Below.heap_alloc _ _ _ (by simp)).trans h))
 ·exact(Below.heap_alloc _ _ _ (by simp)).trans ((Below.heap_alloc _ _ _ (by simp)).trans e)
 ·exact(Below.heap_alloc _ _ _ (by simp)).trans f

end
theorem GN{α:Type}{f:α->List ax}{b:Nat}(d:∀a,(f a).length=b):∀(l:List α) (k r:Nat) (c:k<l.length),r<b->(l.flatMap f)[k*b+r]?=(f l[k])[r]?
 |[],k,r,c,_=>by simp at c
 |a::l,0,r,_,hr=>by
  have:r<(f a).length:=by rw[d];exact hr
  simp[Rb this]
 |a::l,k+1,r,c,hr=>by
  have ih:=GN d l k r (by simpa using c) hr;have e:(k+1)*b+r=(f a).length+(k*b+r):=by rw[d,Sq,Nat.one_mul];omega
  rw[Rh,e,Rl (by omega),Nat.add_sub_cancel_left,ih];simp
theorem Row.elem{α:Type}{f:α->List ax}{size:Nat}(i:∀a,(f a).length=size){b:Nat}{l:List α}(h:Row w e size (J (V ⟨g,0,Y⟩) l.length b) l.length (l.flatMap f))(k:Nat)(d:k<l.length)(r:Nat)(j:r<size):w.cell? ⟨g,k*size+r,Y⟩=(f l[k])[r]?:=by
 have c:k*size+r<l.length*size:=by
  have:(k+1)*size<=l.length*size:=xw _ d
  rw[Sq,Nat.one_mul]at this;omega
 rw[h.cellAt _ c,GN i l k r d j]
theorem br(w:ab)(a:Array ax)(t:cI):∀j u,a.toList[j]?=V u->(w.alloc (I a t)).cell? ((⟨w.heap.size,0,Y⟩:Addr).add j)=V u:=by intro j u b;rw[Addr.add_lit,tA,ae (az w (I a t)) j];simpa using b
structure Made{α:Type}(e:cI)(size:Nat)(f:α->List ax)(w W:ab)(v:ax)(l:List α):Prop where
 row:Row W e size v l.length (l.flatMap f)
 own:∀g,v.ownBlock=V g->w.heap.size<=g
 keep:aa n_ w W
theorem Made.nil{α:Type}{a:Nat}{f:α->List ax}(c:aa n_ w W):Made e a f w W (J Y 0 0) ([]:List α):=
 ⟨Row.nil _ _ _,λg b=>by simp[Value.ownBlock]at b,c⟩
theorem Made.ai{α:Type}{a:Nat}{f:α->List ax}{b:ab}{l:List α}(h:Made e a f w W v l)(c:aa n_ W b):Made e a f w b v l:=
 ⟨h.row.ai c k_,h.own,h.keep.tr c i_⟩
theorem Made.push{α:Type}{b:Nat}{f:α->List ax}{j m:ab}{i:ax}{l:List α}{a:α}(h:Made e b f w W v l)(n:aa n_ W j)(q:Row m e b i (l.length+1) (l.flatMap f++f a))(o:j.grownBy m v.ownBlock)(p:i.ownBlock=v.ownBlock\/i.ownBlock=V j.heap.size):Made e b f w m i (l++[a]):=by
 have t:=h.keep.size;have r:=n.size;refine⟨by simpa using q,λg c=>?_,(h.keep.tr n i_).trans (aa.grown o) (λk s e=>?_)⟩
 ·rcases p with d|d
  ·exact h.own g (by rw[<-d];exact c)
  ·rw[c]at d;simp at d;omega
 ·have:=h.own k e.symm;omega
structure an where
 key:ByteArray
 value:ByteArray
 aO:Bool
def an.cells(r:an):List ax:=[O r.key,O r.value,ao r.aO]
def an.val(r:an):ax:=.agg #[O r.key,O r.value,ao r.aO]
theorem an.len(r:an):r.cells.length=3:=rfl
def an.zero:an:=⟨ByteArray.empty,ByteArray.empty,false⟩
def fE(w:ab)(v:ax)(l:List an):Prop:=Row w 70 3 v l.length (l.flatMap an.cells)
abbrev jg(w W:ab)(v:ax)(l:List an):Prop:=Made 70 3 an.cells w W v l
theorem Tryz.kP:(prog.info? 70).map (λi=>(i.zero,i.size,i.bytes))=V (V (.agg #[O ⟨#[]⟩,O ⟨#[]⟩,ao false]),3,40):=by kernel_rfl
theorem jI{a:Nat}{l:List an}(h:fE w (J (V ⟨g,0,Y⟩) l.length a) l)(k:Nat)(b:k<l.length):w.cell? ⟨g,k*3,Y⟩=V (O l[k].key)/\w.cell? ⟨g,k*3+1,Y⟩=V (O l[k].value)/\w.cell? ⟨g,k*3+2,Y⟩=V (ao l[k].aO):=by have c:=Row.elem an.len h k b 0 (by omega);have d:=Row.elem an.len h k b 1 (by omega);have e:=Row.elem an.len h k b 2 (by omega);exact⟨c,d,e⟩
def bc(l:List an):List an:=l.filter (λr=>!r.aO)
theorem kS(v:ax)(l:List an)(w:ab)(h:fE w v l)(N:l.length<1000000000000):ba prog 108 #[v] w λe W=>∃o,e=ay o/\jg w W o (bc l):=by
 obtain⟨oa,ca,rfl,P,C⟩:=Row.form h;obtain⟨R,M,u,x,y⟩:=info_parts Tryz.kP;have F:=E h;have A:=E C;have z:=E N;unfold maxLen at P;clear h C;go_enter func108,ntmps108;go_wp2_with fail;go_loopw [3,4] (λo i wr=>∃k:Nat,k<=l.length/\i=Z U k/\jg w wr o (bc (l.take k))) (λ_ i _=>l.length-(intOf i).toNat)
 case atStart=>exact⟨0,eL _,rfl,Made.nil (aa.refl _ _)⟩
 case round=>
  obtain⟨k,hk,rfl,t⟩:=hrel;obtain⟨S,L,rfl,-,-⟩:=t.row.form;have f:=E t;clear t;by_cases m:k<l.length
  ·obtain⟨g,rfl⟩:=A.o (by omega);obtain⟨G,H,K⟩:=jI (Row.ai F.o f.o.keep k_) k m;have n:l.take (k+1)=l.take k++[l[k]]:=eu m;have d:=E n;have Q:(bc (l.take k)).length<=k:=mA (Rp _ _) (wj _ _);generalize l[k]=r at G H K d;obtain⟨p,q,T⟩:=r;clear A n;cases T with
   |true=>
    have s:QS (bc (l.take (k+1))=bc (l.take k)):=by show _=_;rw[d.o];simp[bc]
    go_wp2;exact⟨⟨k+1,by omega,by go_num,by rw[s.o];exact f.o⟩,by simp only[intOf];omega⟩
   |false=>
    have s:QS (bc (l.take (k+1))=bc (l.take k)++[⟨p,q,false⟩]):=by show _=_;rw[d.o];simp[bc]
    generalize bc (l.take k)=out at*;go_wp2_with(first|(at_builtin;go_must(refine aL _ rfl _ _ 26 rfl 70 R _ 3 40 Tryz.underlying26 M u x y rfl (J S out.length L) out.length _ rfl (f.o.row.ai (aa.alloc n_ _ _) k_) ⟨wr.heap.size,0,Y⟩ 1 1 [O p,O q,ao false] rfl rfl (br _ #[O p,O q,ao false] _) (by simp[Value.oneCell']) (by have:=z.o;unfold maxLen;omega) (by have:=z.o;omega) ?_;intro o w1 b c _ j;obtain⟨g',B,rfl⟩:=b.succ;have D:=E (f.o.push (a:=⟨p,q,false⟩) (aa.alloc n_ _ _) b c j);clear b c j))|fail)
    exact⟨⟨k+1,by omega,by go_num,by rw[s.o];exact D.o⟩,by simp only[intOf];omega⟩
  ·go_wp2;go_ret;have e:bc l=bc (l.take k):=by rw[ep (by omega)]
   rw[e];exact⟨_,rfl,f.o⟩
def aV(r:an)(s:List an×Bool)(x:an):List an×Bool:=
 let o:=if s.2=false/\de x.key r.key=false then(s.1++[r],true)else s
 if x.key=r.key then o else(o.1++[x],o.2)
def fa(l:List an)(r:an):List an×Bool:=l.foldl (aV r) ([],false)
def aS(l:List an)(r:an):List an:=if(fa l r).2=true then(fa l r).1 else(fa l r).1++[r]
theorem AW(l:List an)(x r:an):fa (l++[x]) r=aV r (fa l r) x:=by simp[fa,Ri]
theorem jn(l:List an)(r:an):(fa l r).1.length<=l.length+(fa l r).2.toNat:=by
 have a:∀(l:List an) (s:List an×Bool),(l.foldl (aV r) s).1.length+s.2.toNat<=s.1.length+l.length+(l.foldl (aV r) s).2.toNat:=by
  intro l;induction l with
  |nil=>intro s;simp
  |cons x l ih=>
   intro s;have h:=ih (aV r s x);simp only[yk,fN];have b:(aV r s x).1.length+s.2.toNat<=s.1.length+1+(aV r s x).2.toNat:=by obtain⟨o,i⟩:=s;simp only[aV];cases i<;>by_cases c:de x.key r.key=false<;>by_cases b:x.key=r.key<;>simp[c,b,bw]
   omega
 have:=a l ([],false);simpa[fa]using this
theorem mc{t:cI}(x y:ByteArray)(w:ab):(binOp BinOp.geq t (O x) (O y)).run P w=.ok (ao (!de x y)) w:=by simp[binOp,Op.stringOp,de]
theorem NX(x y:ByteArray):(!de x y&&!(x.toList==y.toList))=de y x:=by
 cases h1:de x y with
 |true=>
  have b:de y x=false:=by
   cases h3:de y x with
   |false=>rfl
   |true=>have:=eO h1 h3;rw[bw]at this;cases this
  simp[b]
 |false=>
  cases h3:de y x with
  |true=>
   have a:=(Lib.bytes_beq_false_iff x y).2 (λe=>by rw[e,bw]at h3;cases h3);simp[a]
  |false=>
   have e:=nh h1 h3;subst e;simp
theorem Made.from{α:Type}{a:Nat}{f:α->List ax}{c:ab}{l:List α}(h:Made e a f c W v l)(b:aa n_ w c):Made e a f w W v l:=
 ⟨h.row,λg d=>mA b.size (h.own g d),b.tr h.keep i_⟩
theorem AV{l:List an}{r x:an}{o:List an}{t:Bool}(b:l[k]?=V x)(h:fa (l.take k) r=(o,t)):fa (l.take (k+1)) r=aV r (o,t) x:=by obtain⟨a,rfl⟩:=ej.1 b;rw[eu a,AW,h]
theorem ot{a:Nat}{l:List an}{x:an}(h:fE w (J (V ⟨g,0,Y⟩) l.length a) l)(b:aa n_ w W)(d:l[k]?=V x):W.cell? ⟨g,k*3,Y⟩=V (O x.key)/\W.cell? ⟨g,k*3+1,Y⟩=V (O x.value)/\W.cell? ⟨g,k*3+2,Y⟩=V (ao x.aO):=by obtain⟨c,rfl⟩:=ej.1 d;exact jI (Row.ai h b k_) k c
theorem Made.slice{α:Type}{a:Nat}{f:α->List ax}{v':ax}{l:List α}(h:Made e a f w W v l)(b:v=v'):Made e a f w W v' l:=b▸h
theorem lD(v:ax)(l:List an)(r:an)(w:ab)(h:fE w v l)(hl:l.length<1000000000000):ba prog 74 #[v,r.val] w λe w'=>∃M,e=ay M/\jg w w' M (aS l r):=by
 obtain⟨oa,ca,rfl,hm,sa⟩:=Row.form h;obtain⟨i0,hi,F,G,H⟩:=info_parts Tryz.kP;obtain⟨s,q,p⟩:=r;simp only[an.val];have HR:=E (Row.ai h (aa.alloc n_ w (I #[O s,O q,ao p] 70)) k_);have SA:=E sa;have A:=E hl;have a0:=E (az w (I #[O s,O q,ao p] 70));have a3:aa n_ w (w.alloc (I #[O s,O q,ao p] 70)):=aa.alloc _ _ _;unfold maxLen at hm;clear h sa;go_enter func74,ntmps74;go_wp2_with fail;go_loopw [5,6,7] (λM b i wr=>∃(k:Nat) (o:List an) (t:Bool),k<=l.length/\i=Z U k/\b=ao t/\fa (l.take k) ⟨s,q,p⟩=(o,t)/\jg (w.alloc (I #[O s,O q,ao p] 70)) wr M o) (λ_ _ i _=>l.length-(intOf i).toNat)
 case atStart=>exact⟨0,[],false,eL _,rfl,rfl,rfl,Made.nil (aa.refl _ _)⟩
 case round=>
  obtain⟨k,o,t,hk,rfl,rfl,hp,hM⟩:=hrel;obtain⟨ob,cb,rfl,-,-⟩:=hM.row.form;have C:=E hM;have HP:=E hp;have L:=(hM.keep.block w.heap.size (by simp) id).trans a0.o;have b0:=ae L 0;have b1:=ae L 1;have b2:=ae L 2;simp at b0 b1 b2;have b9:w.heap.size<wr.heap.size:=(lg L);have b8:o.length<=k+1:=by
   have:=jn (l.take k) ⟨s,q,p⟩;rw[hp]at this;have h2:=wj k l;have h3:t.toNat<=1:=by cases t<;>simp
   simp only at this;omega
  have a6:t=false->o.length<=k:=λht=>by have:=jn (l.take k) ⟨s,q,p⟩;rw[hp]at this;have h2:=wj k l;rw[ht]at this;simp at this h2;omega
  have b5:=E a6;clear hM L hp a6;by_cases b3:k<l.length
  ·obtain⟨g,rfl⟩:=SA.o (by omega);obtain⟨x,hx⟩:∃x,l[k]?=V x:=⟨l[k],ec b3⟩
   obtain⟨c0,c1,c2⟩:=ot HR.o C.o.keep hx;have HX:=E hx;have K:=E (AV hx HP.o);obtain⟨m,y,u⟩:=x;have a7:o.length<1000000000000:=by have:=A.o;omega
   clear SA a0 hx;by_cases P:m=s
   ·subst P;have a4:∀W,(binOp BinOp.geq 9 (O m) (O m)).run prog W=.ok (ao true) W:=λW=>by rw[mc,bw];rfl
    cases t with
    |true=>
     have N:QS (aV ⟨m,q,p⟩ (o,true) ⟨m,y,u⟩=(o,true)):=by show _=_;simp[aV]
     go_wp2_with fail;go_region;go_wp2_with fail;go_region;go_wp2;exact⟨⟨k+1,o,true,by omega,by go_num,rfl,by rw[K.o,N.o],C.o.ai ((aa.refl n_ wr).dr.dr)⟩,by simp only[intOf];omega⟩
    |false=>
     have N:QS (aV ⟨m,q,p⟩ (o,false) ⟨m,y,u⟩=(o++[⟨m,q,p⟩],true)):=by show _=_;simp[aV,bw]
     go_wp2_with fail;go_region;go_wp2_with(first|(at_builtin;go_must(refine aL _ rfl _ _ 26 rfl 70 i0 _ 3 40 Tryz.underlying26 hi F G H rfl (J ob o.length cb) o.length _ rfl (C.o.row.ai ((aa.refl n_ wr).dr.al _) k_) ⟨wr.heap.size,0,Y⟩ 1 1 [O m,O q,ao p] rfl rfl (br _ #[O m,O q,ao p] _) (by simp[Value.oneCell']) (by have:=A.o;unfold maxLen;omega) (by have:=A.o;omega) ?_;intro M Q c d _ j;obtain⟨g1,D,rfl⟩:=c.succ;have f:=E (C.o.push (a:=⟨m,q,p⟩) ((aa.refl n_ wr).dr.al _) c d j);have n:=f.o.keep.size;clear c d j;have z:=(f.o.keep.block w.heap.size (by simp) id).trans (az w _);have e0:=ae z 0;have e1:=ae z 1;have e2:=ae z 2;simp at e0 e1 e2;clear z;obtain⟨d0,d1,d2⟩:=ot HR.o f.o.keep HX.o))|fail)
     go_region;go_wp2;exact⟨⟨k+1,o++[⟨m,q,p⟩],true,by omega,by go_num,rfl,by rw[K.o,N.o],(f.o.ai ((aa.refl n_ Q).dr)).slice (by simp)⟩,by simp only[intOf];omega⟩
   ·have b7:(m.toList==s.toList)=false:=(Lib.bytes_beq_false_iff _ _).2 P;have R:=E P;clear P;cases t with
    |true=>
     have N:QS (aV ⟨s,q,p⟩ (o,true) ⟨m,y,u⟩=(o++[⟨m,y,u⟩],true)):=by show _=_;simp[aV,R.o]
     go_wp2_with fail;go_region;go_wp2_with fail;go_region;go_wp2_with(first|(at_builtin;go_must(refine aL _ rfl _ _ 26 rfl 70 i0 _ 3 40 Tryz.underlying26 hi F G H rfl (J ob o.length cb) o.length _ rfl (C.o.row.ai ((aa.refl n_ wr).dr.dr.al _) k_) ⟨wr.heap.size,0,Y⟩ 1 1 [O m,O y,ao u] rfl rfl (br _ #[O m,O y,ao u] _) (by simp[Value.oneCell']) (by have:=A.o;unfold maxLen;omega) (by have:=A.o;omega) ?_;intro M Q c d _ j;obtain⟨g1,D,rfl⟩:=c.succ;have f:=E (C.o.push (a:=⟨m,y,u⟩) ((aa.refl n_ wr).dr.dr.al _) c d j);have n:=f.o.keep.size;clear c d j))|fail)
     exact⟨⟨k+1,o++[⟨m,y,u⟩],true,by omega,by go_num,rfl,by rw[K.o,N.o],f.o.slice (by simp)⟩,by simp only[intOf];omega⟩
    |false=>
     cases hltk:de m s with
     |true=>
      have N:QS (aV ⟨s,q,p⟩ (o,false) ⟨m,y,u⟩=(o++[⟨m,y,u⟩],false)):=by show _=_;simp[aV,R.o,hltk]
      have a4:∀W,(binOp BinOp.geq 9 (O m) (O s)).run prog W=.ok (ao false) W:=λW=>by rw[mc,hltk];rfl
      clear hltk;go_wp2_with fail;go_region;go_wp2_with fail;go_region;go_wp2_with(first|(at_builtin;go_must(refine aL _ rfl _ _ 26 rfl 70 i0 _ 3 40 Tryz.underlying26 hi F G H rfl (J ob o.length cb) o.length _ rfl (C.o.row.ai ((aa.refl n_ wr).dr.dr.al _) k_) ⟨wr.heap.size,0,Y⟩ 1 1 [O m,O y,ao u] rfl rfl (br _ #[O m,O y,ao u] _) (by simp[Value.oneCell']) (by have:=A.o;unfold maxLen;omega) (by have:=A.o;omega) ?_;intro M Q c d _ j;obtain⟨g1,D,rfl⟩:=c.succ;have f:=E (C.o.push (a:=⟨m,y,u⟩) ((aa.refl n_ wr).dr.dr.al _) c d j);have n:=f.o.keep.size;clear c d j))|fail)
      exact⟨⟨k+1,o++[⟨m,y,u⟩],false,by omega,by go_num,rfl,by rw[K.o,N.o],f.o.slice (by simp)⟩,by simp only[intOf];omega⟩
     |false=>
      have N:QS (aV ⟨s,q,p⟩ (o,false) ⟨m,y,u⟩=(o++[⟨s,q,p⟩]++[⟨m,y,u⟩],true)):=by show _=_;simp[aV,R.o,hltk]
      have a4:∀W,(binOp BinOp.geq 9 (O m) (O s)).run prog W=.ok (ao true) W:=λW=>by rw[mc,hltk];rfl
      clear hltk;go_wp2_with fail;go_region;go_wp2_with(first|(at_builtin;go_must(refine aL _ rfl _ _ 26 rfl 70 i0 _ 3 40 Tryz.underlying26 hi F G H rfl (J ob o.length cb) o.length _ rfl (C.o.row.ai ((aa.refl n_ wr).dr.al _) k_) ⟨wr.heap.size,0,Y⟩ 1 1 [O s,O q,ao p] rfl rfl (br _ #[O s,O q,ao p] _) (by simp[Value.oneCell']) (by have:=A.o;unfold maxLen;omega) (by have:=A.o;omega) ?_;intro M Q c d _ j;obtain⟨g1,D,rfl⟩:=c.succ;have f:=E (C.o.push (a:=⟨s,q,p⟩) ((aa.refl n_ wr).dr.al _) c d j);have n:=f.o.keep.size;clear c d j;have z:=(f.o.keep.block w.heap.size (by simp) id).trans (az w _);have e0:=ae z 0;have e1:=ae z 1;have e2:=ae z 2;simp at e0 e1 e2;clear z;obtain⟨d0,d1,d2⟩:=ot HR.o f.o.keep HX.o))|fail)
      have B:=E (f.o.slice (v':=J (V ⟨g1,0,Y⟩) (o.length+1) D) (by simp));obtain⟨T,S⟩:∃T,T=o++[⟨s,q,p⟩]:=⟨_,rfl⟩
      have a9:o.length+1=T.length:=by rw[S];simp
      rw[a9]at B⊢;rw[<-S]at B N;have b4:T.length<1000000000001:=by omega
      clear f S;go_region;go_wp2_with(first|(at_builtin;go_must(refine aL _ rfl _ _ 26 rfl 70 i0 _ 3 40 Tryz.underlying26 hi F G H rfl (J (V ⟨g1,0,Y⟩) T.length D) T.length _ rfl (B.o.row.ai ((aa.refl n_ Q).dr.al _) k_) ⟨Q.heap.size,0,Y⟩ 1 1 [O m,O y,ao u] rfl rfl (br _ #[O m,O y,ao u] _) (by simp[Value.oneCell']) (by have:=A.o;unfold maxLen;omega) (by have:=A.o;omega) ?_;intro M w2 c d _ j;obtain⟨g2,b6,rfl⟩:=c.succ;have a1:=E (B.o.push (a:=⟨m,y,u⟩) ((aa.refl n_ Q).dr.al _) c d j);have a8:=a1.o.keep.size;clear c d j))|fail)
      exact⟨⟨k+1,T++[⟨m,y,u⟩],true,by omega,by go_num,rfl,by rw[K.o,N.o],a1.o.slice (by simp)⟩,by simp only[intOf];omega⟩
  ·have a5:l.take k=l:=ep (by omega);have a2:=E (show fa l ⟨s,q,p⟩=(o,t) by rw[<-HP.o,a5]);have a7:o.length<1000000000001:=by have:=A.o;omega
   clear a5;cases t with
   |true=>
    go_wp2;go_ret;refine⟨_,rfl,?_⟩;have e:aS l ⟨s,q,p⟩=o:=by unfold aS;rw[a2.o];rfl
    rw[e];exact C.o.from a3
   |false=>
    go_wp2_with(first|(at_builtin;go_must(refine aL _ rfl _ _ 26 rfl 70 i0 _ 3 40 Tryz.underlying26 hi F G H rfl (J ob o.length cb) o.length _ rfl (C.o.row.ai (aa.alloc n_ wr _) k_) ⟨wr.heap.size,0,Y⟩ 1 1 [O s,O q,ao p] rfl rfl (br _ #[O s,O q,ao p] _) (by simp[Value.oneCell']) (by have:=A.o;unfold maxLen;omega) (by have:=A.o;omega) ?_;intro M Q c d _ j;obtain⟨g1,D,rfl⟩:=c.succ;have f:=E (C.o.push (a:=⟨s,q,p⟩) (aa.alloc n_ wr _) c d j);have n:=f.o.keep.size;clear c d j))|fail)
    go_ret;refine⟨_,rfl,?_⟩;have e:aS l ⟨s,q,p⟩=o++[⟨s,q,p⟩]:=by unfold aS;rw[a2.o];rfl
    rw[e];exact(f.o.slice (by simp)).from a3
def byteCells(b:UInt8):List ax:=[Z .u8 (b.toNat:Nat)]
theorem Iw(l:List UInt8):l.flatMap byteCells=l.map λb=>Z .u8 (b.toNat:Nat):=by
 induction l with
 |nil=>rfl
 |cons b l ih=>simp[byteCells,ih]
theorem Iy{l:List UInt8}(h:Row W 5 1 (J (V ⟨g,0,Y⟩) l.length c) l.length (l.flatMap byteCells)):(convert 219 9 (J (V ⟨g,0,Y⟩) l.length c)).run prog W=.ok (O (aU l)) W:=by
 rw[run_convert_bytes_string W _ _ 5 _ _ _ Tryz.underlying219 Tryz.underlying5 Tryz.underlying9];have k:=h;rw[Iw]at k;have i:=run_loadCells_list (P:=prog) (w:=W) ⟨g,0,Y⟩ ((l.map λb=>((b.toNat:Nat):Int)).map (Z .u8)) (λj v f=>by
  rw[Addr.add_lit,tA];have m:j<l.length:=by have:=(ej.1 f).1;simpa using this
  rw[k.cellAt j (by omega)];simpa using f)
 simp only[hO]at i;rw[run_bytesToString W _ _ _ _ i];congr 2;have d:∀(l:List UInt8) (a:List UInt8),(l.map λb=>((b.toNat:Nat):Int)).foldl (λr n=>r.push (UInt8.ofNat n.toNat)) (aU a)=aU (a++l):=by
  intro l;induction l with
  |nil=>intro a;simp
  |cons n l ih=>
   intro a;have e:(aU a).push (UInt8.ofNat ((n.toNat:Nat):Int).toNat)=aU (a++[n]):=by apply TD;simp[aU,ByteArray.push]
   rw[mU,yk,e,ih];simp
 exact d l []
theorem or128:bits BinOp.or IntKind.u8 ((m:Int)%256) 128=((m%128+128:Nat):Int):=by
 have h:=(bits_nat .u8 8 (by simp[IntKind.bits]) (λn d e=>wraps_u8 n d e) (m%256) 128 (by omega) (by omega)).2;have b:((m%256:Nat):Int)=(m:Int)%256:=by omega
 have c:((128:Nat):Int)=128:=rfl;rw[b,c]at h;rw[h];have a:∀i:Fin 256,i.val|||128=i.val%128+128:=by decide+kernel
 have:=a ⟨m%256,by omega⟩;simp only at this;rw[this];omega
theorem Tryz.infoByte:(prog.info? 5).map (λi=>(i.zero,i.size,i.bytes))=V (V (Z .u8 0),1,1):=by kernel_rfl
theorem cj:∀(f n:Nat),n<128^(f+1)->(bf n).length<=f+1
 |0,n,h=>by rw[lu (by simpa using h)];simp
 |f+1,n,h=>by
  by_cases a:n<128
  ·rw[lu a];simp
  ·rw[qV a,fN];have:=cj f (n/128) (Nat.div_lt_of_lt_mul (by rw[Nat.pow_succ,TK]at h;exact h));omega
theorem iV(j:Nat)(w:ab)(h0:j<9223372036854775808):ba prog 180 #[Z U (j:Nat)] w λe w'=>e=ay (O (aU (bf j)))/\aa n_ w w':=by
 obtain⟨N,M,r,s,t⟩:=info_parts Tryz.infoByte;have Q:QS ((bf j).length<=9):=cj 8 j (by omega);go_enter func180,ntmps180;go_wp2_with fail;go_loopw [0,3] (λz v wr=>∃(m:Nat) (c:List UInt8),m<=j/\z=Z U (m:Nat)/\Made 5 1 byteCells w wr v c/\c++bf m=bf j) (λz _ _=>(intOf z).toNat)
 case atStart=>exact⟨j,[],eb _,rfl,Made.nil (aa.refl _ _),rfl⟩
 case round=>
  obtain⟨m,c,hm,rfl,B,D⟩:=hrel;obtain⟨P,K,rfl,F,-⟩:=B.row.form;have x:QS (c.length<=9):=by have S:=Rc List.length D;have h2:=Q.o;rw[hQ]at S;show _<=_;omega
  have u:=E B;have G:=E D;have T:(m:Int)<=9223372036854775807:=by omega
  unfold maxLen at F;clear B D;by_cases p:m<128
  ·have A:QS (bf j=c++[UInt8.ofNat m]):=by show _=_;rw[<-G.o,lu p]
   have i:(UInt8.ofNat m).toNat=m:=toNat_ofNat (by omega);have y:=E i;have q:(m:Int)<128:=by omega
   clear i;generalize UInt8.ofNat m=d at*;go_wp2_with(at_builtin;go_must(refine aL _ rfl _ _ 219 rfl 5 N _ 1 1 Tryz.underlying219 M r s t rfl (J P c.length K) c.length _ rfl (u.o.row.ai (aa.alloc n_ _ _) k_) ⟨wr.heap.size,0,Y⟩ 1 1 [Z .u8 (m:Nat)] rfl rfl (br wr #[Z .u8 (m:Nat)] _) (by simp[Value.oneCell']) (by have:=x.o;unfold maxLen;omega) (by have:=x.o;omega) ?_;intro W w2 b f _ g;obtain⟨g',H,rfl⟩:=b.succ;have n:=u.o.push (a:=d) ((aa.refl _ _).al _) (by simpa[byteCells,y.o]using b) f g;have o:=n.row;simp only[hQ,fN,pa,tA]at o;have C:=Iy (l:=c++[d]) (by simpa using o);simp only[hQ,fN,pa,tA]at C;have k:=E n;clear b f g n o))
   go_ret;exact⟨by rw[A.o];rfl,k.o.keep⟩
  ·have R:=or128 (m:=m);have L:m%128+128<256:=by omega
   have A:QS ((c++[UInt8.ofNat (m%128+128)])++bf (m/128)=bf j):=by show _=_;rw[<-G.o,qV p];simp
   have i:(UInt8.ofNat (m%128+128)).toNat=m%128+128:=toNat_ofNat L;rw[<-i]at R;generalize UInt8.ofNat (m%128+128)=d at*;have q:(128:Int)<=m:=by omega
   clear L i;go_wp2_with(at_builtin;go_must(refine aL _ rfl _ _ 219 rfl 5 N _ 1 1 Tryz.underlying219 M r s t rfl (J P c.length K) c.length _ rfl (u.o.row.ai (aa.alloc n_ _ _) k_) ⟨wr.heap.size,0,Y⟩ 1 1 [Z .u8 (d.toNat:Nat)] rfl rfl (br wr #[Z .u8 (d.toNat:Nat)] _) (by simp[Value.oneCell']) (by have:=x.o;unfold maxLen;omega) (by have:=x.o;omega) ?_;intro W w2 b f _ g;have k:=E (u.o.push (a:=d) ((aa.refl _ _).al _) b f g);clear b f g))
   exact⟨⟨m/128,c++[d],by omega,by go_num,k.o,A.o⟩,by simp only[intOf];omega⟩
structure Rec where
 key:List UInt8
 value:List UInt8
 aO:Bool
def common:List UInt8->List UInt8->Nat
 |x::a,y::b=>if x=y then common a b+1 else 0
 |_,_=>0
theorem jC:∀a b:List UInt8,common a b<=a.length/\common a b<=b.length
 |[],b=>by simp[common]
 |x::a,[]=>by simp[common]
 |x::a,y::b=>by
  simp only[common];split
  ·have:=jC a b;simp;omega
  ·simp
def ky(r:Rec):List UInt8:=if r.aO then bf 0 else bf (1+r.value.length)++r.value
def oN(a:List UInt8)(r:Rec):List UInt8:=
 bf (common a r.key)++(bf (r.key.length-common a r.key)++(r.key.drop (common a r.key)++ky r))
def pQ:List UInt8->List Rec->List UInt8
 |_,[]=>[]
 |a,r::rs=>oN a r++pQ r.key rs
def qR(a:List Rec):List UInt8:=bf a.length++pQ [] a
def dW(a:List Rec):List UInt8:=qR a++bM (qR a)
def nO:Nat->List Rec->List UInt8
 |0,_=>[]
 |_+1,[]=>[]
 |f+1,r::rs=>dW ((r::rs).take 4)++nO f ((r::rs).drop 4)
def bW(a:List Rec):List UInt8:=nO a.length a
theorem rC:∀(f g:Nat) (a:List Rec),a.length<=f->a.length<=g->nO f a=nO g a
 |0,0,_,_,_=>rfl
 |0,_+1,[],_,_=>rfl
 |_+1,0,[],_,_=>rfl
 |_+1,_+1,[],_,_=>rfl
 |0,_+1,_::_,h,_=>by simp at h
 |_+1,0,_::_,_,h=>by simp at h
 |f+1,g+1,r::a,hf,hg=>by rw[nO,nO,rC f g _ (by simp at hf⊢;omega) (by simp at hg⊢;omega)]
theorem lS:bW []=[]:=rfl
theorem rD{a:List Rec}(h:¬a=[]):bW a=dW (a.take 4)++bW (a.drop 4):=by
 cases a with
 |nil=>exact absurd rfl h
 |cons r a=>
  unfold bW;rw[fN,nO,rC a.length _ _ (by simp) (eb _)]
def gg(a:Bool):List UInt8:=if a then [65,78,78,70]else [65,78,78,68]
def cS(c:Bool)(a b:Nat):List UInt8:=gg c++bf a++bf b
structure kG where
 full:Bool
 a:Nat
 b:Nat
 aW:List Rec
def BO(x:kG):List UInt8:=cS x.full x.a x.b++(bW x.aW++(bf 0++bf x.aW.length))
def cB(x:kG):List UInt8:=BO x++bM (BO x)
def Rec.ok(r:Rec):Prop:=1<=r.key.length/\r.key.length<=10/\r.value.length<=40/\(r.aO=true->r.value=[])
def kG.ok(x:kG):Prop:=x.a<34359738368/\x.b<34359738368/\x.aW.length<34359738368/\∀r∈x.aW,r.ok
structure bq where
 aG:Int
 r:an
 bK:Bool
def bq.cells(v:bq):List ax:=[Z U v.aG,O v.r.key,O v.r.value,ao v.r.aO,ao v.bK]
theorem bq.len(v:bq):v.cells.length=5:=rfl
structure iY where
 id:Int
 aI:Int
 sl:ax
 ar:List an
def iY.cells(x:iY):List ax:=[Z U x.id,Z U x.aI,x.sl]
def iY.val(x:iY):ax:=.agg #[Z U x.id,Z U x.aI,x.sl]
theorem iY.len(x:iY):x.cells.length=3:=rfl
structure ko where
 id:Int
 least:Int
 sl:ax
 uG:List Nat
 pieces:List ByteArray
def ko.cells(x:ko):List ax:=[Z U x.id,Z U x.least,x.sl]
theorem ko.len(x:ko):x.cells.length=3:=rfl
def kh(n:Int):List ax:=[Z U n]
theorem Ol(n:Int):(kh n).length=1:=rfl
structure aM where
 b:Nat
 va:ax
 all:List bq
 now:Int
 aK:Int
 vw:ax
 af:List iY
 aJ:Int
 vp:ax
 aN:List Int
 vc:ax
 aC:List ko
 aB:Int
def aM.top(R:aM):Array ax:=#[R.va,Z U R.now,Z U R.aK,R.vw,Z U R.aJ,R.vp,R.vc,Z U R.aB]
def aM.fp(R:aM):List Nat:=R.b::(R.va.ownBlock.toList++R.vw.ownBlock.toList++R.vp.ownBlock.toList++R.vc.ownBlock.toList++R.af.flatMap (λx=>x.sl.ownBlock.toList)++R.aC.flatMap (λx=>x.uG))
def bD(w:ab)(k:Nat)(e:cI):Prop:=∃a,w.heap[k]?=V (I a e (0,0))
structure aY(w:ab)(R:aM):Prop where
 top:w.heap[R.b]?=V (I R.top 40 (0,0))
 all:Row w 80 5 R.va R.all.length (R.all.flatMap bq.cells)
 af:Row w 128 3 R.vw R.af.length (R.af.flatMap iY.cells)
 ar:∀x∈R.af,fE w x.sl x.ar
 aN:Row w 3 1 R.vp R.aN.length (R.aN.flatMap kh)
 aC:Row w 193 3 R.vc R.aC.length (R.aC.flatMap ko.cells)
 pieces:∀x∈R.aC,pd x.uG w x.sl x.pieces/\∀k∈x.uG,bD w k 9
theorem bD.lt(h:bD w k e):k<w.heap.size:=by obtain⟨a,h⟩:=h;exact (lg h)
theorem bD.ai{b:ab}(h:bD w k e)(d:aa S w b)(c:¬S k):bD b k e:=by obtain⟨a,h⟩:=h;exact⟨a,(d.block k (lg h) c).trans h⟩
theorem bD.ne{e':cI}(h:bD w k e)(b:e≠e'):¬bD w k e':=by rintro⟨c,a⟩;obtain⟨d,h⟩:=h;rw[h]at a;simp only[vv,Obj.cells.injEq]at a;exact b a.2.1
theorem Row.aR{a:Nat}{c:List ax}(h:Row w e a v n c)(b:v.ownBlock=V g):bD w g e:=h.qf b
theorem aM.Ml(R:aM)(h:R.va.ownBlock=V g):g∈R.fp:=by simp[aM.fp,h]
theorem aM.Mn(R:aM)(h:R.vw.ownBlock=V g):g∈R.fp:=by simp[aM.fp,h]
theorem aM.Mm(R:aM)(h:R.vp.ownBlock=V g):g∈R.fp:=by simp[aM.fp,h]
theorem aM.Fp(R:aM)(h:R.vc.ownBlock=V g):g∈R.fp:=by simp[aM.fp,h]
theorem aM.Pz(R:aM){x:iY}(a:x∈R.af)(h:x.sl.ownBlock=V g):g∈R.fp:=by simp only[aM.fp,cT,cQ,ns];exact .inr (.inl (.inr ⟨x,a,by simp[h]⟩))
theorem aM.Mj(R:aM){x:ko}(a:x∈R.aC)(h:g∈x.uG):g∈R.fp:=by simp only[aM.fp,cT,cQ,ns];exact .inr (.inr ⟨x,a,h⟩)
theorem aY.ai{R:aM}(h:aY w R)(d:aa S w i)(c:∀k∈R.fp,¬S k):aY i R:=by
 refine⟨(d.block _ (lg h.top) (c _ (by simp[aM.fp]))).trans h.top,h.all.ai d (λg b=>c g (R.Ml b)),h.af.ai d (λg b=>c g (R.Mn b)),λx e=>Row.ai (h.ar x e) d (λg b=>c g (R.Pz e b)),
  h.aN.ai d (λg b=>c g (R.Mm b)),h.aC.ai d (λg b=>c g (R.Fp b)),λx e=>?_⟩
 obtain⟨j,f⟩:=h.pieces x e;exact⟨j.ai (λk a=>d.block k (f k a).lt (c k (R.Mj e a))),λk a=>(f k a).ai d (c k (R.Mj e a))⟩
theorem aY.lt{R:aM}(h:aY w R):∀k∈R.fp,k<w.heap.size:=by
 intro k c;simp only[aM.fp,cT,cQ,ns,Rx]at c;rcases c with rfl|((((a|a)|a)|a)|⟨x,b,a⟩)|⟨x,b,a⟩
 ·exact (lg h.top)
 ·exact h.all.lt a
 ·exact h.af.lt a
 ·exact h.aN.lt a
 ·exact h.aC.lt a
 ·exact Row.lt (h.ar x b) a
 ·exact((h.pieces x b).2 k a).lt
theorem aY.cell{R:aM}(h:aY w R)(j:Nat):w.cell? ⟨R.b,j,Y⟩=R.top[j]?:=by simp[World.cell?,h.top]
theorem aY.frozen{R:aM}(h:aY w R)(j:Nat):w.frozen? ⟨R.b,j,Y⟩=false:=by simp[World.frozen?,h.top]
theorem aY.blt{R:aM}(h:aY w R):R.b<w.heap.size:=(lg h.top)
theorem tW{l:List bq}{x:bq}(h:Row w 80 5 (J (V ⟨g,0,Y⟩) l.length c) l.length (l.flatMap bq.cells))(d:aa n_ w W)(e:l[k]?=V x):W.cell? ⟨g,k*5,Y⟩=V (Z U x.aG)/\W.cell? ⟨g,k*5+1,Y⟩=V (O x.r.key)/\W.cell? ⟨g,k*5+2,Y⟩=V (O x.r.value)/\W.cell? ⟨g,k*5+3,Y⟩=V (ao x.r.aO)/\W.cell? ⟨g,k*5+4,Y⟩=V (ao x.bK):=by obtain⟨b,rfl⟩:=ej.1 e;have a:=h.ai d k_;exact⟨Row.elem bq.len a k b 0 (by omega),Row.elem bq.len a k b 1 (by omega),Row.elem bq.len a k b 2 (by omega),Row.elem bq.len a k b 3 (by omega),Row.elem bq.len a k b 4 (by omega)⟩
theorem pX{a:Nat}{l:List iY}{x:iY}(h:Row w 128 3 (J (V ⟨g,0,Y⟩) l.length a) l.length (l.flatMap iY.cells))(d:aa n_ w W)(e:l[k]?=V x):W.cell? ⟨g,k*3,Y⟩=V (Z U x.id)/\W.cell? ⟨g,k*3+1,Y⟩=V (Z U x.aI)/\W.cell? ⟨g,k*3+2,Y⟩=V x.sl:=by obtain⟨c,rfl⟩:=ej.1 e;have b:=h.ai d k_;exact⟨Row.elem iY.len b k c 0 (by omega),Row.elem iY.len b k c 1 (by omega),Row.elem iY.len b k c 2 (by omega)⟩
def fc(l:List iY)(a:Int):Option Nat:=l.findIdx? (λx=>decide (x.id=a))
def rZ:Option Nat->Int
 |some k=>k
 |none=>-1
theorem lk{l:List iY}{a:Int}(h:fc l a=V k):∃x,l[k]?=V x/\x.id=a:=by unfold fc at h;rw[Sh]at h;obtain⟨c,b,_⟩:=h;exact⟨l[k],ec c,RC b⟩
theorem fj(R:aM)(a:Int)(w:ab)(h:aY w R)(G:R.af.length<1000000000000):ba prog 68 #[X (V ⟨R.b,0,Y⟩),Z U a] w λe K=>e=ay (Z U (rZ (fc R.af a)))/\K=w:=by
 obtain⟨H,D,f,A,B⟩:=h.af.form;have C:w.cell? ⟨R.b,3,Y⟩=V (J H R.af.length D):=(h.cell 3).trans (by rw[<-f];rfl);have q:=E h.af;rw[f]at q;have z:=E B;unfold maxLen at A;obtain⟨l,n⟩:∃l,l=R.af:=⟨_,rfl⟩
 rw[<-n]at C q z A G⊢;clear h f n B;go_enter func68,ntmps68;go_wp2_with fail;go_loop [5] (λi=>∃k:Nat,k<=l.length/\i=Z U k/\fc (l.take k) a=Y) (λi=>l.length-(intOf i).toNat)
 case atStart=>exact⟨0,eL _,rfl,rfl⟩
 case round=>
  obtain⟨k,P,rfl,d⟩:=hrel;by_cases u:k<l.length
  ·obtain⟨g,rfl⟩:=z.o (by omega);obtain⟨x,v⟩:∃x,l[k]?=V x:=⟨l[k],ec u⟩
   obtain⟨L,M,N⟩:=pX q.o (aa.refl _ _) v;have p:l.take (k+1)=l.take k++[x]:=by obtain⟨t,rfl⟩:=ej.1 v;exact eu t
   have m:fc (l.take (k+1)) a=if x.id=a then V k else Y:=by
    unfold fc at d⊢;rw[p,List.findIdx?_append,d];have o:min k l.length=k:=by omega
    by_cases e:x.id=a<;>simp[e,js,o]
   have y:=E d;have c:=E m;clear d m p v;by_cases e:x.id=a
   ·have b:QS (fc l a=V k):=by
     show _=_;have r:=c.o;rw[fy e]at r;have F:fc l a=fc (l.take (k+1)++l.drop (k+1)) a:=by rw[RJ]
     rw[F];unfold fc at r⊢;rw[List.findIdx?_append,r];rfl
    have s:(x.id==a)=true:=TS.2 e;clear e y c;go_wp2;go_ret;exact⟨fV (by rw[b.o];rfl),rfl⟩
   ·have s:(x.id==a)=false:=mK.2 e;have j:QS (fc (l.take (k+1)) a=Y):=by show _=_;rw[c.o,el e]
    clear e y c;go_wp2;exact⟨⟨k+1,by omega,by go_num,j.o⟩,by simp only[intOf];omega⟩
  ·have b:QS (fc l a=Y):=by show _=_;rw[ep (by omega)]at d;exact d
   clear d;go_wp2;go_ret;exact⟨fV (by rw[b.o];rfl),rfl⟩
def cV(l:List an)(a:ByteArray):Option an:=l.find? (λx=>decide (x.key=a))
theorem rX(v:ax)(l:List an)(a:ByteArray)(w:ab)(h:fE w v l)(D:l.length<1000000000000):ba prog 70 #[v,O a] w λe H=>e=ay (bt #[((cV l a).getD an.zero).val,ao (cV l a).isSome])/\aa n_ w H:=by
 obtain⟨Q,N,rfl,F,s⟩:=Row.form h;have y:=E h;have z:=E s;have K:=E D;unfold maxLen at F;clear h s;go_enter func70,ntmps70;go_wp2_with fail;go_loop [6] (λi=>∃k:Nat,k<=l.length/\i=Z U k/\cV (l.take k) a=Y) (λi=>l.length-(intOf i).toNat)
 case atStart=>exact⟨0,eL _,rfl,rfl⟩
 case round=>
  obtain⟨k,P,rfl,f⟩:=hrel;by_cases q:k<l.length
  ·obtain⟨g,rfl⟩:=z.o (by omega);obtain⟨x,r⟩:∃x,l[k]?=V x:=⟨l[k],ec q⟩
   obtain⟨A,L,M⟩:=ot y.o (aa.refl _ _) r;have n:l.take (k+1)=l.take k++[x]:=by obtain⟨p,rfl⟩:=ej.1 r;exact eu p
   have m:cV (l.take (k+1)) a=if x.key=a then V x else Y:=by unfold cV at f⊢;rw[n,TQ,f];by_cases e:x.key=a<;>simp[e]
   have c:=E m;have C:g<w.heap.size:=World.block_lt_of_cell? _ _ A;clear f m n r;obtain⟨d,u,t⟩:=x;by_cases e:d=a
   ·subst e;have b:QS (cV l d=V ⟨d,u,t⟩):=by
     show _=_;have o:=c.o;rw[fy rfl]at o;have B:cV l d=cV (l.take (k+1)++l.drop (k+1)) d:=by rw[RJ]
     rw[B];unfold cV at o⊢;rw[TQ,o];rfl
    clear c;go_wp2;exact bodyPost_ret (v:=bt #[.agg #[O d,O u,ao t],ao true]) (by simp[results,Tryz.results70,go_sem]) rfl ⟨by rw[b.o];rfl,aa.alloc _ _ _⟩
   ·have G:(d.toList==a.toList)=false:=(Lib.bytes_beq_false_iff _ _).2 e;have j:QS (cV (l.take (k+1)) a=Y):=by show _=_;rw[c.o,el e]
    clear e c;go_wp2;exact⟨⟨k+1,by omega,by go_num,j.o⟩,by simp only[intOf];omega⟩
  ·have b:QS (cV l a=Y):=by show _=_;rw[ep (by omega)]at f;exact f
   clear f;go_wp2;exact bodyPost_ret (v:=bt #[an.zero.val,ao false]) (by simp[results,Tryz.results70,go_sem,an.val,an.zero];rfl) rfl ⟨by rw[b.o];rfl,aa.alloc _ _ _⟩
theorem jd:∀{a b:List ByteArray},bh a->bh b->(∀k,k∈a↔k∈b)->a=b
 |[],[],_,_,_=>rfl
 |[],y::b,_,_,h=>by have:=(h y).2 (by simp);cases this
 |x::a,[],_,_,h=>by have:=(h x).1 (by simp);cases this
 |x::a,y::b,hx,hy,h=>by
  obtain⟨g,j⟩:=fS hx;obtain⟨i,m⟩:=fS hy;have e:x=y:=by
   rcases cT.1 ((h x).1 (by simp))with e|c
   ·exact e
   ·rcases cT.1 ((h y).2 (by simp))with e|n
    ·exact e.symm
    ·have:=eO (i x c) (g y n);rw[bw]at this;cases this
  subst e;have f:∀l:List ByteArray,(∀z∈l,de x z=true)->x∉l:=λl o p=>by have:=o x p;rw[bw]at this;cases this
  congr 1;refine jd j m (λk=>⟨λd=>?_,λd=>?_⟩)
  ·rcases cT.1 ((h k).1 (ef _ d))with e|c
   ·exact absurd (e▸d) (f a g)
   ·exact c
  ·rcases cT.1 ((h k).2 (ef _ d))with e|c
   ·exact absurd (e▸d) (f b i)
   ·exact c
theorem filterMap_some{β:Type}(f:ByteArray->Option β):∀a:List ByteArray,(a.filter (λk=>(f k).isSome)).filterMap f=a.filterMap f
 |[]=>rfl
 |x::a=>by
  cases h:f x with
  |none=>simp[h,filterMap_some f a]
  |some y=>simp[h,filterMap_some f a]
theorem oI{β:Type}{f:ByteArray->Option β}{a b:List ByteArray}(e:bh a)(g:bh b)(c:∀k,(f k).isSome=true->k∈a)(d:∀k,(f k).isSome=true->k∈b):a.filterMap f=b.filterMap f:=by rw[<-filterMap_some f a,<-filterMap_some f b];congr 1;refine jd (e.sublist qs) (g.sublist qs) (λk=>?_);simp only[kB];exact⟨λh=>⟨d k h.2,h.2⟩,λh=>⟨c k h.2,h.2⟩⟩
def K12s:List ByteArray:=[uK 0,uK 3,uK 1,uK 4,uK 7,uK 10,uK 2,uK 5,uK 8,uK 11,uK 6,uK 9]
def rr.scan(A:rr)(a:Int)(b:List (ByteArray×bF)):List (ByteArray×ByteArray):=K12s.filterMap (gA b A.aE a)
def cO(a:List bF)(t:Int):Nat:=
 match cX a t with
 |some v=>if v.aO=true then lN a t else lN a t-1
 |none=>0
theorem AL(z:ax)(a:List bF)(t:Int)(w:ab)(h:Row w 144 3 z a.length (a.flatMap bF.cells))(i:dP a)(x:a.length<=1000000000000):ba prog 138 #[z,Z U t] w λe D=>e=ay (Z U (cO a t:Nat))/\aa n_ w D:=by
 have b:=ri a t;rcases h.shape with⟨rfl,y⟩|⟨g,q,rfl,B,C⟩
 ·have e:a=[]:=hU y;subst e;have d:=E (DP t w);have e:cO [] t=0:=by simp[cO,cX,lN]
  rw[e];clear h i x b y e;go_enter func138,ntmps138;go_wp2_with(go_at_call 172;go_must(refine(d.o).mono ?_;rintro e v ⟨rfl,c⟩))
  go_ret;exact⟨rfl,c⟩
 ·have d:=E (zT g q a t w h i x);by_cases f:lN a t=0
  ·have e:cO a t=0:=by simp[cO,cX,f]
   rw[e];rw[f]at d;clear h i b f e;go_enter func138,ntmps138;go_wp2_with(go_at_call 172;go_must(refine(d.o).mono ?_;rintro e v ⟨rfl,c⟩))
   go_ret;exact⟨rfl,c⟩
  ·obtain⟨u,j⟩:∃u,lN a t=u+1:=⟨lN a t-1,by omega⟩
   have k:u<a.length:=by omega
   have r:cX a t=V a[u]:=by unfold cX;rw[el f,j];simp[k]
   have m:=h.eW u k;have s:cO a t=if a[u].aO=true then u+1 else u:=by unfold cO;rw[r];simp only[j,Rn]
   rw[s];rw[j]at d;have l:((u+1:Nat):Int)=(u:Int)+1:=by omega
   rw[l]at d;cases hg:a[u].aO with
   |true=>
    rw[hg]at m;obtain⟨n,o,p⟩:=m;simp only[Rz,l];clear i b f r s hg j h n o l;go_enter func138,ntmps138;go_wp2_with(go_at_call 172;go_must(refine(d.o).mono ?_;rintro e v ⟨rfl,c⟩;have A:=c.cell p id))
    go_ret;exact⟨rfl,c⟩
   |false=>
    rw[hg]at m;obtain⟨n,o,p⟩:=m;simp only[vg,RL];clear i b f r s hg j h n o l;go_enter func138,ntmps138;go_wp2_with(go_at_call 172;go_must(refine(d.o).mono ?_;rintro e v ⟨rfl,c⟩;have A:=c.cell p id))
    go_ret;exact⟨fV (by omega),c⟩
end Go.Proofs.YtjbkfdeldlajhaaGreatDoor
