import Derived.Test.YtjbkfdeldlajhaaGreatDoorM17
import Derived.Shelf.Strings.BuilderK
import Derived.RegionIn
set_option linter.unusedSimpArgs false
namespace Go.Proofs.YtjbkfdeldlajhaaGreatDoor
set_option maxRecDepth 100000
set_option maxHeartbeats 2000000
open Go.RowKit Go.Shelf Go.Proofs.Tryz
open Option renaming none->Y,some->V
open Go.Value renaming string->O,bool->ao,int->Z,pointer->X,slice->J
open Go renaming World->ab,Calls->ba,Value->ax,TypeId->cI
open Go.Ending renaming returned->ay
open Go.IntKind renaming i64->U
open Go.Obj renaming cells->I
variable{w b:ab}{k:Nat}{a:Bool}{t:cI}
def an.bS(r:an):Rec:=⟨r.key.data.toList,r.value.data.toList,r.aO⟩
theorem extract_drop(s:ByteArray)(c:Nat):s.extract c s.size=aU (s.data.toList.drop c):=by apply TD;simp only[ByteArray.data_extract,aU];apply Array.ext';simp only[Array.toList_extract,List.extract_eq_take_drop];exact ep (by simp)
theorem iJ(n:Nat)(h:n<9223372036854775808):(aU (bf n)).size<=9:=by rw[bn];exact cj 8 n (by omega)
theorem CZ(b d a:ByteArray)(w:ab)(H:b.size<=1000)(G:a.size<=1000):ba prog 183 #[.agg #[O b,O d,ao true],O a] w λe F=>e=ay (O (aU (oN a.data.toList ⟨b.data.toList,d.data.toList,true⟩)))/\aa n_ w F:=by
 have t:=E (λW=>sd a b W (by unfold maxLen;omega));obtain⟨c,j⟩:∃c,c=common a.data.toList b.data.toList:=⟨_,rfl⟩
 have z:c<=b.size:=by rw[j];have:=(jC a.data.toList b.data.toList).2;simpa using this
 rw[<-j]at t;have u:QS (aU (oN a.data.toList ⟨b.data.toList,d.data.toList,true⟩)=((aU (bf c)++aU (bf (b.size-c)))++aU (b.data.toList.drop c))++aU (bf 0)):=by show _=_;rw[bz,bz,bz];unfold oN ky;simp[j]
 have K:=extract_drop b c;have g:(aU (b.data.toList.drop c)).size=b.size-c:=by rw[bn];simp
 rw[<-g]at u;generalize aU (b.data.toList.drop c)=more at*;have i:=E (λ(n:Nat) (h:n<9223372036854775808) W=>iV n W h);have T:=iJ c (by omega);have z2:=iJ more.size (by omega);have z3:=iJ 0 (by omega);have k:=E (i.o c (by omega));have l:=E (i.o more.size (by omega));have m:=E (i.o 0 (by omega));generalize aU (bf c)=t1 at*;generalize aU (bf more.size)=t2 at*;generalize aU (bf 0)=t3 at*;have A:more.size<=1000:=by omega
 clear j i g;go_enter func183,ntmps183;go_wp2_with fail;refine(t.o _).mono ?_;rintro e P ⟨rfl,s⟩;obtain⟨B,C,D,-⟩:=bQ (bO s id);have o:=E s;clear s;go_wp2_with fail;refine(k.o _).mono ?_;rintro e Q ⟨rfl,v⟩;have p:=E (o.o.tr v i_);clear v;go_wp2_with fail;refine(l.o _).mono ?_;rintro e R ⟨rfl,x⟩;have f:=p.o.tr x i_;obtain⟨L,M,N,-⟩:=bQ (bO f id);have q:=E f;clear x f B C D;go_wp2_with fail;refine(m.o _).mono ?_;rintro e S ⟨rfl,y⟩;have r:=E (q.o.tr y i_);clear y;go_wp2;go_ret;exact⟨by rw[u.o];rfl,(((aa.refl _ _).al _).tr r.o i_)⟩
theorem FN(d a b:ByteArray)(w:ab)(Q:d.size<=1000)(P:b.size<=1000)(R:a.size<=1000):ba prog 183 #[.agg #[O d,O a,ao false],O b] w λe N=>e=ay (O (aU (oN b.data.toList ⟨d.data.toList,a.data.toList,false⟩)))/\aa n_ w N:=by
 have y:=E (λW=>sd b d W (by unfold maxLen;omega));obtain⟨c,m⟩:∃c,c=common b.data.toList d.data.toList:=⟨_,rfl⟩
 have D:c<=d.size:=by rw[m];have:=(jC b.data.toList d.data.toList).2;simpa using this
 rw[<-m]at y;have q:QS (aU (oN b.data.toList ⟨d.data.toList,a.data.toList,false⟩)=(((aU (bf c)++aU (bf (d.size-c)))++aU (d.data.toList.drop c))++aU (bf (1+a.size)))++a):=by
  show _=_;conv=>rhs;rw[<-pO a,bz,bz,bz,bz]
  unfold oN ky;simp[m,bn]
 have S:=extract_drop d c;have k:(aU (d.data.toList.drop c)).size=d.size-c:=by rw[bn];simp
 rw[<-k]at q;generalize aU (d.data.toList.drop c)=more at*;have l:=E (λ(n:Nat) (h:n<9223372036854775808) W=>iV n W h);have z1:=iJ c (by omega);have z2:=iJ more.size (by omega);have z3:=iJ (1+a.size) (by omega);have o:=E (l.o c (by omega));have p:=E (l.o more.size (by omega));have j:=E (l.o (1+a.size) (by omega));generalize aU (bf c)=t1 at*;generalize aU (bf more.size)=t2 at*;generalize aU (bf (1+a.size))=t3 at*;have F:more.size<=1000:=by omega
 clear m l k;go_enter func183,ntmps183;go_wp2_with fail;refine(y.o _).mono ?_;rintro e w1 ⟨rfl,x⟩;obtain⟨K,L,M,-⟩:=bQ (bO x id);have r:=E x;clear x;go_wp2_with fail;refine(o.o _).mono ?_;rintro e w2 ⟨rfl,z⟩;have s:=E (r.o.tr z i_);clear z;go_wp2_with fail;refine(p.o _).mono ?_;rintro e w3 ⟨rfl,A⟩;have g:=s.o.tr A i_;obtain⟨T,p1,p2,-⟩:=bQ (bO g id);have t:=E g;clear A g K L M;have f:IntKind.i64.wrap (1+(a.size:Int))=((1+a.size:Nat):Int):=by rw[IntKind.wrap_i64];omega
 rw[<-f]at j;clear f;go_wp2_with fail;obtain⟨a0,v⟩:∃a0,a0=t1++t2++more:=⟨_,rfl⟩
 have C:a0.size<=1018:=by rw[v];simp only[nW];omega
 rw[<-v]at q⊢;have G:∀W,(Op.stringOp .add a0 t3).run prog W=.ok (O (a0++t3)) W:=λW=>run_string_add_sum W a0 t3 (by omega);have H:∀W,(Op.stringOp .add (a0++t3) a).run prog W=.ok (O (a0++t3++a)) W:=λW=>run_string_add_sum W _ _ (by simp only[nW];omega);clear v;go_region_held3(λW=>W.cell? ⟨w.heap.size,1,Y⟩=V (O a)) (go_keep) (first|(go_at_call 180;refine(j.o _).mono ?_;rintro e w4 ⟨rfl,B⟩;have i:=(t.o.dr).tr B i_;obtain⟨r0,r1,r2,-⟩:=bQ (bO i id);have u:=E i;clear B i));go_wp2;go_ret;exact⟨by rw[q.o];rfl,(((aa.refl _ _).al _).tr u.o i_)⟩
theorem FM(r:an)(a:ByteArray)(w:ab)(g:r.key.size<=1000)(f:a.size<=1000)(h:r.value.size<=1000):ba prog 183 #[r.val,O a] w λe i=>e=ay (O (aU (oN a.data.toList r.bS)))/\aa n_ w i:=by
 obtain⟨d,b,c⟩:=r;cases c with
 |true=>exact CZ d b a w g f
 |false=>exact FN d b a w g f h
theorem cM.ai{a:ab}{S:Nat->Prop}(h:cM w)(d:aa S w a)(b:¬S 8):cM a:=λi c=>d.cell (h i c) b
theorem zf(a:Bool):(aU (gg a)).size=4:=by cases a<;>rfl
theorem Cs(i o:Nat)(x:Array ax)(t:cI)(c:Bool)(a b g:Nat)(w:ab)(r:w.heap[i]?=V (I x t (0,0)))(A:x[o]?=V (Z .u32 (g:Nat)))(D:g<4294967296)(z:a<9223372036854775808)(k:b<9223372036854775808)(F:cM w):ba prog 144 #[X (V ⟨i,o,Y⟩),ao c,Z U (a:Nat),Z U (b:Nat)] w λe G=>e=ay (O (aU (cS c a b)))/\G.heap[i]?=V (I (x.setIfInBounds o (Z .u32 (lz g (cS c a b):Nat))) t (0,0))/\aa (·=i) w G:=by
 have K:w.cell? ⟨i,o,Y⟩=V (Z .u32 (g:Nat)):=(ae r o).trans A;have H:=E r;have v:QS (∀W,aa n_ w W->W.heap[i]?=V (I x t (0,0))):=λW m=>(m.block i (lg r) id).trans r;have n:QS (∀W,aa n_ w W->W.cell? ⟨i,o,Y⟩=V (Z .u32 (g:Nat))/\W.frozen? ⟨i,o,Y⟩=false):=λW m=>⟨(ae (v.o W m) o).trans A,aj (v.o W m) o⟩;have l:=zf c;have Q:=iJ a z;have R:=iJ b k;have p:=E (λW=>iV a W z);have q:=E (λW=>iV b W k);have y:QS (aU (cS c a b)=aU (gg c)++aU (bf a)++aU (bf b)):=by show _=_;rw[bz,bz];rfl
 have N:(cS c a b).length<=100:=by have:=Rc ByteArray.size y.o;rw[bn]at this;simp only[nW]at this;omega
 have f:=E (λW (m:aa n_ w W)=>jN g (aU (cS c a b)) W D (by rw[bn];unfold maxLen;omega) (F.ai m id));rw[iK]at f;generalize lz g (cS c a b)=sm at*;have C:QS (aU (gg c)=if c=true then({data:=#[65,78,78,70]}:ByteArray)else{data:=#[65,78,78,68]}):=by show _=_;cases c<;>rfl
 rw[y.o]at f⊢;rw[C.o]at l f⊢;generalize aU (bf a)=t1 at*;generalize aU (bf b)=t2 at*;clear r F D z k N C y A K;cases c with
 |true=>
  simp only[Rz]at l f⊢;go_enter func144,ntmps144;go_wp2_with fail;refine(p.o _).mono ?_;rintro e P ⟨rfl,s⟩;have j:=E s;clear s;go_wp2_with fail;refine(q.o _).mono ?_;rintro e B ⟨rfl,u⟩;have d:=E (j.o.tr u i_);obtain⟨L,M⟩:=n.o _ d.o;clear u;go_wp2_with fail;refine(f.o _ d.o).mono ?_;rintro e B ⟨rfl,rfl⟩;go_wp2;go_ret;exact⟨rfl,ak (v.o _ d.o) _,(d.o.mono (T:=(·=i)) (λ_ _ h=>h.elim)).tr (aa.setCell _ _ _) i_⟩
 |false=>
  simp only[vg,RL]at l f⊢;go_enter func144,ntmps144;go_wp2_with fail;refine(p.o _).mono ?_;rintro e P ⟨rfl,s⟩;have j:=E s;clear s;go_wp2_with fail;refine(q.o _).mono ?_;rintro e B ⟨rfl,u⟩;have d:=E (j.o.tr u i_);obtain⟨L,M⟩:=n.o _ d.o;clear u;go_wp2_with fail;refine(f.o _ d.o).mono ?_;rintro e B ⟨rfl,rfl⟩;go_wp2;go_ret;exact⟨rfl,ak (v.o _ d.o) _,(d.o.mono (T:=(·=i)) (λ_ _ h=>h.elim)).tr (aa.setCell _ _ _) i_⟩
def iO(b a:Nat):List UInt8:=(bf 0++bf a)++tR (lz b (bf 0++bf a))
theorem DD(g o:Nat)(l:Array ax)(t:cI)(b a:Nat)(w:ab)(s:w.heap[g]?=V (I l t (0,0)))(y:l[o]?=V (Z .u32 (b:Nat)))(k:l[o+1]?=V (Z U (a:Nat)))(z:b<4294967296)(u:a<9223372036854775808)(A:cM w):ba prog 147 #[X (V ⟨g,o,Y⟩)] w λe M=>e=ay (O (aU (iO b a)))/\aa n_ w M:=by
 have v:QS (∀W,aa n_ w W->W.heap[g]?=V (I l t (0,0))):=λW i=>(i.block g (lg s) id).trans s;have c:QS (∀W,aa n_ w W->W.cell? ⟨g,o,Y⟩=V (Z .u32 (b:Nat))/\W.cell? ⟨g,o+1,Y⟩=V (Z U (a:Nat))):=λW i=>⟨(ae (v.o W i) o).trans y,(ae (v.o W i) (o+1)).trans k⟩;obtain⟨F,G⟩:=c.o w (aa.refl _ _);have z1:=iJ 0 (by omega);have z2:=iJ a u;have p:=E (λW=>iV 0 W (by omega));have q:=E (λW=>iV a W u);have r:aU (bf 0++bf a)=aU (bf 0)++aU (bf a):=(bz _ _).symm;have L:(aU (bf 0++bf a)).size<=18:=by rw[r];simp only[nW];omega
 have j:=E (λW (i:aa n_ w W)=>jN b (aU (bf 0++bf a)) W z (by unfold maxLen;omega) (A.ai i id));rw[iK]at j;have m:=E (λW=>px (lz b (bf 0++bf a)) W (tG _ _));have z3:(aU (tR (lz b (bf 0++bf a)))).size=4:=by rw[bn];rfl
 have x:QS (aU (iO b a)=aU (bf 0++bf a)++aU (tR (lz b (bf 0++bf a)))):=(bz _ _).symm;rw[x.o];generalize lz b (bf 0++bf a)=sm at*;generalize aU (tR sm)=t4 at*;generalize aU (bf 0++bf a)=t3 at*;generalize aU (bf 0)=t1 at*;generalize aU (bf a)=t2 at*;have K:∀W,(Op.stringOp .add t1 t2).run prog W=.ok (O t3) W:=λW=>by rw[r];exact run_string_add_sum W _ _ (by omega)
 clear s A z u y k x r;go_enter func147,ntmps147;go_wp2_with fail;go_region_held3(λW=>W.cell? ⟨g,o+1,Y⟩=V (Z U (a:Nat))) (go_keep) (first
  |(go_at_call 180;have H:=d.o;clear H;refine(q.o _).mono ?_;rintro e N ⟨rfl,C⟩;have f:=E (d.o.tr C i_);obtain⟨R,S⟩:=c.o _ f.o;clear C)
  |(go_at_call 180;refine(p.o _).mono ?_;rintro e T ⟨rfl,B⟩;have d:=E ((aa.drew n_ _).tr B i_);obtain⟨P,Q⟩:=c.o _ d.o;clear B))
 clear F G;go_wp2_with fail;refine(j.o _ f.o).mono ?_;rintro e N ⟨rfl,rfl⟩;go_wp2_with fail;refine(m.o _).mono ?_;rintro e w3 ⟨rfl,D⟩;have n:=E (f.o.tr D i_);clear D;go_wp2;go_ret;exact⟨rfl,n.o⟩
def cG(w:ab)(b:Option Addr)(l:List an):Prop:=∀i (h:i<l.length),∃g a,b=V ⟨g,a,Y⟩/\w.cell? ⟨g,a+i*3,Y⟩=V (O l[i].key)/\w.cell? ⟨g,a+i*3+1,Y⟩=V (O l[i].value)/\w.cell? ⟨g,a+i*3+2,Y⟩=V (ao l[i].aO)
theorem cG.ai{d:ab}{c:Option Addr}{l:List an}(h:cG w c l)(a:aa n_ w d):cG d c l:=λi m=>by obtain⟨g,b,e,f,j,k⟩:=h i m;exact⟨g,b,e,a.cell f id,a.cell j id,a.cell k id⟩
def wI(a:List UInt8)(l:List Rec):List UInt8:=(l.getLast?.map Rec.key).getD a
theorem xj:∀(l:List Rec) (a:List UInt8) (r:Rec),pQ a (l++[r])=pQ a l++oN (wI a l) r
 |[],a,r=>by simp[pQ,wI]
 |x::l,a,r=>by
  have ih:=xj l x.key r;have e:wI a (x::l)=wI x.key l:=by unfold wI;rw[List.getLast?_cons];cases l.getLast?<;>rfl
  rw[e,tI,pQ,pQ,ih,mE]
def bL(l:List an)(k:Nat):ByteArray:=((l.take k).getLast?.map an.key).getD ⟨#[]⟩
theorem Eh(l:List an)(k:Nat):(bL l k).data.toList=wI [] ((l.take k).map an.bS):=by unfold bL wI;rw[TM];cases(l.take k).getLast?<;>rfl
theorem jy{l:List an}(a:k<l.length):bL l (k+1)=l[k].key:=by unfold bL;rw[eu a,SE];rfl
theorem CX(a:List UInt8)(r:Rec)(c:r.key.length<=1000)(d:r.value.length<=1000):(oN a r).length<=2027:=by
 have b:=(jC a r.key).2;have e:=cj 8 (common a r.key) (by omega);have f:=cj 8 (r.key.length-common a r.key) (by omega);have g:=cj 8 (1+r.value.length) (by omega);have h:=cj 8 0 (by omega);unfold oN ky;split
 ·simp only[hQ,mR];omega
 ·simp only[hQ,mR];omega
def dN(l:List an)(k:Nat):List UInt8:=bf l.length++pQ [] ((l.take k).map an.bS)
theorem qW{l:List an}(a:k<l.length):dN l (k+1)=dN l k++oN (bL l k).data.toList l[k].bS:=by unfold dN;rw[eu a,xT,mU,RY,xj,Eh,mE]
def Small(l:List an):Prop:=∀r∈l,r.key.size<=1000/\r.value.size<=1000
theorem nk{l:List an}(a:Small l)(d:l.length<=1000):∀k,k<=l.length->(dN l k).length<=9+k*2027
 |0,_=>by unfold dN;have:=cj 8 l.length (by omega);simpa[pQ]using this
 |k+1,hk=>by rw[qW (by omega),hQ];have ih:=nk a d k (by omega);obtain⟨b,c⟩:=a l[k] (nE (by omega));have:=CX (bL l k).data.toList l[k].bS (by simpa[an.bS]using b) (by simpa[an.bS]using c);omega
theorem Bw{l:List an}(a:Small l)(k:Nat):(bL l k).size<=1000:=by
 unfold bL;cases h:(l.take k).getLast? with
 |none=>exact eL _
 |some x=>exact(a x ((List.take_sublist k l).subset (SF h))).1
theorem yR(d o:Nat)(x:Array ax)(t:cI)(f b:Nat)(oa:Option Addr)(S:Nat)(l:List an)(w:ab)(hb:w.heap[d]?=V (I x t (0,0)))(ho:x[o]?=V (Z .u32 (f:Nat)))(D:x[o+1]?=V (Z U (b:Nat)))(hs:f<4294967296)(hc:b<1000000000000000)(hl:l.length<=1000)(hr:cG w oa l)(c:Small l)(ht:cM w):ba prog 146 #[X (V ⟨d,o,Y⟩),J oa l.length S] w λe w'=>e=ay (O (aU (dW (l.map an.bS))))/\w'.heap[d]?=V (I ((x.setIfInBounds o (Z .u32 (lz f (dW (l.map an.bS)):Nat))).setIfInBounds (o+1) (Z U ((b+l.length:Nat):Int))) t (0,0))/\aa (·=d) w w':=by
 have HF:QS (∀W,aa n_ w W->W.heap[d]?=V (I x t (0,0))):=λW C=>(C.block d (lg hb) id).trans hb;have HR:=E hr;have R:=E c;have HT:=E ht;have N:=E (λW=>iV l.length W (by omega));have HP:=E (nk c hl);have H:=E (Bw c);have HL:=E hl;have HE:QS (dW (l.map an.bS)=dN l l.length++bM (dN l l.length)):=by show _=_;unfold dW qR dN;rw[RG,hO]
 have h0:aU (bf l.length)=aU (dN l 0):=by unfold dN;simp[pQ]
 rw[h0]at N;have HO:=E (And.intro ho D);have HS:=E hs;have L:=E hc;have a2:(l.length:Int)<=1000:=by omega
 clear hb ht hr c h0 ho D hl hs hc;go_enter func146,ntmps146;go_wp2_with fail;refine(N.o _).mono ?_;rintro e w1 ⟨rfl,k1⟩;have M:=E k1;clear k1 N;go_wp2_with fail;go_loopw [5,6,14] (λp a i wr=>∃k:Nat,k<=l.length/\i=Z U k/\p=O (aU (dN l k))/\a=O (bL l k)/\aa n_ w wr) (λ_ _ i _=>l.length-(intOf i).toNat)
 case atStart=>exact⟨0,eL _,rfl,rfl,rfl,M.o⟩
 case round=>
  obtain⟨k,hk,rfl,rfl,rfl,m⟩:=hrel;have a3:(aU (dN l k)).size<=3000000:=by rw[bn];have:=HP.o k hk;have:=HL.o;omega
  by_cases q:k<l.length
  ·obtain⟨g,a5,rfl,r0,r1,r2⟩:=HR.o.ai m k q;obtain⟨m1,m2⟩:=R.o l[k] (nE q);have r:=E (λW=>FM l[k] (bL l k) W m1 (H.o k) m2);have a4:(aU (oN (bL l k).data.toList l[k].bS)).size<=2027:=by rw[bn];exact CX _ _ (by simpa[an.bS]using m1) (by simpa[an.bS]using m2)
   have Q:QS (aU (dN l (k+1))=aU (dN l k)++aU (oN (bL l k).data.toList l[k].bS)):=by show _=_;rw[bz,qW q]
   have P:=E (jy q);unfold an.val at r;generalize aU (oN (bL l k).data.toList l[k].bS)=rt at*;generalize bL l k=ah at*;generalize aU (dN l k)=pt at*;generalize l[k].key=rk at*;generalize l[k].value=rv at*;generalize l[k].aO=rg at*;have n:=E m;clear m m1 m2;go_wp2_with fail;refine(r.o _).mono ?_;rintro e v ⟨rfl,y⟩;obtain⟨q0,q1,q2,-⟩:=bQ (bO y id);have j:=E ((n.o.al _).tr y i_);clear y;go_wp2;exact⟨⟨k+1,by omega,by go_num,by rw[Q.o],by rw[P.o],j.o⟩,by simp only[intOf];omega⟩
  ·have e:k=l.length:=by omega
   subst e;have n:=E m;have A:=E (λW (C:aa n_ w W)=>lT (aU (dN l l.length)) W (by unfold maxLen;omega) (HT.o.ai C id));rw[iK]at A;have a1:(aU (bM (dN l l.length))).size=4:=by rw[bn];rfl
   have s:QS (aU (dW (l.map an.bS))=aU (dN l l.length)++aU (bM (dN l l.length))):=by show _=_;rw[HE.o,bz]
   have u:=E (λW (C:aa n_ w W)=>jN f (aU (dW (l.map an.bS))) W HS.o (by rw[s.o,nW];unfold maxLen;omega) (HT.o.ai C id));rw[iK,s.o]at u;obtain⟨z,c⟩:∃z,z=lz f (dW (l.map an.bS)):=⟨_,rfl⟩
   rw[<-c]at u;have B:=E c;clear c;generalize aU (bM (dN l l.length))=ct at*;generalize aU (dN l l.length)=pt at*;clear m;go_wp2_with fail;refine(A.o _ n.o).mono ?_;rintro e v ⟨rfl,y⟩;have j:=E (n.o.tr y i_);have F:=HF.o _ j.o;have x0:v.cell? ⟨d,o,Y⟩=V (Z .u32 (f:Nat)):=(ae F o).trans HO.o.1;have f0:v.frozen? ⟨d,o,Y⟩=false:=aj F o;have G:(v.setCell ⟨d,o,Y⟩ (Z .u32 (z:Nat))).heap[d]?=V (I (x.setIfInBounds o (Z .u32 (z:Nat))) t (0,0)):=ak F _;have x1:(v.setCell ⟨d,o,Y⟩ (Z .u32 (z:Nat))).cell? ⟨d,o+1,Y⟩=V (Z U (b:Nat)):=by rw[ae G,Ti,el (by omega)];exact HO.o.2
   have f1:(v.setCell ⟨d,o,Y⟩ (Z .u32 (z:Nat))).frozen? ⟨d,o+1,Y⟩=false:=aj G _;have K:=E G;have a0:(b:Int)<1000000000000000:=by have:=L.o;omega
   clear y F G;go_wp2_with fail;refine(u.o _ j.o).mono ?_;rintro e v ⟨rfl,rfl⟩;go_wp2;go_ret;refine⟨by rw[s.o];rfl,?_,?_⟩
   ·rw[<-B.o];have:=ak (i:=o+1) K.o (Z U ((b+l.length:Nat):Int));simpa using this
   ·exact((j.o.mono (T:=(·=d)) (λ_ _ h=>h.elim)).tr (aa.setCell _ _ _) i_).tr (aa.setCell _ _ _) i_
def gB(n:Int):Bool:=decide (0<=n)&&decide (n<=1000000000)
def kN(c:Bool)(a b:Int):Bool:=gB a&&gB b&&(if c=true then decide (a=0)else decide (a<b))
theorem ue(n:Int)(w:ab):ba prog 197 #[Z U n] w λe c=>e=ay (ao (gB n))/\c=w:=by
 by_cases a:0<=n
 ·by_cases b:n<=1000000000
  ·have e:gB n=true:=by simp[gB,a,b]
   rw[e];go_enter func197,ntmps197;go_wp2;go_ret;exact⟨rfl,rfl⟩
  ·have e:gB n=false:=by simp[gB,b]
   rw[e];go_enter func197,ntmps197;go_wp2;go_ret;exact⟨rfl,rfl⟩
 ·have e:gB n=false:=by simp[gB,a]
  rw[e];go_enter func197,ntmps197;go_wp2;go_ret;exact⟨rfl,rfl⟩
theorem qE(c:Bool)(a b:Int)(w:ab):ba prog 159 #[ao c,Z U a,Z U b] w λe d=>e=ay (ao (kN c a b))/\d=w:=by
 have f:=E (λW=>ue a W);have g:=E (λW=>ue b W);have h:QS (kN c a b=(gB a&&gB b&&(if c=true then decide (a=0)else decide (a<b)))):=E rfl;rw[h.o];generalize gB a=i at*;generalize gB b=j at*;cases i with
 |false=>
  simp only[Bool.false_and];go_enter func159,ntmps159;go_wp2_with fail;refine(f.o _).mono ?_;rintro e d ⟨rfl,rfl⟩;go_wp2;go_ret;exact⟨rfl,rfl⟩
 |true=>
  cases j with
  |false=>
   simp only[Bool.and_false,Bool.false_and];go_enter func159,ntmps159;go_wp2_with fail;refine(f.o _).mono ?_;rintro e d ⟨rfl,rfl⟩;go_wp2_with fail;refine(g.o _).mono ?_;rintro e d ⟨rfl,rfl⟩;go_wp2;go_ret;exact⟨rfl,rfl⟩
  |true=>
   simp only[Bool.true_and];cases c with
   |true=>
    simp only[Rz];go_enter func159,ntmps159;go_wp2_with fail;refine(f.o _).mono ?_;rintro e d ⟨rfl,rfl⟩;go_wp2_with fail;refine(g.o _).mono ?_;rintro e d ⟨rfl,rfl⟩;go_wp2;go_ret;exact⟨rfl,rfl⟩
   |false=>
    simp only[vg,RL];go_enter func159,ntmps159;go_wp2_with fail;refine(f.o _).mono ?_;rintro e d ⟨rfl,rfl⟩;go_wp2_with fail;refine(g.o _).mono ?_;rintro e d ⟨rfl,rfl⟩;go_wp2;go_ret;exact⟨rfl,rfl⟩
theorem Dg{P:Program}(x y:ByteArray)(w:ab):(binOp BinOp.leq t (O x) (O y)).run P w=.ok (ao (!de y x)) w:=by
 have h:=NX x y;have e:(binOp BinOp.leq t (O x) (O y)).run P w=.ok (ao (de x y||x.toList==y.toList)) w:=by simp[binOp,Op.stringOp,de]
 rw[e,<-h];cases de x y<;>cases(x.toList==y.toList)<;>rfl
def jv(a:Bool)(b:ByteArray)(r:an):Bool:=dw r.key&&fM r.value&&de b r.key&&!(r.aO&&(a||!r.value.toList.isEmpty))
def oL(a:Bool)(l:List an)(k:Nat):Bool:=(List.range k).all λj=>match l[j]? with
 |some r=>jv a (bL l j) r
 |none=>true
def cC(c:Bool)(a b:Int)(l:List an):Bool:=kN c a b&&decide (l.length<=1000)&&oL c l l.length
theorem kX{l:List an}(b:k<l.length):oL a l (k+1)=(oL a l k&&jv a (bL l k) l[k]):=by unfold oL;rw[TE,List.all_append];simp[ec b]
theorem tE{l:List an}{j:Nat}(h:j<=k)(b:oL a l k=true):oL a l j=true:=by unfold oL at*;rw[List.all_eq_true]at*;intro x c;exact b x (TN.2 (kz (TN.1 c) h))
theorem CP{c:Bool}{l:List an}(e:k<l.length)(h:jv c (bL l k) l[k]=false)(a b:Int):cC c a b l=false:=by
 have:oL c l l.length=false:=by
  cases hq:oL c l l.length with
  |false=>rfl
  |true=>
   have d:=tE (show k+1<=l.length by omega) hq;rw[kX e,h,Bool.and_false]at d;cases d
 unfold cC;rw[this,Bool.and_false]
def oR(w:ab)(g:Nat):Prop:=∃t v,w.cell? ⟨g,0,Y⟩=V (.iface t v)
theorem oR.ai{a:ab}{g:Nat}(h:oR w g)(b:aa n_ w a):oR a g:=by obtain⟨t,v,h⟩:=h;exact⟨t,v,b.cell h id⟩
def vC(w:ab)(t:cI)(v:ax):Prop:=∃g,(2<=g/\g<=6)/\w.cell? ⟨g,0,Y⟩=V (.iface t v)
def fh(a:Bool)(w:ab)(e:Ending)(b:ab):Prop:=(if a=true then e=ay .nilIface else∃t v,vC w t v/\e=ay (.iface t v))/\aa n_ w b
theorem fh.bad{v:ax}(c:vC w t v)(h:a=false)(d:aa n_ w b):fh a w (ay (.iface t v)) b:=by refine⟨?_,d⟩;rw[h];exact⟨t,v,c,rfl⟩
theorem fh.cD(h:a=true)(c:aa n_ w b):fh a w (ay .nilIface) b:=by refine⟨?_,c⟩;rw[h];rfl
theorem zd(c:Bool)(a b:Int)(K:Option Addr)(u:Nat)(l:List an)(w:ab)(hr:cG w K l)(hl:l.length<=maxLen)(hs:∀r∈l,r.key.size<=maxLen/\r.value.size<=maxLen)(M:∀g,2<=g->g<=6->oR w g):ba prog 142 #[.agg #[ao c,Z U a,Z U b,J K l.length u]] w (fh (cC c a b l) w):=by
 have HR:=E hr;have HS:=E hs;have P:=E M;have A:=E (λW=>qE c a b W);have y:QS (cC c a b l=(kN c a b&&decide (l.length<=1000)&&oL c l l.length)):=E rfl;have z:=E (λk (hk:k<l.length) (h:jv c (bL l k) l[k]=false)=>CP hk h a b);generalize cC c a b l=T at*;obtain⟨t2,v2,R⟩:=M 2 (by omega) (by omega);obtain⟨t3,v3,S⟩:=M 3 (by omega) (by omega);have J2:QS (vC w t2 v2):=⟨2,by omega,R⟩
 have J3:QS (vC w t3 v3):=⟨3,by omega,S⟩
 unfold maxLen at hl;clear hr hs M;cases hfit:kN c a b with
 |false=>
  rw[hfit]at A y;have a0:=(aa.alloc n_ w (I #[ao c,Z U a,Z U b,J K l.length u] 28)).cell R id;go_enter func142,ntmps142;go_wp2_with fail;refine(A.o _).mono ?_;rintro e w' ⟨rfl,rfl⟩;go_wp2;go_ret;exact fh.bad J2.o (by rw[y.o];rfl) ((aa.refl _ _).al _)
 |true=>
  rw[hfit]at A y;by_cases d:l.length<=1000
  ·have L:(l.length:Int)<=1000:=by omega
   have HG:QS (T=oL c l l.length):=by show _=_;rw[y.o,mI d];rfl
   clear y d R S hfit;go_enter func142,ntmps142;go_wp2_with fail;refine(A.o _).mono ?_;rintro e w' ⟨rfl,rfl⟩;go_wp2_with fail;go_loopw [3,23] (λQ i wr=>∃k:Nat,k<=l.length/\Q=O (bL l k)/\i=Z U k/\oL c l k=true/\aa n_ (w.alloc (I #[ao c,Z U a,Z U b,J K l.length u] 28)) wr) (λ_ i _=>l.length-(intOf i).toNat)
   case atStart=>exact⟨0,eL _,rfl,rfl,rfl,aa.refl _ _⟩
   case round=>
    obtain⟨k,hk,rfl,rfl,v,s⟩:=hrel;have f:aa n_ w wr:=((aa.refl n_ w).al _).tr s i_;have xb:=ae (bO s id) 0;simp at xb;by_cases t:k<l.length
    ·obtain⟨g,a4,rfl,r0,r1,r2⟩:=HR.o.ai f k t;obtain⟨m1,m2⟩:=HS.o l[k] (nE t);obtain⟨t4,v4,y4⟩:=P.o 4 (by omega) (by omega);have F:QS (vC w t4 v4):=⟨4,by omega,y4⟩
     have g4:=f.cell y4 id;clear y4;obtain⟨t5,v5,y5⟩:=P.o 5 (by omega) (by omega);have G:QS (vC w t5 v5):=⟨5,by omega,y5⟩
     have g5:=f.cell y5 id;clear y5;obtain⟨t6,v6,y6⟩:=P.o 6 (by omega) (by omega);have H:QS (vC w t6 v6):=⟨6,by omega,y6⟩
     have g6:=f.cell y6 id;clear y6;have m:=E (λW=>mW l[k].key W m1);have o:=E (λW=>lX l[k].value W m2);have n:QS (jv c (bL l k) l[k]=(dw l[k].key&&fM l[k].value&&de (bL l k) l[k].key&&!(l[k].aO&&(c||!l[k].value.toList.isEmpty)))):=E rfl;have q:=E (z.o k t);have D:QS (jv c (bL l k) l[k]=true->oL c l (k+1)=true):=λh=>by rw[kX t,v,h];rfl
     have C:=E (jy t);have a3:∀W,(binOp BinOp.leq 9 (O l[k].key) (O (bL l k))).run prog W=.ok (ao (!de (bL l k) l[k].key)) W:=λW=>Dg _ _ _;generalize jv c (bL l k) l[k]=okr at*;generalize bL l k=Q at*;generalize l[k].key=rk at*;generalize l[k].value=rv at*;generalize l[k].aO=rg at*;have B:=E s;have j:=E f;clear s f m1 m2 v;generalize dw rk=b1 at*;generalize fM rv=b2 at*;generalize de Q rk=b3 at*;have x:=aa.alloc n_ wr (I #[O rk,O rv,ao rg] 70);have p4:=x.cell g4 id;have p5:=x.cell g5 id;have p6:=x.cell g6 id;have pb:=x.cell xb id;clear x g4 g5 g6 xb;cases b1 with
     |false=>
      go_wp2_with(first|(go_at_call 66;go_must(refine(m.o _).mono ?_;rintro e p ⟨rfl,rfl⟩))|(go_at_call 130;go_must(refine(o.o _).mono ?_;rintro e p ⟨rfl,rfl⟩)))
      go_ret;exact fh.bad (by first|exact F.o|exact G.o|exact H.o) (q.o (by rw[n.o];rfl)) (j.o.al _)
     |true=>
      cases b2 with
      |false=>
       go_wp2_with(first|(go_at_call 66;go_must(refine(m.o _).mono ?_;rintro e p ⟨rfl,rfl⟩))|(go_at_call 130;go_must(refine(o.o _).mono ?_;rintro e p ⟨rfl,rfl⟩)))
       go_ret;exact fh.bad (by first|exact F.o|exact G.o|exact H.o) (q.o (by rw[n.o];rfl)) (j.o.al _)
      |true=>
       cases b3 with
       |false=>
        go_wp2_with(first|(go_at_call 66;go_must(refine(m.o _).mono ?_;rintro e p ⟨rfl,rfl⟩))|(go_at_call 130;go_must(refine(o.o _).mono ?_;rintro e p ⟨rfl,rfl⟩)))
        go_ret;exact fh.bad (by first|exact F.o|exact G.o|exact H.o) (q.o (by rw[n.o];rfl)) (j.o.al _)
       |true=>
        cases rg with
        |false=>
         go_wp2_with(first|(go_at_call 66;go_must(refine(m.o _).mono ?_;rintro e p ⟨rfl,rfl⟩))|(go_at_call 130;go_must(refine(o.o _).mono ?_;rintro e p ⟨rfl,rfl⟩)))
         exact⟨⟨k+1,by omega,by rw[C.o],by go_num,D.o (by rw[n.o];rfl),B.o.al _⟩,by simp only[intOf];omega⟩
        |true=>
         cases c with
         |true=>
          go_wp2_with(first|(go_at_call 66;go_must(refine(m.o _).mono ?_;rintro e p ⟨rfl,rfl⟩))|(go_at_call 130;go_must(refine(o.o _).mono ?_;rintro e p ⟨rfl,rfl⟩)))
          go_ret;exact fh.bad (by first|exact F.o|exact G.o|exact H.o) (q.o (by rw[n.o];rfl)) (j.o.al _)
         |false=>
          cases hb4:rv.toList.isEmpty with
          |true=>
           go_wp2_with(first|(go_at_call 66;go_must(refine(m.o _).mono ?_;rintro e p ⟨rfl,rfl⟩))|(go_at_call 130;go_must(refine(o.o _).mono ?_;rintro e p ⟨rfl,rfl⟩)))
           exact⟨⟨k+1,by omega,by rw[C.o],by go_num,D.o (by rw[n.o,hb4];rfl),B.o.al _⟩,by simp only[intOf];omega⟩
          |false=>
           go_wp2_with(first|(go_at_call 66;go_must(refine(m.o _).mono ?_;rintro e p ⟨rfl,rfl⟩))|(go_at_call 130;go_must(refine(o.o _).mono ?_;rintro e p ⟨rfl,rfl⟩)))
           go_ret;exact fh.bad (by first|exact F.o|exact G.o|exact H.o) (q.o (by rw[n.o,hb4];rfl)) (j.o.al _)
    ·have e:k=l.length:=by omega
     subst e;have N:QS (T=true):=by show _=_;rw[HG.o];exact v
     have j:=E f;clear s v f;go_wp2;go_ret;exact fh.cD N.o j.o
  ·have a1:=(aa.alloc n_ w (I #[ao c,Z U a,Z U b,J K l.length u] 28)).cell S id;have a2:(1000:Int)<l.length:=by omega
   have N:QS (T=false):=by show _=_;rw[y.o,kg d];rfl
   clear d;go_enter func142,ntmps142;go_wp2_with fail;refine(A.o _).mono ?_;rintro e w' ⟨rfl,rfl⟩;go_wp2;go_ret;exact fh.bad J3.o N.o ((aa.refl _ _).al _)
end Go.Proofs.YtjbkfdeldlajhaaGreatDoor
namespace Go.Proofs
open Go.Shelf
end Go.Proofs
namespace Go.Proofs.YtjbkfdeldlajhaaGreatDoor
set_option maxRecDepth 100000
set_option maxHeartbeats 1000000
open Go.RowKit Go.Shelf Go.Proofs.Tryz
open Option renaming none->Y,some->V
open Go.Value renaming int->Z,string->O,slice->J,pointer->X,tuple->bt
open Go.IntKind renaming i64->U
open Go.Obj renaming cells->I
open Go renaming World->ab,Calls->ba,Value->ax
open Go.Ending renaming returned->ay
variable{l:List an}{w:ab}{B:Nat}
theorem Tryz.sizeBuilder:(prog.info? 221).map (·.size)=V 2:=by kernel_rfl
theorem Tryz.liesBuilder:liesAt prog prog.depth 221 (2/prog.cellsOf 221) 0 221 1=true:=by kernel_rfl
theorem vV(b:Nat)(w:ab)(d:w.cell? ⟨b,0,Y⟩=V (X (V ⟨b,0,Y⟩))):ba prog 179 #[X (V ⟨b,0,Y⟩)] w λe c=>e=ay (bt #[])/\c=w:=by obtain⟨j,a,_⟩:=RP.1 Tryz.sizeBuilder;go_enter func179,ntmps179;go_wp2;rw[Lib.run_neq_ptr_same w _ Tryz.underlying218 a];go_wp2;go_end0;exact⟨rfl,rfl⟩
theorem uJ(b:Nat)(w:ab)(h:w.cell? ⟨b,0,Y⟩=V (X Y))(a:w.shape? b=V (221,2))(f:w.frozen? ⟨b,0,Y⟩=false):ba prog 179 #[X (V ⟨b,0,Y⟩)] w λe g=>e=ay (bt #[])/\g=w.setCell ⟨b,0,Y⟩ (X (V ⟨b,0,Y⟩)):=by obtain⟨j,d,c⟩:=RP.1 Tryz.sizeBuilder;go_enter func179,ntmps179;go_wp2;rw[Lib.run_to_unsafe w ⟨b,0,Y⟩ Tryz.underlying218 Tryz.underlying283 d (by rw[c];decide) a (Nat.zero_lt_succ 1)];simp only[Result.andThen];rw[Oper.upon_value];go_wp2;rw[run_callFunc_extern func208 (by kernel_rfl) (by kernel_rfl) (by kernel_rfl) (e:=Extern.AbiNoEscape.same) (by kernel_rfl)];rw[Lib.run_noEscape];simp only[Result.andThen];rw[Oper.upon_value];go_wp2;rw[Lib.run_from_unsafe w ⟨b,0,Y⟩ Tryz.underlying283 Tryz.underlying218 d a Tryz.liesBuilder];simp only[Result.andThen];rw[Oper.upon_value];go_wp2;go_end0;exact⟨rfl,rfl⟩
def DY(B:Nat)(w:ab)(a:Nat)(l:List UInt8):Prop:=Lib.IsBuilder 221 5 B a (Lib.byteCells l) w
def qn(B a:Nat)(w:ab)(k:Nat):Prop:=B<=k/\(k=a\/bD w k 5)
theorem byteCells_append(l:List UInt8)(s:ByteArray):Lib.byteCells l++Lib.strCells s=Lib.byteCells (l++s.data.toList):=by simp[Lib.byteCells,Lib.strCells]
theorem nH(B c:Nat)(l:List UInt8)(s:ByteArray)(w:ab)(h:Lib.BuilderAt 221 5 B c (X (V ⟨c,0,Y⟩)) (Lib.byteCells l) w)(o:l.length+s.size<=140737488355328)(D:B<=w.heap.size)(W:ab)(hC:ba prog 179 #[X (V ⟨c,0,Y⟩)] W λe K=>e=ay (bt #[])/\K=w)(hK:aa (qn B c W) W w):ba prog 143 #[X (V ⟨c,0,Y⟩),O s] W λe K=>e=ay (bt #[Z U s.size,.nilIface])/\DY B K c (l++s.data.toList)/\aa (qn B c W) W K:=by
 obtain⟨hB,v,n,j,G⟩:=h;have HC:=E hC;obtain⟨i0,hi,a0,a1,a2⟩:=info_parts Tryz.infoByte;have c0:w.cell? ⟨c,0,Y⟩=V (X (V ⟨c,0,Y⟩)):=ae n 0;have c1:w.cell? ⟨c,1,Y⟩=V v:=ae n 1;have x:=E n;have p:=E j;have N:=E G;have A:=E o;have M:=E D;have u:=E hB;have y:=E hK;have F:(Lib.byteCells l).length=l.length:=by simp[Lib.byteCells]
 have z:=E F;obtain⟨q,t,d,rfl⟩:∃q t d,v=J q t d:=by
  rcases j.2 with⟨i,_⟩|⟨g,d,r,i,_⟩
  ·exact⟨_,_,_,i⟩
  ·exact⟨_,_,_,i⟩
 have P:QS (∀g,(J q t d).ownBlock=V g->g<W.heap.size->B<=g/\(bD W g 5\/g=c)):=λg m S=>by
  have R:B<=g:=by
   rcases p.o.2 with⟨i,_⟩|⟨H,C,r,i,hb,_⟩
   ·rw[i]at m;simp[Value.ownBlock]at m
   ·rw[i]at m;have Q:H=g:=by simpa[Value.ownBlock]using m
    rw[<-Q];exact hb
  refine⟨R,?_⟩;by_cases e:g=c
  ·exact .inr e
  ·by_cases ht:bD W g 5
   ·exact .inl ht
   ·exfalso;rcases p.o.2 with⟨i,_⟩|⟨H,C,r,i,_,hh,_⟩
    ·rw[i]at m;simp[Value.ownBlock]at m
    ·rw[i]at m;have Q:H=g:=by simpa[Value.ownBlock]using m
     subst Q;rw[y.o.block H S (λhs=>hs.2.elim e ht)]at hh;exact ht ⟨_,hh⟩
 clear hC n j G o D hB hK F;go_enter func143,ntmps143;go_wp2_with(first
  |(go_at_call 179;go_must(refine(HC.o).mono ?_;rintro e w1 ⟨rfl,rfl⟩))
  |(at_builtin;go_must(refine Lib.wpList_append_own_string _ rfl _ _ 219 9 rfl B 5 i0 Tryz.underlying219 Tryz.underlying9 hi a0 a1 a2 _ _ _ rfl p.o s rfl (by rw[z.o];have:=A.o;unfold maxLen;omega) (by rw[z.o];exact A.o) M.o ?_;intro v' L b a _;have f:L.heap[c]?=V (I #[X (V ⟨c,0,Y⟩),J q t d] 221 (0,0)):=(a.block c (lg x.o) (λe=>N.o e.symm)).trans x.o;have d0:L.cell? ⟨c,0,Y⟩=V (X (V ⟨c,0,Y⟩)):=ae f 0;have d1:L.cell? ⟨c,1,Y⟩=V (J q t d):=ae f 1;have f1:L.frozen? ⟨c,1,Y⟩=false:=aj f 1;obtain⟨a4,n2,a3,rfl⟩:∃q t d,v'=J q t d:=(by rcases b.2 with⟨i,_⟩|⟨g,d,r,i,_⟩;exact⟨_,_,_,i⟩;exact⟨_,_,_,i⟩);have X1:=E (And.intro b (And.intro a f));clear b a f)))
 go_ret2;obtain⟨b,a,f⟩:=X1.o;refine⟨rfl,?_,?_⟩
 ·refine .inr ?_;have:=Lib.BuilderAt.put (T:=221) (e:=5) u.o f (bs':=Lib.byteCells l++Lib.strCells s) (by simpa[Lib.strCells_length]using b) (by decide);rw[byteCells_append]at this;exact this
 ·refine(y.o.trans (aa.grown a) (λg m e=>?_)).tr (aa.setCell _ _ _) (λk e=>⟨by rw[show k=c from e];exact u.o,.inl e⟩);obtain⟨h0,h⟩:=P.o g e.symm m;rcases h with h|h
  ·exact⟨h0,.inr h⟩
  ·exact⟨h0,.inl h⟩
theorem kE(B a:Nat)(l:List UInt8)(s:ByteArray)(w:ab)(h:DY B w a l)(b:l.length+s.size<=140737488355328)(d:B<=w.heap.size):ba prog 143 #[X (V ⟨a,0,Y⟩),O s] w λe t=>e=ay (bt #[Z U s.size,.nilIface])/\DY B t a (l++s.data.toList)/\aa (qn B a w) w t:=by
 rcases h with h|h
 ·have n:=h;obtain⟨p,v,o,c,f⟩:=h;have u:(w.setCell ⟨a,0,Y⟩ (X (V ⟨a,0,Y⟩))).heap[a]?=V (I #[X (V ⟨a,0,Y⟩),v] 221 (0,0)):=(ak o _).trans (by simp);have m:Lib.BuilderAt 221 5 B a (X (V ⟨a,0,Y⟩)) (Lib.byteCells l) (w.setCell ⟨a,0,Y⟩ (X (V ⟨a,0,Y⟩))):=by
   refine⟨p,v,u,⟨c.1,?_⟩,f⟩;rcases c.2 with x|⟨g,i,j,rfl,y,q,r⟩
   ·exact .inl x
   ·exact .inr ⟨g,i,j,rfl,y,((aa.setCell w ⟨a,0,Y⟩ _).block g (lg q) (λe=>f (by rw[show g=a from e];rfl))).trans q,r⟩
  exact nH B a l s _ m b (by simpa[World.setCell]using d) w (uJ a w n.cell0 n.shape n.frozen0) ((aa.setCell _ _ _).mono (λk _ e=>⟨by rw[show k=a from e];exact p,.inl e⟩))
 ·exact nH B a l s w h b d w (vV a w h.cell0) (aa.refl _ _)
section
attribute [local go_sem] Oper.semAt_some
def ft(n x:Nat):Nat:=min 4 (n-4*x)
def Ao(a:Option Addr)(n x:Nat):ax:=match a with
 |some ⟨g,off,Y⟩=>J (V ⟨g,off+4*x*3,Y⟩) (ft n x) (ft n x)
 |o=>J o (ft n x) (ft n x)
theorem min_i64(a b:Int)(W:ab):(Builtin.min_ #[3,3] 3 #[Z U a,Z U b]).run prog W=.ok (Z U (min a b)) W:=by
 by_cases h:a<=b
 ·rw[Int.min_eq_left h];simp[Builtin.min_,Builtin.min2];omega
 ·rw[Int.min_eq_right (by omega)];simp[Builtin.min_,Builtin.min2];omega
theorem ID(c:Option Addr)(n a:Nat)(w:ab):ba prog 145 #[J c n a,Z U 4] w λe f=>e=ay (.func (.func 182) #[] #[X (V ⟨w.heap.size,0,Y⟩),X (V ⟨w.heap.size+1,0,Y⟩)])/\f=(w.alloc (I #[J c n a] 26)).alloc (I #[Z U 4] 3):=by have d:=mf_;go_enter func145,ntmps145;go_wp2;go_ret;exact⟨rfl,rfl⟩
theorem EB(c d:Nat)(o:Option Addr)(n b:Nat)(w:ab)(C:w.heap[c]?=V (I #[J o n b] 26 (0,0)))(D:w.heap[d]?=V (I #[Z U 4] 3 (0,0)))(hn:n<=1000)(hc:n<=b)(G:b<=maxLen)(L:n=0\/∃g a,o=V ⟨g,a,Y⟩):KX Fence.wide 7 prog 182 #[X (V ⟨c,0,Y⟩),X (V ⟨d,0,Y⟩)] (λx:Nat=>#[Ao o n x]) (aa n_) (OX [c,d]) (λxs=>xs=List.range ((n+3)/4)) ((n+3)/4) w:=by
 intro l a6 W F u hY R;have r:W.heap[c]?=V (I #[J o n b] 26 (0,0)):=(F.block c (lg C) id).trans C;have s:W.heap[d]?=V (I #[Z U 4] 3 (0,0)):=(F.block d (lg D) id).trans D;unfold maxLen at G;clear C D;refine callsIn_of_wp func182 rfl trivial ?_ rfl;simp only[ntmps182,vE,fN,pa,Nat.reduceAdd,Nat.reduceSub,QW,QX,Rv,Re,uE,tI];gi_wp2;gi_loopw [4] (λi wr=>∃k:Nat,i=Z U ((4*k:Nat):Int)/\k<=(n+3)/4/\a6 (List.range k) wr/\wr.heap[c]?=V (I #[J o n b] 26 (0,0))/\wr.heap[d]?=V (I #[Z U 4] 3 (0,0))) (λi _=>n+4-(intOf i).toNat)
 case atStart=>exact⟨0,rfl,eL _,R,r,s⟩
 case round=>
  obtain⟨k,rfl,K,T,r,s⟩:=hrel;clear R F;have c1:=ae r 0;have c2:=ae s 0;simp at c1 c2;have G1:=E r;have G2:=E s;have z:=E T;have p:=E u;have P:=E hY;have HK:=E K;clear r s T u hY;by_cases a5:4*k<n
  ·have q:QS (k<(n+3)/4):=by show _<_;omega
   obtain⟨g,a,rfl⟩:∃g a,o=V ⟨g,a,Y⟩:=by
    rcases L with e|h
    ·omega
    ·exact h
   have a0:∀W,(Builtin.min_ #[3,3] 3 #[Z U 4,Z U ((n-4*k:Nat):Int)]).run prog W=.ok (Z U ((ft n k:Nat):Int)) W:=λW=>by rw[min_i64];unfold ft;congr 3;omega
   have N:QS (Ao (V ⟨g,a,Y⟩) n k=J (V ⟨g,a+4*k*3,Y⟩) (ft n k) (ft n k)):=E rfl;have H:0<ft n k/\4*k+ft n k<=n:=by unfold ft;omega
   have a2:QS (ft n k<=4):=by show _<=_;unfold ft;omega
   obtain⟨a3,a4⟩:=H;generalize ft n k=m at*;clear K;have f:=E (P.o (List.range k) k wr.drew (p.o _ wr _ (aa.drew _ _) z.o) (by rw[SY];exact q.o));rw[N.o]at f;have B:QS (∀j,OX [c,d] wr.drew j->j.heap[c]?=V (I #[J (V ⟨g,a,Y⟩) n b] 26 (0,0))/\j.heap[d]?=V (I #[Z U 4] 3 (0,0))):=λj S=>⟨(S.2 c (by simp)).trans G1.o,(S.2 d (by simp)).trans G2.o⟩;clear P p z N;gi_wp2;gi_region;obtain⟨fn,a1,y,Q,hy,hR⟩:=f.o;clear f;gi_wp2;refine hR.mono ?_;rintro e j ⟨rfl,t,v⟩;obtain⟨p1,M⟩:=B.o j v;have q2:=ae M 0;simp at q2;have P1:=E p1;have P2:=E M;have A:=E t;clear p1 M t v hy hR;gi_wp2;refine⟨⟨k+1,by go_num,q.o,by rw[TE];exact A.o,P1.o,P2.o⟩,?_⟩;simp only[intOf];omega
  ·have e:k=(n+3)/4:=by omega
   clear K;gi_wp2;go_end0;exact⟨⟨_,rfl⟩,_,by rw[e],z.o⟩
end
theorem Gd(B f:Nat)(l:List UInt8)(w:ab)(h:DY B w f l)(C:l≠[]):ba prog 148 #[X (V ⟨f,0,Y⟩)] w λe P=>e=ay (O (aU l))/\aa (qn B f w) w P:=by
 obtain⟨p,R,v,i,c,A⟩:∃p,Lib.BuilderAt 221 5 B f p (Lib.byteCells l) w:=by
  rcases h with h|h
  ·exact⟨_,h⟩
  ·exact⟨_,h⟩
 have n:l.length≠0:=by simpa using C
 rw[Lib.byteCells_length]at c;obtain⟨g,a,b,rfl,q,u,K,m,t,d⟩:∃g a b,v=J (V ⟨g,0,Y⟩) l.length a/\B<=g/\w.heap[g]?=V (I b 5 (0,0))/\l.length<=a/\a<=maxLen/\b.size=a*1/\b.toList.take (l.length*1)=Lib.byteCells l:=by
  rcases c.2 with⟨_,N⟩|⟨g,a,b,L,r⟩
  ·exact absurd N n
  ·exact⟨g,a,b,L,r⟩
 have Q:w.drew.cell? ⟨f,1,Y⟩=V (J (V ⟨g,0,Y⟩) l.length a):=by
  have:w.drew.heap[f]?=V (I #[p,J (V ⟨g,0,Y⟩) l.length a] 221 (0,0)):=i
  rw[Lib.cell_of_heap this];rfl
 have G:(Builtin.unsafeSliceData_ #[219] 265 #[J (V ⟨g,0,Y⟩) l.length a]).run prog w.drew=.ok (X (V ⟨g,0,Y⟩)) w.drew:=
  Lib.run_unsafeSliceData_row _ _ _ _ _ _ (by omega)
 have H:(Builtin.unsafeString_ #[265,3] 9 #[X (V ⟨g,0,Y⟩),Z U l.length]).run prog w.drew=.ok (O (aU l)) (w.drew.freeze ⟨g,0,Y⟩ l.length):=by refine Lib.run_unsafeString_row w.drew 265 3 9 5 Tryz.underlying265 (by kernel_rfl) g b.size (by have y:w.drew.heap[g]?=V (I b 5 (0,0)):=u;simp[World.shape?,y]) l C (by omega) (by unfold maxLen at m;omega) ?_;intro j x M;have:=c.cells (g:=g) rfl j (Z .u8 x.toNat) (by simp[Lib.byteCells,M]);exact this
 have D:QS (aa (qn B f w) w (w.drew.freeze ⟨g,0,Y⟩ l.length)):=by have o:=Lib.below_freeze (Below.drew (Below.refl g w)) (p:=⟨g,0,Y⟩) (eb g) l.length;refine⟨o.os,o.tape,o.output,o.size,λk S F=>?_⟩;have z:k≠g:=λe=>F ⟨by rw[e];exact q,.inr ⟨b,by rw[e];exact u⟩⟩;unfold World.freeze;rw[el n];simp only[SS];rw[el (λe=>z e.symm)];rfl
 clear i c A u t d m;generalize aU l=s at*;go_enter func148,ntmps148;go_wp2;go_region;all_goals(go_wp2;go_ret;exact⟨rfl,D.o⟩)
def bu(l:List an)(x:Nat):List an:=(l.drop (4*x)).take 4
theorem qS(l:List an)(x:Nat):(bu l x).length=ft l.length x:=by unfold bu ft;rw[js,mR]
theorem BY(l:List an)(x:Nat):bu l (x+1)=bu (l.drop 4) x:=by unfold bu;rw[List.drop_drop];congr 2;omega
def sX(a:Option Addr)(x:Nat):Option Addr:=match a with
 |some ⟨g,off,Y⟩=>V ⟨g,off+4*x*3,Y⟩
 |o=>o
theorem IC(a:Option Addr)(l:List an)(x:Nat):Ao a l.length x=J (sX a x) (bu l x).length (ft l.length x):=by rw[qS];rcases a with _|⟨g,b,_|s⟩<;>rfl
theorem cG.chunk{d:Option Addr}(h:cG w d l)(x:Nat):cG w (sX d x) (bu l x):=λi c=>by
 have b:4*x+i<l.length:=by rw[qS]at c;unfold ft at c;omega
 obtain⟨g,a,rfl,f,j,k⟩:=h (4*x+i) b;have e:(bu l x)[i]=l[4*x+i]:=by simp[bu]
 rw[e];refine⟨g,a+4*x*3,rfl,?_,?_,?_⟩
 ·rw[show a+4*x*3+i*3=a+(4*x+i)*3 by omega];exact f
 ·rw[show a+4*x*3+i*3=a+(4*x+i)*3 by omega];exact j
 ·rw[show a+4*x*3+i*3=a+(4*x+i)*3 by omega];exact k
def fR(l:List an)(a:List Nat):List UInt8:=a.flatMap λx=>dW ((bu l x).map an.bS)
def ic(l:List an)(a:List Nat):Nat:=(a.map λx=>(bu l x).length).sum
theorem tH:∀(n:Nat) (l:List an),l.length<=n->fR l (List.range ((l.length+3)/4))=bW (l.map an.bS)/\ic l (List.range ((l.length+3)/4))=l.length
 |0,l,h=>by
  obtain rfl:l=[]:=hU (by omega);constructor
  ·rw[RY,lS];rfl
  ·rfl
 |n+1,l,h=>by
  by_cases e:l=[]
  ·subst e;constructor
   ·rw[RY,lS];rfl
   ·rfl
  ·have i:0<l.length:=Rq.2 e;have f:(l.drop 4).length=l.length-4:=mR ..;obtain⟨c,d⟩:=tH n (l.drop 4) (by omega);have g:(l.length+3)/4=((l.drop 4).length+3)/4+1:=by omega
   have a:bu l 0=l.take 4:=by simp[bu]
   unfold fR at*;unfold ic at*;rw[g,List.range_succ_eq_map,Rh,List.flatMap_map,mU,tO,RH];simp only[tQ,Nat.succ_eq_add_one,BY];rw[c,d,a];constructor
   ·have b:bW (l.map an.bS)=dW ((l.map an.bS).take 4)++bW ((l.map an.bS).drop 4):=by rw[rD (by simpa using e)]
    rw[b,List.map_take,TT]
   ·rw[f,js];omega
theorem uj(l:List an)(a:List Nat)(x:Nat):fR l (a++[x])=fR l a++dW ((bu l x).map an.bS):=by simp[fR]
theorem CR(l:List an)(a:List Nat)(x:Nat):ic l (a++[x])=ic l a+(bu l x).length:=by simp[ic]
theorem iZ(h:Small l)(x:Nat):Small (bu l x):=λr a=>h r (Ts (Sd a))
theorem lj(l:List an)(x:Nat):(bu l x).length<=4:=by rw[qS];unfold ft;omega
theorem sU(h:Small l)(a:l.length<=4):(dW (l.map an.bS)).length<=10000:=by
 have:=nk h (by omega) l.length (eb _);have e:dN l l.length=qR (l.map an.bS):=by unfold dN qR;rw[RG,hO]
 rw[e]at this;unfold dW;rw[hQ,yl];omega
theorem tJ{l:List an}(h:Small l):∀(a:List Nat),(fR l a).length<=a.length*10000/\ic l a<=a.length*4
 |[]=>by simp[fR,ic]
 |x::a=>by
  obtain⟨d,e⟩:=tJ h a;have f:=sU (iZ h x) (lj l x);have g:=lj l x;have b:fR l (x::a)=dW ((bu l x).map an.bS)++fR l a:=by simp[fR]
  have c:ic l (x::a)=(bu l x).length+ic l a:=by simp[ic]
  rw[b,c,hQ,fN];omega
def Af(B e c:Nat)(d:ab)(b:List UInt8)(a:Nat)(W:ab):Prop:=
 W.heap[e]?=V (I #[Z .u32 (lz 0 b:Nat),Z U (a:Nat)] 184 (0,0))/\DY B W c b/\aa (λk=>k=e\/qn B c d k) d W
theorem DY.ai{c:Nat}{m:ab}{l:List UInt8}{S:Nat->Prop}(h:DY B w c l)(n:aa S w m)(o:¬S c)(q:∀k,bD w k 5->¬S k):DY B m c l:=by
 have b:∀p,Lib.BuilderAt 221 5 B c p (Lib.byteCells l) w->Lib.BuilderAt 221 5 B c p (Lib.byteCells l) m:=by
  rintro p ⟨s,v,e,a,j⟩;refine⟨s,v,(n.block c (lg e) o).trans e,⟨a.1,?_⟩,j⟩;rcases a.2 with h|⟨g,f,d,rfl,t,i,r⟩
  ·exact .inl h
  ·exact .inr ⟨g,f,d,rfl,t,(n.block g (lg i) (q g ⟨d,i⟩)).trans i,r⟩
 exact h.imp (b _) (b _)
theorem aa.QP{f b:Nat}{a W g:ab}(h:aa (λk=>k=f\/qn B b a k) a W)(m:aa (qn B b W) W g):aa (λk=>k=f\/qn B b a k) a g:=
 h.trans m (λk d i=>by
  by_cases e:k=f\/qn B b a k
  ·exact e
  ·have j:=h.block k d e;refine .inr ⟨i.1,i.2.imp id ?_⟩;rintro⟨c,l⟩;exact⟨c,by rw[<-j];exact l⟩)
end Go.Proofs.YtjbkfdeldlajhaaGreatDoor
