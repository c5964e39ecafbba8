import Derived.WalkKit
import Derived.Test.YtjbkfdeldlajhaaGreatDoorProg
import Derived.WalkSpells
import Derived.Maps.AppendAt
import Derived.Maps.RangeRun
import Derived.Maps.OwnSet
set_option linter.unusedSimpArgs false
namespace Go.Proofs.YtjbkfdeldlajhaaGreatDoor
abbrev n_{α:Sort _}:α→Prop:=fun _=>False
theorem i_{α:Sort _}{p:α→Prop}(a:α)(h:p a):p a:=h
theorem k_{α:Sort _}{β:α→Sort _}{p:∀a,β a→Prop}(a:α)(b:β a)(h:p a b):p a b:=h
theorem m_{α:Sort _}{β:α→Sort _}{γ:∀a,β a→Sort _}{p:∀a b,γ a b→Prop}(a:α)(b:β a)(c:γ a b)(h:p a b c):p a b c:=h
theorem lg{α:Type _}{a:Array α}{i:Nat}{v:α}(h:a[i]?=some v):i<a.size:=(Array.getElem?_eq_some_iff.1 h).1
theorem mf_(f:Fn)(a c:Array Value)(w:World):(Instr.makeFunc f a c).run Tryz.prog w=.ok (.func f a c) w:=rfl
abbrev cQ:=@List.mem_append
abbrev cT:=@List.mem_cons
abbrev eb:=@Nat.le_refl
abbrev ec:=@List.getElem?_eq_getElem
abbrev ef:=@List.mem_cons_of_mem
abbrev ej:=@List.getElem?_eq_some_iff
abbrev el:=@if_neg
abbrev ep:=@List.take_of_length_le
abbrev eu:=@List.take_succ_eq_append_getElem
abbrev ey:=@List.nodup_cons
abbrev eL:=@Nat.zero_le
abbrev fx:=@List.mem_append_right
abbrev fy:=@if_pos
abbrev fI:=@List.mem_map
abbrev fN:=@List.length_cons
abbrev fQ:=@List.mem_append_left
abbrev hH:=@List.mem_of_getElem?
abbrev hO:=@List.length_map
abbrev hQ:=@List.length_append
abbrev hU:=@List.eq_nil_of_length_eq_zero
abbrev js:=@List.length_take
abbrev kg:=@decide_eq_false
abbrev kz:=@Nat.lt_of_lt_of_le
abbrev kB:=@List.mem_filter
abbrev lf:=@List.nodup_append
abbrev lp:=@Option.getD_some
abbrev mA:=@Nat.le_trans
abbrev mE:=@List.append_assoc
abbrev mI:=@decide_eq_true
abbrev mK:=@beq_eq_false_iff_ne
abbrev mR:=@List.length_drop
abbrev mU:=@List.map_cons
abbrev ns:=@List.mem_flatMap
abbrev nE:=@List.getElem_mem
abbrev nW:=@ByteArray.size_append
abbrev pa:=@List.length_nil
abbrev qs:=@List.filter_sublist
abbrev ss:=@Bool.and_eq_true
abbrev tv:=@Option.some.inj
abbrev tA:=@Nat.zero_add
abbrev tB:=@Prod.mk.injEq
abbrev tI:=@List.cons_append
abbrev tO:=@List.map_map
abbrev tQ:=@Function.comp_def
abbrev tT:=@decide_eq_true_eq
abbrev uE:=@List.nil_append
abbrev uW:=@Option.map_some
abbrev vg:=@Bool.false_eq_true
abbrev vk:=@List.getElem?_map
abbrev vv:=@Option.some.injEq
abbrev vE:=@List.size_toArray
abbrev wj:=@List.length_take_le
abbrev xw:=@Nat.mul_le_mul_right
abbrev xT:=@List.map_append
abbrev ya:=@Int.le_refl
abbrev yg:=@Option.getD_none
abbrev yk:=@List.foldl_cons
abbrev yv:=@List.filter_append
abbrev BS:=@List.pairwise_cons
abbrev Kp:=@List.append_nil
abbrev QT:=@Bool.eq_iff_iff
abbrev QU:=@ByteArray.size_extract
abbrev QV:=@Option.isSome_iff_exists
abbrev QW:=@Array.replicate_succ
abbrev QX:=@Array.replicate_zero
abbrev QY:=@Array.getElem?_eq_some_iff
abbrev QZ:=@List.mem_singleton
abbrev Ra:=@Option.isSome_some
abbrev Rb:=@List.getElem?_append_left
abbrev Rc:=@congrArg
abbrev Re:=@List.append_toArray
abbrev Rf:=@List.getElem_cons_succ
abbrev Rg:=@List.pairwise_append
abbrev Rh:=@List.flatMap_cons
abbrev Ri:=@List.foldl_append
abbrev Rk:=@Option.isSome_none
abbrev Rl:=@List.getElem?_append_right
abbrev Rn:=@Nat.add_sub_cancel
abbrev Ro:=@List.length_singleton
abbrev Rp:=@List.length_filter_le
abbrev Rq:=@List.length_pos_iff
abbrev Rr:=@List.getElem_of_mem
abbrev Rt:=@List.any_eq_true
abbrev Ru:=@List.getElem_cons_zero
abbrev Rv:=@List.push_toArray
abbrev Rw:=@List.pairwise_map
abbrev Rx:=@Option.mem_toList
abbrev Ry:=@Nat.eq_zero_or_pos
abbrev Rz:=@if_true
abbrev RA:=@Array.length_toList
abbrev RB:=@Int.eq_ofNat_of_zero_le
abbrev RC:=@of_decide_eq_true
abbrev RD:=@Nat.le_succ_of_le
abbrev RE:=@List.pairwise_iff_getElem
abbrev RF:=@Classical.byContradiction
abbrev RG:=@List.take_length
abbrev RH:=@List.sum_cons
abbrev RI:=@List.map_congr_left
abbrev RJ:=@List.take_append_drop
abbrev RK:=@List.perm_append_comm_assoc
abbrev RL:=@if_false
abbrev RM:=@Option.toList_some
abbrev RN:=@List.filter_filter
abbrev RO:=@List.eraseIdx_of_length_le
abbrev RP:=@Option.map_eq_some_iff
abbrev RQ:=@List.not_mem_nil
abbrev RR:=@List.filter_eq_nil_iff
abbrev RS:=@List.filter_cons
abbrev RT:=@List.filter_eq_self
abbrev RU:=@List.take_append_of_le_length
abbrev RV:=@List.Sublist.refl
abbrev RW:=@Array.getElem?_toList
abbrev RX:=@List.mem_of_mem_eraseIdx
abbrev RY:=@List.map_nil
abbrev RZ:=@Nat.sub_self
abbrev Sa:=@List.getElem?_drop
abbrev Sb:=@List.mem_iff_getElem
abbrev Sc:=@Nat.mod_eq_of_lt
abbrev Sd:=@List.mem_of_mem_take
abbrev Se:=@List.getElem_map
abbrev Sf:=@List.perm_middle
abbrev Sg:=@List.length_eq_zero_iff
abbrev Sh:=@List.findIdx?_eq_some_iff_getElem
abbrev Si:=@List.eraseIdx_append_of_length_le
abbrev Sj:=@List.drop_eq_nil_of_le
abbrev Sk:=@List.getD_eq_getElem?_getD
abbrev Sl:=@List.map_eq_nil_iff
abbrev Sm:=@List.takeWhile_cons
abbrev Sn:=@List.mem_map_of_mem
abbrev Sq:=@Nat.add_mul
abbrev Sr:=@Nat.not_lt_zero
abbrev Ss:=@List.take_left'
abbrev St:=@List.mem_or_eq_of_mem_set
abbrev Su:=@List.filterMap_append
abbrev Sv:=@List.getElem?_eq_none
abbrev Sw:=@List.eq_nil_or_concat
abbrev Sx:=@List.concat_eq_append
abbrev Sy:=@List.Perm.append_left
abbrev Sz:=@List.set_cons_succ
abbrev SB:=@List.set_cons_zero
abbrev SC:=@List.getElem?_take_of_lt
abbrev SD:=@List.drop_zero
abbrev SE:=@List.getLast?_concat
abbrev SF:=@List.mem_of_getLast?
abbrev SG:=@Bool.eq_false_iff
abbrev SH:=@List.filter_map
abbrev SI:=@Nat.le_of_lt
abbrev SJ:=@Option.toList_none
abbrev SO:=@List.setIfInBounds_toArray
abbrev SR:=@List.findIdx?_cons
abbrev SS:=@Array.getElem?_modify
abbrev SW:=@List.drop_eq_getElem_cons
abbrev SY:=@List.length_range
abbrev SZ:=@List.getElem_drop
abbrev Ta:=@List.getElem?_set
abbrev Tb:=@List.filter_congr
abbrev Tc:=@List.getElem_append_left
abbrev Td:=@List.takeWhile_append_dropWhile
abbrev Te:=@List.length_eraseIdx_le
abbrev Tf:=@BitVec.toNat_ofNat
abbrev Tg:=@Int.le_trans
abbrev Th:=@not_or
abbrev Ti:=@Array.getElem?_setIfInBounds
abbrev Tj:=@Option.map_none
abbrev Tk:=@List.dropLast_concat_getLast
abbrev Tl:=@List.cons_lt_cons_iff
abbrev Tm:=@List.drop_sublist
abbrev Tn:=@List.ext_getElem?
abbrev To:=@List.getElem_take
abbrev Tp:=@Array.getD_eq_getD_getElem?
abbrev Tq:=@BitVec.ofInt_natCast
abbrev Tr:=@Array.getElem_toList
abbrev Ts:=@List.mem_of_mem_drop
abbrev Tt:=@Nat.pow_le_pow_right
abbrev Tu:=@Bool.and_eq_true_iff
abbrev Tv:=@List.getElem_toArray
abbrev Tw:=@Nat.add_zero
abbrev Tx:=@Option.bind_some
abbrev Ty:=@List.getLast?_eq_getElem?
abbrev Tz:=@Array.toList_append
abbrev TA:=@List.filterMap_cons
abbrev TB:=@Array.toList_filter
abbrev TC:=@List.Sublist.append
abbrev TD:=@ByteArray.ext
abbrev TE:=@List.range_succ
abbrev TF:=@Bool.or_eq_true
abbrev TG:=@List.length_set
abbrev TH:=@List.any_append
abbrev TI:=@List.countP_append
abbrev TJ:=@UInt8.toNat_lt
abbrev TK:=@Nat.mul_comm
abbrev TM:=@List.getLast?_map
abbrev TN:=@List.mem_range
abbrev TO:=@Bool.not_false
abbrev TP:=@or_false
abbrev TQ:=@List.find?_append
abbrev TR:=@List.take_take
abbrev TS:=@beq_iff_eq
abbrev TT:=@List.map_drop
abbrev TU:=@Bool.not_true
abbrev TV:=@Prod.mk.inj
end Go.Proofs.YtjbkfdeldlajhaaGreatDoor
namespace Go.Proofs.YtjbkfdeldlajhaaGreatDoor
open Go.RowKit Go.ChangeMaps
open Option renaming none->Y,some->V
open Go.Value renaming slice->J
open Go.Obj renaming cells->I
open Go renaming World->ab,Value->ax,TypeId->cI
def QS(p:Prop):Prop:=p
theorem QS.o{p:Prop}(h:QS p):p:=h
theorem E{p:Prop}(h:p):QS p:=h
structure aa(S:Nat->Prop)(w w':ab):Prop where
 os:w'.os=w.os
 tape:w'.tape=w.tape
 output:w'.output=w.output
 size:w.heap.size<=w'.heap.size
 block:∀k,k<w.heap.size->¬S k->w'.heap[k]?=w.heap[k]?
theorem aa.refl(S:Nat->Prop)(w:ab):aa S w w:=⟨rfl,rfl,rfl,eb _,λ_ _ _=>rfl⟩
theorem aa.trans{S T:Nat->Prop}{a b c:ab}(h:aa S a b)(k:aa T b c)(f:∀i,i<a.heap.size->T i->S i):aa S a c:=
 ⟨k.os.trans h.os,k.tape.trans h.tape,k.output.trans h.output,mA h.size k.size,
  λi d e=>(k.block i (kz d h.size) (λg=>e (f i d g))).trans (h.block i d e)⟩
theorem aa.mono{S T:Nat->Prop}{a b:ab}(h:aa S a b)(d:∀i,i<a.heap.size->S i->T i):aa T a b:=
 ⟨h.os,h.tape,h.output,h.size,λi c f=>h.block i c (λe=>f (d i c e))⟩
theorem aa.drew(S:Nat->Prop)(w:ab):aa S w w.drew:=⟨rfl,rfl,rfl,eb _,λ_ _ _=>rfl⟩
theorem aa.alloc(S:Nat->Prop)(w:ab)(o:Obj):aa S w (w.alloc o):=
 ⟨rfl,rfl,rfl,by simp,λk a _=>Below.heap_alloc _ _ _ a⟩
theorem aa.setCell(w:ab)(p:Addr)(u:ax):aa (·=p.block) w (w.setCell p u):=
 ⟨rfl,rfl,rfl,by simp[World.setCell],λk _ a=>Below.heap_setCell _ _ _ _ a⟩
theorem aa.al{S:Nat->Prop}{a w:ab}(h:aa S a w)(o:Obj):aa S a (w.alloc o):=h.trans (aa.alloc n_ w o) (λ_ _ h=>h.elim)
theorem aa.dr{S:Nat->Prop}{a w:ab}(h:aa S a w):aa S a w.drew:=h.trans (aa.drew n_ w) (λ_ _ h=>h.elim)
theorem aa.st{S:Nat->Prop}{a w:ab}(h:aa S a w){p:Addr}(d:a.heap.size<=p.block\/S p.block)(u:ax):aa S a (w.setCell p u):=
 h.trans (aa.setCell w p u) (λi e c=>by
  have b:i=p.block:=c;subst b;rcases d with h|h
  ·omega
  ·exact h)
theorem aa.tr{S T:Nat->Prop}{a b c:ab}(h:aa S a b)(k:aa T b c)(d:∀i,T i->S i):aa S a c:=h.trans k (λi _ h=>d i h)
theorem aa.grown{w b:ab}{a:Option Nat}(h:w.grownBy b a):aa (λk=>V k=a) w b:=
 ⟨h.os,h.tape,h.output,h.size,λk d c=>h.block k d c⟩
theorem aa.below{w a:ab}(h:Below w.heap.size w a):aa n_ w a:=
 ⟨h.os,h.tape,h.output,h.size,λk b _=>h.block k b⟩
theorem aa.toBelow{S:Nat->Prop}{B:Nat}{w a:ab}(h:aa S w a)(d:B<=w.heap.size)(b:∀k,k<B->¬S k):Below B w a:=
 ⟨h.os,h.tape,h.output,h.size,λk c=>h.block k (by omega) (b k c)⟩
theorem aa.setBlock(w:ab)(b:Nat)(o:Obj):aa (·=b) w (setBlock w b o):=by refine⟨rfl,rfl,rfl,by simp[Go.ChangeMaps.setBlock],λk c a=>?_⟩;simp only[Go.ChangeMaps.setBlock];rw[Ti];rw[el (by intro e;exact a e.symm)]
theorem aa.cell{S:Nat->Prop}{w b:ab}(h:aa S w b){p:Addr}{v:ax}(a:w.cell? p=V v)(c:¬S p.block):b.cell? p=V v:=
 (World.cell?_of_block (h.block p.block (World.block_lt_of_cell? _ _ a) c)).trans a
theorem aa.frozen{S:Nat->Prop}{w a:ab}(h:aa S w a){p:Addr}(c:p.block<w.heap.size)(b:¬S p.block):a.frozen? p=w.frozen? p:=
 World.frozen?_of_block (h.block p.block c b)
theorem ak{w:ab}{b i:Nat}{c:Array ax}{e:cI}{a:Nat×Nat}(h:w.heap[b]?=V (I c e a))(v:ax):(w.setCell ⟨b,i,Y⟩ v).heap[b]?=V (I (c.setIfInBounds i v) e a):=by simp[World.setCell,SS,h]
theorem ae{w:ab}{b:Nat}{c:Array ax}{e:cI}{a:Nat×Nat}(h:w.heap[b]?=V (I c e a))(i:Nat):w.cell? ⟨b,i,Y⟩=c[i]?:=by simp[World.cell?,h]
theorem aj{w:ab}{b:Nat}{c:Array ax}{e:cI}(h:w.heap[b]?=V (I c e (0,0)))(i:Nat):w.frozen? ⟨b,i,Y⟩=false:=by simp[World.frozen?,h]
theorem az(w:ab)(o:Obj):(w.alloc o).heap[w.heap.size]?=V o:=(MapKept.heap_alloc w _).1
theorem bO{S:Nat->Prop}{w a:ab}{o:Obj}(c:aa S (w.alloc o) a)(b:¬S w.heap.size):a.heap[w.heap.size]?=V o:=
 (c.block _ (by simp) b).trans (az w o)
theorem bQ{w:ab}{b:Nat}{x y z:ax}{e:cI}(h:w.heap[b]?=V (I #[x,y,z] e (0,0))):w.cell? ⟨b,0,Y⟩=V x/\w.cell? ⟨b,1,Y⟩=V y/\w.cell? ⟨b,2,Y⟩=V z/\w.frozen? ⟨b,0,Y⟩=false/\w.frozen? ⟨b,1,Y⟩=false/\w.frozen? ⟨b,2,Y⟩=false:=
 ⟨ae h 0,ae h 1,ae h 2,aj h 0,aj h 1,aj h 2⟩
theorem tp{w:ab}{b:Nat}{x y z:ax}{e:cI}(h:w.heap[b]?=V (I #[x,y,z] e (0,0)))(a c d:ax):(((w.setCell ⟨b,0,Y⟩ a).setCell ⟨b,1,Y⟩ c).setCell ⟨b,2,Y⟩ d).heap[b]?=V (I #[a,c,d] e (0,0)):=by have f:=ak (i:=0) h a;have g:=ak (i:=1) f c;have j:=ak (i:=2) g d;simpa using j
def Row(w:ab)(e:cI)(a:Nat)(v:ax)(n:Nat)(d:List ax):Prop:=
 d.length=n*a/\
 ((v=J Y 0 0/\n=0)\/
  ∃g b c,v=J (V ⟨g,0,Y⟩) n b/\w.heap[g]?=V (I c e (0,0))/\n<=b/\b<=maxLen/\b*a<=c.size/\c.toList.take (n*a)=d)
theorem Row.nil(w:ab)(e:cI)(a:Nat):Row w e a (J Y 0 0) 0 []:=⟨by simp,.inl ⟨rfl,rfl⟩⟩
theorem Row.lt{w:ab}{e:cI}{a:Nat}{v:ax}{n:Nat}{i:List ax}(h:Row w e a v n i){g:Nat}(b:v.ownBlock=V g):g<w.heap.size:=by
 rcases h.2 with⟨rfl,_⟩|⟨j,c,d,rfl,f,_⟩
 ·simp[Value.ownBlock]at b
 ·simp[Value.ownBlock]at b;subst b;exact (lg f)
theorem Row.ai{w f:ab}{e:cI}{a:Nat}{v:ax}{n:Nat}{i:List ax}{S:Nat->Prop}(h:Row w e a v n i)(l:aa S w f)(k:∀g,v.ownBlock=V g->¬S g):Row f e a v n i:=by
 refine⟨h.1,?_⟩;rcases h.2 with j|⟨g,b,c,rfl,d,r⟩
 ·exact .inl j
 ·exact .inr ⟨g,b,c,rfl,by rw[l.block g (lg d) (k g rfl)];exact d,r⟩
theorem Row.cellAt{w:ab}{e:cI}{a:Nat}{g n b:Nat}{f:List ax}(h:Row w e a (J (V ⟨g,0,Y⟩) n b) n f)(j:Nat)(m:j<n*a):w.cell? ⟨g,j,Y⟩=f[j]?:=by
 rcases h.2 with⟨k,_⟩|⟨p,c,i,d,l,_,_,q,o⟩
 ·simp at k
 ·simp at d;obtain⟨rfl,rfl⟩:=d;rw[<-o];simp[World.cell?,l,m]
theorem Row.frozenAt{w:ab}{e:cI}{a:Nat}{g n b:Nat}{l:List ax}(h:Row w e a (J (V ⟨g,0,Y⟩) n b) n l)(j:Nat):w.frozen? ⟨g,j,Y⟩=false:=by
 rcases h.2 with⟨i,_⟩|⟨m,c,f,d,k,_⟩
 ·simp at i
 ·simp at d;obtain⟨rfl,rfl⟩:=d;simp[World.frozen?,k]
theorem Row.succ{w:ab}{e:cI}{b:Nat}{v:ax}{n:Nat}{i:List ax}(h:Row w e b v (n+1) i):∃g a,v=J (V ⟨g,0,Y⟩) (n+1) a:=by
 rcases h.2 with⟨_,d⟩|⟨g,a,c,f,_⟩
 ·cases d
 ·exact⟨g,a,f⟩
section
variable{P:Program} (w:ab)
theorem lG(t W e:cI)(i:TypeInfo)(z:ax)(h x:Nat)(T:P.underlying t=V (.slice e))(R:P.info? e=V i)(hz:i.zero=V z)(G:i.size=h)(a0:i.bytes=x)(a4:z.cells.size=h)(v:ax)(n:Nat)(A:List ax)(d:Row w e h v n A)(a:Addr)(m c:Nat)(b:List ax)(D:b.length=m*h)(l:∀j u,b[j]?=V u->w.cell? (a.add j)=V u)(h1:∀u∈b,u.oneCell'=true)(K:n+m<=maxLen)(p:(n+m)*x<=140737488355328):∃Q w',(Builtin.append_ #[t,t] W #[v,J (V a) m c]).run P w=.ok Q w'/\Row w' e h Q (n+m) (A++b)/\w.grownBy w' v.ownBlock/\(Q=J Y 0 0↔v=J Y 0 0/\m=0)/\(Q.ownBlock=v.ownBlock\/Q.ownBlock=V w.heap.size):=by
 subst G;subst a0;have S:n+m<=9223372036854775807:=by simp only[maxLen]at K;omega
 have q:(A++b).length=(n+m)*i.size:=by rw[hQ,d.1,D,Sq]
 have y:∀(f:Nat),f<n+m->∀(N:Option Nat),Row (w.drew.alloc (I (A.toArray++b.toArray++Builtin.zeroCells z.cells (grownCap w (n+m) f e-(n+m))) e)) e i.size (J (V ⟨w.heap.size,0,Y⟩) (n+m) (grownCap w (n+m) f e)) (n+m) (A++b)/\w.grownBy (w.drew.alloc (I (A.toArray++b.toArray++Builtin.zeroCells z.cells (grownCap w (n+m) f e-(n+m))) e)) N:=by
  intro f ho N;have a2:=grownCap_ge w (n+m) f e;have C:grownCap w (n+m) f e<=maxLen:=grownCap_le_maxLen w (n+m) f e K;refine⟨⟨q,.inr ⟨w.heap.size,_,_,rfl,Go.heap_alloc_new w.drew _,a2,C,?_,?_⟩⟩,⟨rfl,rfl,rfl,by simp,λk hk _=>Go.heap_alloc_old w.drew _ hk⟩⟩
  ·simp only[Array.size_append,vE,size_zeroCells,a4,d.1,D,<-Sq];apply xw;omega
  ·simp only[Tz,mE];rw[<-mE,<-q];exact List.take_left
 rcases d.2 with⟨rfl,rfl⟩|⟨g,r,B,rfl,hg,a5,C,a1,H⟩
 ·have hx:A=[]:=hU (by simpa using d.1);subst hx;by_cases hm:m=0
  ·subst hm;have hn:b=[]:=hU (by simpa using D);subst hn;refine⟨J Y 0 0,w,?_,Row.nil w e i.size,⟨rfl,rfl,rfl,eb _,λ_ _ _=>rfl⟩,by simp,Or.inl rfl⟩;simp[Builtin.append_,run_underlying T,sizeOf,typeInfo,R,Builtin.lenOf,Builtin.firstCells,loadCells,loadCellsFrom]
  ·have M:=run_append_nil (P:=P) w t W e i z T R hz a m c b D l (by omega) (by omega) (by have hb:=p;simp only[tA]at hb;omega);have s:=y 0 (by omega) (Value.ownBlock (J Y 0 0));simp only[tA,uE,Array.empty_append]at s⊢;exact⟨_,_,M,s.1,s.2,by simp[hm],Or.inr rfl⟩
 ·by_cases o:n+m<=r
  ·have L:n*i.size+b.length<=B.size:=by rw[D,<-Sq];exact mA (xw _ o) a1
   have M:=run_append_room (P:=P) w t W e i T R g n r B hg a m c b D l h1 o L;refine⟨_,_,M,⟨q,.inr ⟨g,r,_,rfl,setRow_heap w g B _ e _ hg,o,C,?_,?_⟩⟩,⟨rfl,rfl,rfl,by simp,λk _ hk=>setRow_other w g k _ (λe=>hk (by simp[Value.ownBlock,e]))⟩,by simp,Or.inl rfl⟩
   ·simp only[vE,hQ,js,mR,RA];omega
   ·rw[H,<-q];exact List.take_left
  ·have F:∀j u,A[j]?=V u->w.cell? ((⟨g,0,Y⟩:Addr).add j)=V u:=by
    intro j u hj;have a3:j<n*i.size:=by have:=(ej.1 hj).1;rw[d.1]at this;exact this
    have:=d.cellAt j a3;rw[Addr.add_lit,tA,this,hj]
   have M:=run_append_grow (P:=P) w t W e i z T R hz ⟨g,0,Y⟩ n r A d.1 F a m c b D l (by omega) (by omega) (growslice_fits (by omega) p);have s:=y r (by omega) (Value.ownBlock (J (V ⟨g,0,Y⟩) n r));exact⟨_,_,M,s.1,s.2,by simp,Or.inr rfl⟩
theorem aL{r:Array Oper}{rest:List Oper}{o:Oper}{a:Act}{Q:Exit->Act->ab->Prop}(D:o.guard=Y)(s x:Operand)(t:cI)(ho:o.op=.call {callee:=.builtin .append,args:=#[s,x],argTypes:=#[t,t]})(e:cI)(i:TypeInfo)(z:ax)(b f:Nat)(ht:P.underlying t=V (.slice e))(T:P.info? e=V i)(hz:i.zero=V z)(l:i.size=b)(C:i.bytes=f)(F:z.cells.size=b)(v:ax)(n:Nat)(G:List ax)(hs:a.eval s=v)(q:Row w e b v n G)(A:Addr)(m c:Nat)(d:List ax)(hx:a.eval x=J (V A) m c)(W:d.length=m*b)(k:∀j u,d[j]?=V u->w.cell? (A.add j)=V u)(H:∀u∈d,u.oneCell'=true)(B:n+m<=maxLen)(g:(n+m)*f<=140737488355328)(h:∀p y,Row y e b p (n+m) (G++d)->w.grownBy y v.ownBlock->(p=J Y 0 0↔v=J Y 0 0/\m=0)->(p.ownBlock=v.ownBlock\/p.ownBlock=V w.heap.size)->wpList P r Q rest (a.put o.dst p) y):wpList P r Q (o::rest) a w:=by refine wpList_plain D λK S=>?_;obtain⟨p,y,hr,L,M,N,R⟩:=lG (P:=P) w t o.type e i z b f ht T hz l C F v n G q A m c d W k H B g;unfold Oper.wp execOp;simp only[ho,resolve,invoke,builtin,Sem.run_bind,Sem.run_pure,Result.andThen_ok,List.map_toArray,mU,RY,hs,hx,hr];exact S _ _ (h p y L M N R)
end
end Go.Proofs.YtjbkfdeldlajhaaGreatDoor
namespace Go.Proofs.YtjbkfdeldlajhaaGreatDoor
open Go.RowKit Go.ChangeMaps Go.MapKept
open Option renaming none->Y,some->V
open Go.Value renaming int->Z,pointer->X,bool->ao,tuple->bt
open Go.IntKind renaming i64->U
open Go renaming World->ab,Value->ax,TypeId->cI
set_option linter.unusedSectionVars false
section
variable{α β:Type} [DecidableEq α]
def aD:List (α×β)->α->Option β
 |[],_=>Y
 |(a,v)::r,k=>if a=k then V v else aD r k
def put:List (α×β)->α->β->List (α×β)
 |[],k,v=>[(k,v)]
 |(a,x)::r,k,v=>if a=k then(k,v)::r else(a,x)::put r k v
def del:List (α×β)->α->List (α×β)
 |[],_=>[]
 |(a,x)::r,k=>if a=k then r else(a,x)::del r k
theorem bj:∀{l:List (α×β)} {k:α} {v:β},aD l k=V v->(k,v)∈l
 |(a,x)::r,k,v,h=>by
  unfold aD at h;split at h
  ·rename_i e;subst e;cases h;simp
  ·exact ef _ (bj h)
theorem dU:∀{l:List (α×β)} {k:α},aD l k=Y↔∀p∈l,p.1≠k
 |[],k=>by simp[aD]
 |(a,x)::r,k=>by
  unfold aD;split
  ·rename_i e;subst e;simp
  ·rename_i e;rw[dU];simp[e]
theorem jc:∀{l:List (α×β)} {k:α} {v:β},(l.map (·.1)).Nodup->(k,v)∈l->aD l k=V v
 |(a,x)::r,k,v,hn,h=>by
  simp only[mU,ey]at hn;unfold aD;rcases cT.1 h with e|h
  ·cases e;simp
  ·have:a≠k:=by rintro rfl;exact hn.1 (fI.2 ⟨_,h,rfl⟩)
   rw[el this];exact jc hn.2 h
theorem Ha:∀{l:List (α×β)} {k:α} {v:β},aD l k=V v->∃j,l[j]?=V (k,v)/\(∀u,put l k u=l.set j (k,u))/\del l k=l.eraseIdx j
 |(a,x)::r,k,v,h=>by
  unfold aD at h;split at h
  ·rename_i e;subst e;cases h;exact⟨0,rfl,λu=>by simp[put],by simp[del]⟩
  ·rename_i e;obtain⟨j,b,c,d⟩:=Ha h;exact⟨j+1,by simpa using b,λu=>by simp[put,e,c u],by simp[del,e,d]⟩
theorem kj:∀{l:List (α×β)} {k:α},aD l k=Y->∀v,put l k v=l++[(k,v)]
 |[],k,_,v=>rfl
 |(a,x)::r,k,h,v=>by
  unfold aD at h;split at h
  ·cases h
  ·rename_i e;simp[put,e,kj h v]
theorem vY:∀{l:List (α×β)} {k:α},aD l k=Y->del l k=l
 |[],k,_=>rfl
 |(a,x)::r,k,h=>by
  unfold aD at h;split at h
  ·cases h
  ·rename_i e;simp[del,e,vY h]
theorem ke(l:List (α×β))(k b:α)(v:β):aD (put l k v) b=if k=b then V v else aD l b:=by
 induction l with
 |nil=>simp[put,aD]
 |cons p r ih=>
  obtain⟨a,x⟩:=p;unfold put;by_cases h:a=k
  ·subst h;by_cases c:a=b<;>simp[aD,c]
  ·rw[el h];by_cases c:a=b
   ·subst c;simp[aD,Ne.symm h]
   ·simp[aD,c,ih]
theorem mZ(l:List (α×β))(d:(l.map (·.1)).Nodup)(k c:α):aD (del l k) c=if k=c then Y else aD l c:=by
 induction l with
 |nil=>simp[del,aD]
 |cons p r ih=>
  obtain⟨a,x⟩:=p;simp only[mU,ey]at d;unfold del;by_cases h:a=k
  ·subst h;rw[fy rfl];by_cases b:a=c
   ·subst b;rw[fy rfl];rw[dU];intro p f e;exact d.1 (fI.2 ⟨p,f,e⟩)
   ·simp[aD,b]
  ·rw[el h];by_cases b:a=c
   ·subst b;simp[aD,Ne.symm h]
   ·simp[aD,b,ih d.2]
theorem jP{l:List (α×β)}{k:α}{x:β}(h:aD l k=V x)(v:β):(put l k v).map (·.1)=l.map (·.1):=by
 induction l with
 |nil=>cases h
 |cons p r ih=>
  obtain⟨a,y⟩:=p;unfold aD at h;unfold put;by_cases e:a=k
  ·subst e;simp
  ·rw[el e]at h⊢;simp[ih h]
theorem cd{γ:Type}(f:β->γ)(l:List (α×β))(k:α):aD (l.map λp=>(p.1,f p.2)) k=(aD l k).map f:=by
 induction l with
 |nil=>rfl
 |cons p r ih=>obtain⟨a,x⟩:=p;simp only[mU,aD];split<;>simp[ih]
theorem oj{γ:Type}(f:β->γ)(l:List (α×β))(k:α)(v:β):put (l.map λp=>(p.1,f p.2)) k (f v)=(put l k v).map λp=>(p.1,f p.2):=by
 induction l with
 |nil=>rfl
 |cons p r ih=>obtain⟨a,x⟩:=p;simp only[mU,put];split<;>simp[ih]
theorem nR{γ:Type}(f:β->γ)(l:List (α×β))(k:α):del (l.map λp=>(p.1,f p.2)) k=(del l k).map λp=>(p.1,f p.2):=by
 induction l with
 |nil=>rfl
 |cons p r ih=>obtain⟨a,x⟩:=p;simp only[mU,del];split<;>simp[ih]
theorem oc(l:List (α×β))(k:α)(v:β):(put l k v).length=if(aD l k).isSome then l.length else l.length+1:=by
 induction l with
 |nil=>simp[put,aD]
 |cons p r ih=>
  obtain⟨a,x⟩:=p;unfold put aD;by_cases h:a=k
  ·simp[h]
  ·simp only[h,RL,fN,ih];split<;>rfl
end
theorem oe{γ δ:Type}(f:γ->δ):∀l:List γ,(l.map f).Nodup->l.Nodup
 |[],_=>by simp
 |x::r,h=>by simp only[mU,ey]at h⊢;exact⟨λa=>h.1 (fI.2 ⟨x,a,rfl⟩),oe f r h.2⟩
theorem tD{γ:Type}{l:List γ}(h:l.Nodup){i j:Nat}(b:i<l.length)(c:j<l.length)(e:l[i]=l[j]):i=j:=by
 rw[List.nodup_iff_pairwise_ne,RE]at h;rcases Nat.lt_trichotomy i j with a|rfl|a
 ·exact absurd e (h i j b c a)
 ·rfl
 ·exact absurd e.symm (h j i c b a)
theorem nS{γ δ:Type}(f:γ->δ):∀(l:List γ) (j:Nat),(l.eraseIdx j).map f=(l.map f).eraseIdx j
 |[],j=>by simp
 |x::r,0=>by simp
 |x::r,j+1=>by simp[nS f r j]
structure ld{α:Type}(d:TypeDesc)(mk:α->ax):Prop where
 isKey:∀a,IsKey d (mk a)
 inj:∀a b,mk a=mk b->a=b
 bits:∀a,Instr.sameBits 10000 (mk a) (mk a)=true
theorem bJ:ld .string Value.string:=⟨λ_=>trivial,λa b h=>by injection h,λa=>by simp only[Instr.sameBits];exact(MapKept.bytes_beq a a).2 rfl⟩
theorem cY:ld (.int U) (Value.int U):=⟨λ_=>rfl,λa b h=>by injection h,λa=>by simp[Instr.sameBits]⟩
def aQ{α:Type}(mk:α->ax)(w:ab)(b:Nat)(l:List (α×ax)):Prop:=
 ∃c a,w.heap[b]?=V (.map c a)/\Stamped c a/\c.toList.map (λe=>(e.key,e.val))=l.map (λp=>(mk p.1,p.2))
section
variable{α:Type} {mk:α->ax} {w w':ab} {b:Nat} {l:List (α×ax)}
theorem aQ.lt(h:aQ mk w b l):b<w.heap.size:=by obtain⟨d,a,c,_⟩:=h;exact (lg c)
theorem aQ.ai{S:Nat->Prop}(h:aQ mk w b l)(g:aa S w w')(e:¬S b):aQ mk w' b l:=by have c:=h.lt;obtain⟨d,a,f,r⟩:=h;exact⟨d,a,(g.block b c e).trans f,r⟩
theorem aQ.made(mk:α->ax)(w:ab):aQ mk (w.alloc (.map #[] 0)) w.heap.size []:=
 ⟨#[],0,(MapKept.heap_alloc w _).1,stamped_empty 0,rfl⟩
theorem aQ.keys(h:aQ mk w b l):(l.map (λp=>mk p.1)).Nodup:=by
 obtain⟨c,a,g,f,e⟩:=h;have:=f.2.2;have d:c.toList.map (·.key)=l.map (λp=>mk p.1):=by have:=Rc (List.map (·.1)) e;simpa[tO,tQ]using this
 rwa[d]at this
theorem aQ.nodup(h:aQ mk w b l):(l.map (·.1)).Nodup:=by
 have:=h.keys;have e:l.map (λp=>mk p.1)=(l.map (·.1)).map mk:=by simp[tO,tQ]
 rw[e]at this;exact oe mk _ this
end
section
variable{P:Program} {α:Type} [DecidableEq α] {d:TypeDesc} {mk:α->ax} {w:ab} {b:Nat} {l:List (α×ax)} {kt e t:cI}
theorem nT(K:ld d mk){b:List MapEntry}(o:b.map (λe=>(e.key,e.val))=l.map (λp=>(mk p.1,p.2)))(C:(l.map (·.1)).Nodup)(k:α):(aD l k=Y/\Instr.findNow d (mk k) b 0=V Y)\/∃j v,aD l k=V v/\l[j]?=V (k,v)/\(∀u,put l k u=l.set j (k,u))/\del l k=l.eraseIdx j/\(∃e,b[j]?=V e/\e.key=mk k/\e.val=v)/\Instr.findNow d (mk k) b 0=V (V (j,v)):=by
 have c:∀x∈b,IsKey d x.key:=by
  intro x t
  have:(x.key,x.val)∈l.map (λp=>(mk p.1,p.2)):=by rw[<-o];exact fI.2 ⟨x,t,rfl⟩
  obtain⟨p,_,s⟩:=fI.1 this;rw[<-(TV s).1];exact K.isKey _
 have n:∀j:Nat,(b[j]?).map (λe=>(e.key,e.val))=(l[j]?).map (λp=>(mk p.1,p.2)):=by intro j;have:=Rc (λz=>z[j]?) o;simpa[vk]using this
 rcases findNow_spec (K.isKey k) b 0 c with⟨m,h⟩|⟨j,F,m,h,A⟩
 ·refine .inl ⟨?_,m⟩;rw[dU];intro p s M
  have:(mk p.1,p.2)∈b.map (λe=>(e.key,e.val)):=by rw[o];exact fI.2 ⟨p,s,rfl⟩
  obtain⟨x,t,w⟩:=fI.1 this;exact h x t ((TV w).1.trans (by rw[M]))
 ·right;have a:=n j;rw[h]at a;cases hlj:l[j]? with
  |none=>rw[hlj]at a;simp at a
  |some p=>
   rw[hlj]at a;simp only[uW,vv,tB]at a;have g:p.1=k:=K.inj _ _ (a.1.symm.trans A);obtain⟨P,D⟩:=p;simp only at g a;subst g;have N:(P,D)∈l:=hH hlj;have B:=jc C N;obtain⟨i,y,H,L⟩:=Ha B;have q:i=j:=by
    have r:j<l.length:=(ej.1 hlj).1;have f:i<l.length:=(ej.1 y).1;have G:(l.map (·.1))[j]'(by simpa using r)=(l.map (·.1))[i]'(by simpa using f):=by simp only[Se];rw[(ej.1 hlj).2,(ej.1 y).2]
    exact tD C _ _ G.symm
   subst q;refine⟨i,D,B,hlj,H,L,⟨F,h,A,a.2⟩,?_⟩;rw[m,a.2];simp
theorem aQ.lookup(K:ld d mk)(h:aQ mk w b l)(n:P.underlying t=V (.map kt e))(a:P.underlying kt=V d){z:ax}(q:(zeroValue e).run P w=.ok z w)(k:α)(c:Bool):(Instr.lookup t (.map (V b)) (mk k) c).run P w=.ok (if c then bt #[(aD l k).getD z,ao (aD l k).isSome]else(aD l k).getD z) w:=by
 have p:=h.nodup;obtain⟨r,f,m,s,o⟩:=h;rcases nT K o p k with⟨g,i⟩|⟨j,v,g,_,_,_,_,i⟩
 ·simp[Instr.lookup,run_underlying n,MapKept.run_getObj_map m,run_checkKey a (K.isKey k),Instr.findKey,run_underlying a,i,q,g,Result.andThen]
 ·simp[Instr.lookup,run_underlying n,MapKept.run_getObj_map m,run_checkKey a (K.isKey k),Instr.findKey,run_underlying a,i,g,Result.andThen]
theorem aQ.update(K:ld d mk)(h:aQ mk w b l)(N:P.underlying t=V (.map kt e))(u:P.underlying kt=V d)(k:α)(v:ax):∃o,(Instr.mapUpdate t (.map (V b)) (mk k) v).run P w=.ok () (setBlock w b o)/\aQ mk (setBlock w b o) b (put l k v):=by
 have S:=h.nodup;have F:=h.lt;obtain⟨r,a,s,M,y⟩:=h;have c:∀o,(setBlock w b o).heap[b]?=V o:=λo=>by simp[setBlock,F]
 rcases nT K y S k with⟨A,B⟩|⟨j,x,A,R,G,_,⟨Q,C,q,T⟩,B⟩
 ·refine⟨.map (r.push {key:=mk k,val:=v,born:=a}) (a+1),?_,_,_,c _,stamped_push M ?_,?_⟩
  ·simp[Instr.mapUpdate,run_underlying N,MapKept.run_getObj_map s,run_checkKey u (K.isKey k),Instr.findKey,run_underlying u,B,setObj,Sem.run,s,setBlock,Result.andThen]
  ·intro x W L
   have:(x.key,x.val)∈l.map (λp=>(mk p.1,p.2)):=by rw[<-y];exact fI.2 ⟨x,W,rfl⟩
   obtain⟨p,G,H⟩:=fI.1 this;exact dU.1 A p G (K.inj _ _ ((TV H).1.trans L))
  ·rw[kj A];simp[y]
 ·have f:r[j]?=V Q:=by rw[<-RW];exact C
  refine⟨.map (r.modify j λe=>{e with key:=mk k,val:=v}) a,?_,_,_,c _,stamped_modify M j _ (λ_ _=>rfl) (λe _ m=>?_),?_⟩
  ·simp[Instr.mapUpdate,run_underlying N,MapKept.run_getObj_map s,run_checkKey u (K.isKey k),Instr.findKey,run_underlying u,B,f,q,Instr.keyThatStays,K.bits,setObj,Sem.run,s,setBlock,Result.andThen]
  ·rw[f]at m;cases m;exact q.symm
  ·rw[G v];apply Tn;intro i;have g:(r.toList[i]?).map (λe=>(e.key,e.val))=(l[i]?).map (λp=>(mk p.1,p.2)):=by have:=Rc (λz=>z[i]?) y;simpa[vk]using this
   simp only[vk,RW,SS,Ta]at g⊢;by_cases n:j=i
   ·subst n;have D:j<l.length:=(ej.1 R).1;simp[f,D]
   ·simp[n,g]
theorem aQ.delete(K:ld d mk)(h:aQ mk w b l)(y:P.underlying t=V (.map kt e))(i:P.underlying kt=V d)(k:α)(C:cI):∃o,(Builtin.delete_ #[t,kt] C #[.map (V b),mk k]).run P w=.ok (bt #[]) (setBlock w b o)/\aQ mk (setBlock w b o) b (del l k):=by
 have A:=h.nodup;have s:=h.lt;obtain⟨f,a,g,v,p⟩:=h;have c:∀o,(setBlock w b o).heap[b]?=V o:=λo=>by simp[setBlock,s]
 rcases nT K p A k with⟨u,m⟩|⟨j,x,u,F,_,n,⟨D,q,z,B⟩,m⟩
 ·refine⟨.map f a,?_,f,a,c _,v,?_⟩
  ·simp[Builtin.delete_,run_underlying y,MapKept.run_getObj_map g,run_checkKey i (K.isKey k),Instr.findKey,run_underlying i,m,setObj,Sem.run,g,setBlock,Result.andThen]
  ·rw[vY u];exact p
 ·refine⟨.map (f.eraseIdxIfInBounds j) a,?_,_,_,c _,stamped_erase v j,?_⟩
  ·simp[Builtin.delete_,run_underlying y,MapKept.run_getObj_map g,run_checkKey i (K.isKey k),Instr.findKey,run_underlying i,m,setObj,Sem.run,g,setBlock,Result.andThen]
  ·rw[n];have r:j<f.size:=by have:=(ej.1 q).1;simpa using this
   simp only[Array.eraseIdxIfInBounds,r,dif_pos,Array.toList_eraseIdx];rw[nS,nS,p]
theorem aQ.length(h:aQ mk w b l)(i:P.underlying t=V (.map kt e))(j:cI):(Builtin.len_ #[t] j #[.map (V b)]).run P w=.ok (Z U l.length) w:=by
 obtain⟨c,a,d,k,f⟩:=h;have g:c.size=l.length:=by have:=Rc List.length f;simpa using this
 simp[Builtin.len_,run_underlying i,MapKept.run_getObj_map d,g,goInt,Result.andThen]
end
theorem wt{A B C:Type}(f:A->C)(g:B->C)(p:A->Bool)(q:B->Bool):∀(c:List A) (d:List B),c.map f=d.map g->(∀a∈c,∀b∈d,f a=g b->p a=q b)->(c.filter p).map f=(d.filter q).map g
 |[],[],_,_=>rfl
 |[],_::_,h,_=>by simp at h
 |_::_,[],h,_=>by simp at h
 |a::c,b::d,h,hpq=>by
  simp only[mU,List.cons.injEq]at h;have ih:=wt f g p q c d h.2 (λx k y l=>hpq x (by simp[k]) y (by simp[l]));have j:=hpq a (by simp) b (by simp) h.1;by_cases e:p a=true
  ·have i:q b=true:=by rw[<-j];exact e
   simp[e,i,ih,h.1]
  ·have i:¬q b=true:=by rw[<-j];exact e
   simp[e,i,ih]
def fZ{α:Type}(mk:α->ax)(w:ab)(r b:Nat)(l left:List (α×ax)):Prop:=
 ∃f a c d,w.heap[b]?=V (.map f a)/\Stamped f a/\f.toList.map (λe=>(e.key,e.val))=l.map (λp=>(mk p.1,p.2))/\w.heap[r]?=V (.mapIter (V b) c d a)/\(∀x∈f.toList,x.born<c)/\c<=a/\(leftOf f d).toList.map (λe=>(e.key,e.val))=left.map (λp=>(mk p.1,p.2))
section
variable{P:Program} {α:Type} [DecidableEq α] {d:TypeDesc} {mk:α->ax} {w:ab} {b r:Nat} {l left:List (α×ax)} {kt e t:cI}
theorem fZ.map(h:fZ mk w r b l left):aQ mk w b l:=by obtain⟨e,a,c,d,f,i,g,_⟩:=h;exact⟨e,a,f,i,g⟩
theorem fZ.ai{i:ab}{S:Nat->Prop}(h:fZ mk w r b l left)(g:aa S w i)(k:¬S b)(n:¬S r):fZ mk i r b l left:=by obtain⟨j,a,c,d,e,o,m,f,rest⟩:=h;exact⟨j,a,c,d,(g.block b (lg e) k).trans e,o,m,(g.block r (lg f) n).trans f,rest⟩
theorem aQ.range(h:aQ mk w b l)(j:P.underlying t=V (.map kt e)):∃o,(Instr.range t (.map (V b))).run P w=.ok (X (V ⟨w.heap.size,0,Y⟩)) (w.alloc o)/\fZ mk (w.alloc o) w.heap.size b l l:=by
 have d:=h.lt;obtain⟨c,a,f,i,g⟩:=h;refine⟨.mapIter (V b) a #[] a,?_,c,a,a,#[],(Below.heap_alloc _ _ _ d).trans f,i,g,(MapKept.heap_alloc w _).1,i.1,eb _,?_⟩
 ·simp[Instr.range,run_underlying j,MapKept.run_getObj_map f,newObj,Sem.run,Result.andThen]
 ·have:leftOf c #[]=c:=by simp[leftOf]
  rw[this];exact g
theorem nQ{β:Type}(l:List (α×β))(b:(l.map (·.1)).Nodup)(k:α):del l k=l.filter (λp=>p.1≠k):=by
 induction l with
 |nil=>rfl
 |cons p r ih=>
  obtain⟨a,x⟩:=p;simp only[mU,ey]at b;unfold del;by_cases h:a=k
  ·subst h;rw[fy rfl]
   have:r.filter (λp=>p.1≠a)=r:=by rw[RT];intro q c;simp only[ne_eq,decide_not,Bool.not_eq_eq_eq_not,TU,decide_eq_false_iff_not];intro e;exact b.1 (fI.2 ⟨q,c,e⟩)
   rw[RS,el (by simp),this]
  ·rw[el h,ih b.2];simp[h]
theorem fZ.next(K:ld d mk)(h:fZ mk w r b l left)(ty:cI):(left=[]/\(Instr.next (X (V ⟨r,0,Y⟩)) false ty).run P w=.ok (bt #[ao false]) w)\/∃k v w',(k,v)∈left/\(Instr.next (X (V ⟨r,0,Y⟩)) false ty).run P w=.ok (bt #[ao true,mk k,v]) w'/\fZ mk w' r b l (del left k)/\aa (·=r) w w'/\w'.heap.size=w.heap.size/\(Instr.entry (X (V ⟨r,0,Y⟩))).run P w'=.ok (bt #[mk k,v]) w':=by
 have a3:=h.map;obtain⟨m,c,e,a,R,C,he,N,s,D,f⟩:=h;have S:b≠r:=by rintro rfl;rw[R]at N;cases N
 rcases run_next_at (P:=P) w ty r b e c a m c N R s D with⟨h0,o⟩|⟨g,t,Q,F,o⟩
 ·refine .inl ⟨?_,o⟩
  have:(leftOf m a).toList=[]:=by apply hU;simpa using h0
  rw[this]at f;simpa using f.symm
 ·right;have hm:(g.key,g.val)∈left.map (λp=>(mk p.1,p.2)):=by rw[<-f];exact fI.2 ⟨g,t,rfl⟩
  obtain⟨⟨k,v⟩,W,n⟩:=fI.1 hm;simp only[tB]at n;have T:aa (·=r) w Q:=by rcases F with rfl|rfl;exact aa.refl _ _;exact aa.drew _ _
  have u:Q.heap=w.heap:=by rcases F with rfl|rfl<;>rfl
  have B:r<w.heap.size:=(lg N);have y:(setBlock Q r (.mapIter (V b) e (a.push g.born) c)).heap[b]?=V (.map m c):=by simp[setBlock,u,Ne.symm S,R]
  have A:(setBlock Q r (.mapIter (V b) e (a.push g.born) c)).heap[r]?=V (.mapIter (V b) e (a.push g.born) c):=by simp[setBlock,u,B]
  have z:g∈m.toList:=by simp only[leftOf,TB]at t;exact(kB.1 t).1
  refine⟨k,v,_,W,by rw[o,n.1,n.2],⟨m,c,e,a.push g.born,y,C,he,A,s,D,?_⟩,T.trans (aa.setBlock _ _ _) (λi _ M=>M),by simp[setBlock,u],?_⟩
  ·have a0:(left.map (·.1)).Nodup:=by
    have h1:((leftOf m a).toList.map (·.key)).Nodup:=by
     have:(leftOf m a).toList.Sublist m.toList:=by simp only[leftOf,TB];exact qs
     exact List.Nodup.sublist (List.Sublist.map _ this) C.2.2
    have h2:(leftOf m a).toList.map (·.key)=(left.map (·.1)).map mk:=by have:=Rc (List.map (·.1)) f;simpa[tO,tQ]using this
    rw[h2]at h1;exact oe mk _ h1
   rw[nQ left a0];have h3:(leftOf m (a.push g.born)).toList=(leftOf m a).toList.filter (λx=>x.born !=g.born):=by simp only[leftOf,TB,RN];apply Tb;intro x _;simp only[Array.contains_push,Bool.not_or,bne];rw[Bool.and_comm]
   rw[h3];refine wt _ _ _ _ _ _ f (λx hx pr _ a2=>?_);have G:x∈m.toList:=by simp only[leftOf,TB]at hx;exact(kB.1 hx).1
   have H:x.born=g.born↔x.key=g.key:=by
    obtain⟨i,M,rfl⟩:=Rr G;obtain⟨j,hj,q⟩:=Rr z;constructor
    ·intro h
     have:i=j:=tD C.2.1 (by simpa using M) (by simpa using hj) (by simp only[Se];rw[h,q])
     subst this;rw[q]
    ·intro h
     have:i=j:=tD C.2.2 (by simpa using M) (by simpa using hj) (by simp only[Se];rw[h,q])
     subst this;rw[q]
   have a1:=(TV a2).1;have L:x.born=g.born↔pr.1=k:=by rw[H,a1,<-n.1];exact⟨λh=>K.inj _ _ h,λh=>by rw[h]⟩
   rw[QT];simp only[bne_iff_ne,ne_eq,decide_not,Bool.not_eq_eq_eq_not,TU,decide_eq_false_iff_not];exact not_congr L
  ·have:=run_entry_at (P:=P) _ r b e a m c g A y z C.2.1;rw[this,n.1,n.2]
end
section
variable{P:Program} {α:Type} [DecidableEq α] {d:TypeDesc} {mk:α->ax} (w:ab) {ops:Array Oper} {rest:List Oper} {o:Oper} {a:Act} {Q:Exit->Act->ab->Prop}
theorem iA(n:o.guard=Y)(m x:Operand)(t:cI)(g:o.op=Op.lookup t m x false)(h e:cI)(K:ld d mk)(q:P.underlying t=V (.map h e))(j:P.underlying h=V d)(z:ax)(s:(zeroValue e).run P w=.ok z w)(b:Nat)(p:a.eval m=.map (V b))(k:α)(r:a.eval x=mk k)(l:List (α×ax))(c:aQ mk w b l)(i:wpList P ops Q rest (a.put o.dst ((aD l k).getD z)) w):wpList P ops Q (o::rest) a w:=by refine wpList_plain n λu f=>?_;unfold Oper.wp;simp[execOp,g,p,r,c.lookup K q j s k false,Result.andThen];exact f _ _ i
theorem bC(n:o.guard=Y)(m x:Operand)(t:cI)(g:o.op=Op.lookup t m x true)(h e:cI)(K:ld d mk)(q:P.underlying t=V (.map h e))(j:P.underlying h=V d)(z:ax)(s:(zeroValue e).run P w=.ok z w)(b:Nat)(p:a.eval m=.map (V b))(k:α)(r:a.eval x=mk k)(l:List (α×ax))(c:aQ mk w b l)(i:wpList P ops Q rest (a.put o.dst (bt #[(aD l k).getD z,ao (aD l k).isSome])) w):wpList P ops Q (o::rest) a w:=by refine wpList_plain n λu f=>?_;unfold Oper.wp;simp[execOp,g,p,r,c.lookup K q j s k true,Result.andThen];exact f _ _ i
theorem fW(r:o.guard=Y)(m x v:Operand)(t:cI)(i:o.op=Op.mapUpdate t m x v)(n e:cI)(K:ld d mk)(u:P.underlying t=V (.map n e))(q:P.underlying n=V d)(b:Nat)(s:a.eval m=.map (V b))(k:α)(z:a.eval x=mk k)(c:ax)(y:a.eval v=c)(l:List (α×ax))(f:aQ mk w b l)(p:∀w',aQ mk w' b (put l k c)->aa (·=b) w w'->w'.heap.size=w.heap.size->wpList P ops Q rest (a.put o.dst undef) w'):wpList P ops Q (o::rest) a w:=by refine wpList_plain r λA h=>?_;obtain⟨B,g,j⟩:=f.update (e:=e) K u q k c;unfold Oper.wp;simp[execOp,i,s,z,y,g,Result.andThen];exact h _ _ (p _ j (aa.setBlock _ _ _) (by simp[setBlock]))
theorem fm(q:o.guard=Y)(m x:Operand)(t j:cI)(h:o.op=Op.call {callee:=Callee.builtin Builtin.delete,args:=#[m,x],argTypes:=#[t,j]})(e:cI)(K:ld d mk)(s:P.underlying t=V (.map j e))(p:P.underlying j=V d)(b:Nat)(r:a.eval m=.map (V b))(k:α)(u:a.eval x=mk k)(l:List (α×ax))(c:aQ mk w b l)(n:∀w',aQ mk w' b (del l k)->aa (·=b) w w'->w'.heap.size=w.heap.size->wpList P ops Q rest (a.put o.dst (bt #[])) w'):wpList P ops Q (o::rest) a w:=by refine wpList_plain q λv g=>?_;obtain⟨y,f,i⟩:=c.delete K s p k o.type;unfold Oper.wp;simp[execOp,h,resolve,invoke,builtin,r,u,f,Result.andThen];exact g _ _ (n _ i (aa.setBlock _ _ _) (by simp[setBlock]))
theorem jW(h:o.guard=Y)(m:Operand)(t:cI)(f:o.op=Op.call {callee:=Callee.builtin Builtin.len,args:=#[m],argTypes:=#[t]})(k e:cI)(j:P.underlying t=V (.map k e))(b:Nat)(i:a.eval m=.map (V b))(l:List (α×ax))(c:aQ mk w b l)(g:wpList P ops Q rest (a.put o.dst (Z U l.length)) w):wpList P ops Q (o::rest) a w:=by refine wpList_plain h λn d=>?_;unfold Oper.wp;simp[execOp,f,resolve,invoke,builtin,i,c.length j o.type,Result.andThen];exact d _ _ g
theorem uT(j:o.guard=Y)(m:Operand)(t:cI)(g:o.op=Op.range t m)(p e:cI)(n:P.underlying t=V (.map p e))(b:Nat)(k:a.eval m=.map (V b))(l:List (α×ax))(c:aQ mk w b l)(i:∀w',fZ mk w' w.heap.size b l l->aa n_ w w'->w'.heap.size=w.heap.size+1->wpList P ops Q rest (a.put o.dst (X (V ⟨w.heap.size,0,Y⟩))) w'):wpList P ops Q (o::rest) a w:=by refine wpList_plain j λq f=>?_;obtain⟨r,d,h⟩:=c.range (P:=P) n;unfold Oper.wp;simp[execOp,g,k,d,Result.andThen];exact f _ _ (i _ h (aa.alloc _ _ _) (by simp))
theorem xW(x:o.guard=Y)(t:Operand)(n:o.op=Op.next t false)(K:ld d mk)(b r:Nat)(j:a.eval t=X (V ⟨r,0,Y⟩))(l left:List (α×ax))(h:fZ mk w r b l left)(f:left=[]->wpList P ops Q rest (a.put o.dst (bt #[ao false])) w)(g:∀k v e,(k,v)∈left->fZ mk e r b l (del left k)->aa (·=r) w e->e.heap.size=w.heap.size->(Instr.entry (X (V ⟨r,0,Y⟩))).run P e=.ok (bt #[mk k,v]) e->wpList P ops Q rest (a.put o.dst (bt #[ao true,mk k,v])) e):wpList P ops Q (o::rest) a w:=by
 refine wpList_plain x λz i=>?_;unfold Oper.wp;rcases h.next (P:=P) K o.type with⟨u,c⟩|⟨k,v,e,q,c,m,y,s,p⟩
 ·simp[execOp,n,j,c,Result.andThen];exact i _ _ (f u)
 ·simp[execOp,n,j,c,Result.andThen];exact i _ _ (g k v e q m y s p)
end
def dG{α:Type}(mk:α->ax)(w:ab)(a:Option Nat)(l:List (α×ax)):Prop:=
 match a with
 |none=>l=[]
 |some b=>aQ mk w b l
theorem dG.ai{α:Type}{mk:α->ax}{w c:ab}{a:Option Nat}{l:List (α×ax)}{S:Nat->Prop}(h:dG mk w a l)(e:aa S w c)(d:∀b,a=V b->¬S b):dG mk c a l:=by
 cases a with
 |none=>exact h
 |some b=>exact aQ.ai h e (d b rfl)
theorem dG.lt{α:Type}{mk:α->ax}{w:ab}{a:Option Nat}{l:List (α×ax)}(h:dG mk w a l){b:Nat}(c:a=V b):b<w.heap.size:=by subst c;exact aQ.lt h
section
variable{P:Program} {α:Type} [DecidableEq α] {d:TypeDesc} {mk:α->ax} {w:ab} {ob:Option Nat} {l:List (α×ax)} {kt e t:cI}
theorem dG.lookup(K:ld d mk)(h:dG mk w ob l)(f:P.underlying t=V (.map kt e))(a:P.underlying kt=V d){z:ax}(g:(zeroValue e).run P w=.ok z w)(k:α)(c:Bool):(Instr.lookup t (.map ob) (mk k) c).run P w=.ok (if c then bt #[(aD l k).getD z,ao (aD l k).isSome]else(aD l k).getD z) w:=by
 cases ob with
 |some b=>exact aQ.lookup K h f a g k c
 |none=>
  have i:l=[]:=h;subst i;simp[Instr.lookup,run_underlying f,run_checkKey a (K.isKey k),Instr.findKey,run_underlying a,Instr.findNow,aD,g,Result.andThen]
theorem dG.length(h:dG mk w ob l)(a:P.underlying t=V (.map kt e))(c:cI):(Builtin.len_ #[t] c #[.map ob]).run P w=.ok (Z U l.length) w:=by
 cases ob with
 |some b=>exact aQ.length h a c
 |none=>
  have d:l=[]:=h;subst d;simp[Builtin.len_,run_underlying a,goInt,Result.andThen]
theorem dG.nodup(h:dG mk w ob l):(l.map (·.1)).Nodup:=by
 cases ob with
 |some b=>exact aQ.nodup h
 |none=>
  have a:l=[]:=h;subst a;simp
variable{ops:Array Oper} {rest:List Oper} {o:Oper} {a:Act} {Q:Exit->Act->ab->Prop}
theorem dd(w:ab)(n:o.guard=Y)(m x:Operand)(t:cI)(f:o.op=Op.lookup t m x false)(g e:cI)(K:ld d mk)(q:P.underlying t=V (.map g e))(j:P.underlying g=V d)(z:ax)(s:(zeroValue e).run P w=.ok z w)(h:Option Nat)(p:a.eval m=.map h)(k:α)(r:a.eval x=mk k)(l:List (α×ax))(b:dG mk w h l)(i:wpList P ops Q rest (a.put o.dst ((aD l k).getD z)) w):wpList P ops Q (o::rest) a w:=by refine wpList_plain n λu c=>?_;unfold Oper.wp;simp[execOp,f,p,r,b.lookup K q j s k false,Result.andThen];exact c _ _ i
theorem pY(w:ab)(h:o.guard=Y)(m:Operand)(t:cI)(d:o.op=Op.call {callee:=Callee.builtin Builtin.len,args:=#[m],argTypes:=#[t]})(k e:cI)(j:P.underlying t=V (.map k e))(f:Option Nat)(i:a.eval m=.map f)(l:List (α×ax))(b:dG mk w f l)(g:wpList P ops Q rest (a.put o.dst (Z U l.length)) w):wpList P ops Q (o::rest) a w:=by refine wpList_plain h λn c=>?_;unfold Oper.wp;simp[execOp,d,resolve,invoke,builtin,i,b.length j o.type,Result.andThen];exact c _ _ g
end
end Go.Proofs.YtjbkfdeldlajhaaGreatDoor
namespace Go.Proofs.YtjbkfdeldlajhaaGreatDoor
open Go.RowKit Go.Proofs.Tryz
open Go.Value renaming int->Z,string->O,bool->ao
open Go renaming World->ab,Calls->ba
open Go.Ending renaming returned->ay
theorem cR{a b:Bool}(h:a=b):ay (ao a)=ay (ao b):=by rw[h]
theorem fV{k:IntKind}{a b:Int}(h:a=b):ay (Z k a)=ay (Z k b):=by rw[h]
def dw(s:ByteArray):Bool:=decide (1<=s.size)&&decide (s.size<=10)
def fM(s:ByteArray):Bool:=decide (s.size<=40)
theorem mW(s:ByteArray)(w:ab)(a:s.size<=maxLen):ba prog 66 #[O s] w λe b=>e=ay (ao (dw s))/\b=w:=by
 unfold maxLen at a;go_enter func66,ntmps66;go_wp2;all_goals go_ret
 ·refine⟨cR ?_,rfl⟩;unfold dw;rw[QT];simp;omega
 ·refine⟨cR ?_,rfl⟩;unfold dw;rw[QT];simp;omega
theorem lX(s:ByteArray)(w:ab)(a:s.size<=maxLen):ba prog 130 #[O s] w λe b=>e=ay (ao (fM s))/\b=w:=by
 unfold maxLen at a;go_enter func130,ntmps130;go_wp2;all_goals go_ret
 refine⟨cR ?_,rfl⟩;unfold fM;rw[QT];simp;omega
def uK(k:Int):ByteArray:=(ByteArray.mk #[107,101,121]).extract 0 (1+k%3).toNat++(ByteArray.mk #[97,98,99,100,101,102,103,104,105,106,107,108]).extract k.toNat (k+1).toNat
end Go.Proofs.YtjbkfdeldlajhaaGreatDoor
