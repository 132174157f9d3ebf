/- Own lemmas of the verifier on memory, numbers and the functions that the laws call; no statement is proved here. -/
import Derived.WalkKit
import Derived.WalkSpells
import Derived.WalkLawsBesides
import Derived.Laws.CopyOwn
import Derived.ScopeJumps
import Derived.Orders
import Derived.OpenShut
import Derived.Test.YtokbbmngfogbbaaGreatDoorProg
import Derived.Laws.Cover3
import Derived.StillTail
namespace Go.Proofs.YtokbbmngfogbbaaGreatDoor
open Go.RowKit
set_option maxRecDepth 100000
set_option maxHeartbeats 8000000
theorem hid{p:Prop}(h:p):Hid p:=h
def zah(bs:List UInt8)(k:Nat):Int:=((bs.getD k 0).toNat:Int)
theorem zae(bs:List UInt8)(k:Nat):0<=zah bs k:=by unfold zah;omega
theorem zaf(bs:List UInt8)(k:Nat):zah bs k<=255:=by
 unfold zah;have:=(bs.getD k 0).toNat_lt;omega
def cellsOf(bs:List UInt8):List Value:=bs.map fun b=>.int .u8 (b.toNat:Int)
theorem zaa(bs:List UInt8):(cellsOf bs).length=bs.length:=by simp[cellsOf]
theorem zam(bs:List UInt8)(k:Nat)(h:k<bs.length):(cellsOf bs)[k]? = some (.int .u8 (zah bs k)):=by
 simp[cellsOf,zah,h]
theorem zby(bs:List UInt8):∀u ∈ cellsOf bs,u.oneCell'=true:=by
 intro u hu;simp only[cellsOf,List.mem_map] at hu;obtain⟨b,_,rfl⟩:=hu;rfl
theorem zcY(xs ys:List UInt8):cellsOf (xs++ys)=cellsOf xs++cellsOf ys:=by simp[cellsOf]
structure Rd (w:World) (B:Nat) (A:Option Addr) (n:Nat) (bs:List UInt8):Prop where
 len:bs.length=n
 at_:0<n->∃b o,A=some ⟨b,o,none⟩/\b<B/\∀k,k<n->w.cell? ⟨b,o+k,none⟩=some (.int .u8 (zah bs k))
theorem Rd.nil(w:World)(B:Nat)(A:Option Addr):Rd w B A 0 []:=⟨rfl,fun h=>absurd h (by omega)⟩
theorem Rd.keep{w w':World}{B n:Nat}{A:Option Addr}{bs:List UInt8}(h:Rd w B A n bs)(hk:∀p:Addr,p.block<B->w'.cell? p=w.cell? p):Rd w' B A n bs :=
 ⟨h.len,fun hn=>by obtain⟨b,o,e,hb,hc⟩:=h.at_ hn;exact⟨b,o,e,hb,fun k hkn=>(hk _ hb).trans (hc k hkn)⟩⟩
theorem Rd.more{w:World}{B B' n:Nat}{A:Option Addr}{bs:List UInt8}(h:Rd w B A n bs)(hB:B<=B'):Rd w B' A n bs :=
 ⟨h.len,fun hn=>by obtain⟨b,o,e,hb,hc⟩:=h.at_ hn;exact⟨b,o,e,by omega,hc⟩⟩
theorem Rd.below{w w':World}{B B' n:Nat}{A:Option Addr}{bs:List UInt8}(h:Rd w B A n bs)(hb:Below B' w w')(hB:B<=B'):Rd w' B A n bs :=
 h.keep fun p hp=>hb.cell (p:=p) (by omega)
theorem Rd.later{w w':World}{n:Nat}{A:Option Addr}{bs:List UInt8}(h:Rd w w.heap.size A n bs)(hb:Below w.heap.size w w'):Rd w' w'.heap.size A n bs :=
 (h.below hb (Nat.le_refl _)).more hb.size
def Own(w:World)(base:Nat)(v:Value)(bs:List UInt8):Prop :=
 w.ownsRow base 5 1 v bs.length (cellsOf bs)
theorem zd2(g k:Nat):(⟨g,0,none⟩:Addr).add k=⟨g,k,none⟩:=by
 unfold Addr.add;split<;>simp_all
theorem za2(g o k:Nat):(⟨g,o,none⟩:Addr).add k=⟨g,o+k,none⟩:=by
 unfold Addr.add;split<;>simp_all
theorem Own.rd{w:World}{base:Nat}{v:Value}{bs:List UInt8}(h:Own w base v bs):∃A c,v=.slice A bs.length c/\Rd w w.heap.size A bs.length bs/\(A=none->bs = [])/\(∀a,A=some a->base<=a.block):=by
 rcases h.2 with⟨rfl,hn⟩|⟨g,cap,cur,rfl,hb,hh,hnc,hcm,hcs,htake⟩
 ·have:bs = []:=List.eq_nil_of_length_eq_zero hn;subst this;exact⟨none,0,rfl,Rd.nil _ _ _,fun _=>rfl,fun a h=>by cases h⟩
 ·refine⟨_,cap,rfl,⟨rfl,fun _=>⟨g,0,rfl,(Array.getElem?_eq_some_iff.1 hh).1,fun k hk=>?_⟩⟩,(fun h=>by cases h),(fun a h=>by cases h;exact hb)⟩;have:=h.cells (g:=g) rfl k _ (zam bs k hk);rw[zd2] at this;simpa using this
theorem Own.kept{w w':World}{base:Nat}{v:Value}{bs:List UInt8}(h:Own w base v bs)(hb:Below w.heap.size w w'):Own w' base v bs:=by
 refine⟨h.1,?_⟩;rcases h.2 with hn|⟨g,cap,cur,rfl,hbg,hh,r⟩
 ·exact .inl hn
 ·exact .inr ⟨g,cap,cur,rfl,hbg,by rw[hb.block g (Array.getElem?_eq_some_iff.1 hh).1];exact hh,r⟩
theorem Own.set_{w:World}{base g c:Nat}{bs:List UInt8}(h:Own w base (.slice (some ⟨g,0,none⟩) bs.length c) bs)(j:Nat)(x:UInt8):
  Own (w.setCell ⟨g,j,none⟩ (.int .u8 (x.toNat:Int))) base (.slice (some ⟨g,0,none⟩) bs.length c) (bs.set j x):=by
 have:=(h.stored j (.int .u8 (x.toNat:Int))).1;unfold Own;simpa [cellsOf,List.map_set] using this
theorem Own.cell{w:World}{base g c:Nat}{bs:List UInt8}(h:Own w base (.slice (some ⟨g,0,none⟩) bs.length c) bs)(j:Nat)(hj:j<bs.length):
  w.cell? ⟨g,j,none⟩=some (.int .u8 (zah bs j)):=by
 rw[h.cellAt j (by omega),zam bs j hj]
theorem Own.free{w:World}{base g c:Nat}{bs:List UInt8}(h:Own w base (.slice (some ⟨g,0,none⟩) bs.length c) bs)(j:Nat):
  w.frozen? ⟨g,j,none⟩=false:=h.frozenAt j
theorem Own.base_le{w:World}{base g n c:Nat}{bs:List UInt8}(h:Own w base (.slice (some ⟨g,0,none⟩) n c) bs):base<=g/\g<w.heap.size:=by
 have:=World.ownsRow.lt h g rfl;exact this
theorem zlT(n:Nat):(madeCells #[Value.int .u8 0] n).toList=cellsOf (List.replicate n 0):=by
 rw[toList_madeCells_one];simp[cellsOf]
theorem zat{P:Program}{a:Act}{w:World}{Q:Exit->Act->World->Prop}{c X:Code}(l:Nat)(J:Act->World->Prop)(μ:Act->World->Nat)(hf:findLabel c l=some (Code.skip.seq X))
  (pass:∀a w,J a w->X.wp P (Exit.jump l (fun a' w'=>J a' w'/\μ a' w'<μ a w) Q) a w)
  (first:Hid (∀a w,J a w->X.wp P (Exit.jump l J Q) a w)->c.wp P (Exit.jump l J Q) a w):(Code.scope c).wp P Q a w :=
 wp_scope_jumps l J μ hf (first fun a w h=>Code.wp_mono (fun e a' w' hq=>by cases e<;>first|exact hq|exact⟨hq.1,hq.2.1⟩) (pass a w h)) fun a w h=>wp_seq (wp_skip (pass a w h))
theorem zaP{P:Program}{w:World}{ops:Array Oper}{rest:List Oper}{o:Oper}{a:Act}{Q:Exit->Act->World->Prop}
  (hg:o.guard=none) (l c:Operand) (t:TypeId) (hop:o.op=Op.makeSlice t l c)
  (h1:P.underlying t=some (.slice 5)) (hin:(P.info? 5).map (fun i=>(i.zero,i.size,i.bytes))=some (some (.int .u8 0),1,1))
  (kl:IntKind) (L:Int) (n:Nat) (hl:a.eval l=.int kl L) (hc:a.eval c=.int kl L) (hL:L=(n:Int)) (b3:n<=140737488355328)
  (base:Nat) (hbase:base<=w.heap.size)
  (hK:∀w',Own w' base (.slice (some ⟨w.heap.size,0,none⟩) n n) (List.replicate n 0)->Below w.heap.size w w'->w'.heap.size=w.heap.size+1\/True->wpList P ops Q rest (a.put o.dst (.slice (some ⟨w.heap.size,0,none⟩) n n)) w'):
  wpList P ops Q (o::rest) a w:=by
 obtain⟨i0,hi0,hz0,hz1,hz2⟩:=info_parts hin;refine wpList_make_full w hg l c t hop base 5 i0 (.int .u8 0) 1 h1 hi0 hz0 hz1 kl kl L L n hl hc hL hL (by rw[hz2];omega) (by unfold maxLen;omega) hbase ?_;intro w' hown hgr;refine hK w' ?_ ((Below.refl _ _).grown hgr (Nat.le_refl _) (by simp)) (.inr trivial);have e:(madeCells (Value.cells (.int .u8 0)) (n*1)).toList=cellsOf (List.replicate n 0):=by rw[Nat.mul_one];exact zlT n
 rw[e] at hown;simpa [Own] using hown
def zao(f:Nat->UInt8)(n k:Nat):List UInt8:=(List.range n).map fun i=>if i<k then f i else 0
theorem zad(f:Nat->UInt8)(n k:Nat):(zao f n k).length=n:=by simp[zao]
theorem zaG(f:Nat->UInt8)(n:Nat):zao f n 0=List.replicate n 0:=by
 apply List.ext_getElem<;>simp[zao]
theorem zaE(f:Nat->UInt8)(n:Nat):zao f n n=(List.range n).map f:=by
 apply List.ext_getElem
 ·simp[zao]
 ·intro i h1 h2;have:i<n:=by simpa [zao] using h1
  simp[zao,this]
theorem zaO(f:Nat->UInt8)(n k:Nat)(y:UInt8)(hy:y=f k):(zao f n k).set k y=zao f n (k+1):=by
 subst hy;apply List.ext_getElem
 ·simp[zao]
 ·intro i h1 h2;simp only[zao,List.getElem_set,List.getElem_map,List.getElem_range];by_cases h:k=i
  ·subst h;simp
  ·rw[if_neg h];by_cases h':i<k
   ·rw[if_pos h',if_pos (by omega)]
   ·rw[if_neg h',if_neg (by omega)]
def u8(x:Int):UInt8:=UInt8.ofNat (x%256).toNat
theorem zbB(x:Int):((u8 x).toNat:Int)=x%256:=by
 unfold u8;rw[UInt8.toNat_ofNat'];omega
theorem Own.lit(w:World)(bs:List UInt8)(cs:Array Value)(n base:Nat)(hcs:cs.toList=cellsOf bs)(hn:bs.length=n)(hm:n<=maxLen)(hb:base<=w.heap.size):
  Own (w.alloc (.cells cs 5)) base (.slice (some ⟨w.heap.size,0,none⟩) n n) bs:=by
 subst hn;have hsz:cs.size=bs.length*1:=by rw[<-Array.length_toList,hcs,zaa,Nat.mul_one]
 have:=World.ownsRow_lit (e:=5) (size:=1) w cs bs.length hb hm hsz;rw[hcs] at this;exact this
theorem za9{P:Program}(w:World){ops:Array Oper}{rest:List Oper}{o:Oper}{a:Act}{Q:Exit->Act->World->Prop}(hgd:o.guard=none)(s x:Operand)(t:TypeId)
  (ho:o.op=.call { callee:=.builtin .append,args:=#[s,x],argTypes:=#[t,t] }) (hu:P.underlying t=some (.slice 5))
  (hin:(P.info? 5).map (fun i=>(i.zero,i.size,i.bytes))=some (some (.int .u8 0),1,1))
  (base:Nat) (v:Value) (xs:List UInt8) (hs:a.eval s=v) (hown:Own w base v xs)
  (B:Nat) (A:Option Addr) (n c:Nat) (ys:List UInt8) (hx:a.eval x=.slice A n c) (hrd:Rd w B A n ys)
  (hlen:xs.length+n<=140737488355328) (hbase:base<=w.heap.size)
  (h:∀v' w',Own w' base v' (xs++ys)->Below base w w'->wpList P ops Q rest (a.put o.dst v') w'):wpList P ops Q (o::rest) a w:=by
 obtain⟨i0,hi0,hz0,hz1,hz2⟩:=info_parts hin;have hyl:=hrd.len;have hbel:∀w',w.grownBy w' v.ownBlock->Below base w w':=fun w' hg=>(Below.refl _ _).grown hg hbase fun k hk=>(World.ownsRow.lt hown k hk).1
 have fin:∀v' w',w'.ownsRow base 5 1 v' (xs.length+n) (cellsOf xs++cellsOf ys)->Own w' base v' (xs++ys):=by intro v' w' h2;unfold Own;rw[List.length_append,zcY,hyl];exact h2
 cases A with
 | some ad =>
   refine wpList_append_own w hgd s x t ho base 5 i0 (.int .u8 0) 1 1 hu hi0 hz0 hz1 hz2 rfl (by omega) v xs.length (cellsOf xs) hs hown ad n c (cellsOf ys) hx (by rw[zaa];omega) ?_ (zby ys) (by unfold maxLen;omega) (by omega) hbase ?_
   ·intro j u hu;rcases Nat.lt_or_ge j n with hj|hj
    ·obtain⟨b,off,e,_,hc⟩:=hrd.at_ (by omega);cases e
     rw[zam ys j (by omega)] at hu;cases hu
     rw[za2];exact hc j hj
    ·rw[List.getElem?_eq_none (by rw[zaa];omega)] at hu;cases hu
   ·intro v' w' h2 h3 _;exact h v' w' (fin _ _ h2) (hbel _ h3)
 | none =>
   have hn:n=0:=by
    rcases Nat.eq_zero_or_pos n with h0|h0
    ·exact h0
    ·obtain⟨b,off,e,_⟩:=hrd.at_ h0;cases e
   subst hn;have hys:ys = []:=List.eq_nil_of_length_eq_zero hyl;subst hys;refine wpList_plain hgd fun K hK'=>?_
   have hrun:(Builtin.append_ #[t,t] o.type #[v,.slice none 0 c]).run P w=.ok v w:=by
    rcases hown.2 with⟨rfl,_⟩|⟨g,cap,cur,rfl,_,_,hnc,_⟩
    ·simp[Builtin.append_,run_underlying hu,sizeOf,typeInfo,hi0,Builtin.lenOf,Builtin.firstCells]
    ·simp[Builtin.append_,run_underlying hu,sizeOf,typeInfo,hi0,Builtin.lenOf,Builtin.firstCells,hnc,storeCells]
   unfold Oper.wp execOp;simp only[ho,resolve,invoke,builtin,Sem.run_bind,Sem.run_pure,Result.andThen_ok,List.map_toArray,List.map_cons,List.map_nil,hs,hx,hrun];exact hK' _ _ (h v w (by simpa using hown) (Below.refl _ _))
def str(bs:List UInt8):ByteArray:=⟨bs.toArray⟩
theorem zss{P:Program}(w:World)(src dst:TypeId)(hs:P.underlying src=some (.slice 5))(he:P.underlying 5=some (.int .u8))(hd:P.underlying dst=some .string)
  (B:Nat) (A:Option Addr) (n c:Nat) (bs:List UInt8) (h:Rd w B A n bs):
  (convert src dst (.slice A n c)).run P w=.ok (.string (str bs)) w:=by
 have hl:=h.len;cases A with
 | none =>
   have hn:n=0:=by
    rcases Nat.eq_zero_or_pos n with h0|h0
    ·exact h0
    ·obtain⟨b,off,e,_⟩:=h.at_ h0;cases e
   have hys:bs = []:=List.eq_nil_of_length_eq_zero (by omega);subst hys;rw[run_convert_bytes_nil w src 5 hs he n c dst hd];rfl
 | some ad =>
   rcases Nat.eq_zero_or_pos n with h0|h0
   ·have hys:bs = []:=List.eq_nil_of_length_eq_zero (by omega);subst h0 hys;rw[run_convert_bytes_string w src dst 5 _ 0 c hs he hd,run_bytesToString w ad 0 c [] (by simp[loadCells,loadCellsFrom,Sem.run_pure])];rfl
   ·obtain⟨b,off,e,_,hc⟩:=h.at_ h0;cases e
    have e2:∀i,(bs.map fun b=>(b.toNat:Int)).getD i 0=zah bs i:=by intro i;simp only[zah,List.getD,List.getElem?_map];cases bs[i]?<;>simp
    rw[run_convert_bytes_arg w src 5 hs he b off n c (bs.map fun b=>(b.toNat:Int)) (by simpa using hl) (fun i hi=>by rw[e2];exact hc i hi) dst hd];have e3:strOfNums (bs.map fun b=>(b.toNat:Int))=str bs:=by unfold strOfNums str;congr 2;simp[Function.comp_def]
    rw[e3]
theorem Own.rdn{w:World}{base n:Nat}{v:Value}{bs:List UInt8}(h:Own w base v bs)(hn:bs.length=n):∃A c,v=.slice A n c/\Rd w w.heap.size A n bs/\Own w base (.slice A n c) bs:=by
 subst hn;obtain⟨A,c,rfl,hr,_⟩:=h.rd;exact⟨A,c,rfl,hr,h⟩
def RetB(w:World)(bs:List UInt8)(e:Ending)(w':World):Prop:=∃v,e=.returned v/\Own w' w.heap.size v bs/\Below w.heap.size w w'
def Ext(w w':World):Prop:=Below w.heap.size w w'
theorem Ext.refl(w:World):Ext w w:=Below.refl _ _
theorem Ext.trans{a b c:World}(h:Ext a b)(k:Ext b c):Ext a c:=Below.trans h (Below.mono k (Below.size h))
theorem Ext.drew(w:World):Ext w w.drew:=(Below.refl _ _).drew
theorem Ext.alloc(w:World)(o:Obj):Ext w (w.alloc o):=(Below.refl _ _).alloc (Nat.le_refl _) o
theorem ex8{A B C D E F G H:Type}{p:A->B->C->D->E->F->G->H->Prop}{a b c d e f g h}(w:p a b c d e f g h):∃a b c d e f g h,p a b c d e f g h:=⟨a,b,c,d,e,f,g,h,w⟩
section
variable (P:Program) (ops:Array Oper) (V:Nat->World->Value->Prop) (a0:Act) (w0:World)
def waits(x:Oper)(i:Nat):Bool:=x.after.any fun e=>Region.binds .any e&&e.on==i
def zb1(n:Nat):Bool :=
 (List.range ops.size).all fun i=>(ops[i]?.map fun o =>
   (o.after.all fun e=>!Region.binds .any e || decide (e.on<i)) &&
   (match o.dst with
    | some t=>decide (t<n)&&(List.range i).all fun j=>((ops[j]?.map fun p=>p.dst != some t)).getD true
    | none=>true)).getD true
structure Kn (i:Nat) (a:Act) (w:World):Prop where
 ext:Ext w0 w
 defers:a.defers=a0.defers
 size:a.tmps.size=a0.tmps.size
 old:∀t,(∀j x,ops[j]? = some x->x.dst=some t->waits x i=true\/j=i)->a.tmps.getD t undef=a0.tmps.getD t undef
 new:∀j x o t,ops[i]? = some o->waits o j=true->ops[j]? = some x->x.dst=some t->V j w (a.tmps.getD t undef)
 lt:∀(j:Nat) (x:Oper) (t:Nat),ops[j]? = some x->x.dst=some t->t<a.tmps.size
structure Fin_ (a:Act) (w:World):Prop where
 ext:Ext w0 w
 defers:a.defers=a0.defers
 size:a.tmps.size=a0.tmps.size
 old:∀t,(∀(j:Nat) (x:Oper),ops[j]? = some x->x.dst≠some t)->a.tmps.getD t undef=a0.tmps.getD t undef
 new:∀j x t,ops[j]? = some x->x.dst=some t->V j w (a.tmps.getD t undef)
def Step(Q:Exit->Act->World->Prop)(i:Nat)(o:Oper)(a:Act)(w:World):Prop :=
 if Region.wanted o (yielded ops a.tmps)=true then o.wp P a w (fun a' w'=>∃v,a'=a.put o.dst v/\Ext w w'/\V i w' v) Q else V i w undef
structure Inv (listed:Array Bool) (a:Act) (w:World):Prop where
 lsize:listed.size=ops.size
 ext:Ext w0 w
 defers:a.defers=a0.defers
 size:a.tmps.size=a0.tmps.size
 closed:∀j x,ops[j]? = some x->listed.getD j false=true->∀e ∈ x.after,Region.binds .any e=true->listed.getD e.on false=true
 old:∀t,(∀j x,ops[j]? = some x->x.dst=some t->listed.getD j false=false)->a.tmps.getD t undef=a0.tmps.getD t undef
 new:∀j x t,ops[j]? = some x->listed.getD j false=true->x.dst=some t->V j w (a.tmps.getD t undef)
end
section
variable {P:Program} {ops:Array Oper} {V:Nat->World->Value->Prop} {a0:Act} {w0:World}
theorem zlH{n i:Nat}{o:Oper}(h:zb1 ops n=true)(ho:ops[i]? = some o):∀e ∈ o.after,Region.binds .any e=true->e.on<i:=by
 intro e he hbe;have hi:=(Array.getElem?_eq_some_iff.1 ho).1;unfold zb1 at h;rw[List.all_eq_true] at h;have:=h i (List.mem_range.2 hi);rw[ho] at this;simp only[Option.map_some,Option.getD_some,Bool.and_eq_true] at this;have h1:=this.1;rw[Array.all_eq_true_iff_forall_mem] at h1;have:=h1 e he;simpa [hbe] using this
theorem zkw{n i t:Nat}{o:Oper}(h:zb1 ops n=true)(ho:ops[i]? = some o)(hd:o.dst=some t):t<n:=by
 have hi:=(Array.getElem?_eq_some_iff.1 ho).1;unfold zb1 at h;rw[List.all_eq_true] at h;have:=h i (List.mem_range.2 hi);rw[ho] at this;simp only[Option.map_some,Option.getD_some,Bool.and_eq_true,hd] at this;simpa using this.2.1
theorem zpQ{n i j t:Nat}{o p:Oper}(h:zb1 ops n=true)(ho:ops[i]? = some o)(hd:o.dst=some t)(hp:ops[j]? = some p)(hpd:p.dst=some t):i=j:=by
 have key:∀ {i j:Nat} {o p:Oper},ops[i]? = some o->o.dst=some t->ops[j]? = some p->p.dst=some t->¬j<i:=by intro i j o p ho hd hp hpd hlt;have hi:=(Array.getElem?_eq_some_iff.1 ho).1;unfold zb1 at h;rw[List.all_eq_true] at h;have:=h i (List.mem_range.2 hi);rw[ho] at this;simp only[Option.map_some,Option.getD_some,Bool.and_eq_true,hd] at this;have h2:=this.2.2;rw[List.all_eq_true] at h2;have:=h2 j (List.mem_range.2 hlt);rw[hp] at this;simp[hpd] at this
 have k1:=key ho hd hp hpd;have k2:=key hp hpd ho hd;omega
theorem zec{a:Act}{d:Option Tmp}{v:Value}{t:Nat}(h:d≠some t):(a.put d v).tmps.getD t undef=a.tmps.getD t undef:=by
 cases d with
 | none=>rfl
 | some k =>
   have hk:k≠t:=fun e=>h (by rw[e])
   simp[Act.put,Array.getElem?_setIfInBounds_ne hk]
theorem zfT{a:Act}{v:Value}{t:Nat}(h:t<a.tmps.size):(a.put (some t) v).tmps.getD t undef=v:=by
 simp[Act.put,h]
theorem size_put(a:Act)(d:Option Tmp)(v:Value):(a.put d v).tmps.size=a.tmps.size:=by
 cases d<;>simp[Act.put]
theorem ze9(a:Act)(d:Option Tmp)(v:Value):(a.put d v).defers=a.defers:=by
 cases d<;>simp[Act.put]
theorem zbD{o:Oper}{j:Nat}(h:waits o j=true):∃e ∈ o.after,Region.binds .any e=true/\e.on=j:=by
 unfold waits at h;rw[<-Array.any_toList,List.any_eq_true] at h;obtain⟨e,he,hb⟩:=h;simp at hb;exact⟨e,Array.mem_toList_iff.1 he,hb.1,hb.2⟩
theorem Inv.kn{listed:Array Bool}{a:Act}{w:World}{i n:Nat}(hok:zb1 ops n=true)(hn:a0.tmps.size=n)(h:Inv ops V a0 w0 listed a w)(hi:i ∈ Region.ready .any ops listed):Kn ops V a0 w0 i a w:=by
 obtain⟨hun,o,ho,hall⟩:=mem_ready.1 hi;have hun':listed.getD i false=false:=by
  have hlt:i<listed.size:=by rw[h.lsize];exact(Array.getElem?_eq_some_iff.1 ho).1
  simpa [hlt] using hun
 refine⟨h.ext,h.defers,h.size,fun t ht=>h.old t fun j x hx hd=>?_,fun j x o' t ho' hw hx hd=>?_,fun j x t hx hd=>?_⟩
 ·rcases ht j x hx hd with hwt|rfl
  ·cases hl:listed.getD j false with
   | false=>rfl
   | true =>obtain⟨e,he,hb,rfl⟩:=zbD hwt;have:=h.closed j x hx hl e he hb;rw[hun'] at this;cases this
  ·exact hun'
 ·rw[ho] at ho';cases ho'
  obtain⟨e,he,hb,rfl⟩:=zbD hw;exact h.new _ x t hx (hall e he hb) hd
 ·rw[h.size,hn];exact zkw hok hx hd
theorem Inv.put{listed:Array Bool}{a:Act}{w w':World}{i:Nat}{o:Oper}{v:Value}{n:Nat}(hok:zb1 ops n=true)(hn:a0.tmps.size=n)
  (hV:∀i w w' v,Ext w w'->V i w v->V i w' v)
  (h:Inv ops V a0 w0 listed a w) (hi:i ∈ Region.ready .any ops listed) (ho:ops[i]? = some o) (he:Ext w w') (hv:V i w' v):
  Inv ops V a0 w0 (listed.setIfInBounds i true) (a.put o.dst v) w':=by
 obtain⟨hun,o',ho',hall⟩:=mem_ready.1 hi;rw[ho] at ho';cases ho'
 have hlt:i<listed.size:=by rw[h.lsize];exact(Array.getElem?_eq_some_iff.1 ho).1
 have hset:∀j,j≠i->(listed.setIfInBounds i true).getD j false=listed.getD j false:=fun j hj=>getD_set_ne false (Ne.symm hj)
 refine⟨by simpa using h.lsize,h.ext.trans he,(ze9 _ _ _).trans h.defers,(size_put _ _ _).trans h.size,?_,?_,?_⟩
 ·intro j x hx hl e hee hb;by_cases hj:j=i
  ·subst hj;rw[ho] at hx;cases hx
   exact getD_set_true (hall e hee hb)
  ·rw[hset j hj] at hl;exact getD_set_true (h.closed j x hx hl e hee hb)
 ·intro t ht;have hne:o.dst≠some t:=fun hd=>by have:=ht i o ho hd;simp[hlt] at this
  rw[zec hne];refine h.old t fun j x hx hd=>?_
  have:=ht j x hx hd;by_cases hj:j=i
  ·subst hj;rw[ho] at hx;cases hx
   exact absurd hd hne
  ·rwa[hset j hj] at this
 ·intro j x t hx hl hd;by_cases hj:j=i
  ·subst hj;rw[ho] at hx;cases hx
   rw[hd,zfT (by rw[h.size,hn];exact zkw hok ho hd)];exact hv
  ·rw[hset j hj] at hl;have hne:o.dst≠some t:=fun hd'=>hj (zpQ hok hx hd ho hd')
   rw[zec hne];exact hV _ _ _ _ he (h.new j x t hx hl hd)
theorem count_set(listed:Array Bool)(i:Nat)(h:listed.getD i true=false):((listed.setIfInBounds i true).toList.count false)+1=listed.toList.count false:=by
 have hlt:i<listed.size:=by
  rcases Nat.lt_or_ge i listed.size with h' | h'
  ·exact h'
  ·simp[Array.getElem?_eq_none h'] at h
 have hv:listed.toList[i]'(by simpa using hlt)=false:=by simpa [hlt] using h
 rw[Array.toList_setIfInBounds,List.count_set (by simpa using hlt)];have hpos:0<listed.toList.count false:=List.count_pos_iff.2 (by rw[<-hv];exact List.getElem_mem _);rw[hv];show List.count false listed.toList-1+0+1=List.count false listed.toList;omega
theorem zbS{listed:Array Bool}{n:Nat}(hok:zb1 ops n=true)(hs:listed.size=ops.size)(hr:Region.ready .any ops listed = []):∀j,j<ops.size->listed.getD j false=true:=by
 intro j;induction j using Nat.strongRecOn with
 | _ j ih =>
   intro hj;cases hl:listed.getD j false with
   | true=>rfl
   | false =>exfalso;have hm:j ∈ Region.ready .any ops listed:=mem_ready.2 ⟨by simpa [hs,hj] using hl,ops[j],Array.getElem?_eq_getElem hj,fun e he hbe=>by have hlt:=zlH hok (Array.getElem?_eq_getElem hj) e he hbe;exact ih e.on hlt (by omega)⟩;rw[hr] at hm;cases hm
theorem zml{Q:Exit->Act->World->Prop}{n:Nat}(hok:zb1 ops n=true)(hn:a0.tmps.size=n)
  (hV:∀i w w' v,Ext w w'->V i w v->V i w' v)
  (step:∀i o,ops[i]? = some o->∀a w,Kn ops V a0 w0 i a w->Step P ops V Q i o a w)
  (fin:∀a w,Fin_ ops V a0 w0 a w->Q .normal a w):
  ∀(fuel:Nat) (listed:Array Bool) (a:Act) (w:World),listed.toList.count false<=fuel->Inv ops V a0 w0 listed a w->wpAny P .any ops Q fuel listed a w:=by
 have done:∀(listed:Array Bool) (a:Act) (w:World),Inv ops V a0 w0 listed a w->Region.ready .any ops listed = []->Q .normal a w:=by intro listed a w h hr;have hall:=zbS hok h.lsize hr;refine fin a w ⟨h.ext,h.defers,h.size,fun t ht=>h.old t fun j x hx hd=>absurd hd (ht j x hx),fun j x t hx hd=>h.new j x t hx (hall j (Array.getElem?_eq_some_iff.1 hx).1) hd⟩
 intro fuel;induction fuel with
 | zero =>
   intro listed a w hc h;have hr:Region.ready .any ops listed = []:=by
    refine List.eq_nil_iff_forall_not_mem.2 fun j hj=>?_
    have:=count_set listed j (mem_ready.1 hj).1;omega
   exact⟨hr,done listed a w h hr⟩
 | succ fuel ih =>
   intro listed a w hc h;refine⟨done listed a w h,fun i hi=>?_⟩;obtain⟨hun,o,ho,_⟩:=mem_ready.1 hi;have hcs:=count_set listed i hun;have hst:=step i o ho a w (h.kn hok hn hi);unfold wpOp;simp only[ho];unfold Step at hst;split
   ·rename_i hw;rw[if_pos hw] at hst;refine .inl (Oper.wp_mono (fun a' w' hh=>?_) hst);obtain⟨v,rfl,he,hv⟩:=hh;exact ih _ _ _ (by omega) (h.put hok hn hV hi ho he hv)
   ·rename_i hw;rw[if_neg hw] at hst;exact ih _ _ _ (by omega) (h.put hok hn hV hi ho (Ext.refl _) hst)
theorem zlC{Q:Exit->Act->World->Prop}{id n:Nat}(hm:P.follows .mixedOrders=true)(hn:a0.tmps.size=n)(hok:zb1 ops n=true)
  (V:Nat->World->Value->Prop) (hV:∀i w w' v,Ext w w'->V i w v->V i w' v)
  (step:∀i o,ops[i]? = some o->∀a w,Kn ops V a0 w0 i a w->Step P ops V Q i o a w)
  (fin:∀a w,Fin_ ops V a0 w0 a w->Q .normal a w):(Code.region id ops true).wp P Q a0 w0:=by
 refine wp_region_any hm (zml (V:=V) hok hn hV step fin ops.size _ _ _ ?_ ?_)
 ·simp
 ·refine⟨by simp,Ext.drew w0,rfl,rfl,?_,fun _ _=>rfl,?_⟩
  ·intro j x hx hl;have hj:=(Array.getElem?_eq_some_iff.1 hx).1;simp[hj] at hl
  ·intro j x t hx hl;have hj:=(Array.getElem?_eq_some_iff.1 hx).1;simp[hj] at hl
end
inductive K where
 | eq (v:Value)
 | byt (n:Nat) (bs:List UInt8)
 | byc (n:Nat) (bs:List UInt8)
 | bycm (n:Nat) (bs:List UInt8)
 | bytb (n:Nat) (bs:List UInt8) (b:Bool)
 | ptr (v:Value)
 | row (n:Nat) (vs:List Value)
 | num (g n:Nat) (cs:Array Value)
 | new (B:Nat) (cs:Array Value) (e:TypeId)
 | gen (p:World->Value->Prop) (hp:∀w w' v,Ext w w'->p w v->p w' v)
 | any
def K.holds:K->World->Value->Prop
 | .eq x,_,v=>v=x
 | .byt n bs,w,v=>∃A c,v=.slice A n c/\Rd w w.heap.size A n bs
 | .byc n bs,w,v=>∃A c,v=.slice A n c/\n<=c/\Rd w w.heap.size A n bs
 | .bycm n bs,w,v=>∃A c,v=.slice A n c/\n<=c/\c<=9223372036854775807/\Rd w w.heap.size A n bs
 | .bytb n bs b,w,v=>∃A c,v=.tuple #[.slice A n c,.bool b]/\Rd w w.heap.size A n bs
 | .ptr x,w,v=>∃p:Addr,v=.pointer (some p)/\p.block<w.heap.size/\w.cell? p=some x
 | .row n vs,w,v=>∃b,v=.slice (some ⟨b,0,none⟩) n n/\b<w.heap.size/\∀k,k<n->w.cell? ⟨b,k,none⟩=some (vs.getD k undef)
 | .num g n cs,w,v=>∃b,v=.slice (some ⟨b,0,none⟩) n n/\b≠g/\w.heap[b]? = some (.cells cs 3 (0,0))
 | .new B cs e,w,v=>∃b,v=.pointer (some ⟨b,0,none⟩)/\B<=b/\w.heap[b]? = some (.cells cs e (0,0))
 | .gen p _,w,v=>p w v
 | .any,_,_=>True
theorem K.keep(k:K){w w':World}{v:Value}(he:Ext w w')(h:k.holds w v):k.holds w' v:=by
 cases k with
 | eq x=>exact h
 | byt n bs=>obtain⟨A,c,rfl,hr⟩:=h;exact⟨A,c,rfl,Rd.later hr he⟩
 | byc n bs=>obtain⟨A,c,rfl,hc,hr⟩:=h;exact⟨A,c,rfl,hc,Rd.later hr he⟩
 | bycm n bs=>obtain⟨A,c,rfl,hc,hm,hr⟩:=h;exact⟨A,c,rfl,hc,hm,Rd.later hr he⟩
 | bytb n bs b=>obtain⟨A,c,rfl,hr⟩:=h;exact⟨A,c,rfl,Rd.later hr he⟩
 | ptr x=>obtain⟨p,rfl,hlt,hc⟩:=h;exact⟨p,rfl,Nat.lt_of_lt_of_le hlt (Below.size he),(Below.cell he hlt).trans hc⟩
 | row n vs=>obtain⟨b,rfl,hlt,hc⟩:=h;exact⟨b,rfl,Nat.lt_of_lt_of_le hlt (Below.size he),fun k hk=>(Below.cell he (p:=⟨b,k,none⟩) hlt).trans (hc k hk)⟩
 | num g n cs=>obtain⟨b,rfl,hne,hc⟩:=h;exact⟨b,rfl,hne,(Below.block he b (Array.getElem?_eq_some_iff.1 hc).1).trans hc⟩
 | new B cs e=>obtain⟨b,rfl,hB,hc⟩:=h;exact⟨b,rfl,hB,(Below.block he b (Array.getElem?_eq_some_iff.1 hc).1).trans hc⟩
 | gen p hp=>exact hp _ _ _ he h
 | any=>trivial
def kV(ks:List K)(i:Nat)(w:World)(v:Value):Prop:=(ks.getD i .any).holds w v
theorem zdA(ks:List K):∀i w w' v,Ext w w'->kV ks i w v->kV ks i w' v:=fun _ _ _ _ he h=>K.keep _ he h
def zjb(ops:Array Oper)(i j t:Nat):Bool :=
 match ops[i]?,ops[j]? with
 | some o,some x=>waits o j&&x.dst==some t
 | _,_=>false
def zoR(ops:Array Oper)(i t:Nat):Bool :=
 (List.range ops.size).all fun j=>((ops[j]?).map fun x=>x.dst != some t || waits x i || j==i).getD true
def zqx(ops:Array Oper)(t:Nat):Bool:=ops.all fun x=>x.dst != some t
def zkG(ops:Array Oper)(j t:Nat):Bool:=(ops[j]?.map fun x=>x.dst==some t).getD false
def AllOps(p:Nat->Oper->Prop):List Oper->Nat->Prop
 | [],_=>True
 | o::l,k=>p k o/\AllOps p l (k+1)
theorem AllOps.get{p:Nat->Oper->Prop}:∀ {l:List Oper} {k:Nat},AllOps p l k->∀i o,l[i]? = some o->p (k+i) o
 | [],_,_,_,_,h=>by simp at h
 | x::l,k,ha,0,o,h=>by simp at h;subst h;exact ha.1
 | x::l,k,ha,i+1,o,h=>by
   have:=AllOps.get ha.2 i o (by simpa using h);have e:k+1+i=k+(i+1):=by omega
   rw[e] at this;exact this
theorem zab{l:List Oper}{p:Nat->Oper->Prop}(h:AllOps p l 0):∀i o,l.toArray[i]? = some o->p i o:=fun i o ho=>by
 have:=h.get i o (by simpa using ho);rwa[Nat.zero_add] at this
section
variable {P:Program} {ops:Array Oper} {ks:List K} {V:Nat->World->Value->Prop} {a0 a:Act} {w0 w:World} {i:Nat}
theorem zeO{i j t:Nat}(h:zjb ops i j t=true):∃o x,ops[i]? = some o/\ops[j]? = some x/\waits o j=true/\x.dst=some t:=by
 unfold zjb at h;split at h
 ·rename_i o x ho hx;simp at h;exact⟨o,x,ho,hx,h.1,h.2⟩
 ·cases h
theorem Kn.val(hk:Kn ops (kV ks) a0 w0 i a w)(j t:Nat){k:K}(hd:zjb ops i j t=true:=by kernel_rfl)(hks:ks.getD j .any=k:=by rfl):k.holds w (a.tmps.getD t undef):=by
 obtain⟨o,x,ho,hx,hw,ht⟩:=zeO hd;have:=hk.new j x o t ho hw hx ht;unfold kV at this;rwa[hks] at this
theorem Kn.eq_(hk:Kn ops (kV ks) a0 w0 i a w)(j t:Nat){v:Value}(hd:zjb ops i j t=true:=by kernel_rfl)(hks:ks.getD j .any=.eq v:=by rfl):a.tmps.getD t undef=v :=
 hk.val j t hd hks
theorem Kn.byt_(hk:Kn ops (kV ks) a0 w0 i a w)(j t:Nat){n:Nat}{bs:List UInt8}(hd:zjb ops i j t=true:=by kernel_rfl)(hks:ks.getD j .any=.byt n bs:=by rfl):
  ∃A c,a.tmps.getD t undef=.slice A n c/\Rd w w.heap.size A n bs :=
 hk.val j t hd hks
theorem Kn.was(hk:Kn ops V a0 w0 i a w)(t:Nat){v:Value}(hd:zoR ops i t=true:=by kernel_rfl)(hv:a0.tmps.getD t undef=v:=by rfl):a.tmps.getD t undef=v:=by
 rw[<-hv];refine hk.old t fun j x hx hxd=>?_
 unfold zoR at hd;rw[List.all_eq_true] at hd;have:=hd j (List.mem_range.2 (Array.getElem?_eq_some_iff.1 hx).1);rw[hx] at this;simp[hxd] at this;exact this
theorem Kn.byt0(hk:Kn ops V a0 w0 i a w)(t:Nat){A:Option Addr}{n c:Nat}{bs:List UInt8}(hd:zoR ops i t=true)(hv:a0.tmps.getD t undef=.slice A n c)(hr:Rd w0 w0.heap.size A n bs):
  a.tmps.getD t undef=.slice A n c/\Rd w w.heap.size A n bs:=⟨hk.was t hd hv,hr.later hk.ext⟩
theorem Kn.run{Q:Exit->Act->World->Prop}{o:Oper}(hk:Kn ops (kV ks) a0 w0 i a w)(j t:Nat)(b b':Bool)(hg:o.guard=some (j,b'))(hd:zjb ops i j t=true)
  (hks:ks.getD j .any=.eq (.bool b)) (h:Region.wanted o (yielded ops a.tmps)=(b==b')->Step P ops V Q i o a w):Step P ops V Q i o a w:=by
 refine h ?_;have hv:=hk.eq_ j t hd hks;obtain⟨_,x,_,hx,_,ht⟩:=zeO hd;have hlt:t<a.tmps.size:=hk.lt j x t hx ht;have h2:a.tmps[t]? = some (.bool b):=by rw[Array.getElem?_eq_getElem hlt];simpa [hlt] using hv
 simp[Region.wanted,hg,yielded,hx,ht,h2]
theorem Fin_.eq_(hf:Fin_ ops (kV ks) a0 w0 a w)(j t:Nat){v:Value}(hd:zkG ops j t=true:=by kernel_rfl)(hks:ks.getD j .any=.eq v:=by rfl):a.tmps.getD t undef=v:=by
 unfold zkG at hd;cases hx:ops[j]? with
 | none=>simp[hx] at hd
 | some x =>simp[hx] at hd;have:=hf.new j x t hx hd;unfold kV at this;rwa[hks] at this
theorem Fin_.was(hf:Fin_ ops V a0 w0 a w)(t:Nat){v:Value}(hd:zqx ops t=true:=by kernel_rfl)(hv:a0.tmps.getD t undef=v:=by rfl):a.tmps.getD t undef=v:=by
 rw[<-hv];refine hf.old t fun j x hx hxd=>?_
 unfold zqx at hd;rw[Array.all_eq_true_iff_forall_mem] at hd;have:=hd x (Array.mem_of_getElem? hx);simp[hxd] at this
theorem step_skip{Q:Exit->Act->World->Prop}{o:Oper}(hw:Region.wanted o (yielded ops a.tmps)=false)(hv:V i w undef):Step P ops V Q i o a w:=by
 unfold Step;rw[if_neg (by rw[hw];simp)];exact hv
theorem zai{Q:Exit->Act->World->Prop}{o:Oper}{v:Value}{w':World}(hw:Region.wanted o (yielded ops a.tmps)=true)
  (hrun:(execOp a.eval o).run P w=.ok (.value v) w') (he:Ext w w') (hv:V i w' v):Step P ops V Q i o a w:=by
 unfold Step;rw[if_pos hw];unfold Oper.wp;rw[hrun];exact⟨v,rfl,he,hv⟩
theorem zaW{Q:Exit->Act->World->Prop}{o:Oper}(v:Value)(hrun:(execOp a.eval o).run P w=.ok (.value v) w)(hv:V i w v)(hw:Region.wanted o (yielded ops a.tmps)=true:=by rfl):Step P ops V Q i o a w :=
 zai hw hrun (Ext.refl w) hv
theorem za{ks:List K}{Q:Exit->Act->World->Prop}{o:Oper}{v:Value}(hrun:(execOp a.eval o).run P w=.ok (.value v) w)(hks:ks.getD i .any=.eq v:=by rfl)
  (hw:Region.wanted o (yielded ops a.tmps)=true:=by rfl):Step P ops (kV ks) Q i o a w :=
 zai hw hrun (Ext.refl w) (by unfold kV;rw[hks];exact rfl)
theorem zau{Q:Exit->Act->World->Prop}{o:Oper}{x:Operand}{v:Value}(hw:Region.wanted o (yielded ops a.tmps)=true)
  (hop:o.op=.move x) (hx:a.eval x=v) (hv:V i w v):Step P ops V Q i o a w :=
 zai (v:=v) (w':=w) hw (by simp only[execOp,hop,hx,Sem.run_pure]) (Ext.refl w) hv
theorem zaM{Q:Exit->Act->World->Prop}{o:Oper}{x:Operand}{v:Value}(hw:Region.wanted o (yielded ops a.tmps)=true)
  (hop:o.op=.assign x) (hx:a.eval x=v) (hv:V i w v):Step P ops V Q i o a w :=
 zai (v:=v) (w':=w) hw (by simp only[execOp,hop,hx,Sem.run_pure]) (Ext.refl w) hv
theorem zs3{Q:Exit->Act->World->Prop}{o:Oper}{c x y:Operand}{b:Bool}{v:Value}(hw:Region.wanted o (yielded ops a.tmps)=true)
  (hop:o.op=.pick c x y) (hc:a.eval c=.bool b) (hx:(if b=true then a.eval x else a.eval y)=v) (hv:V i w v):Step P ops V Q i o a w :=
 zai (v:=v) (w':=w) hw (by simp[execOp,hop,hc,asBool,Sem.run_pure,hx]) (Ext.refl w) hv
theorem ztl{Q:Exit->Act->World->Prop}{o:Oper}{s d:TypeId}{x:Operand}{y v:Value}(hw:Region.wanted o (yielded ops a.tmps)=true)
  (hop:o.op=.convert s d x) (hx:a.eval x=y) (hrun:(convert s d y).run P w=.ok v w) (hv:V i w v):Step P ops V Q i o a w :=
 zai (v:=v) (w':=w) hw (by simp only[execOp,hop,hx,Sem.run_bind,hrun,Sem.run_pure,Result.andThen]) (Ext.refl w) hv
theorem zfj{Q:Exit->Act->World->Prop}{o:Oper}{x:Operand}{k:Nat}{ys:Array Value}{v:Value}(hw:Region.wanted o (yielded ops a.tmps)=true)
  (hop:o.op=.extract x k) (hx:a.eval x=.tuple ys) (hy:ys[k]? = some v) (hv:V i w v):Step P ops V Q i o a w :=
 zai (v:=v) (w':=w) hw (by simp[execOp,hop,hx,Instr.extract,hy,Sem.run_pure]) (Ext.refl w) hv
theorem za0{Q:Exit->Act->World->Prop}{o:Oper}{f:FuncId}{args:Array Operand}{ts:Array TypeId}{vs:Array Value}{R:Ending->World->Prop}(hw:Region.wanted o (yielded ops a.tmps)=true)
  (hop:o.op=.call { callee:=.value (.func f),args:=args,argTypes:=ts }) (hargs:args.map a.eval=vs)
  (hcf:∀vs w,(callFunc f vs).run P w=.ok (.enter f vs) w) (hc:Calls P f vs w R) (hR:∀e w',R e w'->∃v,e=.returned v/\Ext w w'/\V i w' v):Step P ops V Q i o a w:=by
 unfold Step;rw[if_pos hw];unfold Oper.wp;have hrun:(execOp a.eval o).run P w=.ok (.enter f vs) w:=by simp[execOp,hop,resolve,hargs,Act.eval,Deferred.ofValue,invoke,hcf]
 rw[hrun];refine hc.mono fun e w' he=>?_
 obtain⟨v,rfl,hx,hv⟩:=hR e w' he;exact⟨v,rfl,hx,hv⟩
def kEq:K->Option Value
 | .eq v=>some v
 | _=>none
def zrK(ops:Array Oper)(i t:Nat):Option Nat:=(List.range ops.size).find? fun j=>zjb ops i j t
def evK(ops:Array Oper)(ks:List K)(a0:Act)(i:Nat):Operand->Value
 | .tmp t=>match zrK ops i t with
   | some j=>(kEq (ks.getD j .any)).getD undef
   | none=>a0.tmps.getD t undef
 | x=>a0.eval x
def okK(ops:Array Oper)(ks:List K)(i:Nat):Operand->Bool
 | .tmp t=>match zrK ops i t with
   | some j=>(kEq (ks.getD j .any)).isSome
   | none=>zoR ops i t
 | _=>true
theorem Kn.ev(hk:Kn ops (kV ks) a0 w0 i a w){x:Operand}(h:okK ops ks i x=true):a.eval x=evK ops ks a0 i x:=by
 cases x with
 | tmp t =>
   simp only[okK,evK] at h ⊢;cases hd:zrK ops i t with
   | none=>rw[hd] at h;exact hk.was t h rfl
   | some j =>
     rw[hd] at h;have hj:=List.find?_some hd;simp only at h ⊢;cases hkj:ks.getD j .any<;>rw[hkj] at h<;>simp[kEq] at h
     exact hk.eq_ j t hj hkj
 | _=>rfl
theorem Kn.mv{Q:Exit->Act->World->Prop}{o:Oper}{x:Operand}{v:Value}(hk:Kn ops (kV ks) a0 w0 i a w)(hop:o.op=.move x:=by rfl)(hw:Region.wanted o (yielded ops a.tmps)=true:=by rfl)
  (hks:ks.getD i .any=.eq v:=by rfl) (hv:evK ops ks a0 i x=v:=by kernel_rfl) (hok:okK ops ks i x=true:=by kernel_rfl):Step P ops (kV ks) Q i o a w :=
 zau hw hop (hk.ev hok) (by unfold kV;rw[hks];exact hv)
theorem ztW{xs:Array Operand}(hk:Kn ops (kV ks) a0 w0 i a w)(h:xs.all (okK ops ks i)=true):xs.map a.eval=xs.map (evK ops ks a0 i) :=
 Array.map_congr_left fun _ hx=>hk.ev (Array.all_eq_true_iff_forall_mem.1 h _ hx)
theorem Kn.call{Q:Exit->Act->World->Prop}{o:Oper}{f:FuncId}{args:Array Operand}{ts:Array TypeId}{vs:Array Value}{R:Ending->World->Prop}(hk:Kn ops (kV ks) a0 w0 i a w)
  (hcf:∀vs w,(callFunc f vs).run P w=.ok (.enter f vs) w) (hc:Calls P f vs w R) (hR:∀e w',R e w'->∃v,e=.returned v/\Ext w w'/\kV ks i w' v)
  (hop:o.op=.call { callee:=.value (.func f),args:=args,argTypes:=ts }:=by rfl) (hw:Region.wanted o (yielded ops a.tmps)=true:=by rfl)
  (hargs:args.map (evK ops ks a0 i)=vs:=by kernel_rfl) (hok:args.all (okK ops ks i)=true:=by kernel_rfl):Step P ops (kV ks) Q i o a w :=
 za0 hw hop ((ztW hk hok).trans hargs) hcf hc hR
theorem RetB.k{bs:List UInt8}{n:Nat}(hn:bs.length=n)(e:Ending)(w':World)(h:RetB w bs e w'):∃v,e=.returned v/\Ext w w'/\K.holds (.byt n bs) w' v:=by
 obtain⟨v,rfl,ho,hb⟩:=h;obtain⟨A,c,rfl,hr,_⟩:=ho.rdn hn;exact⟨_,rfl,hb,A,c,rfl,hr⟩
theorem zsA{fn:Func}{R:Ending->World->Prop}{t:Tmp}{v:Value}(hres:fn.results=#[.tmp t])(hd:a.defers = [])(hv:a.tmps.getD t undef=v)(h:R (.returned v) w):
  Code.ret.wp P (bodyPost P fn R) a w:=wp_ret (bodyPost_ret (results_tmp hres _ _ _) hd (by rw[hv];exact h))
theorem Fin_.val(hf:Fin_ ops (kV ks) a0 w0 a w)(j t:Nat){k:K}(hd:zkG ops j t=true:=by kernel_rfl)(hks:ks.getD j .any=k:=by rfl):k.holds w (a.tmps.getD t undef):=by
 unfold zkG at hd;cases hx:ops[j]? with
 | none=>simp[hx] at hd
 | some x =>simp[hx] at hd;have:=hf.new j x t hx hd;unfold kV at this;rwa[hks] at this
def zaT(f:Nat->Value):List Oper->Act->Act
 | [],a=>a
 | o::l,a=>zaT f l (match o.dst with|some t=>a.put (some t) (f t) | none=>a)
theorem zfe(f:Nat->Value):∀(l:List Oper) (a:Act),(zaT f l a).defers=a.defers/\(zaT f l a).tmps.size=a.tmps.size /\
  ∀t,t<a.tmps.size->(zaT f l a).tmps.getD t undef=if l.any (fun o=>o.dst==some t) then f t else a.tmps.getD t undef
 | [],a=>⟨rfl,rfl,fun t _=>by simp[zaT]⟩
 | o::l,a=>by
   have ih:=zfe f l (match o.dst with|some t=>a.put (some t) (f t) | none=>a);cases hd:o.dst with
   | none =>rw[hd] at ih;refine⟨by simp only[zaT,hd];exact ih.1,by simp only[zaT,hd];exact ih.2.1,fun t ht=>?_⟩;simp only[zaT,hd];rw[ih.2.2 t ht];simp[hd]
   | some u =>
     rw[hd] at ih;refine⟨by simp only[zaT,hd];exact ih.1.trans (ze9 _ _ _),by simp only[zaT,hd];exact ih.2.1.trans (size_put _ _ _),fun t ht=>?_⟩;simp only[zaT,hd];rw[ih.2.2 t (by rw[size_put];exact ht)];by_cases hu:u=t
     ·subst hu;simp only[List.any_cons,hd,beq_self_eq_true,Bool.true_or,if_true];split
      ·rfl
      ·exact zfT ht
     ·rw[zec (fun e=>hu (Option.some.inj e))];simp[hd,hu]
theorem zhb(xs:Array Value)(i:Nat)(h:i<xs.size):xs.getD i undef=xs[i]:=by simp[h]
theorem zso{a b:Act}(hd:a.defers=b.defers)(hs:a.tmps.size=b.tmps.size)(h:∀t,t<a.tmps.size->a.tmps.getD t undef=b.tmps.getD t undef):a=b:=by
 have ht:a.tmps=b.tmps:=by apply Array.ext hs;intro i h1 h2;rw[<-zhb _ _ h1,<-zhb _ _ h2];exact h i h1
 cases a;cases b
 cases ht;cases hd
 rfl
theorem Fin_.frame{l:List Oper}(hf:Fin_ l.toArray V a0 w0 a w):a=zaT (fun t=>a.tmps.getD t undef) l a0:=by
 have h:=zfe (fun t=>a.tmps.getD t undef) l a0;refine zso (hf.defers.trans h.1.symm) (hf.size.trans h.2.1.symm) fun t ht=>?_
 rw[h.2.2 t (by rw[<-hf.size];exact ht)];by_cases hn:(l.any fun o=>o.dst==some t)=true
 ·rw[if_pos hn]
 ·rw[if_neg hn];refine hf.old t fun j x hx hxd=>hn ?_
  rw[List.any_eq_true];exact⟨x,List.mem_of_getElem? (by simpa using hx),by simp[hxd]⟩
def kPut(f:Nat->Value)(k:K)(o:Oper)(a:Act):Act :=
 match k with
 | .eq v=>a.put o.dst v
 | _=>match o.dst with
   | some t=>a.put (some t) (f t)
   | none=>a
def frV(f:Nat->Value):List K->List Oper->Act->Act
 | k::ks,o::l,a=>frV f ks l (kPut f k o a)
 | [],o::l,a=>frV f [] l (kPut f .any o a)
 | _,[],a=>a
theorem zne(f:Nat->Value):∀(l:List Oper) (ks:List K) (a:Act),(∀j x t,l[j]? = some x->x.dst=some t->kV ks j w (f t))->zaT f l a=frV f ks l a
 | [],ks,a,_=>by cases ks<;>rfl
 | o::l,[],a,h=>by have hp:kPut f .any o a=(match o.dst with|some t=>a.put (some t) (f t) | none=>a):=rfl;simp only[zaT,frV,hp];exact zne f l [] _ fun j x t hx hd=>h (j+1) x t (by simpa using hx) hd
 | o::l,k::ks,a,h=>by
   have hp:kPut f k o a=(match o.dst with|some t=>a.put (some t) (f t) | none=>a):=by
    cases k<;>try rfl
    rename_i v;cases hd:o.dst with
    | none=>simp only[kPut,hd];rfl
    | some t =>have:f t=v:=h 0 o t (by simp) hd;simp only[kPut,hd,this]
   simp only[zaT,frV,hp];exact zne f l ks _ fun j x t hx hd=>h (j+1) x t (by simpa using hx) hd
theorem Fin_.fr{l:List Oper}(hf:Fin_ l.toArray (kV ks) a0 w0 a w):a=frV (fun t=>a.tmps.getD t undef) ks l a0 :=
 hf.frame.trans (zne _ l ks a0 fun j x t hx hd=>hf.new j x t (by simpa using hx) hd)
theorem zsz{Q:Exit->Act->World->Prop}{o:Oper}{t:TypeId}{n:Nat}{parts:Array (Nat×Operand)}{vs:Array (Nat×Value)}{bs:List UInt8}{cs:Array Value}(hw:Region.wanted o (yielded ops a.tmps)=true)
  (hop:o.op=.buildSlice t n parts) (hparts:parts.map (fun p=>(p.1,a.eval p.2))=vs)
  (hrun:(Instr.buildSlice t n vs).run P w=.ok (.slice (some ⟨w.heap.size,0,none⟩) n n) (w.alloc (.cells cs 5)))
  (hcs:cs.toList=cellsOf bs) (hn:bs.length=n) (hm:n<=maxLen) (hV:∀w' v,K.holds (.byt n bs) w' v->V i w' v):Step P ops V Q i o a w:=by
 refine zai (v:=.slice (some ⟨w.heap.size,0,none⟩) n n) (w':=w.alloc (.cells cs 5)) hw ?_ (Ext.alloc _ _) (hV _ _ ?_)
 ·have e:(parts.map fun x=>match x with | (i,x)=>(i,a.eval x))=vs:=hparts;simp only[execOp,hop,e,Sem.run_bind,hrun,Sem.run_pure,Result.andThen]
 obtain⟨A,c,e,hr,_⟩:=(Own.lit w bs cs n w.heap.size hcs hn hm (Nat.le_refl _)).rdn hn;exact⟨A,c,e,hr⟩
theorem Rd.cutlo{B n c l:Nat}{A:Option Addr}{bs:List UInt8}(h:Rd w B A n bs)(hl:l<=n)(hc:n<=c):
  Rd w B (if c=l then A else A.map (·.add (l*1))) (n-l) (bs.drop l):=by
 refine⟨by rw[List.length_drop,h.len],fun hp=>?_⟩;obtain⟨b,o,rfl,hb,hcell⟩:=h.at_ (by omega);rw[if_neg (by omega)];refine⟨b,o+l*1,by simp[za2],hb,fun k hk=>?_⟩;have:=hcell (l+k) (by omega);have e:zah (bs.drop l) k=zah bs (l+k):=by unfold zah;simp[List.getD]
 rw[e,<-this];congr 2;omega
theorem Rd.cuthi{B n:Nat}{A:Option Addr}{bs:List UInt8}(h:Rd w B A n bs)(l:Nat)(hl:l<=n):Rd w B A l (bs.take l):=by
 refine⟨by rw[List.length_take,h.len];omega,fun hp=>?_⟩;obtain⟨b,o,rfl,hb,hcell⟩:=h.at_ (by omega);refine⟨b,o,rfl,hb,fun k hk=>?_⟩;have e:zah (bs.take l) k=zah bs k:=by unfold zah;simp[List.getD,hk]
 rw[e];exact hcell k (by omega)
theorem zhK{Q:Exit->Act->World->Prop}{o:Oper}{t:TypeId}{x lo:Operand}{A:Option Addr}{n c l:Nat}{bs:List UInt8}(hw:Region.wanted o (yielded ops a.tmps)=true)
  (hop:o.op=.slice t x (some lo) none none) (hx:a.eval x=.slice A n c) (hlo:a.eval lo=.int .i64 (l:Int)) (ht:P.underlying t=some (.slice (P.elem t))) (hs:∀w,(sizeOf (P.elem t)).run P w=.ok 1 w)
  (hl:l<=n) (hc:n<=c) (hr:Rd w w.heap.size A n bs) (hV:∀v,K.holds (.byt (n-l) (bs.drop l)) w v->V i w v):Step P ops V Q i o a w:=by
 refine zai (v:=sliced A l n c 1) (w':=w) hw ?_ (Ext.refl w) (hV _ ⟨_,_,rfl,hr.cutlo hl hc⟩);have e:(Instr.sliceAt t (.slice A n c) (some (.int .i64 (l:Int))) none none).run P w=.ok (sliced A l n c 1) w:=by rw[run_sliceAt_slice w t _ _ _ _ ht,run_slice_l w t A n c ht .i64 l (by omega) (by omega),hs];simp[Result.andThen]
 simp[execOp,hop,hx,hlo,e,Result.andThen]
theorem zph{Q:Exit->Act->World->Prop}{o:Oper}{t:TypeId}{x hi:Operand}{A:Option Addr}{n c l:Nat}{bs:List UInt8}(hw:Region.wanted o (yielded ops a.tmps)=true)
  (hop:o.op=.slice t x none (some hi) none) (hx:a.eval x=.slice A n c) (hhi:a.eval hi=.int .i64 (l:Int)) (ht:P.underlying t=some (.slice (P.elem t))) (hs:∀w,(sizeOf (P.elem t)).run P w=.ok 1 w)
  (hl:l<=n) (hc:n<=c) (hr:Rd w w.heap.size A n bs) (hV:∀v,K.holds (.byt l (bs.take l)) w v->V i w v):Step P ops V Q i o a w:=by
 have hc0:=hr.cutlo (l:=0) (Nat.zero_le _) hc;refine zai (v:=sliced A 0 l c 1) (w':=w) hw ?_ (Ext.refl w) (hV _ ⟨_,_,rfl,?_⟩)
 ·have e:(Instr.sliceAt t (.slice A n c) none (some (.int .i64 (l:Int))) none).run P w=.ok (sliced A 0 l c 1) w:=by rw[run_sliceAt_slice w t _ _ _ _ ht,run_slice_h w t A n c ht .i64 l (by omega) (by omega),hs];simp[Result.andThen]
  simp[execOp,hop,hx,hhi,e,Result.andThen]
 ·have:=hc0.cuthi l (by omega);simpa using this
end
theorem Own.rdc{w:World}{base n:Nat}{v:Value}{bs:List UInt8}(h:Own w base v bs)(hn:bs.length=n):∃A c,v=.slice A n c/\n<=c/\Rd w w.heap.size A n bs/\Own w base (.slice A n c) bs:=by
 subst hn;obtain⟨A,c,rfl,hr,_⟩:=h.rd;refine⟨A,c,rfl,?_,hr,h⟩;rcases h.2 with⟨h1,h2⟩|⟨g,cap,cur,h1,_,_,hnc,_⟩
 ·omega
 ·simp only[Value.slice.injEq] at h1;omega
theorem ztF{a:Int}(h:(Lit.int .u8 a).wf=true):0<=a/\a<256:=by
 have:=h;simp[Lit.wf,IntKind.min,IntKind.max,IntKind.bits,IntKind.signed] at this;omega
theorem wf_i64{a:Int}(h:(Lit.int .i64 a).wf=true) : -9223372036854775808<=a/\a<=9223372036854775807:=by
 have:=h;simp[Lit.wf,IntKind.min,IntKind.max,IntKind.bits,IntKind.signed] at this;omega
def IsRow(k:IntKind)(w:World)(a:Option Addr)(len cap:Nat)(zs:List Int):Prop :=
 (a=none/\len=0/\cap=0/\zs = []) \/
 ∃x,a=some x/\len<=cap/\cap<=maxLen/\zs.length=cap/\(∀i,i<zs.length->w.cell? (x.add i)=some (.int k (zs.getD i 0)))/\∀n ∈ zs,(Lit.int k n).wf=true
theorem IsRow.rd{w:World}{a:Option Addr}{len cap:Nat}{zs:List Int}(h:IsRow .u8 w a len cap zs):∃bs,Rd w w.heap.size a len bs/\len<=maxLen:=by
 rcases h with⟨rfl,rfl,rfl,rfl⟩|⟨x,rfl,h1,h2,h3,hc,hw⟩
 ·exact⟨[],Rd.nil _ _ _,by simp⟩
 ·refine⟨(zs.take len).map u8,⟨by simp;omega,fun hp=>?_⟩,by omega⟩;obtain⟨b,off,spot⟩:=x;have hc0:=hc 0 (by omega);have hspot:spot=none:=by simpa [Addr.add] using World.cell?_spot hc0
  subst hspot;refine⟨b,off,rfl,?_,fun k hk=>?_⟩
  ·have:=World.block_lt_of_cell? w _ hc0;rwa[za2] at this
  ·have:=hc k (by omega);rw[za2] at this;rw[this];have hm:zs.getD k 0 ∈ zs:=by
    have hkl:k<zs.length:=by omega
    simp[List.getD,List.getElem?_eq_getElem hkl]
   have hwf:=ztF (hw _ hm);have e:zah ((zs.take len).map u8) k=zs.getD k 0:=by
    unfold zah;have hkl:k<((zs.take len).map u8).length:=by simp;omega
    have e1:((zs.take len).map u8).getD k 0=u8 (zs.getD k 0):=by simp[List.getD,List.getElem?_map,hk,List.getElem?_eq_getElem (show k<zs.length by omega)]
    rw[e1,zbB];omega
   rw[e]
theorem IsRow.rdc{w:World}{a:Option Addr}{len cap:Nat}{zs:List Int}(h:IsRow .u8 w a len cap zs):∃bs,Rd w w.heap.size a len bs/\len<=maxLen/\len<=cap:=by
 obtain⟨bs,h1,h2⟩:=h.rd;refine⟨bs,h1,h2,?_⟩;rcases h with⟨_,rfl,rfl,_⟩|⟨x,_,h3,_⟩
 ·exact Nat.le_refl _
 ·exact h3
def cN(k:IntKind)(xs:List Int):List Value:=xs.map fun x=>.int k x
theorem zaH(k:IntKind)(xs:List Int):(cN k xs).length=xs.length:=by simp[cN]
theorem zd1(k:IntKind)(xs:List Int)(j:Nat)(h:j<xs.length):(cN k xs)[j]? = some (.int k (xs.getD j 0)):=by
 simp[cN,h]
theorem zhr(k:IntKind)(xs:List Int):∀u ∈ cN k xs,u.oneCell'=true:=by
 intro u hu;simp only[cN,List.mem_map] at hu;obtain⟨b,_,rfl⟩:=hu;rfl
theorem zcI(k:IntKind)(xs ys:List Int):cN k (xs++ys)=cN k xs++cN k ys:=by simp[cN]
theorem zut(k:IntKind)(xs:List Int)(j:Nat)(x:Int):(cN k xs).set j (.int k x)=cN k (xs.set j x):=by simp[cN,List.map_set]
structure RdN (k:IntKind) (w:World) (B:Nat) (A:Option Addr) (n:Nat) (xs:List Int):Prop where
 len:xs.length=n
 at_:0<n->∃b o,A=some ⟨b,o,none⟩/\b<B/\∀j,j<n->w.cell? ⟨b,o+j,none⟩=some (.int k (xs.getD j 0))
section
variable {kd:IntKind}
theorem RdN.nil(w:World)(B:Nat)(A:Option Addr):RdN kd w B A 0 []:=⟨rfl,fun h=>absurd h (by omega)⟩
theorem RdN.keep{w w':World}{B n:Nat}{A:Option Addr}{xs:List Int}(h:RdN kd w B A n xs)(hk:∀p:Addr,p.block<B->w'.cell? p=w.cell? p):RdN kd w' B A n xs :=
 ⟨h.len,fun hn=>by obtain⟨b,o,e,hb,hc⟩:=h.at_ hn;exact⟨b,o,e,hb,fun k hkn=>(hk _ hb).trans (hc k hkn)⟩⟩
theorem RdN.more{w:World}{B B' n:Nat}{A:Option Addr}{xs:List Int}(h:RdN kd w B A n xs)(hB:B<=B'):RdN kd w B' A n xs :=
 ⟨h.len,fun hn=>by obtain⟨b,o,e,hb,hc⟩:=h.at_ hn;exact⟨b,o,e,by omega,hc⟩⟩
theorem RdN.below{w w':World}{B B' n:Nat}{A:Option Addr}{xs:List Int}(h:RdN kd w B A n xs)(hb:Below B' w w')(hB:B<=B'):RdN kd w' B A n xs :=
 h.keep fun p hp=>hb.cell (p:=p) (by omega)
theorem RdN.later{w w':World}{n:Nat}{A:Option Addr}{xs:List Int}(h:RdN kd w w.heap.size A n xs)(hb:Below w.heap.size w w'):RdN kd w' w'.heap.size A n xs :=
 (h.below hb (Nat.le_refl _)).more hb.size
theorem RdN.drew{w:World}{B n:Nat}{A:Option Addr}{xs:List Int}(h:RdN kd w B A n xs):RdN kd w.drew B A n xs:=⟨h.len,h.at_⟩
def OwnN(kd:IntKind)(e:TypeId)(w:World)(base:Nat)(v:Value)(xs:List Int):Prop :=
 w.ownsRow base e 1 v xs.length (cN kd xs)
variable {e:TypeId}
theorem OwnN.rd{w:World}{base:Nat}{v:Value}{xs:List Int}(h:OwnN kd e w base v xs):∃A c,v=.slice A xs.length c/\RdN kd w w.heap.size A xs.length xs/\(A=none->xs = [])/\(∀a,A=some a->base<=a.block):=by
 rcases h.2 with⟨rfl,hn⟩|⟨g,cap,cur,rfl,hb,hh,hnc,hcm,hcs,htake⟩
 ·have:xs = []:=List.eq_nil_of_length_eq_zero hn;subst this;exact⟨none,0,rfl,RdN.nil _ _ _,fun _=>rfl,fun a h=>by cases h⟩
 ·refine⟨_,cap,rfl,⟨rfl,fun _=>⟨g,0,rfl,(Array.getElem?_eq_some_iff.1 hh).1,fun k hk=>?_⟩⟩,(fun h=>by cases h),(fun a h=>by cases h;exact hb)⟩;have:=h.cells (g:=g) rfl k _ (zd1 kd xs k hk);rw[zd2] at this;simpa using this
theorem OwnN.kept{w w':World}{base:Nat}{v:Value}{xs:List Int}(h:OwnN kd e w base v xs)(hb:Below w.heap.size w w'):OwnN kd e w' base v xs:=by
 refine⟨h.1,?_⟩;rcases h.2 with hn|⟨g,cap,cur,rfl,hbg,hh,r⟩
 ·exact .inl hn
 ·exact .inr ⟨g,cap,cur,rfl,hbg,by rw[hb.block g (Array.getElem?_eq_some_iff.1 hh).1];exact hh,r⟩
theorem OwnN.set_{w:World}{base g c:Nat}{xs:List Int}(h:OwnN kd e w base (.slice (some ⟨g,0,none⟩) xs.length c) xs)(j:Nat)(x:Int):
  OwnN kd e (w.setCell ⟨g,j,none⟩ (.int kd x)) base (.slice (some ⟨g,0,none⟩) xs.length c) (xs.set j x):=by
 have:=(h.stored j (.int kd x)).1;unfold OwnN;rw[zut] at this;simpa using this
theorem OwnN.setn{w:World}{base g n c:Nat}{xs:List Int}(h:OwnN kd e w base (.slice (some ⟨g,0,none⟩) n c) xs)(hn:xs.length=n)(j:Nat)(x:Int):
  OwnN kd e (w.setCell ⟨g,j,none⟩ (.int kd x)) base (.slice (some ⟨g,0,none⟩) n c) (xs.set j x):=by
 subst hn;exact h.set_ j x
theorem OwnN.cell{w:World}{base g c:Nat}{xs:List Int}(h:OwnN kd e w base (.slice (some ⟨g,0,none⟩) xs.length c) xs)(j:Nat)(hj:j<xs.length):
  w.cell? ⟨g,j,none⟩=some (.int kd (xs.getD j 0)):=by
 rw[h.cellAt j (by omega),zd1 kd xs j hj]
theorem OwnN.celln{w:World}{base g n c:Nat}{xs:List Int}(h:OwnN kd e w base (.slice (some ⟨g,0,none⟩) n c) xs)(hn:xs.length=n)(j:Nat)(hj:j<n):
  w.cell? ⟨g,j,none⟩=some (.int kd (xs.getD j 0)):=by
 subst hn;exact h.cell j hj
theorem OwnN.len_eq{w:World}{base n c:Nat}{A:Option Addr}{xs:List Int}(h:OwnN kd e w base (.slice A n c) xs):xs.length=n:=by
 rcases h.2 with⟨h1,h2⟩|⟨g,cap,cur,h1,_⟩
 ·cases h1;exact h2
 ·cases h1;rfl
theorem OwnN.free{w:World}{base g n c:Nat}{xs:List Int}(h:OwnN kd e w base (.slice (some ⟨g,0,none⟩) n c) xs)(j:Nat):
  w.frozen? ⟨g,j,none⟩=false:=by
 have hl:=h.len_eq;subst hl;exact World.ownsRow.frozenAt h j
theorem OwnN.base_le{w:World}{base g n c:Nat}{xs:List Int}(h:OwnN kd e w base (.slice (some ⟨g,0,none⟩) n c) xs):base<=g/\g<w.heap.size:=by
 have:=World.ownsRow.lt h g rfl;exact this
theorem OwnN.drew{w:World}{base:Nat}{v:Value}{xs:List Int}(h:OwnN kd e w base v xs):OwnN kd e w.drew base v xs:=h
theorem OwnN.rdn{w:World}{base n:Nat}{v:Value}{xs:List Int}(h:OwnN kd e w base v xs)(hn:xs.length=n):∃A c,v=.slice A n c/\RdN kd w w.heap.size A n xs/\OwnN kd e w base (.slice A n c) xs:=by
 subst hn;obtain⟨A,c,rfl,hr,_⟩:=h.rd;exact⟨A,c,rfl,hr,h⟩
theorem OwnN.rdc{w:World}{base n:Nat}{v:Value}{xs:List Int}(h:OwnN kd e w base v xs)(hn:xs.length=n):∃A c,v=.slice A n c/\n<=c/\RdN kd w w.heap.size A n xs/\OwnN kd e w base (.slice A n c) xs:=by
 subst hn;obtain⟨A,c,rfl,hr,_⟩:=h.rd;refine⟨A,c,rfl,?_,hr,h⟩;rcases h.2 with⟨h1,h2⟩|⟨g,cap,cur,h1,_,_,hnc,_⟩
 ·omega
 ·simp only[Value.slice.injEq] at h1;omega
theorem OwnN.head{w:World}{base n:Nat}{v:Value}{xs:List Int}(h:OwnN kd e w base v xs)(hn:xs.length=n)(hp:0<n):∃g c,v=.slice (some ⟨g,0,none⟩) n c/\n<=c/\base<=g/\g<w.heap.size:=by
 subst hn;have hl:=World.ownsRow.lt h;rcases h.2 with⟨_,h2⟩|⟨g,cap,cur,rfl,hb,hh,hnc,_⟩
 ·omega
 ·exact⟨g,cap,rfl,hnc,hb,(hl g rfl).2⟩
theorem zrg(n:Nat):(madeCells #[Value.int kd 0] n).toList=cN kd (List.replicate n 0):=by
 rw[toList_madeCells_one];simp[cN]
theorem zc3{P:Program}{w:World}{ops:Array Oper}{rest:List Oper}{o:Oper}{a:Act}{Q:Exit->Act->World->Prop}
  (hg:o.guard=none) (l c:Operand) (t:TypeId) (hop:o.op=Op.makeSlice t l c)
  (h1:P.underlying t=some (.slice e)) (by_:Nat) (hin:(P.info? e).map (fun i=>(i.zero,i.size,i.bytes))=some (some (.int kd 0),1,by_))
  (kl:IntKind) (L:Int) (n:Nat) (hl:a.eval l=.int kl L) (hc:a.eval c=.int kl L) (hL:L=(n:Int)) (b3:by_*n<=281474976710656) (b4:n<=maxLen)
  (base:Nat) (hbase:base<=w.heap.size)
  (hK:∀w',OwnN kd e w' base (.slice (some ⟨w.heap.size,0,none⟩) n n) (List.replicate n 0)->Below w.heap.size w w'->wpList P ops Q rest (a.put o.dst (.slice (some ⟨w.heap.size,0,none⟩) n n)) w'):
  wpList P ops Q (o::rest) a w:=by
 obtain⟨i0,hi0,hz0,hz1,hz2⟩:=info_parts hin;refine wpList_make_full w hg l c t hop base e i0 (.int kd 0) 1 h1 hi0 hz0 hz1 kl kl L L n hl hc hL hL (by rw[hz2];exact b3) b4 hbase ?_;intro w' hown hgr;refine hK w' ?_ ((Below.refl _ _).grown hgr (Nat.le_refl _) (by simp));have e1:(madeCells (Value.cells (.int kd 0)) (n*1)).toList=cN kd (List.replicate n 0):=by rw[Nat.mul_one];exact zrg n
 rw[e1] at hown;simpa [OwnN] using hown
theorem OwnN.lit(w:World)(xs:List Int)(cs:Array Value)(n base:Nat)(hcs:cs.toList=cN kd xs)(hn:xs.length=n)(hm:n<=maxLen)(hb:base<=w.heap.size):
  OwnN kd e (w.alloc (.cells cs e)) base (.slice (some ⟨w.heap.size,0,none⟩) n n) xs:=by
 subst hn;have hsz:cs.size=xs.length*1:=by rw[<-Array.length_toList,hcs,zaH,Nat.mul_one]
 have:=World.ownsRow_lit (e:=e) (size:=1) w cs xs.length hb hm hsz;rw[hcs] at this;exact this
theorem zaw{P:Program}(w:World){ops:Array Oper}{rest:List Oper}{o:Oper}{a:Act}{Q:Exit->Act->World->Prop}(hgd:o.guard=none)(s x:Operand)(t:TypeId)
  (ho:o.op=.call { callee:=.builtin .append,args:=#[s,x],argTypes:=#[t,t] }) (hu:P.underlying t=some (.slice e)) (by_:Nat)
  (hin:(P.info? e).map (fun i=>(i.zero,i.size,i.bytes))=some (some (.int kd 0),1,by_))
  (base:Nat) (v:Value) (xs:List Int) (hs:a.eval s=v) (hown:OwnN kd e w base v xs)
  (B:Nat) (A:Option Addr) (n c:Nat) (ys:List Int) (hx:a.eval x=.slice A n c) (hrd:RdN kd w B A n ys)
  (hlen:(xs.length+n)*by_<=140737488355328) (hmax:xs.length+n<=maxLen) (hbase:base<=w.heap.size)
  (h:∀v' w',OwnN kd e w' base v' (xs++ys)->Below base w w'->wpList P ops Q rest (a.put o.dst v') w'):wpList P ops Q (o::rest) a w:=by
 obtain⟨i0,hi0,hz0,hz1,hz2⟩:=info_parts hin;have hyl:=hrd.len;have hbel:∀w',w.grownBy w' v.ownBlock->Below base w w':=fun w' hg=>(Below.refl _ _).grown hg hbase fun k hk=>(World.ownsRow.lt hown k hk).1
 have fin:∀v' w',w'.ownsRow base e 1 v' (xs.length+n) (cN kd xs++cN kd ys)->OwnN kd e w' base v' (xs++ys):=by intro v' w' h2;unfold OwnN;rw[List.length_append,zcI,hyl];exact h2
 cases A with
 | some ad =>
   refine wpList_append_own w hgd s x t ho base e i0 (.int kd 0) 1 by_ hu hi0 hz0 hz1 hz2 rfl (by omega) v xs.length (cN kd xs) hs hown ad n c (cN kd ys) hx (by rw[zaH];omega) ?_ (zhr kd ys) hmax hlen hbase ?_
   ·intro j u hu;rcases Nat.lt_or_ge j n with hj|hj
    ·obtain⟨b,off,e1,_,hc⟩:=hrd.at_ (by omega);cases e1
     rw[zd1 kd ys j (by omega)] at hu;cases hu
     rw[za2];exact hc j hj
    ·rw[List.getElem?_eq_none (by rw[zaH];omega)] at hu;cases hu
   ·intro v' w' h2 h3 _;exact h v' w' (fin _ _ h2) (hbel _ h3)
 | none =>
   have hn:n=0:=by
    rcases Nat.eq_zero_or_pos n with h0|h0
    ·exact h0
    ·obtain⟨b,off,e1,_⟩:=hrd.at_ h0;cases e1
   subst hn;have hys:ys = []:=List.eq_nil_of_length_eq_zero hyl;subst hys;refine wpList_plain hgd fun K hK'=>?_
   have hrun:(Builtin.append_ #[t,t] o.type #[v,.slice none 0 c]).run P w=.ok v w:=by
    rcases hown.2 with⟨rfl,_⟩|⟨g,cap,cur,rfl,_,_,hnc,_⟩
    ·simp[Builtin.append_,run_underlying hu,sizeOf,typeInfo,hi0,Builtin.lenOf,Builtin.firstCells]
    ·simp[Builtin.append_,run_underlying hu,sizeOf,typeInfo,hi0,Builtin.lenOf,Builtin.firstCells,hnc,storeCells]
   unfold Oper.wp execOp;simp only[ho,resolve,invoke,builtin,Sem.run_bind,Sem.run_pure,Result.andThen_ok,List.map_toArray,List.map_cons,List.map_nil,hs,hx,hrun];exact hK' _ _ (h v w (by simpa using hown) (Below.refl _ _))
theorem IsRow.rdN{k:IntKind}{w:World}{a:Option Addr}{len cap:Nat}{zs:List Int}(h:IsRow k w a len cap zs):∃xs,RdN k w w.heap.size a len xs/\len<=maxLen/\len<=cap/\∀j,j<len->(Lit.int k (xs.getD j 0)).wf=true:=by
 rcases h with⟨rfl,rfl,rfl,rfl⟩|⟨x,rfl,h1,h2,h3,hc,hw⟩
 ·exact⟨[],RdN.nil _ _ _,by simp,by simp,fun j hj=>absurd hj (by omega)⟩
 ·refine⟨zs.take len,⟨by simp;omega,fun hp=>?_⟩,by omega,h1,fun j hj=>?_⟩
  ·obtain⟨b,off,spot⟩:=x;have hc0:=hc 0 (by omega);have hspot:spot=none:=by simpa [Addr.add] using World.cell?_spot hc0
   subst hspot;refine⟨b,off,rfl,?_,fun j hj=>?_⟩
   ·have:=World.block_lt_of_cell? w _ hc0;rwa[za2] at this
   ·have:=hc j (by omega);rw[za2] at this;rw[this];simp[List.getD,hj]
  ·have hm:zs.getD j 0 ∈ zs:=by
    have hkl:j<zs.length:=by omega
    simp[List.getD,List.getElem?_eq_getElem hkl]
   have e1:(zs.take len).getD j 0=zs.getD j 0:=by simp[List.getD,hj]
   rw[e1];exact hw _ hm
theorem RdN.cutlo{w:World}{B n c l:Nat}{A:Option Addr}{xs:List Int}(h:RdN kd w B A n xs)(hl:l<=n)(hc:n<=c):
  RdN kd w B (if c=l then A else A.map (·.add (l*1))) (n-l) (xs.drop l):=by
 refine⟨by rw[List.length_drop,h.len],fun hp=>?_⟩;obtain⟨b,o,rfl,hb,hcell⟩:=h.at_ (by omega);rw[if_neg (by omega)];refine⟨b,o+l*1,by simp[za2],hb,fun k hk=>?_⟩;have:=hcell (l+k) (by omega);have e:(xs.drop l).getD k 0=xs.getD (l+k) 0:=by simp[List.getD]
 rw[e,<-this];congr 2;omega
theorem RdN.cuthi{w:World}{B n:Nat}{A:Option Addr}{xs:List Int}(h:RdN kd w B A n xs)(l:Nat)(hl:l<=n):RdN kd w B A l (xs.take l):=by
 refine⟨by rw[List.length_take,h.len];omega,fun hp=>?_⟩;obtain⟨b,o,rfl,hb,hcell⟩:=h.at_ (by omega);refine⟨b,o,rfl,hb,fun k hk=>?_⟩;have e:(xs.take l).getD k 0=xs.getD k 0:=by simp[List.getD,hk]
 rw[e];exact hcell k (by omega)
def RetN(kd:IntKind)(e:TypeId)(w:World)(xs:List Int)(en:Ending)(w':World):Prop:=∃v,en=.returned v/\OwnN kd e w' w.heap.size v xs/\Below w.heap.size w w'
end
theorem Own.nil(w:World)(base:Nat):Own w base (.slice none 0 0) []:=World.ownsRow_nil _ _ _ _
theorem Ext.drew1(w:World):Ext w w.drew:=⟨rfl,rfl,rfl,Nat.le_refl _,fun _ _=>rfl⟩
theorem Own.base_mono{w:World}{base base':Nat}{v:Value}{bs:List UInt8}(h:Own w base v bs)(hb:base'<=base):Own w base' v bs:=by
 refine⟨h.1,?_⟩;rcases h.2 with hn|⟨g,cap,cur,e,hbg,r⟩
 ·exact .inl hn
 ·exact .inr ⟨g,cap,cur,e,by omega,r⟩
theorem Own.drew{w:World}{base:Nat}{v:Value}{bs:List UInt8}(h:Own w base v bs):Own w.drew base v bs:=h
theorem Own.rdm{w:World}{base n:Nat}{v:Value}{bs:List UInt8}(h:Own w base v bs)(hn:bs.length=n):∃A c,v=.slice A n c/\n<=c/\c<=9223372036854775807/\Rd w w.heap.size A n bs:=by
 obtain⟨A,c,rfl,hr,_⟩:=h.rdn hn;have hl:=hr.len;rcases h.2 with⟨h1,h2⟩|⟨g,cap,cur,h1,_,_,h4,h5,_⟩
 ·simp only[Value.slice.injEq] at h1;obtain⟨_,h3,h4⟩:=h1;exact⟨A,c,rfl,by omega,by omega,hr⟩
 ·simp only[Value.slice.injEq] at h1;obtain⟨_,h6,h7⟩:=h1;refine⟨A,c,rfl,by omega,?_,hr⟩;unfold maxLen at h5;omega
theorem Ext.drewN{w w':World}(h:Ext w w')(n:Nat):Ext w (w'.drewN n):=⟨h.os,h.tape,h.output,h.size,h.block⟩
theorem OwnN.base_mono{kd:IntKind}{e:TypeId}{w:World}{base base':Nat}{v:Value}{xs:List Int}(h:OwnN kd e w base v xs)(hb:base'<=base):OwnN kd e w base' v xs:=by
 refine⟨h.1,?_⟩;rcases h.2 with hn|⟨g,cap,cur,rfl,hbg,r⟩
 ·exact .inl hn
 ·exact .inr ⟨g,cap,cur,rfl,Nat.le_trans hb hbg,r⟩
def zen(ops:Array Oper)(s:Nat):Bool :=
 ops.size==s+1&&(List.range s).all fun j=>(List.range ops.size).any fun k=>decide (j<k)&&(ops[k]?.map fun x=>waits x j).getD false
section
variable {P:Program} {ops:Array Oper} {V:Nat->World->Value->Prop} {a0:Act} {w0:World}
theorem zg8{Q:Exit->Act->World->Prop}{fuel:Nat}{listed:Array Bool}{a:Act}{w:World}(hr:Region.ready .any ops listed = [])(h:Q .normal a w):
  wpAny P .any ops Q fuel listed a w:=by
 cases fuel with
 | zero=>exact⟨hr,h⟩
 | succ fuel=>exact⟨fun _=>h,fun i hi=>by rw[hr] at hi;cases hi⟩
theorem zkL{s:Nat}(hs:zen ops s=true){listed:Array Bool}{a:Act}{w:World}(h:Inv ops V a0 w0 listed a w)(hi:s ∈ Region.ready .any ops listed):
  ∀j,j<s->listed.getD j false=true:=by
 unfold zen at hs;simp only[Bool.and_eq_true,beq_iff_eq,List.all_eq_true,List.mem_range,List.any_eq_true,decide_eq_true_eq] at hs;obtain⟨hsz,hall⟩:=hs;obtain⟨_,o,ho,hdep⟩:=mem_ready.1 hi;have key:∀d j,j<s->s-j<=d->listed.getD j false=true:=by
  intro d;induction d with
  | zero=>intro j hj hd;omega
  | succ d ih =>
    intro j hj hd;obtain⟨k,hk,hjk,hw⟩:=hall j hj;cases hx:ops[k]? with
    | none=>rw[hx] at hw;simp at hw
    | some x =>
      rw[hx] at hw;simp only[Option.map_some,Option.getD_some] at hw;obtain⟨e,he,hb,heo⟩:=zbD hw;by_cases hks:k=s
      ·subst hks;rw[ho] at hx;cases hx
       rw[<-heo];exact hdep e he hb
      ·have:=ih k (by omega) (by omega);rw[<-heo];exact h.closed k x hx this e he hb
 intro j hj;exact key s j hj (by omega)
theorem zln{Q:Exit->Act->World->Prop}{n s:Nat}(hok:zb1 ops n=true)(hn:a0.tmps.size=n)(hs:zen ops s=true){os:Oper}(hos:ops[s]? = some os)(hd:os.dst=none)(hg:os.guard=none)
  (hV:∀i w w' v,Ext w w'->V i w v->V i w' v)
  (step:∀i o,ops[i]? = some o->i≠s->∀a w,Kn ops V a0 w0 i a w->Step P ops V Q i o a w)
  (last:∀a w,Fin_ ops V a0 w0 a w->os.wp P a w (fun a' w'=>Q .normal a' w') Q):
  ∀(fuel:Nat) (listed:Array Bool) (a:Act) (w:World),listed.toList.count false<=fuel->listed.getD s true=false->Inv ops V a0 w0 listed a w->wpAny P .any ops Q fuel listed a w:=by
 have hss:s<ops.size:=(Array.getElem?_eq_some_iff.1 hos).1;have nope:∀(listed:Array Bool) (a:Act) (w:World),listed.getD s true=false->Inv ops V a0 w0 listed a w->Region.ready .any ops listed = []->False:=by
  intro listed a w hl h hr;have:=zbS hok h.lsize hr s hss;have hlt:s<listed.size:=by rw[h.lsize];exact hss
  simp[hlt] at hl this;rw[hl] at this;cases this
 intro fuel;induction fuel with
 | zero =>intro listed a w hc hl h;have:=count_set listed s hl;omega
 | succ fuel ih =>
   intro listed a w hc hl h;refine⟨fun hr=>absurd hr (nope listed a w hl h),fun i hi=>?_⟩;obtain⟨hun,o,ho,_⟩:=mem_ready.1 hi;have hcs:=count_set listed i hun;by_cases his:i=s
   ·subst his;rw[hos] at ho;cases ho
    have hall:=zkL hs h hi;have hsz:ops.size=i+1:=by unfold zen at hs;simp only[Bool.and_eq_true,beq_iff_eq] at hs;exact hs.1
    have hf:Fin_ ops V a0 w0 a w:=by
     refine⟨h.ext,h.defers,h.size,fun t ht=>h.old t fun j x hx hdx=>absurd hdx (ht j x hx),fun j x t hx hdx=>?_⟩;have hj:=(Array.getElem?_eq_some_iff.1 hx).1;by_cases hji:j=i
     ·subst hji;rw[hos] at hx;cases hx
      rw[hd] at hdx;cases hdx
     ·exact h.new j x t hx (hall j (by omega)) hdx
    have hl2:=last a w hf;have hw:Region.wanted os (yielded ops a.tmps)=true:=by simp[Region.wanted,hg]
    unfold wpOp;simp only[hos];rw[if_pos hw];refine .inl (Oper.wp_mono (fun a' w' hh=>?_) hl2);refine zg8 ?_ hh;refine List.eq_nil_iff_forall_not_mem.2 fun j hj=>?_
    obtain⟨hun2,x,hx,_⟩:=mem_ready.1 hj;have hjs:=(Array.getElem?_eq_some_iff.1 hx).1;have hli:i<listed.size:=by rw[h.lsize];exact hss
    by_cases hji:j=i
    ·subst hji;simp[hli] at hun2
    ·have h3:=hall j (by omega);have hlj:j<listed.size:=by rw[h.lsize];exact hjs
     have h4:(listed.setIfInBounds i true).getD j true=listed.getD j true:=getD_set_ne true (Ne.symm hji);rw[h4] at hun2;simp[hlj] at hun2 h3;rw[hun2] at h3;cases h3
   ·have hst:=step i o ho his a w (h.kn hok hn hi);have hl2:(listed.setIfInBounds i true).getD s true=false:=by rw[getD_set_ne true his];exact hl
    unfold wpOp;simp only[ho];unfold Step at hst;split
    ·rename_i hw;rw[if_pos hw] at hst;refine .inl (Oper.wp_mono (fun a' w' hh=>?_) hst);obtain⟨v,rfl,he,hv⟩:=hh;exact ih _ _ _ (by omega) hl2 (h.put hok hn hV hi ho he hv)
    ·rename_i hw;rw[if_neg hw] at hst;exact ih _ _ _ (by omega) hl2 (h.put hok hn hV hi ho (Ext.refl _) hst)
theorem zjm{Q:Exit->Act->World->Prop}{id n:Nat}(s:Nat)(os:Oper)(hm:P.follows .mixedOrders=true)(hn:a0.tmps.size=n)(hok:zb1 ops n=true)
  (hs:zen ops s=true) (hos:ops[s]? = some os) (hd:os.dst=none) (hg:os.guard=none)
  (V:Nat->World->Value->Prop) (hV:∀i w w' v,Ext w w'->V i w v->V i w' v)
  (step:∀i o,ops[i]? = some o->i≠s->∀a w,Kn ops V a0 w0 i a w->Step P ops V Q i o a w)
  (last:∀a w,Fin_ ops V a0 w0 a w->os.wp P a w (fun a' w'=>Q .normal a' w') Q):(Code.region id ops true).wp P Q a0 w0:=by
 have hss:s<ops.size:=(Array.getElem?_eq_some_iff.1 hos).1;refine wp_region_any hm (zln (V:=V) hok hn hs hos hd hg hV step last ops.size _ _ _ ?_ ?_ ?_)
 ·simp
 ·simp[hss]
 ·refine⟨by simp,Ext.drew w0,rfl,rfl,?_,fun _ _=>rfl,?_⟩
  ·intro j x hx hl;have hj:=(Array.getElem?_eq_some_iff.1 hx).1;simp[hj] at hl
  ·intro j x t hx hl;have hj:=(Array.getElem?_eq_some_iff.1 hx).1;simp[hj] at hl
end
section
variable {P:Program} {ops:Array Oper} {V:Nat->World->Value->Prop} {a0:Act} {w0:World}
theorem Kn.slot{i:Nat}{a:Act}{w:World}(hk:Kn ops V a0 w0 i a w)(j t:Nat)(hd:zjb ops i j t=true):V j w (a.tmps.getD t undef):=by
 obtain⟨o,x,ho,hx,hw,ht⟩:=zeO hd;exact hk.new j x o t ho hw hx ht
structure InvW (ops:Array Oper) (V:Nat->World->Value->Prop) (a0:Act) (w0:World) (s:Nat) (Wr:World->Prop) (listed:Array Bool) (a:Act) (w:World):Prop where
 inv:Inv ops V a0 w listed a w
 pre:listed.getD s false=false->Ext w0 w
 post:listed.getD s false=true->Wr w
theorem Inv.at_{listed:Array Bool}{a:Act}{w w1 w2:World}(h:Inv ops V a0 w1 listed a w)(hx:Ext w2 w):Inv ops V a0 w2 listed a w:=⟨h.lsize,hx,h.defers,h.size,h.closed,h.old,h.new⟩
theorem zmU{Q:Exit->Act->World->Prop}{n s:Nat}{Wr:World->Prop}(hok:zb1 ops n=true)(hn:a0.tmps.size=n){os:Oper}(hos:ops[s]? = some os)(hg:os.guard=none)
  (hV:∀i w w' v,Ext w w'->V i w v->V i w' v) (hW:∀w w',Ext w w'->Wr w->Wr w')
  (step:∀i o,ops[i]? = some o->i≠s->∀a w,Kn ops V a0 w i a w->(waits os i=true->Ext w0 w)->Step P ops V Q i o a w)
  (wr:∀a w,Kn ops V a0 w0 s a w->os.wp P a w (fun a' w'=>∃v,a'=a.put os.dst v/\Wr w'/\V s w' v/\∀i v,V i w v->V i w' v) Q)
  (fin:∀a w,Fin_ ops V a0 w a w->Wr w->Q .normal a w):
  ∀(fuel:Nat) (listed:Array Bool) (a:Act) (w:World),listed.toList.count false<=fuel->InvW ops V a0 w0 s Wr listed a w->wpAny P .any ops Q fuel listed a w:=by
 have hss:s<ops.size:=(Array.getElem?_eq_some_iff.1 hos).1;have done:∀(listed:Array Bool) (a:Act) (w:World),InvW ops V a0 w0 s Wr listed a w->Region.ready .any ops listed = []->Q .normal a w:=by intro listed a w h hr;have hall:=zbS hok h.inv.lsize hr;exact fin a w ⟨Ext.refl _,h.inv.defers,h.inv.size,fun t ht=>h.inv.old t fun j x hx hd=>absurd hd (ht j x hx),fun j x t hx hd=>h.inv.new j x t hx (hall j (Array.getElem?_eq_some_iff.1 hx).1) hd⟩ (h.post (hall s hss))
 intro fuel;induction fuel with
 | zero =>
   intro listed a w hc h;have hr:Region.ready .any ops listed = []:=by
    refine List.eq_nil_iff_forall_not_mem.2 fun j hj=>?_
    have:=count_set listed j (mem_ready.1 hj).1;omega
   exact⟨hr,done listed a w h hr⟩
 | succ fuel ih =>
   intro listed a w hc h;refine⟨done listed a w h,fun i hi=>?_⟩;obtain⟨hun,o,ho,hdep⟩:=mem_ready.1 hi;have hcs:=count_set listed i hun;have hli:i<listed.size:=by rw[h.inv.lsize];exact(Array.getElem?_eq_some_iff.1 ho).1
   have hun':listed.getD i false=false:=by simpa [hli] using hun
   by_cases his:i=s
   ·subst his;rw[hos] at ho;cases ho
    have hx:=h.pre hun';have hw:=wr a w ((h.inv.at_ hx).kn hok hn hi);have hwant:Region.wanted os (yielded ops a.tmps)=true:=by simp[Region.wanted,hg]
    unfold wpOp;simp only[hos];rw[if_pos hwant];refine .inl (Oper.wp_mono (fun a' w' hh=>?_) hw);obtain⟨v,rfl,hwr,hv,hkeep⟩:=hh;have hI:Inv ops V a0 w' listed a w':=⟨h.inv.lsize,Ext.refl _,h.inv.defers,h.inv.size,h.inv.closed,h.inv.old,fun j x t hx hl hd=>hkeep _ _ (h.inv.new j x t hx hl hd)⟩;refine ih _ _ _ (by omega) ⟨hI.put hok hn hV hi hos (Ext.refl _) hv,fun hl=>?_,fun _=>hwr⟩;simp[hli] at hl
   ·have hset:(listed.setIfInBounds i true).getD s false=listed.getD s false:=getD_set_ne false his;have hst:=step i o ho his a w ((h.inv.at_ (Ext.refl _)).kn hok hn hi) (fun hwt=>by
     refine h.pre ?_;cases hl:listed.getD s false with
     | false=>rfl
     | true =>
       obtain⟨e,he,hb,rfl⟩:=zbD hwt;have:=h.inv.closed s os hos hl e he hb;rw[hun'] at this;cases this)
    unfold wpOp;simp only[ho];unfold Step at hst;split
    ·rename_i hw;rw[if_pos hw] at hst;refine .inl (Oper.wp_mono (fun a' w' hh=>?_) hst);obtain⟨v,rfl,he,hv⟩:=hh;exact ih _ _ _ (by omega) ⟨((h.inv.at_ (Ext.refl _)).put hok hn hV hi ho he hv).at_ (Ext.refl _),fun hl=>(h.pre (by rw[<-hset];exact hl)).trans he,fun hl=>hW _ _ he (h.post (by rw[<-hset];exact hl))⟩
    ·rename_i hw;rw[if_neg hw] at hst;exact ih _ _ _ (by omega) ⟨((h.inv.at_ (Ext.refl _)).put hok hn hV hi ho (Ext.refl _) hst).at_ (Ext.refl _),fun hl=>h.pre (by rw[<-hset];exact hl),fun hl=>h.post (by rw[<-hset];exact hl)⟩
theorem zlz{Q:Exit->Act->World->Prop}{id n:Nat}(s:Nat)(os:Oper)(Wr:World->Prop)(hm:P.follows .mixedOrders=true)(hn:a0.tmps.size=n)(hok:zb1 ops n=true)
  (hos:ops[s]? = some os) (hg:os.guard=none)
  (V:Nat->World->Value->Prop) (hV:∀i w w' v,Ext w w'->V i w v->V i w' v) (hW:∀w w',Ext w w'->Wr w->Wr w')
  (step:∀i o,ops[i]? = some o->i≠s->∀a w,Kn ops V a0 w i a w->(waits os i=true->Ext w0 w)->Step P ops V Q i o a w)
  (wr:∀a w,Kn ops V a0 w0 s a w->os.wp P a w (fun a' w'=>∃v,a'=a.put os.dst v/\Wr w'/\V s w' v/\∀i v,V i w v->V i w' v) Q)
  (fin:∀a w,Fin_ ops V a0 w a w->Wr w->Q .normal a w):(Code.region id ops true).wp P Q a0 w0:=by
 have hss:s<ops.size:=(Array.getElem?_eq_some_iff.1 hos).1;refine wp_region_any hm (zmU (V:=V) (Wr:=Wr) hok hn hos hg hV hW step wr fin ops.size _ _ _ ?_ ⟨⟨by simp,Ext.refl _,rfl,rfl,?_,fun _ _=>rfl,?_⟩,fun _=>Ext.drew w0,?_⟩)
 ·simp
 ·intro j x hx hl;have hj:=(Array.getElem?_eq_some_iff.1 hx).1;simp[hj] at hl
 ·intro j x t hx hl;have hj:=(Array.getElem?_eq_some_iff.1 hx).1;simp[hj] at hl
 ·intro hl;simp[hss] at hl
end
section
variable {P:Program} {l:List Oper} {V:Nat->World->Value->Prop} {a0:Act} {w0:World}
def zcs(ops:Array Oper)(s:Nat):Bool :=
 decide (s<ops.size)&&((List.range s).all fun j=>(List.range (s+1)).any fun k=>decide (j<k)&&(ops[k]?.map fun x=>waits x j).getD false) &&
  (List.range ops.size).all fun i=>decide (i<=s) || (List.range i).any fun k=>decide (s<=k)&&(ops[i]?.map fun x=>waits x k).getD false
def za7(n s:Nat):Array Bool:=(List.replicate s true++List.replicate (n-s) false).toArray
theorem zdQ{s:Nat}(hs:zcs l.toArray s=true){listed:Array Bool}{a:Act}{w:World}(h:Inv l.toArray V a0 w0 listed a w)(hlo:∀j,listed.getD j false=true->j<s){i:Nat}(hi:i ∈ Region.ready .any l.toArray listed):
  i<s\/∀j,j<s->listed.getD j false=true:=by
 unfold zcs at hs;simp only[Bool.and_eq_true,List.all_eq_true,List.mem_range,List.any_eq_true,decide_eq_true_eq,Bool.or_eq_true] at hs;obtain⟨⟨hss,hpre⟩,hpost⟩:=hs;obtain⟨_,o,ho,hdep⟩:=mem_ready.1 hi;have hin:=(Array.getElem?_eq_some_iff.1 ho).1;rcases Nat.lt_or_ge i s with h1|h1
 ·exact .inl h1
 ·right;rcases hpost i hin with h2|⟨k,hk,hsk,hw⟩
  ·obtain rfl:i=s:=by omega
   have key:∀d j,j<i->i-j<=d->listed.getD j false=true:=by
    intro d;induction d with
    | zero=>intro j hj hd;omega
    | succ d ih =>
      intro j hj hd;obtain⟨k,hk,hjk,hw⟩:=hpre j hj;cases hx:l.toArray[k]? with
      | none=>rw[hx] at hw;simp at hw
      | some x =>
        rw[hx] at hw;simp only[Option.map_some,Option.getD_some] at hw;obtain⟨e,he,hb,heo⟩:=zbD hw;by_cases hks:k=i
        ·subst hks;rw[ho] at hx;cases hx
         rw[<-heo];exact hdep e he hb
        ·have:=ih k (by omega) (by omega);rw[<-heo];exact h.closed k x hx this e he hb
   intro j hj;exact key i j hj (by omega)
  ·rw[ho] at hw;simp only[Option.map_some,Option.getD_some] at hw;obtain⟨e,he,hb,heo⟩:=zbD hw;have:=hlo _ (hdep e he hb);omega
theorem zew{s n:Nat}{listed:Array Bool}(hn:listed.size=n)(hsn:s<=n)(hall:∀j,j<s->listed.getD j false=true)(hlo:∀j,listed.getD j false=true->j<s):listed=za7 n s:=by
 apply Array.ext
 ·simp[za7];omega
 ·intro i h1 h2;have hg:listed.getD i false=listed[i]:=by simp[h1]
  rcases Nat.lt_or_ge i s with h|h
  ·have:=hall i h;rw[hg] at this;rw[this];simp[za7,h]
  ·have:listed[i]=false:=by
    cases hb:listed[i] with
    | false=>rfl
    | true=>have:=hlo i (by rw[hg,hb]);omega
   rw[this];simp[za7,List.getElem_append,Nat.not_lt.2 h]
theorem zhn{Q:Exit->Act->World->Prop}{n s:Nat}(hok:zb1 l.toArray n=true)(hn:a0.tmps.size=n)(hs:zcs l.toArray s=true)(hseq:Region.seqB .any l.toArray (l.length-s) s (za7 l.length s)=true)
  (hV:∀i w w' v,Ext w w'->V i w v->V i w' v)
  (step:∀i o,(l.take s).toArray[i]? = some o->∀a w,Kn l.toArray V a0 w0 i a w->Step P l.toArray V Q i o a w)
  (last:∀a w,Fin_ (l.take s).toArray V a0 w0 a w->wpList P l.toArray Q (l.drop s) a w):
  ∀(fuel:Nat) (listed:Array Bool) (a:Act) (w:World),listed.toList.count false=fuel->(∀j,listed.getD j false=true->j<s)->Inv l.toArray V a0 w0 listed a w->wpAny P .any l.toArray Q fuel listed a w:=by
 have hsn:s<l.length:=by unfold zcs at hs;simp only[Bool.and_eq_true,decide_eq_true_eq,List.size_toArray] at hs;exact hs.1.1
 have hlast:∀(listed:Array Bool) (a:Act) (w:World),(∀j,listed.getD j false=true->j<s)->Inv l.toArray V a0 w0 listed a w->(∀j,j<s->listed.getD j false=true)->wpAny P .any l.toArray Q (listed.toList.count false) listed a w:=by
  intro listed a w hlo h hall;have hsz:listed.size=l.length:=by rw[h.lsize,List.size_toArray]
  have e:=zew hsz (by omega) hall hlo;have hc:listed.toList.count false=(l.drop s).length:=by rw[e];simp[za7,List.count_append,List.count_replicate]
  rw[hc];refine wpAny_of_seq (l.drop s) s listed a w (fun j=>by simp) (by rw[List.length_drop,e];exact hseq) (last a w ⟨h.ext,h.defers,h.size,fun t ht=>h.old t fun j x hx hd=>?_,fun j x t hx hd=>?_⟩)
  ·cases hl:listed.getD j false with
   | false=>rfl
   | true =>
     have hj:=hlo j hl;exact absurd hd (ht j x (by
      have:l[j]? = some x:=by simpa using hx
      simp[hj,this]))
  ·have hx2:(l.take s)[j]? = some x:=by simpa using hx
   have hj:j<s:=by
    rcases Nat.lt_or_ge j s with h1|h1
    ·exact h1
    ·rw[List.getElem?_eq_none (by simp;omega)] at hx2;cases hx2
   rw[List.getElem?_take,if_pos hj] at hx2;exact h.new j x t (by simpa using hx2) (hall j hj) hd
 intro fuel;induction fuel with
 | zero =>
   intro listed a w hc hlo h;by_cases hall:∀j,j<s->listed.getD j false=true
   ·rw[<-hc];exact hlast listed a w hlo h hall
   ·exfalso;refine hall fun j hj=>?_
    have hjs:j<listed.size:=by rw[h.lsize,List.size_toArray];omega
    cases hl:listed.getD j false with
    | true=>rfl
    | false =>
      have hm:false ∈ listed.toList:=by
       have:listed[j]=false:=by simpa [hjs] using hl
       rw[<-this];simp
      have:=List.count_pos_iff.2 hm;omega
 | succ fuel ih =>
   intro listed a w hc hlo h;by_cases hall:∀j,j<s->listed.getD j false=true
   ·rw[<-hc];exact hlast listed a w hlo h hall
   ·refine⟨fun hr=>absurd (fun j hj=>zbS hok h.lsize hr j (by rw[List.size_toArray];omega)) hall,fun i hi=>?_⟩;have his:i<s:=(zdQ hs h hlo hi).resolve_right hall;obtain⟨hun,o,ho,_⟩:=mem_ready.1 hi;have hcs:=count_set listed i hun;have ho2:(l.take s).toArray[i]? = some o:=by
     have:l[i]? = some o:=by simpa using ho
     simp[his,this]
    have hst:=step i o ho2 a w (h.kn hok hn hi);have hlo2:∀j,(listed.setIfInBounds i true).getD j false=true->j<s:=fun j hl=>by
     by_cases hj:j=i
     ·omega
     ·rw[getD_set_ne false (Ne.symm hj)] at hl;exact hlo j hl
    unfold wpOp;simp only[ho];unfold Step at hst;split
    ·rename_i hw;rw[if_pos hw] at hst;refine .inl (Oper.wp_mono (fun a' w' hh=>?_) hst);obtain⟨v,rfl,he,hv⟩:=hh;exact ih _ _ _ (by omega) hlo2 (h.put hok hn hV hi ho he hv)
    ·rename_i hw;rw[if_neg hw] at hst;exact ih _ _ _ (by omega) hlo2 (h.put hok hn hV hi ho (Ext.refl _) hst)
theorem zjV{Q:Exit->Act->World->Prop}{id n:Nat}(s:Nat)(hm:P.follows .mixedOrders=true)(hn:a0.tmps.size=n)(hok:zb1 l.toArray n=true)
  (hs:zcs l.toArray s=true) (hseq:Region.seqB .any l.toArray (l.length-s) s (za7 l.length s)=true)
  (V:Nat->World->Value->Prop) (hV:∀i w w' v,Ext w w'->V i w v->V i w' v)
  (step:∀i o,(l.take s).toArray[i]? = some o->∀a w,Kn l.toArray V a0 w0 i a w->Step P l.toArray V Q i o a w)
  (last:∀a w,Fin_ (l.take s).toArray V a0 w0 a w->wpList P l.toArray Q (l.drop s) a w):(Code.region id l.toArray true).wp P Q a0 w0:=by
 refine wp_region_any hm (zhn (V:=V) hok hn hs hseq hV step last l.toArray.size _ _ _ ?_ ?_ ?_)
 ·simp
 ·intro j hl;rw[getD_replicate_false] at hl;cases hl
 ·refine⟨by simp,Ext.drew w0,rfl,rfl,?_,fun _ _=>rfl,?_⟩
  ·intro j x _ hl;rw[getD_replicate_false] at hl;cases hl
  ·intro j x t _ hl;rw[getD_replicate_false] at hl;cases hl
end
def Blk(w:World)(g:Nat)(e:TypeId)(L:List Int):Prop:=w.heap[g]? = some (.cells (cN .i64 L).toArray e (0,0))
section
variable {w w':World} {g:Nat} {e:TypeId} {L:List Int}
theorem Blk.lt(h:Blk w g e L):g<w.heap.size:=(Array.getElem?_eq_some_iff.1 h).1
theorem Blk.later(h:Blk w g e L)(hx:Ext w w'):Blk w' g e L:=(hx.block g h.lt).trans h
theorem Blk.cell(h:Blk w g e L)(k:Nat)(hk:k<L.length):w.cell? ⟨g,k,none⟩=some (.int .i64 (L.getD k 0)):=by
 rw[cell_of_row w g k _ _ _ h];simpa using zd1 .i64 L k hk
theorem Blk.frozen(h:Blk w g e L)(k:Nat):w.frozen? ⟨g,k,none⟩=false:=frozen_of_row w g k _ e h
theorem Blk.set_(h:Blk w g e L)(k:Nat)(x:Int):Blk (w.setCell ⟨g,k,none⟩ (.int .i64 x)) g e (L.set k x):=by
 have:=heap_setCell_same w g k _ e (.int .i64 x) h;unfold Blk;rw[this];simp[cN,List.map_set]
theorem Blk.setne(h:Blk w g e L)(p:Addr)(v:Value)(hne:g≠p.block):Blk (w.setCell p v) g e L:=(heap_setCell_other w p g v hne).trans h
theorem Blk.put(h:Blk w g e L)(M:List Int):Blk (w.setRow g (cN .i64 M).toArray) g e M:=setRow_heap w g _ _ e (0,0) h
theorem Blk.putne(h:Blk w g e L)(k:Nat)(cs:Array Value)(hne:g≠k):Blk (w.setRow k cs) g e L:=(setRow_other w k g cs hne).trans h
theorem Blk.alloc(w:World)(e:TypeId)(L:List Int):Blk (w.alloc (.cells (cN .i64 L).toArray e)) w.heap.size e L:=heap_alloc_new w _
theorem zgY(L:List Int):(cN .i64 L).toArray.all (·.oneCell')=true:=by
 rw[Array.all_eq_true_iff_forall_mem];intro v hv;exact zhr .i64 L v (by simpa using hv)
theorem zd5(L:List Int):(cN .i64 L).toArray.size=L.length:=by simp[cN]
theorem Below.setRow_{B g:Nat}{a w:World}(h:Below B a w)(hg:B<=g)(cs:Array Value):Below B a (w.setRow g cs) :=
 ⟨h.os,h.tape,h.output,by rw[setRow_size];exact h.size,fun i hi=>(setRow_other w g i cs (by omega)).trans (h.block i hi)⟩
theorem zdY{base n:Nat}(h:OwnN .i64 e w base (.slice (some ⟨g,0,none⟩) n n) L):Blk w g e L:=by
 have hl:=h.len_eq;rcases h.2 with⟨h1,_⟩|⟨g',cap,cur,h1,_,hh,hnc,_,hcs,htake⟩
 ·cases h1
 ·simp only[Value.slice.injEq,Option.some.injEq,Addr.mk.injEq,and_true] at h1;obtain⟨rfl,h2,rfl⟩:=h1;unfold Blk;rw[hh];have e1:cur.toList.take (L.length*1)=cur.toList:=List.take_of_length_le (by simp;omega);have e2:cur.toList=cN .i64 L:=by rw[<-e1];exact htake
  congr 2;apply Array.ext';rw[e2]
theorem Blk.rd(h:Blk w g e L)(o n:Nat)(hn:o+n<=L.length):RdN .i64 w w.heap.size (some ⟨g,o,none⟩) n ((L.drop o).take n):=by
 refine⟨by simp;omega,fun _=>⟨g,o,rfl,h.lt,fun j hj=>?_⟩⟩;rw[h.cell (o+j) (by omega)];congr 2;simp[List.getD,hj]
def spl(L:List Int)(off:Nat)(ys:List Int):List Int:=L.take off++(ys++L.drop (off+ys.length))
theorem zg6{L ys:List Int}{off:Nat}(h:off+ys.length<=L.length):(spl L off ys).length=L.length:=by
 simp[spl];omega
theorem znD{L ys:List Int}{off:Nat}(h:off+ys.length<=L.length)(j:Nat):(spl L off ys).getD j 0=if j<off then L.getD j 0 else if j<off+ys.length then ys.getD (j-off) 0 else L.getD j 0:=by
 unfold spl;simp only[List.getD];by_cases h1:j<off
 ·rw[if_pos h1,List.getElem?_append_left (by simp;omega)];simp[h1]
 ·rw[if_neg h1,List.getElem?_append_right (by simp;omega)];rw[List.length_take,Nat.min_eq_left (by omega)];by_cases h2:j<off+ys.length
  ·rw[if_pos h2,List.getElem?_append_left (by omega)]
  ·rw[if_neg h2,List.getElem?_append_right (by omega),List.getElem?_drop];congr 2;omega
theorem znO{L M:List Int}{n:Nat}(h1:L.length=n)(h2:M.length=n)(h:∀j,j<n->L.getD j 0=M.getD j 0):L=M:=by
 apply List.ext_getElem (by omega);intro i a b;have:=h i (by omega);simpa [List.getD,a,b] using this
theorem Blk.grown{k:Nat}(h:Blk w g e L)(hg:w.grownBy w' (some k))(hne:g≠k):Blk w' g e L:=(hg.block g h.lt (by simp[hne])).trans h
theorem Ext.below{a b c:World}(h:Ext a b)(hg:b.grownBy c (some g))(hk:a.heap.size<=g):Ext a c:=Below.grown h hg (Below.size h) (fun k e=>by cases e;exact hk)
end
def K.okG(g:Nat):K->Bool
 | .eq _=>true
 | .num g2 _ _=>g2==g
 | .any=>true
 | _=>false
theorem zo7{ks:List K}{g:Nat}(h:ks.all (K.okG g)=true){w w':World}(hg:w.grownBy w' (some g))(i:Nat)(v:Value)(hv:kV ks i w v):kV ks i w' v:=by
 unfold kV at hv ⊢;have hk:(ks.getD i .any).okG g=true:=by
  rcases Nat.lt_or_ge i ks.length with hi|hi
  ·rw[List.all_eq_true] at h;refine h _ ?_;simp[List.getD,List.getElem?_eq_getElem hi]
  ·simp[List.getD,List.getElem?_eq_none hi,K.okG]
 generalize ks.getD i .any=k at hv hk;cases k with
 | eq x=>exact hv
 | num g2 n cs =>
   obtain⟨b,rfl,hne,hc⟩:=hv;have e:g2=g:=by simpa [K.okG] using hk
   subst e;exact⟨b,rfl,hne,(hg.block b (Array.getElem?_eq_some_iff.1 hc).1 (by simp[hne])).trans hc⟩
 | any=>trivial
 | _=>simp[K.okG] at hk
theorem mixed:Tryz.prog.follows .mixedOrders=true:=by kernel_rfl
theorem zaD{l:List Oper}{a0:Act}{w0:World}{Q:Exit->Act->World->Prop}{id n:Nat}(s:Nat)(ks:List K)
  (step:∀i o,(l.take s).toArray[i]? = some o->∀a w,Kn l.toArray (kV ks) a0 w0 i a w->Step Tryz.prog l.toArray (kV ks) Q i o a w)
  (last:∀a w,Fin_ (l.take s).toArray (kV ks) a0 w0 a w->wpList Tryz.prog l.toArray Q (l.drop s) a w)
  (hn:a0.tmps.size=n:=by rfl) (hok:zb1 l.toArray n=true:=by kernel_rfl) (hs:zcs l.toArray s=true:=by kernel_rfl)
  (hseq:Region.seqB .any l.toArray (l.length-s) s (za7 l.length s)=true:=by kernel_rfl):(Code.region id l.toArray true).wp Tryz.prog Q a0 w0 :=
 zjV s mixed hn hok hs hseq _ (zdA _) step last
theorem zdj{ops:Array Oper}{a0:Act}{w0:World}{Q:Exit->Act->World->Prop}{id n:Nat}(ks:List K)
  (step:∀i o,ops[i]? = some o->∀a w,Kn ops (kV ks) a0 w0 i a w->Step Tryz.prog ops (kV ks) Q i o a w)
  (fin:∀a w,Fin_ ops (kV ks) a0 w0 a w->Q .normal a w)
  (hn:a0.tmps.size=n:=by rfl) (hok:zb1 ops n=true:=by kernel_rfl):(Code.region id ops true).wp Tryz.prog Q a0 w0 :=
 zlC mixed hn hok _ (zdA _) step fin
theorem zb4{ops:Array Oper}{a0:Act}{w0:World}{Q:Exit->Act->World->Prop}{id n:Nat}(s:Nat){os:Oper}(ks:List K)
  (step:∀i o,ops[i]? = some o->i≠s->∀a w,Kn ops (kV ks) a0 w0 i a w->Step Tryz.prog ops (kV ks) Q i o a w)
  (last:∀a w,Fin_ ops (kV ks) a0 w0 a w->os.wp Tryz.prog a w (fun a' w'=>Q .normal a' w') Q)
  (hos:ops[s]? = some os:=by rfl) (hd:os.dst=none:=by rfl) (hg:os.guard=none:=by rfl)
  (hn:a0.tmps.size=n:=by rfl) (hok:zb1 ops n=true:=by kernel_rfl) (hs:zen ops s=true:=by kernel_rfl):(Code.region id ops true).wp Tryz.prog Q a0 w0 :=
 zjm s os mixed hn hok hs hos hd hg _ (zdA _) step last
theorem and_split(a b c d k:Nat)(hb:b<2^k)(hd:d<2^k):(2^k*a+b)&&&(2^k*c+d)=2^k*(a&&&c)+(b&&&d):=by
 have h3:b&&&d<2^k:=Nat.lt_of_le_of_lt Nat.and_le_left hb;apply Nat.eq_of_testBit_eq;intro i;rw[Nat.testBit_and,Nat.testBit_two_pow_mul_add a hb,Nat.testBit_two_pow_mul_add c hd,Nat.testBit_two_pow_mul_add _ h3];split<;>simp
theorem zpz(a b c d k:Nat)(hb:b<2^k)(hd:d<2^k):(2^k*a+b)|||(2^k*c+d)=2^k*(a|||c)+(b|||d):=by
 have h3:b|||d<2^k:=Nat.or_lt_two_pow hb hd
 apply Nat.eq_of_testBit_eq;intro i;rw[Nat.testBit_or,Nat.testBit_two_pow_mul_add a hb,Nat.testBit_two_pow_mul_add c hd,Nat.testBit_two_pow_mul_add _ h3];split<;>simp
theorem zkP(x:Nat):x&&&16711935=x%256+x/65536%256*65536:=by
 have e1:x=2^16*(x/65536)+x%65536:=by omega
 have e2:(16711935:Nat)=2^16*255+255:=rfl;rw[e1,e2,and_split _ _ _ _ _ (by omega) (by omega),nat_mask8,nat_mask8];omega
def rev32(a:Int):Int :=
 bits .or .u32
  (bits .or .u32 (bits .and .u32 (a/256) 16711935) (bits .and .u32 a 16711935*256%4294967296)/65536)
  (bits .or .u32 (bits .and .u32 (a/256) 16711935) (bits .and .u32 a 16711935*256%4294967296)*65536%4294967296)
theorem zpD(p q:Nat)(hp:p%256+p/65536%256*65536=p)(hq:q%256+q/65536%256*65536=q):(p|||q*256)=p+q*256:=by
 have e1:2^16*(p/65536)+p%65536=p:=by omega
 have e2:2^16*(q/65536*256)+(q%65536*256)=q*256:=by omega
 have j1:(p/65536|||q/65536*256)=p/65536+q/65536*256:=by rw[Nat.or_comm,nat_join 8 _ _ (by omega) (by omega)];omega
 have j2:(p%65536|||q%65536*256)=p%65536+q%65536*256:=by rw[Nat.or_comm,nat_join 8 _ _ (by omega) (by omega)];omega
 have key:=zpz (p/65536) (p%65536) (q/65536*256) (q%65536*256) 16 (by omega) (by omega);rw[e1,e2,j1,j2] at key;rw[key];omega
theorem zfJ(b0 b1 b2 b3:Nat)(h0:b0<256)(h1:b1<256)(h2:b2<256)(h3:b3<256):
  rev32 ((b3*16777216+b2*65536+b1*256+b0:Nat):Int)=((b0*16777216+b1*65536+b2*256+b3:Nat):Int):=by
 obtain⟨x,hx⟩:∃x,x=b3*16777216+b2*65536+b1*256+b0:=⟨_,rfl⟩;rw[<-hx];unfold rev32;have a1:bits .and .u32 ((x:Int)/256) 16711935=((b1+b3*65536:Nat):Int):=by rw[show(16711935:Int)=((16711935:Nat):Int) from rfl,show(x:Int)/256=((x/256:Nat):Int) by omega,u32_and_nat _ _ (by omega) (by omega),zkP];omega
 have a2:bits .and .u32 (x:Int) 16711935=((b0+b2*65536:Nat):Int):=by rw[show(16711935:Int)=((16711935:Nat):Int) from rfl,u32_and_nat _ _ (by omega) (by omega),zkP];omega
 have a3:bits .or .u32 ((b1+b3*65536:Nat):Int) (((b0+b2*65536:Nat):Int)*256%4294967296)=((b1+b3*65536+(b0+b2*65536)*256:Nat):Int):=by rw[show(((b0+b2*65536:Nat):Int)*256%4294967296)=(((b0+b2*65536)*256:Nat):Int) by omega,u32_or_nat _ _ (by omega) (by omega),zpD _ _ (by omega) (by omega)]
 rw[a1,a2,a3];obtain⟨m,hm⟩:∃m,m=b1+b3*65536+(b0+b2*65536)*256:=⟨_,rfl⟩;rw[<-hm];rw[show(m:Int)/65536=((m/65536:Nat):Int) by omega,show(m:Int)*65536%4294967296=((m*65536%4294967296:Nat):Int) by omega,u32_or_nat _ _ (by omega) (by omega),Nat.or_comm,nat_join 16 _ _ (by omega) (by omega)];omega
theorem zhO(a:Int)(h0:0<=a)(h1:a<4294967296):rev32 a=a%256*16777216+a/256%256*65536+a/65536%256*256+a/16777216:=by
 obtain⟨x,rfl⟩:=Int.eq_ofNat_of_zero_le h0;have:=zfJ (x%256) (x/256%256) (x/65536%256) (x/16777216) (by omega) (by omega) (by omega) (by omega);rw[show x/16777216*16777216+x/65536%256*65536+x/256%256*256+x%256=x by omega] at this;rw[this];omega
def zff(v x:Int):Int:=bits .or .u64 (IntKind.u64.wrap (v*256)) x
theorem zaX(v x:Int)(h0:0<=v)(h1:v<72057594037927936)(h2:0<=x)(h3:x<=255):zff v x=v*256+x:=by
 obtain⟨a,rfl⟩:=Int.eq_ofNat_of_zero_le h0;obtain⟨b,rfl⟩:=Int.eq_ofNat_of_zero_le h2;unfold zff;rw[IntKind.wrap_u64,show(a:Int)*256%18446744073709551616=((a*256:Nat):Int) by omega,u64_or_nat _ _ (by omega) (by omega),nat_join 8 _ _ (by omega) (by omega)];omega
def be(bs:List UInt8):Nat->Int
 | 0=>0
 | k+1=>zff (be bs k) (zah bs k)
def le(bs:List UInt8)(n:Nat):Nat->Int
 | 0=>0
 | k+1=>zff (le bs n k) (zah bs (n-1-k))
theorem be4(bs:List UInt8):be bs 4=zah bs 0*16777216+zah bs 1*65536+zah bs 2*256+zah bs 3:=by
 have h0:=zae bs 0;have h1:=zae bs 1;have h2:=zae bs 2;have h3:=zae bs 3;have k0:=zaf bs 0;have k1:=zaf bs 1;have k2:=zaf bs 2;have k3:=zaf bs 3;simp only[be];rw[zaX 0 _ (by omega) (by omega) h0 k0,zaX _ _ (by omega) (by omega) h1 k1,zaX _ _ (by omega) (by omega) h2 k2,zaX _ _ (by omega) (by omega) h3 k3];omega
theorem le4(bs:List UInt8):le bs 4 4=zah bs 3*16777216+zah bs 2*65536+zah bs 1*256+zah bs 0:=by
 have h0:=zae bs 0;have h1:=zae bs 1;have h2:=zae bs 2;have h3:=zae bs 3;have k0:=zaf bs 0;have k1:=zaf bs 1;have k2:=zaf bs 2;have k3:=zaf bs 3;have e:le bs 4 4=zff (zff (zff (zff 0 (zah bs 3)) (zah bs 2)) (zah bs 1)) (zah bs 0):=rfl;rw[e,zaX 0 _ (by omega) (by omega) h3 k3,zaX _ (zah bs 2) (by omega) (by omega) h2 k2,zaX _ (zah bs 1) (by omega) (by omega) h1 k1,zaX _ (zah bs 0) (by omega) (by omega) h0 k0];omega
theorem zrM(bs:List UInt8):rev32 (be bs 4)=le bs 4 4:=by
 have h0:=zae bs 0;have h1:=zae bs 1;have h2:=zae bs 2;have h3:=zae bs 3;have k0:=zaf bs 0;have k1:=zaf bs 1;have k2:=zaf bs 2;have k3:=zaf bs 3;rw[be4,le4,zhO _ (by omega) (by omega)];omega
theorem be8(bs:List UInt8):be bs 8=zah bs 0*72057594037927936+zah bs 1*281474976710656+zah bs 2*1099511627776+zah bs 3*4294967296+zah bs 4*16777216+zah bs 5*65536+zah bs 6*256+zah bs 7:=by
 have h0:=zae bs 0;have h1:=zae bs 1;have h2:=zae bs 2;have h3:=zae bs 3;have k0:=zaf bs 0;have k1:=zaf bs 1;have k2:=zaf bs 2;have k3:=zaf bs 3;have h4:=zae bs 4;have h5:=zae bs 5;have h6:=zae bs 6;have h7:=zae bs 7;have k4:=zaf bs 4;have k5:=zaf bs 5;have k6:=zaf bs 6;have k7:=zaf bs 7;simp only[be];rw[zaX 0 _ (by omega) (by omega) h0 k0,zaX _ _ (by omega) (by omega) h1 k1,zaX _ _ (by omega) (by omega) h2 k2,zaX _ _ (by omega) (by omega) h3 k3,
  zaX _ _ (by omega) (by omega) h4 k4,zaX _ _ (by omega) (by omega) h5 k5,zaX _ _ (by omega) (by omega) h6 k6,zaX _ _ (by omega) (by omega) h7 k7]
 omega
def zct(v:Int):List UInt8:=[u8 (v/16777216),u8 (v/65536),u8 (v/256),u8 v]
def zco(v:Int):List UInt8:=[u8 v,u8 (v/256),u8 (v/65536),u8 (v/16777216)]
def za6(v:Int)(n i:Nat):UInt8:=u8 (v/2^(8*(n-1-i)))
def zay(v:Int)(n:Nat):List UInt8:=(List.range n).map (za6 v n)
theorem zcQ{a b:Int}(h:a%256=b%256):u8 a=u8 b:=by unfold u8;rw[h]
theorem zje(v:Int):zay v 4=zct v:=by
 simp[zay,List.range,List.range.loop,za6,zct]
theorem zr7(v:Int):zay v 8=zct (v/4294967296)++zct (v%4294967296):=by
 simp[zay,List.range,List.range.loop,za6,zct];refine⟨?_,?_,?_,?_,?_,?_,?_⟩<;>apply zcQ<;>omega
theorem zoN(v:Int)(h0:0<=v)(h1:v<4294967296):∃b0 b1 b2 b3:Int,0<=b0/\b0<256/\0<=b1/\b1<256/\0<=b2/\b2<256/\0<=b3/\b3<256/\v=b3*16777216+b2*65536+b1*256+b0 :=
 ⟨v%256,v/256%256,v/65536%256,v/16777216,by omega,by omega,by omega,by omega,by omega,by omega,by omega,by omega,by omega⟩
theorem zgz(b0 b1 b2 b3:Int)(k0:0<=b0)(l0:b0<256)(k1:0<=b1)(l1:b1<256)(k2:0<=b2)(l2:b2<256):
  zct (b3*16777216+b2*65536+b1*256+b0) = [u8 b3,u8 b2,u8 b1,u8 b0]/\zco (b3*16777216+b2*65536+b1*256+b0) = [u8 b0,u8 b1,u8 b2,u8 b3]:=by
 have e1:(b3*16777216+b2*65536+b1*256+b0)/256=b3*65536+b2*256+b1:=by omega
 have e2:(b3*16777216+b2*65536+b1*256+b0)/65536=b3*256+b2:=by omega
 have e3:(b3*16777216+b2*65536+b1*256+b0)/16777216=b3:=by omega
 have f1:u8 (b3*65536+b2*256+b1)=u8 b1:=zcQ (by omega);have f2:u8 (b3*256+b2)=u8 b2:=zcQ (by omega);have f0:u8 (b3*16777216+b2*65536+b1*256+b0)=u8 b0:=zcQ (by omega);unfold zct zco;rw[e1,e2,e3,f0,f1,f2];exact⟨rfl,rfl⟩
theorem zlp(b0 b1 b2 b3:Int)(k0:0<=b0)(l0:b0<256)(k1:0<=b1)(l1:b1<256)(k2:0<=b2)(l2:b2<256)(k3:0<=b3)(l3:b3<256):
  rev32 (b3*16777216+b2*65536+b1*256+b0)=b0*16777216+b1*65536+b2*256+b3:=by
 obtain⟨c0,rfl⟩:=Int.eq_ofNat_of_zero_le k0;obtain⟨c1,rfl⟩:=Int.eq_ofNat_of_zero_le k1;obtain⟨c2,rfl⟩:=Int.eq_ofNat_of_zero_le k2;obtain⟨c3,rfl⟩:=Int.eq_ofNat_of_zero_le k3;have:=zfJ c0 c1 c2 c3 (by omega) (by omega) (by omega) (by omega);rw[show(c3:Int)*16777216+c2*65536+c1*256+c0=((c3*16777216+c2*65536+c1*256+c0:Nat):Int) by omega,this];omega
theorem znW(v:Int)(h0:0<=v)(h1:v<4294967296):zct (rev32 v)=zco v:=by
 obtain⟨b0,b1,b2,b3,k0,l0,k1,l1,k2,l2,k3,l3,hv⟩:=zoN v h0 h1;rw[hv,zlp b0 b1 b2 b3 k0 l0 k1 l1 k2 l2 k3 l3,(zgz b0 b1 b2 b3 k0 l0 k1 l1 k2 l2).2,(zgz b3 b2 b1 b0 k3 l3 k2 l2 k1 l1).1]
theorem Own.rdcb{w:World}{base n:Nat}{v:Value}{bs:List UInt8}(h:Own w base v bs)(hn:bs.length=n):∃A c,v=.slice A n c/\(n<=c/\c<=9223372036854775807)/\Rd w w.heap.size A n bs/\Own w base (.slice A n c) bs:=by
 obtain⟨A,c,rfl,hc,hr,ho⟩:=h.rdc hn;refine⟨A,c,rfl,⟨hc,?_⟩,hr,ho⟩;rcases h.2 with⟨h1,h2⟩|⟨g,cap,cur,h1,_,_,hnc,hcm,_⟩
 ·simp only[Value.slice.injEq] at h1;omega
 ·simp only[Value.slice.injEq] at h1;have:maxLen<=9223372036854775807:=by unfold maxLen;omega
  omega
def Fr(B:Nat)(A:Option Addr):Prop:=∀a,A=some a->B<=a.block
theorem Fr.mono{B B':Nat}{A:Option Addr}(h:Fr B A)(hb:B'<=B):Fr B' A:=fun a e=>Nat.le_trans hb (h a e)
theorem Own.rdf{w:World}{base n:Nat}{v:Value}{bs:List UInt8}(h:Own w base v bs)(hn:bs.length=n):∃A c,v=.slice A n c/\(n<=c/\c<=9223372036854775807)/\Rd w w.heap.size A n bs/\Fr base A:=by
 obtain⟨A,c,rfl,hc,hr,ho⟩:=h.rdcb hn;obtain⟨A2,c2,e,_,_,hf⟩:=ho.rd;cases e
 exact⟨_,_,rfl,hc,hr,hf⟩
end Go.Proofs.YtokbbmngfogbbaaGreatDoor
