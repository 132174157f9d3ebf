/- Own lemmas of the verifier on memory, numbers and the functions that the laws call; no statement is proved here. -/
import Derived.Test.YtokbbmngfogbbaaGreatDoorQH
import Derived.Test.YtokbbmngfogbbaaGreatDoorProg
import Derived.Deep.QuietTactic
import Derived.BigQuiet
import Derived.StillTailTactics
import Derived.Deep.RegionWith
import Derived.Deep.RegionLaw
import Derived.Lib.AppendZeros
import Derived.Deep.DeepCutAuto
import Derived.Deep.CutBlock
import Derived.Maps.AppendAt
namespace Go.Proofs.YtokbbmngfogbbaaGreatDoor.D
open Go.RowKit
set_option maxRecDepth 100000
set_option maxHeartbeats 8000000
theorem zdg(x s:Nat):(x:Int)/2^s=((x/2^s:Nat):Int):=by
 rw[Int.natCast_ediv,Int.natCast_pow];rfl
theorem zse(x s:Nat)(h:x<256):wrap64 (bits .and .u8 ((x:Int)/2^s) 1)=((x/2^s%2:Nat):Int):=by
 have h1:x/2^s<256:=Nat.lt_of_le_of_lt (Nat.div_le_self _ _) h;rw[zdg,show(1:Int)=((1:Nat):Int) from rfl,u8_and_nat _ _ h1 (by omega),nat_mask1];unfold wrap64;omega
theorem zpL(x s:Nat)(h:x<256):bits .and .i64 (wrap64 ((x:Int)/2^s)) 1=((x/2^s%2:Nat):Int):=by
 have h1:x/2^s<256:=Nat.lt_of_le_of_lt (Nat.div_le_self _ _) h;rw[zdg,zmp];unfold wrap64;omega
def hasN(n:Nat)(i:Int):Bool:=decide (1<=i/\(i-1)/8<n)
theorem zhU(A:Option Addr)(n c:Nat)(i:Int)(w:World)(h0 : -9223372036854775808<=i)(h1:i<=9223372036854775807):
  Calls Tryz.prog 161 #[.slice A n c,.int .i64 i] w fun e w'=>e=.returned (.bool (hasN n i))/\w=w':=by
 by_cases hi:1<=i
 ·obtain⟨q,hq⟩:∃q:Nat,i=q+1:=⟨(i-1).toNat,by omega⟩;subst hq;have e1:((q:Int)+1-1)=q:=by omega
  go_enter Tryz.func161,Tryz.ntmps161;go_wp2;go_ret;refine⟨zht ?_,rfl⟩;unfold hasN;rw[e1];have:(1:Int)<=q+1:=hi;simp[this]
 ·have HF:=hid (show hasN n i=false by unfold hasN;simp;omega);go_enter Tryz.func161,Tryz.ntmps161;go_wp2;go_ret;exact⟨zht (by rw[HF.out]),rfl⟩
def bitN(bs:List UInt8)(i:Int):Nat:=if hasN bs.length i then(bs.getD ((i-1)/8).toNat 0).toNat/2^(7-((i-1)%8).toNat)%2 else 0
theorem zcC(bs:List UInt8)(i:Int):bitN bs i<=1:=by
 unfold bitN;split<;>omega
theorem zdC{bs:List UInt8}{q:Nat}(h:q/8<bs.length):bitN bs ((q:Int)+1)=(bs.getD (q/8) 0).toNat/2^(7-q%8)%2:=by
 unfold bitN hasN;rw[if_pos (by simp;omega)];have e1:((q:Int)+1-1)=q:=by omega
 rw[e1];have e2:((q:Int)/8).toNat=q/8:=by omega
 have e3:((q:Int)%8).toNat=q%8:=by omega
 rw[e2,e3]
theorem zhA{bs:List UInt8}{i:Int}(h:hasN bs.length i=false):bitN bs i=0:=by unfold bitN;rw[h];rfl
theorem zqH(A:Option Addr)(n c:Nat)(i:Int)(bs:List UInt8)(w:World)(h:Rd w w.heap.size A n bs)(h0 : -9223372036854775808<=i)(h1:i<=9223372036854775807):
  Calls Tryz.prog 162 #[.slice A n c,.int .i64 i] w fun e w'=>e=.returned (.int .i64 (bitN bs i))/\w=w':=by
 have hl:=h.len;cases hh:hasN n i with
 | false =>
   have HF:=hid (zhA (bs:=bs) (i:=i) (by rw[hl];exact hh));go_enter Tryz.func162,Tryz.ntmps162;go_wp2_with (go_at_call 161;refine(zhU _ _ _ _ _ h0 h1).mono ?_;rintro e w' ⟨rfl,rfl⟩;rw[hh])
   go_ret;exact⟨zak (by rw[HF.out];rfl),rfl⟩
 | true =>
   have hh':=hh;unfold hasN at hh';simp only[decide_eq_true_eq] at hh';obtain⟨q,hq⟩:∃q:Nat,i=q+1:=⟨(i-1).toNat,by omega⟩;subst hq;have e1:((q:Int)+1-1)=q:=by omega
   rw[e1] at hh';have hq8:q/8<n:=by omega
   obtain⟨b,o,rfl,hb,hc⟩:=h.at_ (by omega);have hck:=hc _ hq8;have HF:=hid (zdC (bs:=bs) (q:=q) (by omega));have r1:=zae bs (q/8);have r2:=zaf bs (q/8);have HB:=hid (show zah bs (q/8)=((bs.getD (q/8) 0).toNat:Int) from rfl);obtain⟨X,hX⟩:∃X,zah bs (q/8)=X:=⟨_,rfl⟩;rw[hX] at hck r1 r2 HB;clear h hc hX hh';go_enter Tryz.func162,Tryz.ntmps162;go_wp2_with (go_at_call 161;refine(zhU _ _ _ _ _ h0 h1).mono ?_;rintro e w' ⟨rfl,rfl⟩;rw[hh])
   go_ret;refine⟨zak ?_,rfl⟩;rw[HF.out,HB.out];exact zse _ _ (UInt8.toNat_lt _)
theorem zk3(A:Option Addr)(n c:Nat)(i:Int)(bs:List UInt8)(w:World)(h:Rd w w.heap.size A n bs)(h0 : -9223372036854775808<=i)(h1:i<=9223372036854775807)(hn:n<=140737488355328):
  Calls Tryz.prog 152 #[.slice A n c,.int .i64 i] w fun e w'=>e=.returned (.int .i64 (bitN bs i))/\w=w':=by
 have hl:=h.len;cases hh:hasN n i with
 | false =>
   have HF:=hid (zhA (bs:=bs) (i:=i) (by rw[hl];exact hh));unfold hasN at hh;simp only[decide_eq_false_iff_not] at hh;by_cases hi:i<1
   ·go_enter Tryz.func152,Tryz.ntmps152;go_wp2;go_ret;exact⟨zak (by rw[HF.out];rfl),rfl⟩
   ·have hi2:8*(n:Int)<i:=by omega
    go_enter Tryz.func152,Tryz.ntmps152;go_wp2;go_ret;exact⟨zak (by rw[HF.out];rfl),rfl⟩
 | true =>
   have hh':=hh;unfold hasN at hh';simp only[decide_eq_true_eq] at hh';obtain⟨q,hq⟩:∃q:Nat,i=q+1:=⟨(i-1).toNat,by omega⟩;subst hq;have e1:((q:Int)+1-1)=q:=by omega
   rw[e1] at hh';have hq8:q/8<n:=by omega
   have hq9:¬(8*(n:Int)<q+1):=by omega
   have hq10:¬((q:Int)+1<1):=by omega
   obtain⟨b,o,rfl,hb,hc⟩:=h.at_ (by omega);have hck:=hc _ hq8;have HF:=hid (zdC (bs:=bs) (q:=q) (by omega));have r1:=zae bs (q/8);have r2:=zaf bs (q/8);have HB:=hid (show zah bs (q/8)=((bs.getD (q/8) 0).toNat:Int) from rfl);obtain⟨X,hX⟩:∃X,zah bs (q/8)=X:=⟨_,rfl⟩;rw[hX] at hck r1 r2 HB;clear h hc hX hh';go_enter Tryz.func152,Tryz.ntmps152;go_wp2;go_ret;refine⟨zak ?_,rfl⟩;rw[HF.out,HB.out];exact zpL _ _ (UInt8.toNat_lt _)
theorem Tryz.info3:(Tryz.prog.info? 3).map (fun i=>(i.zero,i.size,i.bytes))=some (some (.int .i64 0),1,8):=by kernel_rfl
def invS(n k:Nat)(x:Int):Option (List Int)->Option (List Int)
 | none=>none
 | some out=>if x<1\/(n:Int)<x\/out.getD (x-1).toNat 0≠0 then none else some (out.set (x-1).toNat ((k:Int)+1))
def invG(xs:List Int)(n:Nat):Nat->Option (List Int)
 | 0=>some (List.replicate n 0)
 | k+1=>invS n k (xs.getD k 0) (invG xs n k)
theorem zgv(xs:List Int)(n k:Nat)(h:invG xs n k=none)(j:Nat):invG xs n (k+j)=none:=by
 induction j with
 | zero=>exact h
 | succ j ih=>rw[<-Nat.add_assoc,invG,ih];rfl
theorem zfw(xs:List Int)(n:Nat):∀(k:Nat) (out:List Int),invG xs n k=some out->out.length=n
 | 0,out,h=>by simp only[invG,Option.some.injEq] at h;rw[<-h];simp
 | k+1,out,h=>by
   rw[invG] at h;cases hg:invG xs n k with
   | none=>rw[hg] at h;cases h
   | some o =>
     rw[hg] at h;simp only[invS] at h;split at h
     ·cases h
     ·cases h;rw[List.length_set];exact zfw xs n k o hg
def zsL(w:World)(r:Option (List Int))(e:Ending)(w':World):Prop :=
 match r with
 | none=>e=.returned (.tuple #[.slice none 0 0,.bool false])/\Below w.heap.size w w'
 | some out=>∃v,e=.returned (.tuple #[v,.bool true])/\OwnN .i64 3 w' w.heap.size v out/\Below w.heap.size w w'
theorem zh3(A:Option Addr)(n c:Nat)(xs:List Int)(w:World)(h:RdN .i64 w w.heap.size A n xs)(hn:n<=1000000)
  (hx:∀j,j<n->(Lit.int .i64 (xs.getD j 0)).wf=true):
  Calls Tryz.prog 218 #[.slice A n c] w (zsL w (invG xs n n)):=by
 go_enter Tryz.func218,Tryz.ntmps218;go_wp2_with (at_make;refine zc3 rfl (.tmp 8) (.tmp 8) 38 rfl Tryz.underlying38 8 Tryz.info3 .i64 n n rfl rfl rfl (by omega) (by unfold maxLen;omega) w.heap.size (Nat.le_refl _) ?_;intro w1 hown1 hb1)
 go_loopw [12] (fun i wr=>∃(k:Nat) (out:List Int),k<=n/\i=.int .i64 k/\invG xs n k=some out/\OwnN .i64 3 wr w.heap.size (.slice (some ⟨w.heap.size,0,none⟩) n n) out/\Below w.heap.size w wr) (fun i _=>n-(intOf i).toNat)
 case atStart=>exact⟨0,_,Nat.zero_le _,rfl,rfl,hown1,hb1⟩
 case round =>
  obtain⟨k,out,hk,rfl,hg,hown,hb⟩:=hrel;have hol:=zfw xs n k out hg;by_cases hlt:k<n
  ·obtain⟨b1,o1,rfl,hb1',hc1⟩:=(h.below hb (Nat.le_refl _)).at_ (by omega);have hck1:=hc1 k hlt;have hwf:=hx k hlt;have hG:invG xs n (k+1)=invS n k (xs.getD k 0) (some out):=by rw[invG,hg]
   obtain⟨x,hxx⟩:∃x,xs.getD k 0=x:=⟨_,rfl⟩;rw[hxx] at hck1 hwf hG;simp only[Lit.wf,IntKind.min,IntKind.max,IntKind.bits,IntKind.signed] at hwf;simp at hwf;have hlo : -9223372036854775808<=x:=by omega
   have hhi:x<=9223372036854775807:=by omega
   clear hwf hxx;simp only[invS] at hG;by_cases h1:x<1
   ·rw[if_pos (.inl h1)] at hG;have hN:=zgv xs n (k+1) hG (n-(k+1));rw[show k+1+(n-(k+1))=n by omega] at hN;have HH:=hid (And.intro hN hb);clear hG hN hown hb hown1 hb1 h hc1 hx hg;go_wp2;go_ret2;rw[HH.out.1];exact⟨rfl,HH.out.2⟩
   ·by_cases h2:(n:Int)<x
    ·rw[if_pos (.inr (.inl h2))] at hG;have hN:=zgv xs n (k+1) hG (n-(k+1));rw[show k+1+(n-(k+1))=n by omega] at hN;have HH:=hid (And.intro hN hb);clear hG hN hown hb hown1 hb1 h hc1 hx hg;go_wp2;go_ret2;rw[HH.out.1];exact⟨rfl,HH.out.2⟩
    ·obtain⟨q,hq⟩:∃q:Nat,x=q+1:=⟨(x-1).toNat,by omega⟩;subst hq;have e1:((q:Int)+1-1).toNat=q:=by omega
     rw[e1] at hG;have hcell:=hown.celln hol q (by omega);have hfree:=hown.free q;have hqn:q<n:=by omega
     by_cases h3:out.getD q 0=0
     ·rw[if_neg (by omega)] at hG;have hset:=hown.setn hol q ((k:Int)+1);rw[h3] at hcell;have HH:=hid (And.intro hG hset);have HB:=hid hb;clear hG hset hown hb hown1 hb1 h hc1 hx hg h3;go_wp2;go_roundw
      case rel=>exact⟨k+1,_,by omega,by go_num,HH.out.1,HH.out.2,HB.out.setCell (by simp) _⟩
      case measure=>simp[intOf];omega
     ·rw[if_pos (by omega)] at hG;have hN:=zgv xs n (k+1) hG (n-(k+1));rw[show k+1+(n-(k+1))=n by omega] at hN;have HH:=hid (And.intro hN hb);obtain⟨y,hy⟩:∃y,out.getD q 0=y:=⟨_,rfl⟩;rw[hy] at hcell h3;clear hG hN hown hb hown1 hb1 h hc1 hx hg hy;have h4:(y != 0)=true:=by simpa using h3
      go_wp2;go_ret2;rw[HH.out.1];exact⟨rfl,HH.out.2⟩
  ·obtain rfl:k=n:=by omega
   have HH:=hid (And.intro hown hb);have HG:=hid hg;clear hown hb hown1 hb1 hg;go_wp2;go_ret2;rw[HG.out];exact⟨_,rfl,HH.out.1,HH.out.2⟩
theorem below_drewN'{B:Nat}{a w:World}(h:Below B a w)(n:Nat):Below B a (w.drewN n):=⟨h.os,h.tape,h.output,h.size,h.block⟩
def tb(bs:List UInt8)(ts:List Int)(q:Nat):Nat:=if q<ts.length then bitN bs (ts.getD q 0) else 0
theorem zi5(bs:List UInt8)(ts:List Int)(q:Nat):tb bs ts q<=1:=by
 unfold tb;split
 ·exact zcC _ _
 ·omega
def acc(g:Nat->Nat)(p:Nat):Nat->Nat
 | 0=>0
 | j+1=>2*acc g p j+g (8*p+j)
theorem zkh(g:Nat->Nat)(hg:∀q,g q<=1)(p:Nat):∀j,acc g p j<2^j
 | 0=>by simp[acc]
 | j+1=>by have:=zkh g hg p j;have h2:=hg (8*p+j);rw[acc,Nat.pow_succ];omega
theorem ziK(g:Nat->Nat)(hg:∀q,g q<=1)(p j:Nat)(hj:j<=8):acc g p j<256 :=
 Nat.lt_of_lt_of_le (zkh g hg p j) (Nat.le_trans (Nat.pow_le_pow_right (by omega) hj) (by omega))
def okT(n:Nat)(ts:List Int):Bool:=ts.all fun t=>hasN n t
def zdy(bs:List UInt8)(ts:List Int)(p:Nat):UInt8:=UInt8.ofNat (acc (tb bs ts) p 8)
def za3(bs:List UInt8)(ts:List Int):List UInt8:=(List.range ((ts.length+7)/8)).map (zdy bs ts)
theorem zbw(bs:List UInt8)(ts:List Int):(za3 bs ts).length=(ts.length+7)/8:=by simp[za3]
def zgh(bs:List UInt8)(ts:List Int):Option (List UInt8):=if okT bs.length ts then some (za3 bs ts) else none
def zmg(w:World)(r:Option (List UInt8))(e:Ending)(w':World):Prop :=
 match r with
 | none=>e=.returned (.tuple #[.slice none 0 0,.bool false])/\Below w.heap.size w w'
 | some out=>∃v,e=.returned (.tuple #[v,.bool true])/\Own w' w.heap.size v out/\Below w.heap.size w w'
theorem zmd{n m k:Nat}{ts:List Int}(hl:ts.length=m)(hk:k<m)(h:hasN n (ts.getD k 0)=false):okT n ts=false:=by
 unfold okT;rw[List.all_eq_false];refine⟨ts.getD k 0,?_,by rw[h];simp⟩;have:k<ts.length:=by omega
 simp[List.getD,List.getElem?_eq_getElem this]
theorem zlg{n m:Nat}{ts:List Int}(hl:ts.length=m)(h:∀j,j<m->hasN n (ts.getD j 0)=true):okT n ts=true:=by
 unfold okT;rw[List.all_eq_true];intro t ht;obtain⟨k,hk,rfl⟩:=List.mem_iff_getElem.1 ht;have:=h k (by omega);simpa [List.getD,List.getElem?_eq_getElem hk] using this
theorem Tryz.info5:(Tryz.prog.info? 5).map (fun i=>(i.zero,i.size,i.bytes))=some (some (.int .u8 0),1,1):=by kernel_rfl
theorem _root_.Go.Proofs.YtokbbmngfogbbaaGreatDoor.Rd.drew{w:World}{B n:Nat}{A:Option Addr}{bs:List UInt8}(h:Rd w B A n bs):Rd w.drew B A n bs:=⟨h.len,h.at_⟩
theorem zjA{w:World}{g o:Nat}{v:Value}{a:Addr}(h:¬g=a.block):(w.setCell ⟨g,o,none⟩ v).cell? a=w.cell? a:=by
 apply World.cell?_setCell_other;intro e;exact h (by rw[<-e])
theorem zmI{P:Program}{f:FuncId}{args:Array Value}{w:World}{v:Value}
  (h:Calls P f args w fun e w'=>e=.returned v/\w=w'):Calls P f args w fun e w''=>e=.returned v/\w''=w :=
 h.mono fun _ _ ⟨he,hm⟩=>⟨he,hm.symm⟩
theorem zjU{w:World}{Z k p:Nat}{ts:List Int}(hl:ts.length=k)
  (h:w.heap[Z]? = some (.cells (splice (List.replicate 8 (Value.int .i64 0)) 0 (cN .i64 ((ts.drop (8*p)).take 8))).toArray 232 (0,0))):
  ∀j,j<8->w.cell? ⟨Z,j,none⟩=some (.int .i64 (ts.getD (8*p+j) 0)):=by
 intro j hj;have e:(splice (List.replicate 8 (Value.int .i64 0)) 0 (cN .i64 ((ts.drop (8*p)).take 8)))[j]? = some (.int .i64 (ts.getD (8*p+j) 0)):=by
  unfold splice;rw[List.take_zero,List.nil_append,Nat.zero_add,zaH];rcases Nat.lt_or_ge (8*p+j) k with h1|h1
  ·have hlen:j<(cN .i64 ((ts.drop (8*p)).take 8)).length:=by rw[zaH,List.length_take,List.length_drop];omega
   rw[List.getElem?_append_left hlen,zd1 _ _ _ (by rw[zaH] at hlen;exact hlen)];simp[List.getD,hj]
  ·have hlen:(cN .i64 ((ts.drop (8*p)).take 8)).length<=j:=by rw[zaH,List.length_take,List.length_drop];omega
   rw[List.getElem?_append_right hlen,List.getElem?_drop,List.getElem?_replicate];rw[zaH] at hlen ⊢;rw[if_pos (by omega)];simp[List.getD,List.getElem?_eq_none (show ts.length<=8*p+j by omega)]
 generalize splice (List.replicate 8 (Value.int .i64 0)) 0 (cN .i64 ((ts.drop (8*p)).take 8))=L at h e;simp[World.cell?,h,e]
theorem _root_.Go.Proofs.YtokbbmngfogbbaaGreatDoor.Own.at_block{w w':World}{base g n c:Nat}{bs:List UInt8}(h:Own w base (.slice (some ⟨g,0,none⟩) n c) bs)(hb:w'.heap[g]? = w.heap[g]?):Own w' base (.slice (some ⟨g,0,none⟩) n c) bs:=by
 refine⟨h.1,?_⟩;rcases h.2 with⟨h',_⟩|⟨g',cap,cur,e0,hbg,hh,r⟩
 ·cases h'
 ·refine .inr ⟨g',cap,cur,e0,hbg,?_,r⟩;simp only[Value.slice.injEq,Option.some.injEq,Addr.mk.injEq,and_true] at e0;rw[<-e0.1,hb,e0.1];exact hh
theorem zqb(bs:List UInt8)(ts:List Int)(q:Nat):bitN bs (ts.getD q 0)=tb bs ts q:=by
 unfold tb;split
 ·rfl
 ·rename_i h;rw[show ts.getD q 0=0 by simp[List.getD,List.getElem?_eq_none (show ts.length<=q by omega)]];exact zhA (by unfold hasN;simp)
theorem or_bit(x b:Nat)(hb:b<=1):(2*x)|||b=2*x+b:=by
 have:=Nat.two_pow_add_eq_or_of_lt (i:=1) (b:=b) (by omega) x;rw[Nat.pow_one] at this;exact this.symm
theorem zoL(x b:Nat)(hx:x<128)(hb:b<=1):bits .or .u8 ((x:Int)*2) (b:Int)=((2*x+b:Nat):Int):=by
 have e:(x:Int)*2=((2*x:Nat):Int):=by omega
 rw[e,u8_or_nat _ _ (by omega) (by omega),or_bit x b hb]
theorem znZ(f:Nat->UInt8)(n k:Nat):(zao f n k).set k 0=zao f n k:=by
 apply List.ext_getElem
 ·simp
 ·intro i h1 h2;rw[List.getElem_set];split
  ·rename_i h;subst h;simp[zao]
  ·rfl
theorem zlf(A A':Option Addr)(n m c c':Nat)(bs:List UInt8)(ts:List Int)(w:World)(h:Rd w w.heap.size A n bs)(h':RdN .i64 w w.heap.size A' m ts)
  (hm:m<=1000000) (hc':m<=c') (hx:∀j,j<m->(Lit.int .i64 (ts.getD j 0)).wf=true):
  Calls Tryz.prog 123 #[.slice A n c,.slice A' m c'] w (zmg w (zgh bs ts)):=by
 have hl:=hid h.len;have hl':=hid h'.len;go_enter Tryz.func123,Tryz.ntmps123;go_wp2_with fail
 go_loopw [14] (fun i wr=>∃(k:Nat),k<=m/\i=.int .i64 k/\Below w.heap.size w wr/\∀j,j<k->hasN n (ts.getD j 0)=true) (fun i _=>m-(intOf i).toNat)
 case atStart=>exact⟨0,Nat.zero_le _,rfl,Below.refl _ _,fun j hj=>absurd hj (by omega)⟩
 case round =>
  obtain⟨k,hk,rfl,hb,hall⟩:=hrel;by_cases hlt:k<m
  ·obtain⟨b1,o1,rfl,hb1',hc1⟩:=(h'.below hb (Nat.le_refl _)).at_ (by omega);have hck1:=hc1 k hlt;have hwf:=wf_i64 (hx k hlt);cases hh:hasN n (ts.getD k 0) with
   | false =>
     have HF:=hid (zmd (n:=n) hl'.out hlt hh);obtain⟨x,hxx⟩:∃x,ts.getD k 0=x:=⟨_,rfl⟩;rw[hxx] at hck1 hwf hh;obtain⟨hlo,hhi⟩:=hwf;have HB:=hid hb;clear hxx hall hb h h' hc1 hx;go_wp2_with (go_at_call 161;refine(zhU _ _ _ _ _ hlo hhi).mono ?_;rintro e w' ⟨rfl,rfl⟩;rw[hh])
     go_ret2;unfold zgh;rw[hl.out,HF.out];exact⟨rfl,HB.out⟩
   | true =>
     have HH:=hid (show ∀j,j<k+1->hasN n (ts.getD j 0)=true from fun j hj=>by
      rcases Nat.lt_or_ge j k with h1|h1
      ·exact hall j h1
      ·obtain rfl:j=k:=by omega
       exact hh)
     obtain⟨x,hxx⟩:∃x,ts.getD k 0=x:=⟨_,rfl⟩;rw[hxx] at hck1 hwf hh;obtain⟨hlo,hhi⟩:=hwf;have HB:=hid hb;clear hxx hall hb h h' hc1 hx;go_wp2_with (go_at_call 161;refine(zhU _ _ _ _ _ hlo hhi).mono ?_;rintro e w' ⟨rfl,rfl⟩;rw[hh])
     go_roundw
     case rel=>exact⟨k+1,by omega,by go_num,HB.out,HH.out⟩
     case measure=>simp[intOf];omega
  ·obtain rfl:k=m:=by omega
   have HF:=hid (zlg (n:=n) hl'.out hall);have HALL:=hid hall;have hr:=h.below hb (Nat.le_refl _);have hr':=h'.below hb (Nat.le_refl _);have HB0:=hid hb;have hsz:=hb.size;have HXF:=hid hx;clear hall hb h h' hx;go_wp2_with (at_make;refine zaP rfl (.tmp 26) (.tmp 26) 22 rfl Tryz.underlying22 Tryz.info5 .i64 _ ((k+7)/8) rfl rfl (by omega) (by omega) w.heap.size hsz ?_;intro w1 hown1 hb1 _)
   obtain⟨M,hM⟩:∃M,(k+7)/8=M:=⟨_,rfl⟩;rw[hM] at hown1;rw[hM];obtain⟨G,hG⟩:∃G,wr.heap.size=G:=⟨_,rfl⟩;rw[hG] at hown1 hb1 hsz;rw[hG];have hr1:=hr.below hb1 (by omega);have hr1':=hr'.below hb1 (by omega);have HB1:=hid (HB0.out.trans (Below.mono hb1 hsz));have hM2:8*M<=k+7:=by omega
   have hM3:k<=8*M:=by omega
   have hM4:=hid hM;have hG1:=hown1.base_le;clear hr hr' hb1 HB0 hM;go_wp2_with fail
   go_loopw [30] (fun i wr=>∃(p:Nat),p<=M/\i=.int .i64 p/\Own wr w.heap.size (.slice (some ⟨G,0,none⟩) M M) (zao (zdy bs ts) M p)/\Below w.heap.size w wr/\Rd wr w.heap.size A n bs/\RdN .i64 wr w.heap.size A' k ts/\G<wr.heap.size) (fun i _=>M-(intOf i).toNat)
   case atStart=>exact⟨0,Nat.zero_le _,rfl,by rw[zaG];exact hown1,HB1.out,hr1,hr1',hG1.2⟩
   case round =>
    clear hown1 hr1 hr1' HB1;obtain⟨p,hp,rfl,hown,hb,hr,hr',hGz⟩:=hrel;by_cases hpt:p<M
    ·have hpk:8*p<k:=by omega
     obtain⟨b1,o1,rfl,hb1',hc1⟩:=hr'.at_ (by omega);have hzz:=hb.size;obtain⟨Z,hZ⟩:∃Z,wr.heap.size=Z:=⟨_,rfl⟩;obtain⟨W2,hW2⟩:∃W2,wr.alloc (.cells #[.int .i64 0,.int .i64 0,.int .i64 0,.int .i64 0,.int .i64 0,.int .i64 0,.int .i64 0,.int .i64 0] 232)=W2:=⟨_,rfl⟩;have hx2:Ext wr W2:=by rw[<-hW2];exact Ext.alloc _ _
     have hz2:W2.heap[Z]? = some (.cells (List.replicate 8 (Value.int .i64 0)).toArray 232 (0,0)):=by rw[<-hW2,<-hZ];exact(heap_alloc_new _ _)
     have hc2:∀j,j<k->W2.cell? ⟨b1,o1+j,none⟩=some (.int .i64 (ts.getD j 0)):=fun j hj=>(Below.cell hx2 (p:=⟨b1,o1+j,none⟩) (by show b1<wr.heap.size;omega)).trans (hc1 j hj)
     have hown2:=hown.kept hx2;have hb2:=hb.trans (Below.mono hx2 hzz);have hr2:=hr.below hx2 hzz;have hr2':=hr'.below hx2 hzz;have hcs:(cN .i64 ((ts.drop (8*p)).take 8)).length=Nat.min (k-8*p) 8:=by rw[zaH,List.length_take,List.length_drop,hl'.out];exact Nat.min_comm _ _
     have hsr:∀j v,(cN .i64 ((ts.drop (8*p)).take 8))[j]? = some v->W2.cell? ((⟨b1,o1+8*p,none⟩:Addr).add j)=some v:=by
      intro j v hv;rw[za2];have hj:j<Nat.min (k-8*p) 8:=by
       rcases Nat.lt_or_ge j (Nat.min (k-8*p) 8) with h1|h1
       ·exact h1
       ·rw[List.getElem?_eq_none (by omega)] at hv;cases hv
      have hj1:j<k-8*p:=Nat.lt_of_lt_of_le hj (Nat.min_le_left _ _);have hj2:j<8:=Nat.lt_of_lt_of_le hj (Nat.min_le_right _ _);rw[zd1 _ _ _ (by rw[zaH] at hcs;omega)] at hv;cases hv
      have:=hc2 (8*p+j) (by omega);rw[<-Nat.add_assoc] at this;rw[this];simp[List.getD,hj2]
     have HF8:=hid (show 0+(cN .i64 ((ts.drop (8*p)).take 8)).length<=(List.replicate 8 (Value.int .i64 0)).length by rw[hcs,List.length_replicate,Nat.zero_add];exact Nat.min_le_right _ _);have HC:=hid hcs;have HS:=hid hsr;have HZ2:=hid hz2;have HX2:=hid (And.intro hown2 (And.intro hb2 (And.intro hr2 hr2')));have hcp:¬c'=8*p:=by omega
     have hz1:G<Z:=by omega
     have hz3:Z<W2.heap.size:=(Array.getElem?_eq_some_iff.1 hz2).1;have HW:=hid hW2;clear hcs hsr hz2 hown2 hb2 hr2 hr2' hown hb hr hr' hc1 hc2 hx2 hW2 hGz hzz;go_wp2_with fail
     rw[HW.out];clear HW;have q1:IntKind.i64.wrap (8*(p:Int))=8*(p:Int):=by rw[IntWalk.i64_in _ (by omega)]
     have q2:(0:Int)<=8*(p:Int):=by omega
     have q3:8*(p:Int)<=(k:Int):=by omega
     have q4:(8*(p:Int)).toNat=8*p:=by omega
     go_region_law (refine step_copy_splice rfl (.tmp 33) (.tmp 37) 38 38 rfl 3 rfl (by kernel_rfl) (some ⟨Z,0,none⟩) (some ⟨b1,o1+8*p,none⟩) 8 8 (k-8*p) (c'-8*p) (by simp[Act.eval,Act.put]) (by simp[Act.eval,Act.put]) Z 0 (List.replicate 8 (Value.int .i64 0)) 232 HZ2.out (cN .i64 ((ts.drop (8*p)).take 8)) HC.out (fun _=>⟨rfl,_,rfl,HS.out⟩) HF8.out (zhr _ _) Z W2 (Below.refl _ _).drew (Nat.le_refl _) ?_;intro W3 hz3' hx3)
     have HE:=hid (zjU hl'.out hz3'.out);have hZ3:Z<W3.heap.size:=(Array.getElem?_eq_some_iff.1 hz3'.out).1;have hbase:w.heap.size<=Z:=by omega
     have hown3:Own W3 w.heap.size (.slice (some ⟨G,0,none⟩) M M) ((zao (zdy bs ts) M p).set p (UInt8.ofNat (acc (tb bs ts) p 0))):=by have h1:Own W3 w.heap.size (.slice (some ⟨G,0,none⟩) M M) (zao (zdy bs ts) M p):=HX2.out.1.at_block (hx3.block G hz1);have e0:(zao (zdy bs ts) M p).set p (UInt8.ofNat (acc (tb bs ts) p 0))=zao (zdy bs ts) M p:=znZ _ _ _;rw[e0];exact h1
     have hb3:=hid (HX2.out.2.1.trans (Below.mono hx3 hbase));have hr3:=hid (HX2.out.2.2.1.below (Below.mono hx3 hbase) (Nat.le_refl _));have hr3':=hid (HX2.out.2.2.2.below (Below.mono hx3 hbase) (Nat.le_refl _));clear hx3 hz3' HX2 HZ2 HS HC HF8 q1 q2 q3 q4 hcp hz3 hZ;go_wp2_with fail
     go_loopw [39] (fun i wr=>∃(j:Nat),j<=8/\i=.int .i64 j/\Own wr w.heap.size (.slice (some ⟨G,0,none⟩) M M) ((zao (zdy bs ts) M p).set p (UInt8.ofNat (acc (tb bs ts) p j)))/\Below w.heap.size w wr/\Rd wr w.heap.size A n bs/\RdN .i64 wr w.heap.size (some ⟨b1,o1,none⟩) k ts/\Z<wr.heap.size/\(∀j,j<8->wr.cell? ⟨Z,j,none⟩=some (.int .i64 (ts.getD (8*p+j) 0)))) (fun i _=>8-(intOf i).toNat)
     case atStart=>exact⟨0,by omega,rfl,hown3,hb3.out,hr3.out,hr3'.out,hZ3,HE.out⟩
     case round =>
      clear hb3 hr3 hr3' HE hZ3 hown3;obtain⟨j,hj,rfl,hown,hb,hr,hr',hZ3,hE⟩:=hrel;by_cases hjt:j<8
      ·have hcE:=hE j hjt;have hal:=zkh (tb bs ts) (zi5 bs ts) p j;have hal2:acc (tb bs ts) p j<128:=Nat.lt_of_lt_of_le hal (Nat.le_trans (Nat.pow_le_pow_right (by omega) (show j<=7 by omega)) (by omega));have hstep:=zoL _ _ hal2 (zi5 bs ts (8*p+j));obtain⟨x,hx⟩:∃x,ts.getD (8*p+j) 0=x:=⟨_,rfl⟩;have hxb : -9223372036854775808<=x/\x<=9223372036854775807:=by
        rw[<-hx];rcases Nat.lt_or_ge (8*p+j) k with h1|h1
        ·exact wf_i64 (HXF.out _ h1)
        ·rw[show ts.getD (8*p+j) 0=0 by simp[List.getD,List.getElem?_eq_none (show ts.length<=8*p+j by rw[hl'.out];exact h1)]];omega
       obtain⟨hxlo,hxhi⟩:=hxb;have htb:=zqb bs ts (8*p+j);rw[hx] at htb hcE;rw[<-htb] at hstep;have hob:(bitN bs x:Int)<=1:=by have:=zcC bs x;omega
       obtain⟨cur,hcur⟩:∃cur,(zao (zdy bs ts) M p).set p (UInt8.ofNat (acc (tb bs ts) p j))=cur:=⟨_,rfl⟩;rw[hcur] at hown;have hcl:cur.length=M:=by rw[<-hcur,List.length_set];exact zad _ _ _
       have hown0:Own wr w.heap.size (.slice (some ⟨G,0,none⟩) cur.length M) cur:=by rw[hcl];exact hown
       have hcell:=hown0.cell p (by omega);have hfree:=hown0.free p;have hset:=hown0.set_ p (UInt8.ofNat (acc (tb bs ts) p (j+1)));have hbyte:zah cur p=(acc (tb bs ts) p j:Nat):=by
        unfold zah;rw[<-hcur];have:((zao (zdy bs ts) M p).set p (UInt8.ofNat (acc (tb bs ts) p j))).getD p 0=UInt8.ofNat (acc (tb bs ts) p j):=by simp[List.getD,zad,hpt]
        rw[this];exact zfp _ (by omega)
       rw[hbyte] at hcell;rw[zfp _ (ziK _ (zi5 bs ts) p (j+1) (by omega)),hcl] at hset;have hcs:cur.set p (UInt8.ofNat (acc (tb bs ts) p (j+1)))=(zao (zdy bs ts) M p).set p (UInt8.ofNat (acc (tb bs ts) p (j+1))):=by rw[<-hcur,List.set_set]
       rw[hcs] at hset;have hacc:acc (tb bs ts) p (j+1)=2*acc (tb bs ts) p j+bitN bs x:=by rw[acc,htb]
       rw[<-hacc] at hstep;obtain⟨Y,hY⟩:∃Y,acc (tb bs ts) p j=Y:=⟨_,rfl⟩;obtain⟨Y2,hY2⟩:∃Y2,acc (tb bs ts) p (j+1)=Y2:=⟨_,rfl⟩;rw[hY] at hcell hstep hal2;rw[hY2] at hstep;have hset2:=hset;rw[hY2] at hset2;have HH:=hid hset2;have HY2:=hid hY2;have hzr:=hb.size;have HB:=hid hb;have HR:=hid hr;have HR':=hid hr';have HE:=hid hE;have HS:=hid hstep;have hGZ:¬G=Z:=by omega
       clear hset hset2 hcs hacc hbyte hown0 hown hcl hcur hb hr hr' hE hY hY2 htb hx hal hstep;go_wp2_with fail
       refine wp_region_still_tail 15 (by kernel_rfl) (by kernel_rfl) ?_;simp only[List.take_succ_cons,List.take_zero,List.drop_succ_cons,List.drop_zero];repeat still_step
       still_call (zmI (zqH _ _ _ _ _ _ (HR.out.more hzr).drew hxlo hxhi))
       repeat still_step
       refine wpStill_nil ?_;have HSo:=HS.out;change wpList _ _ _ _ _ wr.drew;go_wp2_with fail
       go_roundw
       case rel=>exact⟨j+1,by omega,by go_num,by rw[HY2.out];exact HH.out,(HB.out.setCell (by simp;omega) _).drew,(HR.out.keep fun q hq=>zjA (by omega)).drew,(HR'.out.keep fun q hq=>zjA (by omega)).drew,by simpa [World.drew] using hZ3,fun i hi=>(zjA (a:=⟨Z,i,none⟩) (by show ¬G=Z;exact hGZ)).trans (HE.out i hi)⟩
       case measure=>simp[intOf];omega
      ·obtain rfl:j=8:=by omega
       have e8:(zao (zdy bs ts) M p).set p (UInt8.ofNat (acc (tb bs ts) p 8))=zao (zdy bs ts) M (p+1):=zaO _ _ _ _ rfl;rw[e8] at hown;have hzr:=hb.size;have HO:=hid hown;have HB:=hid hb;have HR:=hid hr;have HR':=hid hr';clear hown hb hr hr' hE e8;go_wp2_with fail
       go_roundw
       case rel=>exact⟨p+1,by omega,by go_num,HO.out,HB.out,HR.out,HR'.out,by omega⟩
       case measure=>simp[intOf];omega
    ·obtain rfl:p=M:=by omega
     have e8:zao (zdy bs ts) p p=za3 bs ts:=by rw[zaE];unfold za3;rw[hl'.out,hM4.out]
     rw[e8] at hown;have HO:=hid hown;have HB:=hid hb;clear hown hb hr hr' e8;go_wp2_with fail
     go_ret2;unfold zgh;rw[hl.out,HF.out];exact⟨_,rfl,HO.out,HB.out⟩
def rF(g:Nat->Nat)(k p:Nat):Nat:=acc g p (min (k-8*p) 8)*2^(8-min (k-8*p) 8)
def rL(g:Nat->Nat)(M k:Nat):List UInt8:=(List.range M).map fun p=>UInt8.ofNat (rF g k p)
theorem znQ(g:Nat->Nat)(M k:Nat):(rL g M k).length=M:=by simp[rL]
theorem zrr(g:Nat->Nat)(M:Nat):rL g M 0=List.replicate M 0:=by
 apply List.ext_getElem<;>simp[rL,rF,acc]
theorem ztX(g:Nat->Nat)(hg:∀q,g q<=1)(k p:Nat):rF g k p<256:=by
 unfold rF;have h1:=zkh g hg p (min (k-8*p) 8);have h2:min (k-8*p) 8<=8:=Nat.min_le_right _ _;generalize min (k-8*p) 8=j at *;have h3:0<2^(8-j):=Nat.two_pow_pos _;have h4:=Nat.mul_lt_mul_of_pos_right h1 h3;rw[<-Nat.pow_add,show j+(8-j)=8 by omega] at h4;exact h4
theorem zmj(g:Nat->Nat)(k:Nat):rF g k (k/8)=acc g (k/8) (k%8)*2^(8-k%8):=by
 unfold rF;rw[show min (k-8*(k/8)) 8=k%8 by omega]
theorem zmD(g:Nat->Nat)(k:Nat):rF g (k+1) (k/8)=rF g k (k/8)+g k*2^(7-k%8):=by
 rw[zmj];unfold rF;rw[show min (k+1-8*(k/8)) 8=k%8+1 by omega,acc,show 8-(k%8+1)=7-k%8 by omega,show 8*(k/8)+k%8=k by omega,
  show 8-k%8=(7-k%8)+1 by omega,Nat.pow_succ,Nat.add_mul,Nat.mul_comm 2 (acc g (k/8) (k%8)),Nat.mul_assoc,Nat.mul_comm 2 (2^(7-k%8))]
theorem zl5(g:Nat->Nat)(k p:Nat)(h:p≠k/8):rF g (k+1) p=rF g k p:=by
 unfold rF;rw[show min (k+1-8*p) 8=min (k-8*p) 8 by omega]
theorem zsc(g:Nat->Nat)(M k:Nat)(h:g k=0):rL g M (k+1)=rL g M k:=by
 unfold rL;apply List.map_congr_left;intro p _;by_cases hp:p=k/8
 ·subst hp;rw[zmD,h,Nat.zero_mul,Nat.add_zero]
 ·rw[zl5 _ _ _ hp]
theorem ztR(g:Nat->Nat)(M k:Nat):rL g M (k+1)=(rL g M k).set (k/8) (UInt8.ofNat (rF g (k+1) (k/8))):=by
 apply List.ext_getElem
 ·simp[rL]
 ·intro i h1 h2;rw[List.getElem_set];simp only[rL,List.getElem_map,List.getElem_range];split
  ·rename_i h;subst h;rfl
  ·rename_i h;rw[zl5 _ _ _ (fun e=>h e.symm)]
theorem zuQ(g:Nat->Nat)(k:Nat)(h:g k=1):rF g k (k/8)|||2^(7-k%8)=rF g (k+1) (k/8):=by
 rw[zmD,h,Nat.one_mul,zmj];have:=Nat.two_pow_add_eq_or_of_lt (i:=8-k%8) (b:=2^(7-k%8)) (Nat.pow_lt_pow_right (by omega) (by omega)) (acc g (k/8) (k%8));rw[Nat.mul_comm] at this;exact this.symm
theorem zi2(g:Nat->Nat)(p j:Nat)(h:∀i,j<=i->g (8*p+i)=0):∀d,acc g p (j+d)=acc g p j*2^d
 | 0=>by simp
 | d+1=>by rw[<-Nat.add_assoc,acc,zi2 g p j h d,h (j+d) (by omega),Nat.pow_succ,Nat.add_zero,Nat.mul_comm 2,Nat.mul_assoc]
theorem zsG(bs:List UInt8)(ts:List Int)(m:Nat)(hm:ts.length=m):rL (tb bs ts) ((m+7)/8) m=za3 bs ts:=by
 unfold rL za3 zdy;rw[hm];apply List.map_congr_left;intro p hp;have hp':p<(m+7)/8:=List.mem_range.1 hp;unfold rF;rcases Nat.lt_or_ge (m-8*p) 8 with h|h
 ·rw[Nat.min_eq_left (by omega)];have:=zi2 (tb bs ts) p (m-8*p) (fun i hi=>by unfold tb;rw[if_neg (by omega)]) (8-(m-8*p));rw[show m-8*p+(8-(m-8*p))=8 by omega] at this;rw[this]
 ·rw[Nat.min_eq_right h];simp
theorem ztM(Y s Y2:Nat)(h:Y<256)(hs:s<=7)(ho:Y|||2^s=Y2):bits .or .u8 (Y:Int) (2^s%256)=(Y2:Int):=by
 have h2:2^s<256:=Nat.lt_of_le_of_lt (Nat.pow_le_pow_right (by omega) hs) (by omega);have e:(2:Int)^s%256=((2^s:Nat):Int):=by
  have:((2^s:Nat):Int)=(2:Int)^s:=by rw[Int.natCast_pow];rfl
  rw[<-this];generalize 2^s=t at h2;omega
 rw[e,u8_or_nat _ _ h h2,ho]
theorem ziY(A A':Option Addr)(n m c c':Nat)(bs:List UInt8)(ts:List Int)(w:World)(h:Rd w w.heap.size A n bs)(h':RdN .i64 w w.heap.size A' m ts)
  (hn:n<=140737488355328) (hm:m<=1000000) (hx:∀j,j<m->(Lit.int .i64 (ts.getD j 0)).wf=true):
  Calls Tryz.prog 143 #[.slice A n c,.slice A' m c'] w (zmg w (zgh bs ts)):=by
 have hl:=hid h.len;have hl':=hid h'.len;obtain⟨M,hM⟩:∃M,(m+7)/8=M:=⟨_,rfl⟩;have hM2:8*M<=m+7:=by omega
 have hM3:m<=8*M:=by omega
 have HM:=hid hM;clear hM;go_enter Tryz.func143,Tryz.ntmps143;go_wp2_with (at_make;refine zaP rfl (.tmp 11) (.tmp 11) 22 rfl Tryz.underlying22 Tryz.info5 .i64 _ ((m+7)/8) rfl rfl (by omega) (by omega) w.heap.size (Nat.le_refl _) ?_;intro w1 hown1 hb1 _)
 rw[HM.out] at hown1;rw[HM.out];obtain⟨G,hG⟩:∃G,w.heap.size=G:=⟨_,rfl⟩;have hown1':Own w1 w.heap.size (.slice (some ⟨G,0,none⟩) M M) (rL (tb bs ts) M 0):=by rw[zrr,<-hG];exact hown1
 rw[hG];have HG:=hid hG;clear hown1 hG;go_loopw [7] (fun i wr=>∃(k:Nat),k<=m/\i=.int .i64 k/\Below w.heap.size w wr/\Own wr w.heap.size (.slice (some ⟨G,0,none⟩) M M) (rL (tb bs ts) M k)/\∀j,j<k->hasN n (ts.getD j 0)=true) (fun i _=>m-(intOf i).toNat)
 case atStart=>exact⟨0,Nat.zero_le _,rfl,hb1,hown1',fun j hj=>absurd hj (by omega)⟩
 case round =>
  clear hb1 hown1';obtain⟨k,hk,rfl,hb,hown,hall⟩:=hrel;by_cases hlt:k<m
  ·obtain⟨b1,o1,rfl,hb1',hc1⟩:=(h'.below hb (Nat.le_refl _)).at_ (by omega);have hck1:=hc1 k hlt;have hwf:=wf_i64 (hx k hlt);cases hh:hasN n (ts.getD k 0) with
   | false =>
     have HF:=hid (zmd (n:=n) hl'.out hlt hh);obtain⟨x,hxx⟩:∃x,ts.getD k 0=x:=⟨_,rfl⟩;rw[hxx] at hck1 hwf hh;obtain⟨hlo,hhi⟩:=hwf;have HB:=hid hb;unfold hasN at hh;simp only[decide_eq_false_iff_not] at hh;have hr:=hid (And.intro hown hall);clear hxx hall hb h h' hc1 hx hown;by_cases h1:x<1
     ·clear hh;go_wp2_with fail
      go_ret2;unfold zgh;rw[hl.out,HF.out];exact⟨rfl,HB.out⟩
     ·have h2:8*(n:Int)<x:=by omega
      clear hh;go_wp2_with fail
      go_ret2;unfold zgh;rw[hl.out,HF.out];exact⟨rfl,HB.out⟩
   | true =>
     have HH:=hid (show ∀j,j<k+1->hasN n (ts.getD j 0)=true from fun j hj=>by
      rcases Nat.lt_or_ge j k with h1|h1
      ·exact hall j h1
      ·obtain rfl:j=k:=by omega
       exact hh)
     have htb:bitN bs (ts.getD k 0)=tb bs ts k:=zqb bs ts k;have hble:=zi5 bs ts k;obtain⟨x,hxx⟩:∃x,ts.getD k 0=x:=⟨_,rfl⟩;rw[hxx] at hck1 hwf hh htb;obtain⟨hlo,hhi⟩:=hwf;have hh':=hh;unfold hasN at hh';simp only[decide_eq_true_eq] at hh';have h1:¬x<1:=by omega
     have h2:¬8*(n:Int)<x:=by omega
     have hr:=hid ((h.below hb (Nat.le_refl _)).more hb.size);have HB:=hid hb;rcases Nat.eq_zero_or_pos (tb bs ts k) with h0|h0
     ·have hbit:=htb.trans h0;have hs:=zsc (tb bs ts) M k h0;have hown2:Own wr w.heap.size (.slice (some ⟨G,0,none⟩) M M) (rL (tb bs ts) M (k+1)):=by rw[hs];exact hown
      have HO:=hid hown2;have HBT:=hid hbit;clear hs hown2 hown hbit h0 htb hble hxx hh hh' hall hb h h' hc1 hx;go_wp2_with (go_at_call 152;refine(zk3 _ _ _ _ _ _ hr.out hlo hhi hn).mono ?_;rintro e w' ⟨rfl,rfl⟩;rw[HBT.out])
      go_roundw
      case rel=>exact⟨k+1,by omega,by go_num,HB.out,HO.out,HH.out⟩
      case measure=>simp[intOf];omega
     ·have h01:tb bs ts k=1:=by omega
      have hbit:=htb.trans h01;have hkM:k/8<M:=by omega
      have hor:=zuQ (tb bs ts) k h01;have hY8:=ztX (tb bs ts) (zi5 bs ts) k (k/8);have hY9:=ztX (tb bs ts) (zi5 bs ts) (k+1) (k/8);obtain⟨cur,hcur⟩:∃cur,rL (tb bs ts) M k=cur:=⟨_,rfl⟩;have hset0:=ztR (tb bs ts) M k;rw[hcur] at hown hset0;have hcl:cur.length=M:=by rw[<-hcur];exact znQ _ _ _
      have hown0:Own wr w.heap.size (.slice (some ⟨G,0,none⟩) cur.length M) cur:=by rw[hcl];exact hown
      have hcell:=hown0.cell (k/8) (by omega);have hfree:=hown0.free (k/8);have hset:=hown0.set_ (k/8) (UInt8.ofNat (rF (tb bs ts) (k+1) (k/8)));rw[<-hset0,hcl,zfp _ hY9] at hset;have hbyte:zah cur (k/8)=(rF (tb bs ts) k (k/8):Nat):=by
       unfold zah;rw[<-hcur];have:(rL (tb bs ts) M k).getD (k/8) 0=UInt8.ofNat (rF (tb bs ts) k (k/8)):=by simp[rL,List.getD,hkM]
       rw[this];exact zfp _ hY8
      rw[hbyte] at hcell;obtain⟨Y,hY⟩:∃Y,rF (tb bs ts) k (k/8)=Y:=⟨_,rfl⟩;obtain⟨Y2,hY2⟩:∃Y2,rF (tb bs ts) (k+1) (k/8)=Y2:=⟨_,rfl⟩;rw[hY] at hcell hor hY8;rw[hY2] at hset hor;have HO:=hid hset;have HBT:=hid hbit;have HQ:=hid (ztM Y (7-k%8) Y2 hY8 (by omega) hor);have hY7:(Y:Int)<256:=by omega
      clear hor hset hset0 hbyte hown0 hown hcl hcur hbit h0 h01 htb hble hxx hh hh' hall hb h h' hc1 hx hY hY2 hY8 hY9;go_wp2_with (go_at_call 152;refine(zk3 _ _ _ _ _ _ hr.out hlo hhi hn).mono ?_;rintro e w' ⟨rfl,rfl⟩;rw[HBT.out])
      go_roundw
      case rel=>exact⟨k+1,by omega,by go_num,HB.out.setCell (by have:=HG.out;simp;omega) _,by rw[HQ.out];exact HO.out,HH.out⟩
      case measure=>simp[intOf];omega
  ·obtain rfl:k=m:=by omega
   have HF:=hid (zlg (n:=n) hl'.out hall);have e8:rL (tb bs ts) M k=za3 bs ts:=by rw[<-HM.out];exact zsG bs ts k hl'.out
   rw[e8] at hown;have HO:=hid hown;have HB:=hid hb;clear hown hb hall e8 h h' hx;go_wp2_with fail
   go_ret2;unfold zgh;rw[hl.out,HF.out];exact⟨_,rfl,HO.out,HB.out⟩
theorem zaZ{P:Program}{f:FuncId}{args:Array Value}{w:World}{n:Nat}{v:Value}
  (h:Calls P f args (w.drewN n) fun e w'=>e=.returned v/\w.drewN n=w'):Calls P f args (w.drewN n) fun e w''=>e=.returned v/\∃m,w''=w.drewN m :=
 h.mono fun _ _ ⟨he,hm⟩=>⟨he,n,hm.symm⟩
structure IsPerm (n:Nat) (ts:List Int):Prop where
 len:ts.length=n
 lo:∀j,j<n->1<=ts.getD j 0
 hi:∀j,j<n->ts.getD j 0<=n
 inj:∀i j,i<n->j<n->ts.getD i 0=ts.getD j 0->i=j
 onto:∀i:Nat,i<n->∃j,j<n/\ts.getD j 0=(i:Int)+1
def Undo(n:Nat)(ts us:List Int):Prop:=∀i j,i<n->j<n->(ts.getD j 0=(i:Int)+1↔us.getD i 0=(j:Int)+1)
theorem zpW(l:List Int)(i j:Nat)(x:Int)(hi:i<l.length):(l.set i x).getD j 0=if i=j then x else l.getD j 0:=by
 simp only[List.getD,List.getElem?_set];split
 ·rename_i h;subst h;simp
 ·rfl
theorem zim{n:Nat}{ts:List Int}(h:IsPerm n ts):∀k,k<=n->∃out,invG ts n k=some out /\
  ∀i,i<n->(out.getD i 0=0/\∀j,j<k->ts.getD j 0≠(i:Int)+1)\/∃j,j<k/\ts.getD j 0=(i:Int)+1/\out.getD i 0=(j:Int)+1
 | 0,_=>⟨_,rfl,fun i hi=>.inl ⟨by rw[za1 _ _ _ (by simpa using hi)];simp,fun j hj=>absurd hj (by omega)⟩⟩
 | k+1,hk=>by
   obtain⟨out,ho,hp⟩:=zim h k (by omega);have hol:=zfw ts n k out ho;have h1:=h.lo k (by omega);have h2:=h.hi k (by omega);obtain⟨q,hq⟩:∃q:Nat,ts.getD k 0=(q:Int)+1:=⟨(ts.getD k 0-1).toNat,by omega⟩;have hqn:q<n:=by omega
   have hz:out.getD q 0=0:=by
    rcases hp q hqn with⟨h0,_⟩|⟨j,hj,he,_⟩
    ·exact h0
    ·have:=h.inj j k (by omega) (by omega) (by rw[he,hq]);omega
   refine⟨out.set q ((k:Int)+1),?_,?_⟩
   ·rw[invG,ho];simp only[invS];rw[hq,show((q:Int)+1-1).toNat=q by omega,if_neg (by omega)]
   ·intro i hi;rw[zpW _ _ _ _ (by omega)];by_cases hqi:q=i
    ·subst hqi;rw[if_pos rfl];exact .inr ⟨k,by omega,hq,rfl⟩
    ·rw[if_neg hqi];rcases hp i hi with⟨h0,hn⟩|⟨j,hj,he,hv⟩
     ·refine .inl ⟨h0,fun j hj=>?_⟩;rcases Nat.lt_or_ge j k with hjk|hjk
      ·exact hn j hjk
      ·obtain rfl:j=k:=by omega
       rw[hq];omega
     ·exact .inr ⟨j,by omega,he,hv⟩
theorem zk0{n:Nat}{ts:List Int}(h:IsPerm n ts):∃us,invG ts n n=some us/\IsPerm n us/\Undo n ts us:=by
 obtain⟨us,hu,hp⟩:=zim h n (Nat.le_refl n);have hul:=zfw ts n n us hu;have hun:Undo n ts us:=by
  intro i j hi hj;rcases hp i hi with⟨_,hn⟩|⟨k,hk,he,hv⟩
  ·obtain⟨k,hk,he⟩:=h.onto i hi;exact absurd he (hn k hk)
  ·constructor
   ·intro ht;have:=h.inj j k hj hk (by rw[ht,he]);subst this;exact hv
   ·intro hv2;have:(j:Int)=k:=by omega
    have:j=k:=by omega
    subst this;exact he
 have hex:∀i,i<n->∃j,j<n/\ts.getD j 0=(i:Int)+1/\us.getD i 0=(j:Int)+1:=by intro i hi;obtain⟨j,hj,he⟩:=h.onto i hi;exact⟨j,hj,he,(hun i j hi hj).1 he⟩
 refine⟨us,hu,⟨hul,fun i hi=>?_,fun i hi=>?_,fun i k hi hk he=>?_,fun j hj=>?_⟩,hun⟩
 ·obtain⟨j,hj,_,hv⟩:=hex i hi;omega
 ·obtain⟨j,hj,_,hv⟩:=hex i hi;omega
 ·obtain⟨j,hj,e1,v1⟩:=hex i hi;obtain⟨j2,hj2,e2,v2⟩:=hex k hk;have:j=j2:=by omega
  subst this;omega
 ·have h1:=h.lo j hj;have h2:=h.hi j hj;refine⟨(ts.getD j 0-1).toNat,by omega,(hun _ j (by omega) hj).1 (by omega)⟩
theorem zqM{n:Nat}{t:Int}(h1:1<=t)(h2:t<=8*(n:Int)):hasN n t=true:=by
 unfold hasN;simp only[decide_eq_true_eq];omega
theorem zjd{n:Nat}{ts:List Int}(h:∀t ∈ ts,1<=t/\t<=8*(n:Int)):okT n ts=true:=by
 unfold okT;rw[List.all_eq_true];exact fun t ht=>zqM (h t ht).1 (h t ht).2
theorem IsPerm.ok{n N:Nat}{ts:List Int}(h:IsPerm N ts)(hN:N=8*n):okT n ts=true:=by
 apply zjd;intro t ht;obtain⟨j,hj,rfl⟩:=List.mem_iff_getElem.1 ht;have h1:=h.lo j (by have:=h.len;omega);have h2:=h.hi j (by have:=h.len;omega);rw[za1 _ _ _ hj] at h1 h2;omega
theorem acc8(g:Nat->Nat)(p:Nat):acc g p 8=128*g (8*p)+64*g (8*p+1)+32*g (8*p+2)+16*g (8*p+3)+8*g (8*p+4)+4*g (8*p+5)+2*g (8*p+6)+g (8*p+7):=by
 simp only[acc,Nat.add_zero];omega
theorem zrk(g:Nat->Nat)(hg:∀q,g q<=1)(p j:Nat)(hj:j<8):acc g p 8/2^(7-j)%2=g (8*p+j):=by
 rw[acc8];have h0:=hg (8*p);have h1:=hg (8*p+1);have h2:=hg (8*p+2);have h3:=hg (8*p+3);have h4:=hg (8*p+4);have h5:=hg (8*p+5);have h6:=hg (8*p+6);have h7:=hg (8*p+7)
 match j,hj with
 | 0,_=>simp only[Nat.add_zero,Nat.sub_zero,Nat.reducePow];omega
 | 1,_=>simp only[Nat.reduceSub,Nat.reducePow];omega
 | 2,_=>simp only[Nat.reduceSub,Nat.reducePow];omega
 | 3,_=>simp only[Nat.reduceSub,Nat.reducePow];omega
 | 4,_=>simp only[Nat.reduceSub,Nat.reducePow];omega
 | 5,_=>simp only[Nat.reduceSub,Nat.reducePow];omega
 | 6,_=>simp only[Nat.reduceSub,Nat.reducePow];omega
 | 7,_=>simp only[Nat.reduceSub,Nat.reducePow];omega
theorem zfI(bs:List UInt8)(ts:List Int)(q:Nat)(hq:q/8<(ts.length+7)/8):bitN (za3 bs ts) ((q:Int)+1)=tb bs ts q:=by
 rw[zdC (by rw[zbw];exact hq)];have e:(za3 bs ts).getD (q/8) 0=zdy bs ts (q/8):=by simp[za3,List.getD,hq]
 have e2:(zdy bs ts (q/8)).toNat=acc (tb bs ts) (q/8) 8:=by unfold zdy;have:=zfp _ (ziK (tb bs ts) (zi5 bs ts) (q/8) 8 (Nat.le_refl 8));omega
 rw[e,e2,zrk _ (zi5 bs ts) _ _ (Nat.mod_lt _ (by omega)),show 8*(q/8)+q%8=q by omega]
theorem zo0(x y:Nat)(hx:x<256)(hy:y<256)(h:∀j,j<8->x/2^(7-j)%2=y/2^(7-j)%2):x=y:=by
 have h0:=h 0 (by omega);have h1:=h 1 (by omega);have h2:=h 2 (by omega);have h3:=h 3 (by omega);have h4:=h 4 (by omega);have h5:=h 5 (by omega);have h6:=h 6 (by omega);have h7:=h 7 (by omega);simp only[Nat.reduceSub,Nat.reducePow] at h0 h1 h2 h3 h4 h5 h6 h7;omega
theorem zpl{xs ys:List UInt8}(hl:xs.length=ys.length)(h:∀q:Nat,q<8*xs.length->bitN xs ((q:Int)+1)=bitN ys ((q:Int)+1)):xs=ys:=by
 apply List.ext_getElem hl;intro i h1 h2;apply UInt8.toNat_inj.1;refine zo0 _ _ (UInt8.toNat_lt _) (UInt8.toNat_lt _) fun j hj=>?_
 have:=h (8*i+j) (by omega);rw[zdC (by omega),zdC (by omega),show(8*i+j)/8=i by omega,show(8*i+j)%8=j by omega,za1 _ _ _ h1,za1 _ _ _ h2] at this;exact this
theorem zre{bs:List UInt8}{ts:List Int}{q:Nat}(h:q<ts.length):tb bs ts q=bitN bs (ts.getD q 0):=by unfold tb;rw[if_pos h]
theorem zlI{N:Nat}{ts:List Int}(h:IsPerm N ts):∀t ∈ ts,1<=t/\t<=N:=by
 intro t ht;obtain⟨j,hj,rfl⟩:=List.mem_iff_getElem.1 ht;have h1:=h.lo j (by have:=h.len;omega);have h2:=h.hi j (by have:=h.len;omega);rw[za1 _ _ _ hj] at h1 h2;exact⟨h1,h2⟩
theorem zhc{bs:List UInt8}{ts us:List Int}{n:Nat}(hn:bs.length=n)(ht:IsPerm (8*n) ts)(hu:IsPerm (8*n) us)(hun:Undo (8*n) ts us):za3 (za3 bs ts) us=bs:=by
 have hl:(za3 (za3 bs ts) us).length=bs.length:=by rw[zbw,hu.len];omega
 refine zpl hl fun q hq=>?_
 rw[hl,hn] at hq;rw[zfI _ _ _ (by rw[hu.len];omega),zre (by rw[hu.len];exact hq)];obtain⟨j,hj,he⟩:=ht.onto q hq;rw[(hun q j hq hj).1 he,zfI _ _ _ (by rw[ht.len];omega),zre (by rw[ht.len];exact hj),he]
theorem zue(x y:UInt8)(s:Nat):(x^^^y).toNat/2^s%2=(x.toNat/2^s%2+y.toNat/2^s%2)%2:=by
 rw[UInt8.toNat_xor,<-Nat.shiftRight_eq_div_pow,<-Nat.shiftRight_eq_div_pow,<-Nat.shiftRight_eq_div_pow,Nat.shiftRight_xor_distrib,<-nat_mask1,Nat.and_xor_distrib_right,nat_mask1,nat_mask1];have h1:=Nat.mod_lt (x.toNat>>>s) (show 0<2 by omega);have h2:=Nat.mod_lt (y.toNat>>>s) (show 0<2 by omega);generalize x.toNat>>>s%2=a at *;generalize y.toNat>>>s%2=b at *
 match a,b,h1,h2 with
 | 0,0,_,_=>rfl
 | 0,1,_,_=>rfl
 | 1,0,_,_=>rfl
 | 1,1,_,_=>rfl
theorem rl32(a n:Int)(w:World):
  Calls Tryz.prog 174 #[.int .u32 a,.int .i64 n] w fun e w'=>e=.returned (.int .u32 (zf7 a (n%32).toNat))/\w=w':=by
 have hs:=zrd n;obtain⟨s,hsn⟩:∃s:Nat,n%32=s:=⟨(n%32).toNat,by omega⟩;have hs1:s<=31:=by omega
 rw[hsn] at hs;have HS:=hid (show(n%32).toNat=s by omega);clear hsn;go_enter Tryz.func174,Tryz.ntmps174;go_wp2;go_ret;exact⟨zak (by rw[HS.out];rfl),rfl⟩
theorem zfR(a n:Int)(w:World):
  Calls Tryz.prog 141 #[.int .u32 a,.int .i64 n] w fun e w'=>e=.returned (.int .u32 (zf7 a (n%32).toNat))/\w=w':=by
 go_enter Tryz.func141,Tryz.ntmps141;go_wp2_with (go_at_call 174;refine(rl32 _ _ _).mono ?_;rintro e w' ⟨rfl,rfl⟩)
 go_ret;exact⟨rfl,rfl⟩
theorem zbp(A:Option Addr)(n c B:Nat)(bs:List UInt8)(w:World)(h:Rd w B A n bs)(hn:n<=140737488355328):
  Calls Tryz.prog 189 #[.slice A n c] w fun e w'=>e=.returned (.int .u64 (be bs n))/\w=w':=by
 go_enter Tryz.func189,Tryz.ntmps189;go_wp2;go_loop [3,8] (fun v i=>∃k:Nat,k<=n/\i=.int .i64 k/\v=.int .u64 (be bs k)) (fun _ i=>n-(intOf i).toNat)
 case atStart=>exact⟨0,Nat.zero_le _,rfl,rfl⟩
 case round =>
  obtain⟨k,hk,rfl,rfl⟩:=hrel;by_cases hlt:k<n
  ·obtain⟨b,o,rfl,hb,hc⟩:=h.at_ (by omega);have hck:=hc k hlt;have h1:=zae bs k;have h2:=zaf bs k;clear h hc;go_wp2;go_round
   case rel=>exact⟨k+1,by omega,by go_num,rfl⟩
   case measure=>simp[intOf];omega
  ·go_wp2;go_ret;obtain rfl:k=n:=by omega
   exact⟨rfl,rfl⟩
theorem zch(v:Int)(n:Nat)  (w:World)(hn:n<=8):
  Calls Tryz.prog 193 #[.int .u64 v,.int .i64 n] w (RetB w (zay v n)):=by
 go_enter Tryz.func193,Tryz.ntmps193;go_wp2_with (at_make;refine zaP rfl (.tmp 7) (.tmp 7) 22 rfl Tryz.underlying22 Tryz.info5 .i64 n n rfl rfl rfl (by omega) w.heap.size (Nat.le_refl _) ?_;intro w1 hown1 hb1 _)
 go_loopw [11] (fun i wr=>∃k:Nat,k<=n/\i=.int .i64 k/\Own wr w.heap.size (.slice (some ⟨w.heap.size,0,none⟩) n n) (zao (za6 v n) n k)/\Below w.heap.size w wr) (fun i _=>n-(intOf i).toNat)
 case atStart=>exact⟨0,Nat.zero_le _,rfl,by rw[zaG];exact hown1,hb1⟩
 case round =>
  obtain⟨k,hk,rfl,hown,hb⟩:=hrel;by_cases hlt:k<n
  ·obtain⟨cur,hcur⟩:∃cur,zao (za6 v n) n k=cur:=⟨_,rfl⟩;have hcl:cur.length=n:=by rw[<-hcur];exact zad _ _ _
   rw[hcur] at hown;have hown0:Own wr w.heap.size (.slice (some ⟨w.heap.size,0,none⟩) cur.length n) cur:=by rw[hcl];exact hown
   have hcell:=hown0.cell k (by omega);have hfree:=hown0.free k;have hset:=hown0.set_ k (za6 v n k);rw[<-hcur,zaO _ _ _ _ rfl,zad] at hset;have hval:((za6 v n k).toNat:Int)=v/2^(8*(n-1-k))%256:=by unfold za6;exact zbB _
   rw[hval] at hset;have HH:=hid hset;have HB:=hid hb;clear hset hval hown0 hown hb hcl hcur hown1 hb1;go_wp2;go_roundw
   case rel=>exact⟨k+1,by omega,by go_num,HH.out,HB.out.setCell (by simp) _⟩
   case measure=>simp[intOf];omega
  ·obtain rfl:k=n:=by omega
   have HH:=hid (And.intro hown hb);clear hown hb hown1 hb1;go_wp2;go_ret;exact⟨_,rfl,by have:=HH.out.1;rw[zaE] at this;exact this,HH.out.2⟩
theorem zcg(v:Int)(w:World)(h0:0<=v)(h1:v<4294967296):
  Calls Tryz.prog 195 #[.int .u32 v] w (RetB w (zct v)):=by
 go_enter Tryz.func195,Tryz.ntmps195;go_wp2_with (go_at_call 193;refine(zch _ 4 _ (by omega)).mono ?_;rintro e w' ⟨x,rfl,hx,hb⟩)
 go_ret;exact⟨_,rfl,by rw[<-zje];exact hx,hb⟩
def zmM(bs:List UInt8)(n:Nat):Int:=if n=8 then be bs 8 else 0
theorem zdW(A:Option Addr)(n c B:Nat)(bs:List UInt8)(w:World)(h:Rd w B A n bs)(hn:n<=140737488355328):
  Calls Tryz.prog 173 #[.slice A n c] w fun e w'=>e=.returned (.tuple #[.int .u32 (zeo bs n),.bool (isLen 4 n)])/\w=w':=by
 by_cases h4:n=4
 ·subst h4;go_enter Tryz.func173,Tryz.ntmps173;go_wp2_with (go_at_call 189;refine(zbp _ _ _ _ _ _ h hn).mono ?_;rintro e w' ⟨rfl,rfl⟩)
  go_ret2;exact⟨zcj (by have:=zev bs;unfold zeo;rw[if_pos rfl];omega) rfl,rfl⟩
 ·have h5:((n:Int) != 4)=true:=by simp;omega
  go_enter Tryz.func173,Tryz.ntmps173;go_wp2_with (go_at_call 189;refine(zbp _ _ _ _ _ _ h hn).mono ?_;rintro e w' ⟨rfl,rfl⟩)
  go_ret2;exact⟨zcj (by simp[zeo,h4]) (by simp[isLen,h4]),rfl⟩
theorem zpy(A:Option Addr)(n c B:Nat)(bs:List UInt8)(w:World)(h:Rd w B A n bs)(hn:n<=140737488355328):
  Calls Tryz.prog 222 #[.slice A n c] w fun e w'=>e=.returned (.tuple #[.int .u64 (zmM bs n),.bool (isLen 8 n)])/\w=w':=by
 by_cases h4:n=8
 ·subst h4;go_enter Tryz.func222,Tryz.ntmps222;go_wp2_with (go_at_call 189;refine(zbp _ _ _ _ _ _ h hn).mono ?_;rintro e w' ⟨rfl,rfl⟩)
  go_ret2;exact⟨zcj (by unfold zmM;rw[if_pos rfl]) rfl,rfl⟩
 ·have h5:((n:Int) != 8)=true:=by simp;omega
  go_enter Tryz.func222,Tryz.ntmps222;go_wp2_with (go_at_call 189;refine(zbp _ _ _ _ _ _ h hn).mono ?_;rintro e w' ⟨rfl,rfl⟩)
  go_ret2;exact⟨zcj (by simp[zmM,h4]) (by simp[isLen,h4]),rfl⟩
theorem zoi(A A':Option Addr)(n c c':Nat)(xs ys:List UInt8)(w:World)(h:Rd w w.heap.size A n xs)(h':Rd w w.heap.size A' n ys)(hn:n<=140737488355328):
  Calls Tryz.prog 44 #[.slice A n c,.slice A' n c'] w fun e w'=>∃v,e=.returned (.tuple #[v,.bool true])/\Own w' w.heap.size v (xorL xs ys n)/\Below w.heap.size w w':=by
 go_enter Tryz.func44,Tryz.ntmps44;go_wp2_with (at_make;refine zaP rfl (.tmp 15) (.tmp 15) 22 rfl Tryz.underlying22 Tryz.info5 .i64 n n rfl rfl rfl (by omega) w.heap.size (Nat.le_refl _) ?_;intro w1 hown1 hb1 _)
 go_loopw [19] (fun i wr=>∃k:Nat,k<=n/\i=.int .i64 k/\Own wr w.heap.size (.slice (some ⟨w.heap.size,0,none⟩) n n) (zao (xorF xs ys) n k)/\Below w.heap.size w wr) (fun i _=>n-(intOf i).toNat)
 case atStart=>exact⟨0,Nat.zero_le _,rfl,by rw[zaG];exact hown1,hb1⟩
 case round =>
  obtain⟨k,hk,rfl,hown,hb⟩:=hrel;by_cases hlt:k<n
  ·obtain⟨b1,o1,rfl,hb1',hc1⟩:=(h.below hb (Nat.le_refl _)).at_ (by omega);obtain⟨b2,o2,rfl,hb2',hc2⟩:=(h'.below hb (Nat.le_refl _)).at_ (by omega);have hck1:=hc1 k hlt;have hck2:=hc2 k hlt;have r1:=zae xs k;have r2:=zaf xs k;have r3:=zae ys k;have r4:=zaf ys k;obtain⟨cur,hcur⟩:∃cur,zao (xorF xs ys) n k=cur:=⟨_,rfl⟩;have hcl:cur.length=n:=by rw[<-hcur];exact zad _ _ _
   rw[hcur] at hown;have hown0:Own wr w.heap.size (.slice (some ⟨w.heap.size,0,none⟩) cur.length n) cur:=by rw[hcl];exact hown
   have hcell:=hown0.cell k (by omega);have hfree:=hown0.free k;have hset:=hown0.set_ k (xorF xs ys k);rw[<-hcur,zaO _ _ _ _ rfl,zad] at hset;rw[zhv] at hset;have HH:=hid hset;have HB:=hid hb;clear hset hown0 hown hb hcl hcur hown1 hb1 h h' hc1 hc2;go_wp2;go_roundw
   case rel=>exact⟨k+1,by omega,by go_num,HH.out,HB.out.setCell (by simp) _⟩
   case measure=>simp[intOf];omega
  ·obtain rfl:k=n:=by omega
   have HH:=hid (And.intro hown hb);clear hown hb hown1 hb1;go_wp2;go_ret2;exact⟨_,rfl,by have:=HH.out.1;rw[zaE] at this;exact this,HH.out.2⟩
def fall(first rise:Int):Nat->Int
 | 0=>first
 | k+1=>if 8<fall first rise k then fall first rise k-8 else fall first rise k+rise
def zcl(first rise:Int)(n:Nat):List Int:=(List.range n).map (fall first rise)
def c1L:List Int:=zcl 57 57 28++zcl 63 55 24++[28,20,12,4]
def c2L:List Int:=[14,17,11,24,1,5,3,28,15,6,21,10,23,19,12,4,26,8,16,7,27,20,13,2,41,52,31,37,47,55,30,40,51,45,33,48,44,49,39,56,34,53,46,42,50,36,29,32]
def mxL:List Int:=[16,7,20,21,29,12,28,17,1,15,23,26,5,18,31,10,2,8,24,14,32,27,3,9,19,13,30,6,22,11,4,25]
def ipH:List Int:=[58,60,62,64,57,59,61,63]
def ipF(q:Nat):Int:=ipH.getD (q/8) 0-8*((q%8:Nat):Int)
def ipN(k:Nat):List Int:=(List.range k).map ipF
def ipL:List Int:=ipN 64
def eF(q:Nat):Int:=(((4*(q/6)+q%6+31)%32+1:Nat):Int)
def eN(k:Nat):List Int:=(List.range k).map eF
def eL:List Int:=eN 48
def ipU:List Int:=((invG ipL 64 64).getD [])
def rotL(l:List Int)(k:Nat):List Int:=l.drop k++l.take k
def rotB(l:List Int)(k:Nat):List Int:=rotL (l.take 28) k++rotL (l.drop 28) k
def byOf(i:Nat):Nat:=if i=0\/i=1\/i=8\/i=15 then 1 else 2
def tabP:Nat->List Int
 | 0=>c1L
 | i+1=>rotB (tabP i) (byOf i)
def keyF(key:List UInt8)(i:Nat):List UInt8:=za3 (za3 key (tabP (i+1))) c2L
structure BT where
 v:Nat->Nat->Nat
 lt:∀i r,v i r<18446744073709551616
def boxW[Inhabited BT](i r:Nat):Nat:=(default:BT).v i r
def sN[Inhabited BT](i six:Nat):Nat:=boxW i (2*(six/32)+six%2)/2^(60-4*(six/2%16))%16
def sixG(x:List UInt8)(i:Nat):Nat->Nat
 | 0=>0
 | j+1=>2*sixG x i j+bitN x ((6*i+j:Nat)+1)
def six(x:List UInt8)(i:Nat):Nat:=sixG x i 6
def fx(r k:List UInt8):List UInt8:=xorL (za3 r eL) k 6
def zj2[Inhabited BT](x:List UInt8)(p:Nat):UInt8:=UInt8.ofNat (16*sN (2*p) (six x (2*p))+sN (2*p+1) (six x (2*p+1)))
def zl3[Inhabited BT](x:List UInt8):List UInt8:=(List.range 4).map (zj2 x)
def fL[Inhabited BT](r k:List UInt8):List UInt8:=za3 (zl3 (fx r k)) mxL
def feL[Inhabited BT](kf:Nat->List UInt8)(l r:List UInt8):Nat->List UInt8×List UInt8
 | 0=>(l,r)
 | i+1=>((feL kf l r i).2,xorL (feL kf l r i).1 (fL (feL kf l r i).2 (kf i)) 4)
def zbe[Inhabited BT](kf:Nat->List UInt8)(b:List UInt8):List UInt8 :=
 za3 ((feL kf ((za3 b ipL).take 4) ((za3 b ipL).drop 4) 16).2++(feL kf ((za3 b ipL).take 4) ((za3 b ipL).drop 4) 16).1) ipU
def place(i n:Nat)(back:Bool):Nat:=if back then n-1-i else i
def dirF(kf:Nat->List UInt8)(back:Bool)(i:Nat):List UInt8:=kf (place i 16 back)
def blkG[Inhabited BT](m:Nat)(kf:Nat->Nat->List UInt8)(back:Bool)(b:List UInt8):Nat->List UInt8
 | 0=>b
 | i+1=>zbe (dirF (kf (place i m back)) (back != decide (place i m back=1))) (blkG m kf back b i)
def zaF[Inhabited BT](m:Nat)(kf:Nat->Nat->List UInt8)(back:Bool)(b:List UInt8):List UInt8:=blkG m kf back b m
theorem zqf:c1L = [57,49,41,33,25,17,9,1,58,50,42,34,26,18,10,2,59,51,43,35,27,19,11,3,60,52,44,36,63,55,47,39,31,23,15,7,62,54,46,38,30,22,14,6,61,53,45,37,29,21,13,5,28,20,12,4]:=by decide +kernel
theorem zh:c1L.length=56:=by rw[zqf];rfl
theorem zki(l:List Int)(k:Nat)(h:k<=l.length):(rotL l k).length=l.length:=by simp[rotL];omega
theorem zpP(l:List Int)(k:Nat)(h:l.length=56)(hk:k<=28):(rotB l k).length=56:=by
 simp[rotB,rotL];omega
theorem zhy(i:Nat):byOf i<=2:=by unfold byOf;split<;>omega
theorem zlk:∀i,(tabP i).length=56
 | 0=>zh
 | i+1=>zpP _ _ (zlk i) (by have:=zhy i;omega)
theorem zkO{l:List Int}{k:Nat}{t:Int}(h:t ∈ rotL l k):t ∈ l:=by
 unfold rotL at h;rcases List.mem_append.1 h with h|h
 ·exact List.mem_of_mem_drop h
 ·exact List.mem_of_mem_take h
theorem zfA:∀i t,t ∈ tabP i->t ∈ c1L
 | 0,t,h=>h
 | i+1,t,h=>by
   apply zfA i;rcases List.mem_append.1 (show t ∈ rotL ((tabP i).take 28) _++rotL ((tabP i).drop 28) _ from h) with h|h
   ·exact List.mem_of_mem_take (zkO h)
   ·exact List.mem_of_mem_drop (zkO h)
theorem zl7:∀t ∈ c1L,1<=t/\t<=63/\t%8≠0:=by rw[zqf];decide
theorem zq5:∀t ∈ c2L,1<=t/\t<=56:=by decide
theorem zuh:∀t ∈ mxL,1<=t/\t<=32:=by decide
theorem zh9(k:Nat):(ipN k).length=k:=by simp[ipN]
theorem zkY(k:Nat):(eN k).length=k:=by simp[eN]
theorem ztJ:∀t ∈ ipL,1<=t/\t<=64:=by decide +kernel
theorem zh6:IsPerm 64 ipL:=by
 have h:∀i,i<64->∀j,j<64->ipL.getD i 0=ipL.getD j 0->i=j:=by decide +kernel
 exact⟨by decide +kernel,by decide +kernel,by decide +kernel,fun i j hi hj e=>h i hi j hj e,by decide +kernel⟩
theorem zqA:invG ipL 64 64=some ipU:=by
 obtain⟨us,hu,_⟩:=zk0 zh6;unfold ipU;rw[hu];rfl
theorem zcR:IsPerm 64 ipU/\Undo 64 ipL ipU:=by
 obtain⟨us,hu,h1,h2⟩:=zk0 zh6;rw[zqA] at hu;cases hu
 exact⟨h1,h2⟩
theorem zn1(i:Nat):okT 8 (tabP i)=true:=zjd fun t ht=>by have:=zl7 t (zfA i t ht);omega
theorem zsY:okT 7 c2L=true:=zjd fun t ht=>by have:=zq5 t ht;omega
theorem zuZ:okT 4 mxL=true:=zjd fun t ht=>by have:=zuh t ht;omega
theorem zu4:okT 8 ipL=true:=zjd fun t ht=>by have:=ztJ t ht;omega
theorem zsO:okT 8 ipU=true:=zcR.1.ok rfl
theorem zhz(bs:List UInt8)(ts:List Int)(n:Nat)(h:ts.length=n):(za3 bs ts).length=(n+7)/8:=by rw[zbw,h]
theorem zfy(key:List UInt8)(i:Nat):(keyF key i).length=6:=by unfold keyF;rw[zbw];rfl
theorem zmX[Inhabited BT](x:List UInt8):(zl3 x).length=4:=by simp[zl3]
theorem zgK[Inhabited BT](i s:Nat):sN i s<16:=Nat.mod_lt _ (by omega)
theorem zmZ(x:List UInt8)(i:Nat):∀j,sixG x i j<2^j
 | 0=>by simp[sixG]
 | j+1=>by have h1:=zmZ x i j;have h2:=zcC x ((6*i+j:Nat)+1);rw[sixG,Nat.pow_succ];omega
theorem zqj(x:List UInt8)(i:Nat):six x i<64:=zmZ x i 6
theorem zh0[Inhabited BT](kf:Nat->List UInt8){l r:List UInt8}(hl:l.length=4)(hr:r.length=4):∀i,(feL kf l r i).1.length=4/\(feL kf l r i).2.length=4
 | 0=>⟨hl,hr⟩
 | i+1=>⟨(zh0 kf hl hr i).2,zar _ _ _⟩
theorem zdE[Inhabited BT](kf:Nat->List UInt8)(b:List UInt8):(zbe kf b).length=8:=by
 unfold zbe;rw[zbw,zcR.1.len]
theorem zpn[Inhabited BT](m:Nat)(kf:Nat->Nat->List UInt8)(back:Bool)(b:List UInt8)(hb:b.length=8):∀i,(blkG m kf back b i).length=8
 | 0=>hb
 | _+1=>zdE _ _
def RowsB(w:World)(b o:Nat)(ls:List (List UInt8)):Prop :=
 ∀i,i<ls.length->∃A c,w.cell? ⟨b,o+i,none⟩=some (.slice A (ls.getD i []).length c)/\Rd w w.heap.size A (ls.getD i []).length (ls.getD i [])
theorem RowsB.later{w w':World}{b o:Nat}{ls:List (List UInt8)}(h:RowsB w b o ls)(hx:Ext w w'):RowsB w' b o ls:=fun i hi=>by
 obtain⟨A,c,h1,h2⟩:=h i hi;exact⟨A,c,(Below.cell hx (p:=⟨b,o+i,none⟩) (World.block_lt_of_cell? w _ h1)).trans h1,h2.later hx⟩
def RowsN(w:World)(b o:Nat)(ls:List (List Int)):Prop :=
 ∀i,i<ls.length->∃A c,w.cell? ⟨b,o+i,none⟩=some (.slice A (ls.getD i []).length c)/\RdN .i64 w w.heap.size A (ls.getD i []).length (ls.getD i [])
theorem RowsN.later{w w':World}{b o:Nat}{ls:List (List Int)}(h:RowsN w b o ls)(hx:Ext w w'):RowsN w' b o ls:=fun i hi=>by
 obtain⟨A,c,h1,h2⟩:=h i hi;exact⟨A,c,(Below.cell hx (p:=⟨b,o+i,none⟩) (World.block_lt_of_cell? w _ h1)).trans h1,h2.later hx⟩
theorem zb5{α:Type}(ls:List (List α))(k:Nat)(h:k<ls.length):(ls.take (k+1)).flatten=(ls.take k).flatten++ls.getD k []:=by
 rw[List.take_succ_eq_append_getElem h,List.flatten_append,za1 _ _ _ h];simp
theorem zbr{α:Type}(ls:List (List α))(k:Nat)(h:k<ls.length):zbI ls (k+1)=zbI ls k+(ls.getD k []).length:=by
 unfold zbI;rw[zb5 ls k h,List.length_append]
theorem cell_of_heap{w:World}{g i:Nat}{cs:Array Value}{e:TypeId}{f:Nat×Nat}(h:w.heap[g]? = some (.cells cs e f)):w.cell? ⟨g,i,none⟩=cs[i]?:=by simp[World.cell?,h]
theorem zbC(w:World)(vs:List Value)(e:TypeId)(i:Nat)(v:Value)(h:vs[i]? = some v):(w.alloc (.cells vs.toArray e)).cell? ⟨w.heap.size,0+i,none⟩=some v:=by
 rw[Nat.zero_add,cell_of_heap (heap_alloc_new w (.cells vs.toArray e))];simpa using h
theorem RowsB.lit(w:World)(vs:List Value)(e:TypeId)(ls:List (List UInt8))(h:∀i,i<ls.length->∃A c,vs[i]? = some (.slice A (ls.getD i []).length c)/\Rd w w.heap.size A (ls.getD i []).length (ls.getD i [])):
  RowsB (w.alloc (.cells vs.toArray e)) w.heap.size 0 ls:=fun i hi=>by
 obtain⟨A,c,h1,h2⟩:=h i hi;exact⟨A,c,zbC w vs e i _ h1,h2.later (Ext.alloc _ _)⟩
theorem RowsN.lit(w:World)(vs:List Value)(e:TypeId)(ls:List (List Int))(h:∀i,i<ls.length->∃A c,vs[i]? = some (.slice A (ls.getD i []).length c)/\RdN .i64 w w.heap.size A (ls.getD i []).length (ls.getD i [])):
  RowsN (w.alloc (.cells vs.toArray e)) w.heap.size 0 ls:=fun i hi=>by
 obtain⟨A,c,h1,h2⟩:=h i hi;exact⟨A,c,zbC w vs e i _ h1,h2.later (Ext.alloc _ _)⟩
theorem RowsB.two(w:World)(A1 A2:Option Addr)(n1 n2 c1 c2:Nat)(e:TypeId)(xs ys:List UInt8)(h1:Rd w w.heap.size A1 n1 xs)(h2:Rd w w.heap.size A2 n2 ys):
  RowsB (w.alloc (.cells #[.slice A1 n1 c1,.slice A2 n2 c2] e)) w.heap.size 0 [xs,ys]:=by
 have e1:=h1.len;have e2:=h2.len;subst e1 e2;refine RowsB.lit w [.slice A1 xs.length c1,.slice A2 ys.length c2] e [xs,ys] fun i hi=>?_
 match i,hi with
 | 0,_=>exact⟨A1,c1,rfl,h1⟩
 | 1,_=>exact⟨A2,c2,rfl,h2⟩
theorem RowsN.two(w:World)(A1 A2:Option Addr)(n1 n2 c1 c2:Nat)(e:TypeId)(xs ys:List Int)(h1:RdN .i64 w w.heap.size A1 n1 xs)(h2:RdN .i64 w w.heap.size A2 n2 ys):
  RowsN (w.alloc (.cells #[.slice A1 n1 c1,.slice A2 n2 c2] e)) w.heap.size 0 [xs,ys]:=by
 have e1:=h1.len;have e2:=h2.len;subst e1 e2;refine RowsN.lit w [.slice A1 xs.length c1,.slice A2 ys.length c2] e [xs,ys] fun i hi=>?_
 match i,hi with
 | 0,_=>exact⟨A1,c1,rfl,h1⟩
 | 1,_=>exact⟨A2,c2,rfl,h2⟩
theorem RowsN.three(w:World)(A1 A2 A3:Option Addr)(n1 n2 n3 c1 c2 c3:Nat)(e:TypeId)(xs ys zs:List Int)(h1:RdN .i64 w w.heap.size A1 n1 xs)(h2:RdN .i64 w w.heap.size A2 n2 ys)(h3:RdN .i64 w w.heap.size A3 n3 zs):
  RowsN (w.alloc (.cells #[.slice A1 n1 c1,.slice A2 n2 c2,.slice A3 n3 c3] e)) w.heap.size 0 [xs,ys,zs]:=by
 have e1:=h1.len;have e2:=h2.len;have e3:=h3.len;subst e1 e2 e3;refine RowsN.lit w [.slice A1 xs.length c1,.slice A2 ys.length c2,.slice A3 zs.length c3] e [xs,ys,zs] fun i hi=>?_
 match i,hi with
 | 0,_=>exact⟨A1,c1,rfl,h1⟩
 | 1,_=>exact⟨A2,c2,rfl,h2⟩
 | 2,_=>exact⟨A3,c3,rfl,h3⟩
theorem zdN(n:Nat)(w:World)(h0:0<n)(hn:n<=1000):
  Calls Tryz.prog 69 #[.slice none 0 0,.int .i64 n] w fun e w'=>∃v,e=.returned v/\Own w' w.heap.size v []/\Below w.heap.size w w':=by
 obtain⟨i0,hi0,hz0,hz1,hz2⟩:=info_parts Tryz.info5;have hr:=fun ty=>Lib.run_append_nil_zeros (P:=Tryz.prog) w 22 3 ty 5 i0 (.int .u8 0) .i64 .i64 Tryz.underlying22 Tryz.underlying3 hi0 hz0 n h0 (by omega) (by omega) (by rw[hz2];omega)
 have hc1:=grownCap_ge w n 0 5;have hc2:=grownCap_le_maxLen w n 0 5 (by unfold maxLen;omega);obtain⟨G,hG⟩:∃G,G=grownCap w n 0 5:=⟨_,rfl⟩;rw[<-hG] at hc1 hc2 hr;have hown:Own (w.drew.alloc (.cells (Builtin.zeroCells (Value.int .u8 0).cells n++Builtin.zeroCells (Value.int .u8 0).cells (G-n)) 5)) w.heap.size (.slice (some ⟨w.heap.size,0,none⟩) 0 G) [] :=
  World.ownsRow_made (w:=w.drew) (e:=5) (size:=1) _ G (Nat.le_refl _) hc2 (by have e1:(Value.int .u8 0).cells.size=1:=rfl;simp[Builtin.zeroCells,e1];omega)
 have hb:Below w.heap.size w (w.drew.alloc (.cells (Builtin.zeroCells (Value.int .u8 0).cells n++Builtin.zeroCells (Value.int .u8 0).cells (G-n)) 5)):=(Ext.drew1 w).trans (Ext.alloc _ _);have HO:=hid hown;have HB:=hid hb;unfold maxLen at hc2;clear hown hb hG hi0 hz0 hz1 hz2;go_enter Tryz.func69,Tryz.ntmps69;go_wp2_with (at_builtin;refine Lib.wpList_append_run _ rfl _ _ _ _ rfl _ _ rfl rfl _ _ (hr _) ?_)
 go_ret;exact⟨_,rfl,HO.out,HB.out⟩
theorem zcc(b o m c:Nat)(ls:List (List UInt8))(w:World)(hm:m=ls.length)(h:RowsB w b o ls)(h0:0<ls.flatten.length)(hl:ls.flatten.length<=1000)(hm2:m<=1000):
  Calls Tryz.prog 45 #[.slice (some ⟨b,o,none⟩) m c] w fun e w'=>∃v,e=.returned v/\Own w' w.heap.size v ls.flatten/\Below w.heap.size w w':=by
 go_enter Tryz.func45,Tryz.ntmps45;go_wp2_with fail
 go_loopw [3,11] (fun s i wr=>∃k:Nat,k<=m/\i=.int .i64 k/\s=.int .i64 (zbI ls k:Nat)/\Ext w wr) (fun _ i _=>m-(intOf i).toNat)
 case atStart=>exact⟨0,Nat.zero_le _,rfl,rfl,Below.refl _ _⟩
 case round =>
  obtain⟨k,hk,rfl,rfl,hx⟩:=hrel;by_cases hlt:k<m
  ·obtain⟨A,c1,hc,hrd⟩:=(h.later hx) k (by omega);have hs:=zbr ls k (by omega);have hle:=zcS ls k (by omega);obtain⟨S,hS⟩:∃S,zbI ls k=S:=⟨_,rfl⟩;obtain⟨L,hL⟩:∃L,(ls.getD k []).length=L:=⟨_,rfl⟩;obtain⟨S2,hS2⟩:∃S2,zbI ls (k+1)=S2:=⟨_,rfl⟩;rw[hL] at hc hs;rw[hS] at hs ⊢;rw[hS2] at hs hle;have HX:=hid hx;have HS2:=hid hS2;clear hL hS hS2 hrd hx h;go_wp2_with fail
   go_roundw
   case rel=>exact⟨k+1,by omega,by go_num,by rw[HS2.out,hs];go_num,HX.out⟩
   case measure=>simp[intOf];omega
  ·obtain rfl:k=m:=by omega
   have hall:zbI ls k=ls.flatten.length:=by rw[hm];exact zes ls
   rw[hall];obtain⟨T,hT⟩:∃T,ls.flatten.length=T:=⟨_,rfl⟩;rw[hT] at h0 hl ⊢;have HX:=hid hx;clear hx hall;have h1000:(T:Int)<=1000:=by omega
   go_wp2_with (go_at_call 69;refine(zdN _ _ h0 hl).mono ?_;rintro e w1 ⟨v1,rfl,hown1,hb1⟩)
   have HX1:=hid (Ext.trans HX.out hb1);have hown1:Own w1 w.heap.size v1 []:=hown1.base_mono (Below.size HX.out);clear HX hb1;go_wp2_with fail
   go_loopw [6,27] (fun v i wr=>∃j:Nat,j<=k/\i=.int .i64 j/\Own wr w.heap.size v (ls.take j).flatten/\Below w.heap.size w wr) (fun _ i _=>k-(intOf i).toNat)
   case atStart=>exact⟨0,Nat.zero_le _,rfl,by simpa using hown1,HX1.out⟩
   case round =>
    clear hown1 HX1;obtain⟨j,hj,rfl,hown,hb⟩:=hrel;by_cases hjt:j<k
    ·obtain⟨A,c1,hc,hrd⟩:=(h.later hb) j (by omega);have hle:=zcS ls j (by omega);have hss:=zbr ls j (by omega);have ht:=zb5 ls j (by omega);obtain⟨L,hL⟩:∃L,ls.getD j []=L:=⟨_,rfl⟩;rw[hL] at hc hrd hss ht;have hsz:=hb.size;have HB:=hid hb;have HT:=hid ht;have hxl:(ls.take j).flatten.length=zbI ls j:=rfl;obtain⟨X,hX⟩:∃X,(ls.take j).flatten=X:=⟨_,rfl⟩;rw[hX] at hown hxl;have HXX:=hid hX;obtain⟨M,hM⟩:∃M,L.length=M:=⟨_,rfl⟩;rw[hM] at hc hrd hss;rw[hT] at hle;clear hb ht hX h hL;go_wp2_with (at_builtin;refine za9 _ rfl (.tmp 31) (.tmp 32) 22 rfl Tryz.underlying22 Tryz.info5 w.heap.size _ X rfl hown _ A M c1 L rfl hrd (by omega) (by omega) ?_;intro v2 w2 hown2 hb2)
     have HO2:=hid hown2;have HB2:=hid (HB.out.trans hb2);clear hown2 hb2;go_roundw
     case rel=>exact⟨j+1,by omega,by go_num,by rw[HT.out,HXX.out];exact HO2.out,HB2.out⟩
     case measure=>simp[intOf];omega
    ·obtain rfl:j=k:=by omega
     have e:ls.take j=ls:=by rw[hm,List.take_length]
     rw[e] at hown;have HO:=hid hown;have HB:=hid hb;clear hown hb e;go_wp2_with fail
     go_ret;exact⟨_,rfl,HO.out,HB.out⟩
theorem zn7(n:Nat)(w:World)(h0:0<n)(hn:n<=1000):
  Calls Tryz.prog 177 #[.slice none 0 0,.int .i64 n] w fun e w'=>∃v,e=.returned v/\OwnN .i64 3 w' w.heap.size v []/\Below w.heap.size w w':=by
 obtain⟨i0,hi0,hz0,hz1,hz2⟩:=info_parts Tryz.info3;have hr:=fun ty=>Lib.run_append_nil_zeros (P:=Tryz.prog) w 38 3 ty 3 i0 (.int .i64 0) .i64 .i64 Tryz.underlying38 Tryz.underlying3 hi0 hz0 n h0 (by omega) (by omega) (by rw[hz2];omega)
 have hc1:=grownCap_ge w n 0 3;have hc2:=grownCap_le_maxLen w n 0 3 (by unfold maxLen;omega);obtain⟨G,hG⟩:∃G,G=grownCap w n 0 3:=⟨_,rfl⟩;rw[<-hG] at hc1 hc2 hr;have hown:OwnN .i64 3 (w.drew.alloc (.cells (Builtin.zeroCells (Value.int .i64 0).cells n++Builtin.zeroCells (Value.int .i64 0).cells (G-n)) 3)) w.heap.size (.slice (some ⟨w.heap.size,0,none⟩) 0 G) [] :=
  World.ownsRow_made (w:=w.drew) (e:=3) (size:=1) _ G (Nat.le_refl _) hc2 (by have e1:(Value.int .i64 0).cells.size=1:=rfl;simp[Builtin.zeroCells,e1];omega)
 have hb:Below w.heap.size w (w.drew.alloc (.cells (Builtin.zeroCells (Value.int .i64 0).cells n++Builtin.zeroCells (Value.int .i64 0).cells (G-n)) 3)):=(Ext.drew1 w).trans (Ext.alloc _ _);have HO:=hid hown;have HB:=hid hb;unfold maxLen at hc2;clear hown hb hG hi0 hz0 hz1 hz2;go_enter Tryz.func177,Tryz.ntmps177;go_wp2_with (at_builtin;refine Lib.wpList_append_run _ rfl _ _ _ _ rfl _ _ rfl rfl _ _ (hr _) ?_)
 go_ret;exact⟨_,rfl,HO.out,HB.out⟩
theorem zgj(b o m c:Nat)(ls:List (List Int))(w:World)(hm:m=ls.length)(h:RowsN w b o ls)(h0:0<ls.flatten.length)(hl:ls.flatten.length<=1000)(hm2:m<=1000):
  Calls Tryz.prog 158 #[.slice (some ⟨b,o,none⟩) m c] w fun e w'=>∃v,e=.returned v/\OwnN .i64 3 w' w.heap.size v ls.flatten/\Below w.heap.size w w':=by
 go_enter Tryz.func158,Tryz.ntmps158;go_wp2_with fail
 go_loopw [3,11] (fun s i wr=>∃k:Nat,k<=m/\i=.int .i64 k/\s=.int .i64 (zbI ls k:Nat)/\Ext w wr) (fun _ i _=>m-(intOf i).toNat)
 case atStart=>exact⟨0,Nat.zero_le _,rfl,rfl,Below.refl _ _⟩
 case round =>
  obtain⟨k,hk,rfl,rfl,hx⟩:=hrel;by_cases hlt:k<m
  ·obtain⟨A,c1,hc,hrd⟩:=(h.later hx) k (by omega);have hs:=zbr ls k (by omega);have hle:=zcS ls k (by omega);obtain⟨S,hS⟩:∃S,zbI ls k=S:=⟨_,rfl⟩;obtain⟨L,hL⟩:∃L,(ls.getD k []).length=L:=⟨_,rfl⟩;obtain⟨S2,hS2⟩:∃S2,zbI ls (k+1)=S2:=⟨_,rfl⟩;rw[hL] at hc hs;rw[hS] at hs ⊢;rw[hS2] at hs hle;have HX:=hid hx;have HS2:=hid hS2;clear hL hS hS2 hrd hx h;go_wp2_with fail
   go_roundw
   case rel=>exact⟨k+1,by omega,by go_num,by rw[HS2.out,hs];go_num,HX.out⟩
   case measure=>simp[intOf];omega
  ·obtain rfl:k=m:=by omega
   have hall:zbI ls k=ls.flatten.length:=by rw[hm];exact zes ls
   rw[hall];obtain⟨T,hT⟩:∃T,ls.flatten.length=T:=⟨_,rfl⟩;rw[hT] at h0 hl ⊢;have HX:=hid hx;clear hx hall;have h1000:(T:Int)<=1000:=by omega
   go_wp2_with (go_at_call 177;refine(zn7 _ _ h0 hl).mono ?_;rintro e w1 ⟨v1,rfl,hown1,hb1⟩)
   have HX1:=hid (Ext.trans HX.out hb1);have hown1:OwnN .i64 3 w1 w.heap.size v1 []:=hown1.base_mono (Below.size HX.out);clear HX hb1;go_wp2_with fail
   go_loopw [6,27] (fun v i wr=>∃j:Nat,j<=k/\i=.int .i64 j/\OwnN .i64 3 wr w.heap.size v (ls.take j).flatten/\Below w.heap.size w wr) (fun _ i _=>k-(intOf i).toNat)
   case atStart=>exact⟨0,Nat.zero_le _,rfl,by simpa using hown1,HX1.out⟩
   case round =>
    clear hown1 HX1;obtain⟨j,hj,rfl,hown,hb⟩:=hrel;by_cases hjt:j<k
    ·obtain⟨A,c1,hc,hrd⟩:=(h.later hb) j (by omega);have hle:=zcS ls j (by omega);have hss:=zbr ls j (by omega);have ht:=zb5 ls j (by omega);obtain⟨L,hL⟩:∃L,ls.getD j []=L:=⟨_,rfl⟩;rw[hL] at hc hrd hss ht;have hsz:=hb.size;have HB:=hid hb;have HT:=hid ht;have hxl:(ls.take j).flatten.length=zbI ls j:=rfl;obtain⟨X,hX⟩:∃X,(ls.take j).flatten=X:=⟨_,rfl⟩;rw[hX] at hown hxl;have HXX:=hid hX;obtain⟨M,hM⟩:∃M,L.length=M:=⟨_,rfl⟩;rw[hM] at hc hrd hss;rw[hT] at hle;clear hb ht hX h hL;go_wp2_with (at_builtin;refine zaw _ rfl (.tmp 31) (.tmp 32) 38 rfl Tryz.underlying38 8 Tryz.info3 w.heap.size _ X rfl hown _ A M c1 L rfl hrd (by omega) (by unfold maxLen;omega) (by omega) ?_;intro v2 w2 hown2 hb2)
     have HO2:=hid hown2;have HB2:=hid (HB.out.trans hb2);clear hown2 hb2;go_roundw
     case rel=>exact⟨j+1,by omega,by go_num,by rw[HT.out,HXX.out];exact HO2.out,HB2.out⟩
     case measure=>simp[intOf];omega
    ·obtain rfl:j=k:=by omega
     have e:ls.take j=ls:=by rw[hm,List.take_length]
     rw[e] at hown;have HO:=hid hown;have HB:=hid hb;clear hown hb e;go_wp2_with fail
     go_ret;exact⟨_,rfl,HO.out,HB.out⟩
theorem zsM{x:Int}(h0 : -9223372036854775808<=x)(h1:x<=9223372036854775807):(Lit.int .i64 x).wf=true:=by
 simp[Lit.wf,IntKind.min,IntKind.max,IntKind.bits,IntKind.signed];omega
def Tab(w:World)(A:Option Addr)(n c:Nat)(ts:List Int):Prop :=
 RdN .i64 w w.heap.size A n ts/\n<=c/\n<=1000/\∀j,j<n->(Lit.int .i64 (ts.getD j 0)).wf=true
theorem Tab.later{w w':World}{A:Option Addr}{n c:Nat}{ts:List Int}(h:Tab w A n c ts)(hx:Ext w w'):Tab w' A n c ts:=⟨h.1.later hx,h.2⟩
theorem ze{ts:List Int}{P:Int->Prop}(h:∀t ∈ ts,P t){j:Nat}(hj:j<ts.length):P (ts.getD j 0):=by
 apply h;simp[List.getD,List.getElem?_eq_getElem hj]
theorem znS{w:World}{base:Nat}{v:Value}{xs:List Int}{n:Nat}(h:OwnN .i64 3 w base v xs)(hl:xs.length=n)(hn:n<=1000)(hb:∀t ∈ xs,1<=t/\t<=1000):
  ∃A c,v=.slice A n c/\Tab w A n c xs:=by
 obtain⟨A,c,rfl,hc,hr,_⟩:=h.rdc hl;refine⟨A,c,rfl,hr,hc,hn,fun j hj=>?_⟩;have:=ze hb (j:=j) (by omega);exact zsM (by omega) (by omega)
def zg7(w:World)(n:Nat)(ts:List Int)(e:Ending)(w':World):Prop:=∃A c,e=.returned (.slice A n c)/\Tab w' A n c ts/\Ext w w'
theorem zgy{w w':World}{v:Value}{xs:List Int}{n:Nat}(h:OwnN .i64 3 w' w.heap.size v xs)(hx:Ext w w')(hl:xs.length=n)(hn:n<=1000)(hb:∀t ∈ xs,1<=t/\t<=1000):
  zg7 w n xs (.returned v) w':=by
 obtain⟨A,c,rfl,ht⟩:=znS h hl hn hb;exact⟨A,c,rfl,ht,hx⟩
def zuq(w:World)(n:Nat)(bs:List UInt8)(e:Ending)(w':World):Prop:=∃A c,e=.returned (.slice A n c)/\(n<=c/\c<=9223372036854775807)/\Rd w' w'.heap.size A n bs/\Ext w w'
theorem ztn{w w':World}{v:Value}{bs:List UInt8}{n:Nat}(h:Own w' w.heap.size v bs)(hx:Ext w w')(hl:bs.length=n):zuq w n bs (.returned v) w':=by
 obtain⟨A,c,rfl,hc,hr,_⟩:=h.rdcb hl;exact⟨A,c,rfl,hc,hr,hx⟩
theorem zmH(A A':Option Addr)(n m c c':Nat)(bs:List UInt8)(ts:List Int)(M:Nat)(w:World)(h:Rd w w.heap.size A n bs)(ht:Tab w A' m c' ts)(hok:okT n ts=true)(hM:(m+7)/8=M):
  Calls Tryz.prog 123 #[.slice A n c,.slice A' m c'] w (fun e w'=>∃A c,e=.returned (.tuple #[.slice A M c,.bool true])/\(M<=c/\c<=9223372036854775807)/\Rd w' w'.heap.size A M (za3 bs ts)/\Ext w w'/\Fr w.heap.size A):=by
 refine(zlf A A' n m c c' bs ts w h ht.1 (by have:=ht.2.2.1;omega) ht.2.1 ht.2.2.2).mono ?_;unfold zgh;rw[h.len,hok];rintro e w' ⟨v,rfl,ho,hb⟩;obtain⟨A2,c2,rfl,hc,hr,hf⟩:=ho.rdf (n:=M) (by rw[zbw,ht.1.len];exact hM);exact⟨A2,c2,rfl,hc,hr,hb,hf⟩
theorem zjM(A A':Option Addr)(n m c c':Nat)(bs:List UInt8)(ts:List Int)(M:Nat)(w:World)(h:Rd w w.heap.size A n bs)(ht:Tab w A' m c' ts)(hok:okT n ts=true)(hM:(m+7)/8=M):
  Calls Tryz.prog 123 #[.slice A n c,.slice A' m c'] w (fun e w'=>∃A c,e=.returned (.tuple #[.slice A M c,.bool true])/\(M<=c/\c<=9223372036854775807)/\Rd w' w'.heap.size A M (za3 bs ts)/\Ext w w') :=
 (zmH A A' n m c c' bs ts M w h ht hok hM).mono fun _ _ ⟨A,c,e,hc,hr,hx,_⟩=>⟨A,c,e,hc,hr,hx⟩
theorem zva(A A':Option Addr)(n m c c':Nat)(bs:List UInt8)(ts:List Int)(M:Nat)(w:World)(h:Rd w w.heap.size A n bs)(hn:n<=1000000)(ht:Tab w A' m c' ts)(hok:okT n ts=true)(hM:(m+7)/8=M):
  Calls Tryz.prog 99 #[.slice A n c,.slice A' m c'] w (zuq w M (za3 bs ts)):=by
 have hl:=h.len;have hml:=ht.1.len;go_enter Tryz.func99,Tryz.ntmps99;go_wp2_with fail
 refine(ziY A A' n m c c' bs ts w h ht.1 (by omega) (by have:=ht.2.2.1;omega) ht.2.2.2).mono ?_;unfold zgh;rw[hl,hok];rintro e w' ⟨v,rfl,ho,hb⟩;have H:=hid (ztn (n:=M) ho hb (by rw[zbw,hml];exact hM));clear ho hb ht h;go_wp2_with fail
 go_ret;exact H.out
theorem zsV(A:Option Addr)(c:Nat)(w:World)(h:Tab w A 64 c ipL):
  Calls Tryz.prog 218 #[.slice A 64 c] w (fun e w'=>∃A c,e=.returned (.tuple #[.slice A 64 c,.bool true])/\Tab w' A 64 c ipU/\Ext w w'):=by
 refine(zh3 A 64 c ipL w h.1 (by omega) h.2.2.2).mono ?_;rw[zqA];rintro e w' ⟨v,rfl,ho,hb⟩;obtain⟨A2,c2,rfl,ht⟩:=znS ho zcR.1.len (by omega) (fun t ht=>by have:=zlI zcR.1 t ht;omega);exact⟨A2,c2,rfl,ht,hb⟩
theorem zlo(w:World):Calls Tryz.prog 124 #[] w (zg7 w 48 c2L):=by
 go_enter Tryz.func124,Tryz.ntmps124;go_wp2_with fail
 go_ret;exact zgy (OwnN.lit w c2L _ 48 w.heap.size rfl rfl (by unfold maxLen;omega) (Nat.le_refl _)) (Ext.alloc _ _) rfl (by omega) (fun t ht=>by have:=zq5 t ht;omega)
theorem zp5(w:World):Calls Tryz.prog 100 #[] w (zg7 w 48 c2L):=by
 go_enter Tryz.func100,Tryz.ntmps100;go_wp2_with fail
 go_ret;exact zgy (OwnN.lit w c2L _ 48 w.heap.size rfl rfl (by unfold maxLen;omega) (Nat.le_refl _)) (Ext.alloc _ _) rfl (by omega) (fun t ht=>by have:=zq5 t ht;omega)
theorem zdG(w:World):Calls Tryz.prog 221 #[] w (zg7 w 32 mxL):=by
 go_enter Tryz.func221,Tryz.ntmps221;go_wp2_with fail
 go_ret;exact zgy (OwnN.lit w mxL _ 32 w.heap.size rfl rfl (by unfold maxLen;omega) (Nat.le_refl _)) (Ext.alloc _ _) rfl (by omega) (fun t ht=>by have:=zuh t ht;omega)
def zaR(f:Nat->Int)(n k:Nat):List Int:=(List.range n).map fun i=>if i<k then f i else 0
theorem zax(f:Nat->Int)(n k:Nat):(zaR f n k).length=n:=by simp[zaR]
theorem zc2(f:Nat->Int)(n:Nat):zaR f n 0=List.replicate n 0:=by apply List.ext_getElem<;>simp[zaR]
theorem zc6(f:Nat->Int)(n:Nat):zaR f n n=(List.range n).map f:=by
 apply List.ext_getElem
 ·simp[zaR]
 ·intro i h1 h2;have:i<n:=by simpa [zaR] using h1
  simp[zaR,this]
theorem zgH(f:Nat->Int)(n k:Nat):(zaR f n k).set k (f k)=zaR f n (k+1):=by
 apply List.ext_getElem
 ·simp[zaR]
 ·intro i h1 h2;simp only[zaR,List.getElem_set,List.getElem_map,List.getElem_range];by_cases h:k=i
  ·subst h;simp
  ·rw[if_neg h];by_cases h':i<k
   ·rw[if_pos h',if_pos (by omega)]
   ·rw[if_neg h',if_neg (by omega)]
theorem zhF(first rise:Int)(h1:1<=first)(h2:first<=64)(h3:0<=rise)(h4:rise<=57):∀k,1<=fall first rise k/\fall first rise k<=65
 | 0=>by simp only[fall];omega
 | k+1=>by
   have:=zhF first rise h1 h2 h3 h4 k
   rw[fall];split<;>omega
theorem zfC(first rise:Int)(n:Nat)(w:World)(h1:1<=first)(h2:first<=64)(h3:0<=rise)(h4:rise<=57)(hn:n<=1000):
  Calls Tryz.prog 159 #[.int .i64 first,.int .i64 rise,.int .i64 n] w (RetN .i64 3 w (zcl first rise n)):=by
 go_enter Tryz.func159,Tryz.ntmps159;go_wp2_with (at_make;refine zc3 rfl (.tmp 9) (.tmp 9) 38 rfl Tryz.underlying38 8 Tryz.info3 .i64 n n rfl rfl rfl (by omega) (by unfold maxLen;omega) w.heap.size (Nat.le_refl _) ?_;intro w1 hown1 hb1)
 go_loopw [0,13] (fun x i wr=>∃k:Nat,k<=n/\i=.int .i64 k/\x=.int .i64 (fall first rise k)/\OwnN .i64 3 wr w.heap.size (.slice (some ⟨w.heap.size,0,none⟩) n n) (zaR (fall first rise) n k)/\Below w.heap.size w wr) (fun _ i _=>n-(intOf i).toNat)
 case atStart=>exact⟨0,Nat.zero_le _,rfl,rfl,by rw[zc2];exact hown1,hb1⟩
 case round =>
  clear hown1 hb1;obtain⟨k,hk,rfl,rfl,hown,hb⟩:=hrel;by_cases hlt:k<n
  ·have hf:=zhF first rise h1 h2 h3 h4 k
   have hst:fall first rise (k+1)=if 8<fall first rise k then fall first rise k-8 else fall first rise k+rise:=rfl
   have hset:=hown.setn (zax _ _ _) k (fall first rise k);rw[zgH] at hset;have hfree:=hown.free k;have hcell:=hown.celln (zax _ _ _) k hlt;obtain⟨X,hX⟩:∃X,fall first rise k=X:=⟨_,rfl⟩
   rw[hX] at hf hst hset ⊢;have HH:=hid hset;have HB:=hid hb;have HX:=hid hX;clear hset hX hown hb;by_cases h8:8<X
   ·rw[if_pos h8] at hst;have HS:=hid hst;clear hst;go_wp2_with fail
    go_roundw
    case rel=>exact⟨k+1,by omega,by go_num,by rw[HS.out],HH.out,HB.out.setCell (by simp) _⟩
    case measure=>simp[intOf];omega
   ·rw[if_neg h8] at hst;have HS:=hid hst;clear hst;go_wp2_with fail
    go_roundw
    case rel=>exact⟨k+1,by omega,by go_num,by rw[HS.out],HH.out,HB.out.setCell (by simp) _⟩
    case measure=>simp[intOf];omega
  ·obtain rfl:k=n:=by omega
   rw[zc6] at hown;have HH:=hid (And.intro hown hb);clear hown hb;go_wp2_with fail
   go_ret;exact⟨_,rfl,HH.out.1,HH.out.2⟩
theorem zb2(first rise:Int)(n:Nat):(zcl first rise n).length=n:=by simp[zcl]
theorem zlP(w:World):Calls Tryz.prog 120 #[] w (RetN .i64 3 w c1L):=by
 go_enter Tryz.func120,Tryz.ntmps120;go_wp2_with fail
 refine(zfC 57 57 28 _ (by omega) (by omega) (by omega) (by omega) (by omega)).mono ?_;rintro e w1 ⟨v1,rfl,ho1,hb1⟩;obtain⟨A1,c1,rfl,hr1,_⟩:=ho1.rdn (zb2 _ _ _);have HB1:=hid hb1;clear hb1 ho1;go_wp2_with fail
 refine(zfC 63 55 24 _ (by omega) (by omega) (by omega) (by omega) (by omega)).mono ?_;rintro e w2 ⟨v2,rfl,ho2,hb2⟩;obtain⟨A2,c2,rfl,hr2,_⟩:=ho2.rdn (zb2 _ _ _);have hr12:=hr1.later hb2;have HX2:=hid (Ext.trans HB1.out hb2);clear hb2 hr1 ho2;have hl3:=(OwnN.lit (e:=3) w2 [28,20,12,4] #[.int .i64 28,.int .i64 20,.int .i64 12,.int .i64 4] 4 w2.heap.size rfl rfl (by unfold maxLen;omega) (Nat.le_refl _)).rdn (n:=4) rfl;obtain⟨A3,c3,e3,hr3,_⟩:=hl3;have hx3:Ext w2 (w2.alloc (.cells #[.int .i64 28,.int .i64 20,.int .i64 12,.int .i64 4] 3)):=Ext.alloc _ _;have hq1:=hr12.later hx3;have hq2:=hr2.later hx3;have hz3:(w2.alloc (.cells #[.int .i64 28,.int .i64 20,.int .i64 12,.int .i64 4] 3)).heap.size=w2.heap.size+1:=by simp
 have hrow:=RowsN.three _ A1 A2 (some ⟨w2.heap.size,0,none⟩) 28 24 4 c1 c2 4 38 _ _ _ hq1 hq2 (by cases e3;exact hr3);rw[hz3] at hrow;have hx4:Ext w2 ((w2.alloc (.cells #[.int .i64 28,.int .i64 20,.int .i64 12,.int .i64 4] 3)).alloc (.cells #[.slice A1 28 c1,.slice A2 24 c2,.slice (some ⟨w2.heap.size,0,none⟩) 4 4] 38)):=Ext.trans hx3 (Ext.alloc _ _);have HX4:=hid (Ext.trans HX2.out hx4);have HR:=hid hrow;clear hrow hx4 hz3 hq1 hq2 hx3 hr3 e3 hr12 hr2;have hc1:([zcl 57 57 28,zcl 63 55 24,[28,20,12,4]]:List (List Int)).flatten=c1L:=by unfold c1L;simp
 go_wp2_with fail
 refine(zgj _ 0 3 3 [zcl 57 57 28,zcl 63 55 24,[28,20,12,4]] _ rfl HR.out (by rw[hc1,zh];omega) (by rw[hc1,zh];omega) (by omega)).mono ?_;rw[hc1];rintro e w5 ⟨v5,rfl,ho5,hb5⟩;have HO:=hid (OwnN.base_mono ho5 (Below.size HX4.out));have HB:=hid (Ext.trans HX4.out hb5);clear ho5 hb5 hc1;go_wp2_with fail
 go_ret;exact⟨_,rfl,HO.out,HB.out⟩
theorem zo9(k:Nat):ipN (k+1)=ipN k++[ipF k]:=by simp[ipN,List.range_succ]
theorem _root_.Go.Proofs.YtokbbmngfogbbaaGreatDoor.Ext.alloc1(w:World)(x:Int):Ext w (w.alloc (.cells #[.int .i64 x] 3)):=Ext.alloc _ _
theorem zd4(w:World)(x:Int):RdN .i64 (w.alloc (.cells #[.int .i64 x] 3)) (w.alloc (.cells #[.int .i64 x] 3)).heap.size (some ⟨w.heap.size,0,none⟩) 1 [x]:=by
 have hLt:=OwnN.lit (e:=3) w [x] #[.int .i64 x] 1 w.heap.size rfl rfl (by unfold maxLen;omega) (Nat.le_refl _);obtain⟨A1,c1,hA,hR,_⟩:=hLt.rdn (n:=1) rfl;cases hA
 exact hR
theorem zjW(w:World)(k:Nat)(hk:k<8):
  (Instr.index 232 (.agg #[.int .i64 58,.int .i64 60,.int .i64 62,.int .i64 64,.int .i64 57,.int .i64 59,.int .i64 61,.int .i64 63]) (.int .i64 k)).run Tryz.prog w=.ok (.int .i64 (ipH.getD k 0)) w:=by
 simp only[Instr.index,asIntOf,Sem.run_bind,Sem.run_pure,Result.andThen_ok,run_underlying Tryz.underlying232];rw[if_pos ⟨by omega,by omega⟩]
 match k,hk with
 | 0,_=>rfl
 | 1,_=>rfl
 | 2,_=>rfl
 | 3,_=>rfl
 | 4,_=>rfl
 | 5,_=>rfl
 | 6,_=>rfl
 | 7,_=>rfl
theorem ztD(i j:Nat)(hj:j<8):ipF (8*i+j)=ipH.getD i 0-8*(j:Int):=by
 unfold ipF;rw[show(8*i+j)/8=i by omega,show(8*i+j)%8=j by omega]
theorem ztC:∀i,i<8->57<=ipH.getD i 0/\ipH.getD i 0<=64:=by decide
theorem zmq(w:World):Calls Tryz.prog 216 #[] w (zg7 w 64 ipL):=by
 obtain⟨i0,hi0,hz0,hz1,hz2⟩:=info_parts Tryz.info3;go_enter Tryz.func216,Tryz.ntmps216;go_wp2_with (at_make;refine wpList_make_own _ rfl (.const (.int .i64 0)) (.const (.int .i64 64)) 38 rfl w.heap.size 3 i0 (.int .i64 0) 1 Tryz.underlying38 hi0 hz0 hz1 .i64 .i64 64 64 rfl rfl rfl (by rw[hz2];omega) (by unfold maxLen;omega) (Nat.le_refl _) ?_;intro w1 hown1 hg1)
 have hb1:Below w.heap.size w w1:=(Below.refl _ _).grown hg1 (Nat.le_refl _) (by simp);have hown1:OwnN .i64 3 w1 w.heap.size (.slice (some ⟨w.heap.size,0,none⟩) 0 64) (ipN 0):=hown1;clear hg1 hi0 hz0 hz1 hz2;go_loopw [1,7] (fun v i wr=>∃k:Nat,k<=8/\i=.int .i64 k/\OwnN .i64 3 wr w.heap.size v (ipN (8*k))/\Below w.heap.size w wr) (fun _ i _=>8-(intOf i).toNat)
 case atStart=>exact⟨0,Nat.zero_le _,rfl,hown1,hb1⟩
 case round =>
  clear hown1 hb1;obtain⟨k,hk,rfl,hown,hb⟩:=hrel;by_cases hlt:k<8
  ·have hh:=ztC k hlt;have hri:=fun w=>zjW w k hlt
   obtain⟨H,hH⟩:∃H,ipH.getD k 0=H:=⟨_,rfl⟩;have hat:=fun j hj=>ztD k j hj
   rw[hH] at hh hat hri;have HO:=hid hown;have HB:=hid hb;have HAT:=hid hat;clear hown hb hat hH;go_wp2_with fail
   clear hri;rw[show decide ((k:Int)<8)=true by simp;omega];go_loopw [1,10] (fun v i wr=>∃j:Nat,j<=8/\i=.int .i64 j/\OwnN .i64 3 wr w.heap.size v (ipN (8*k+j))/\Below w.heap.size w wr) (fun _ i _=>8-(intOf i).toNat)
   case atStart=>exact⟨0,Nat.zero_le _,rfl,HO.out,HB.out⟩
   case round =>
    clear HO HB;obtain⟨j,hj,rfl,hown,hb⟩:=hrel;by_cases hjt:j<8
    ·have hown2:=OwnN.kept hown (Ext.alloc1 wr (H-8*(j:Int)));have hone:=zd4 wr (H-8*(j:Int));have hz:=hb.size;have HB:=hid (hb.trans (Below.mono (Ext.alloc1 wr (H-8*(j:Int))) hz));have HS:=hid (show ipN (8*k+(j+1))=ipN (8*k+j)++[H-8*(j:Int)] by rw[<-HAT.out j hjt];exact zo9 _);have hl:=zh9 (8*k+j);clear hb hown HAT;go_wp2_with (at_builtin;refine zaw _ rfl (.tmp 13) (.tmp 18) 38 rfl Tryz.underlying38 8 Tryz.info3 w.heap.size _ (ipN (8*k+j)) rfl hown2 _ _ 1 1 [H-8*(j:Int)] rfl hone (by omega) (by unfold maxLen;omega) (by simp;omega) ?_;intro v2 w2 hown3 hb2)
     rw[<-HS.out] at hown3;have HB2:=hid (HB.out.trans hb2);clear hb2;go_roundw
     case rel=>exact⟨j+1,by omega,by go_num,hown3,HB2.out⟩
     case measure=>simp[intOf];omega
    ·obtain rfl:j=8:=by omega
     have HO:=hid hown;have HB:=hid hb;clear hown hb;go_wp2_with fail
     go_roundw
     case rel=>exact⟨k+1,by omega,by go_num,HO.out,HB.out⟩
     case measure=>simp[intOf];omega
  ·obtain rfl:k=8:=by omega
   have HH:=hid (zgy hown hb (zh9 64) (by omega) (fun t ht=>by have:=ztJ t ht;omega));clear hown hb;go_wp2_with fail
   go_ret;exact HH.out
section
variable {P:Program} {ops:Array Oper} {V:Nat->World->Value->Prop} {a0:Act} {w0:World}
theorem zjk{Q:Exit->Act->World->Prop}{n s:Nat}(hok:zb1 ops n=true)(hn:a0.tmps.size=n)(hs:zen ops s=true){os:Oper}(hos:ops[s]? = some os)(hg:os.guard=none)
  (hV:∀i w w' v,Ext w w'->V i w v->V i w' v)
  (step:∀i o,ops[i]? = some o->i≠s->∀a w,Kn ops V a0 w0 i a w->Step P ops V Q i o a w)
  (last:∀a w,Kn ops V a0 w0 s a w->os.wp P a w (fun a' w'=>Q .normal a' w') Q):
  ∀(fuel:Nat) (listed:Array Bool) (a:Act) (w:World),listed.toList.count false<=fuel->listed.getD s true=false->Inv ops V a0 w0 listed a w->wpAny P .any ops Q fuel listed a w:=by
 have hss:s<ops.size:=(Array.getElem?_eq_some_iff.1 hos).1;have nope:∀(listed:Array Bool) (a:Act) (w:World),listed.getD s true=false->Inv ops V a0 w0 listed a w->Region.ready .any ops listed = []->False:=by
  intro listed a w hl h hr;have:=zbS hok h.lsize hr s hss;have hlt:s<listed.size:=by rw[h.lsize];exact hss
  simp[hlt] at hl this;rw[hl] at this;cases this
 intro fuel;induction fuel with
 | zero =>intro listed a w hc hl h;have:=count_set listed s hl;omega
 | succ fuel ih =>
   intro listed a w hc hl h;refine⟨fun hr=>absurd hr (nope listed a w hl h),fun i hi=>?_⟩;obtain⟨hun,o,ho,_⟩:=mem_ready.1 hi;have hcs:=count_set listed i hun;by_cases his:i=s
   ·subst his;rw[hos] at ho;cases ho
    have hall:=zkL hs h hi;have hsz:ops.size=i+1:=by unfold zen at hs;simp only[Bool.and_eq_true,beq_iff_eq] at hs;exact hs.1
    have hl2:=last a w (h.kn hok hn hi);have hw:Region.wanted os (yielded ops a.tmps)=true:=by simp[Region.wanted,hg]
    unfold wpOp;simp only[hos];rw[if_pos hw];refine .inl (Oper.wp_mono (fun a' w' hh=>?_) hl2);refine zg8 ?_ hh;refine List.eq_nil_iff_forall_not_mem.2 fun j hj=>?_
    obtain⟨hun2,x,hx,_⟩:=mem_ready.1 hj;have hjs:=(Array.getElem?_eq_some_iff.1 hx).1;have hli:i<listed.size:=by rw[h.lsize];exact hss
    by_cases hji:j=i
    ·subst hji;simp[hli] at hun2
    ·have h3:=hall j (by omega);have hlj:j<listed.size:=by rw[h.lsize];exact hjs
     have h4:(listed.setIfInBounds i true).getD j true=listed.getD j true:=getD_set_ne true (Ne.symm hji);rw[h4] at hun2;simp[hlj] at hun2 h3;rw[hun2] at h3;cases h3
   ·have hst:=step i o ho his a w (h.kn hok hn hi);have hl2:(listed.setIfInBounds i true).getD s true=false:=by rw[getD_set_ne true his];exact hl
    unfold wpOp;simp only[ho];unfold Step at hst;split
    ·rename_i hw;rw[if_pos hw] at hst;refine .inl (Oper.wp_mono (fun a' w' hh=>?_) hst);obtain⟨v,rfl,he,hv⟩:=hh;exact ih _ _ _ (by omega) hl2 (h.put hok hn hV hi ho he hv)
    ·rename_i hw;rw[if_neg hw] at hst;exact ih _ _ _ (by omega) hl2 (h.put hok hn hV hi ho (Ext.refl _) hst)
theorem ziq{Q:Exit->Act->World->Prop}{id n:Nat}(s:Nat)(os:Oper)(hm:P.follows .mixedOrders=true)(hn:a0.tmps.size=n)(hok:zb1 ops n=true)
  (hs:zen ops s=true) (hos:ops[s]? = some os) (hg:os.guard=none)
  (V:Nat->World->Value->Prop) (hV:∀i w w' v,Ext w w'->V i w v->V i w' v)
  (step:∀i o,ops[i]? = some o->i≠s->∀a w,Kn ops V a0 w0 i a w->Step P ops V Q i o a w)
  (last:∀a w,Kn ops V a0 w0 s a w->os.wp P a w (fun a' w'=>Q .normal a' w') Q):(Code.region id ops true).wp P Q a0 w0:=by
 have hss:s<ops.size:=(Array.getElem?_eq_some_iff.1 hos).1;refine wp_region_any hm (zjk (V:=V) hok hn hs hos hg hV step last ops.size _ _ _ ?_ ?_ ?_)
 ·simp
 ·simp[hss]
 ·refine⟨by simp,Ext.drew w0,rfl,rfl,?_,fun _ _=>rfl,?_⟩
  ·intro j x hx hl;have hj:=(Array.getElem?_eq_some_iff.1 hx).1;simp[hj] at hl
  ·intro j x t hx hl;have hj:=(Array.getElem?_eq_some_iff.1 hx).1;simp[hj] at hl
end
theorem mixed:Tryz.prog.follows .mixedOrders=true:=by kernel_rfl
theorem zkx:Tryz.prog.underlying 38=some (.slice (Tryz.prog.elem 38)):=by kernel_rfl
theorem zqs(w:World):(sizeOf (Tryz.prog.elem 38)).run Tryz.prog w=.ok 1 w:=by kernel_rfl
theorem zjR(cur cs:List Value)(N off:Nat)(h:off+cs.length<=N)(hN:N<=cur.length):(splice cur off cs).take N=splice (cur.take N) off cs:=by
 unfold splice;have h1:(cur.take off).length=off:=by simp;omega
 rw[List.take_append,List.take_append,h1,List.take_take,List.take_take,Nat.min_eq_right (show off<=N by omega),Nat.min_eq_left (show off<=N by omega),
  List.take_of_length_le (show cs.length<=N-off by omega),List.drop_take]
 congr 3;omega
theorem ziT{o:Oper}{a:Act}{w:World}{K:Act->World->Prop}{Q:Exit->Act->World->Prop}(d s:Operand)(ho:o.op=.call { callee:=.builtin .copy,args:=#[d,s],argTypes:=#[38,38] })
  (g off n cap c base N C B:Nat) (A:Option Addr) (L ys:List Int) (hd:a.eval d=.slice (some ⟨g,off,none⟩) n cap) (hs:a.eval s=.slice A n c)
  (hown:OwnN .i64 3 w base (.slice (some ⟨g,0,none⟩) N C) L) (hfit:off+n<=N) (h0:0<n) (hr:RdN .i64 w B A n ys)
  (h:∀w',OwnN .i64 3 w' base (.slice (some ⟨g,0,none⟩) N C) (L.take off++(ys++L.drop (off+n)))->w.grownBy w' (some g)->K (a.put o.dst (goInt n)) w'):o.wp Tryz.prog a w K Q:=by
 have hyl:=hr.len;have hLN:=hown.len_eq;obtain⟨b,off2,rfl,_,hc⟩:=hr.at_ h0;rcases hown.2 with⟨h1,_⟩|⟨g',C',cur,e,hbg,hh,hnc,hcm,hcs,htake⟩
 ·cases h1
 ·simp only[Value.slice.injEq,Option.some.injEq,Addr.mk.injEq,and_true] at e;obtain⟨rfl,hn1,rfl⟩:=e;have hcN:N<=cur.toList.length:=by simp;omega
  have hcl:(cN .i64 ys).length=n:=by rw[zaH];exact hyl
  have hrun:=run_copy_row (P:=Tryz.prog) w 38 38 o.type 3 g off n cap ⟨b,off2,none⟩ n c cur 3 (cN .i64 ys) Tryz.underlying38 (by kernel_rfl) hh (by rw[hcl];exact(Nat.min_self n).symm)
   (by
     intro j v hv;have hj:j<n:=by
      rcases Nat.lt_or_ge j n with hj|hj
      ·exact hj
      ·rw[List.getElem?_eq_none (by omega)] at hv;cases hv
     rw[zd1 _ ys j (by omega)] at hv;cases hv
     rw[za2];exact hc j hj) (by rw[hcl];simp at hcN;omega) (zhr _ _)
  have es:cur.toList.take off++cN .i64 ys++cur.toList.drop (off+(cN .i64 ys).length)=splice cur.toList off (cN .i64 ys):=by simp[splice]
  rw[es,hcl] at hrun;have hW:=setRow_heap w g cur ((splice cur.toList off (cN .i64 ys)).toArray) 3 (0,0) hh;have hfin:=h (w.setRow g (splice cur.toList off (cN .i64 ys)).toArray) ?_ ?_
  ·unfold Oper.wp;simp only[execOp,ho,resolve,invoke,builtin,Sem.run_bind,Sem.run_pure,Result.andThen_ok,List.map_toArray,List.map_cons,List.map_nil,hd,hs];rw[hrun];simp only[Result.andThen];rw[Oper.upon_value];exact hfin
  ·have hlen:(L.take off++(ys++L.drop (off+n))).length=N:=by simp;omega
   refine⟨by rw[zaH,Nat.mul_one],.inr ⟨g,C,_,by rw[hlen],hbg,hW,by omega,hcm,?_,?_⟩⟩
   ·simp[splice,hcl];simp at hcN;omega
   ·rw[hlen,List.toList_toArray,Nat.mul_one,zjR _ _ _ _ (by omega) hcN];have e1:cur.toList.take N=cN .i64 L:=by rw[<-htake,hLN,Nat.mul_one]
    rw[e1];unfold splice;rw[hcl];simp[cN,List.map_append,List.map_take,List.map_drop]
  ·refine⟨rfl,rfl,rfl,by simp[World.setRow],fun k _ hk=>?_⟩;have hne:¬g=k:=fun e=>hk (by rw[e])
   exact setRow_other w g k _ (Ne.symm hne)
theorem zn8{w w1 w2:World}{r:Option Nat}(h:Ext w w1)(g:w1.grownBy w2 r):w.grownBy w2 r :=
 ⟨g.os.trans (Below.os h),g.tape.trans (Below.tape h),g.output.trans (Below.output h),Nat.le_trans (Below.size h) g.size,
  fun k hk hr=>(g.block k (Nat.lt_of_lt_of_le hk (Below.size h)) hr).trans (Below.block h k hk)⟩
theorem zbM{w w1 w2:World}{r:Option Nat}(h:w.grownBy w1 r)(g:w1.grownBy w2 r):w.grownBy w2 r :=
 ⟨g.os.trans h.os,g.tape.trans h.tape,g.output.trans h.output,Nat.le_trans h.size g.size,
  fun k hk hr=>(g.block k (Nat.lt_of_lt_of_le hk h.size) hr).trans (h.block k hk hr)⟩
theorem cf47(vs:Array Value)(w:World):(callFunc 158 vs).run Tryz.prog w=.ok (.enter 158 vs) w:=by go_simp
def tlV(g off n cap k:Nat)(xs:List Int):Nat->World->Value->Prop
 | 0,_,v=>v=.slice (some ⟨g,off,none⟩) n cap
 | 1,_,v=>v=.slice (some ⟨g,off,none⟩) n cap
 | 2,_,v=>v=.int .i64 k
 | 3,w,v=>∃A c,v=.slice A (n-k) c/\RdN .i64 w w.heap.size A (n-k) (xs.drop k)
 | 4,_,v=>v=.slice (some ⟨g,off,none⟩) n cap
 | 5,_,v=>v=.int .i64 k
 | 6,w,v=>∃A c,v=.slice A k c/\RdN .i64 w w.heap.size A k (xs.take k)
 | 7,w,v=>∃b,v=.slice (some ⟨b,0,none⟩) 2 2/\RowsN w b 0 [xs.drop k,xs.take k]
 | 8,w,v=>∃A c,v=.slice A n c/\RdN .i64 w w.heap.size A n (rotL xs k)
 | _,_,_=>True
theorem zoS(g off n cap k:Nat)(xs:List Int):∀i w w' v,Ext w w'->tlV g off n cap k xs i w v->tlV g off n cap k xs i w' v:=by
 intro i w w' v hx h
 match i with
 | 0=>exact h
 | 1=>exact h
 | 2=>exact h
 | 3=>obtain⟨A,c,e,hr⟩:=h;exact⟨A,c,e,hr.later hx⟩
 | 4=>exact h
 | 5=>exact h
 | 6=>obtain⟨A,c,e,hr⟩:=h;exact⟨A,c,e,hr.later hx⟩
 | 7=>obtain⟨b,e,hr⟩:=h;exact⟨b,e,hr.later hx⟩
 | 8=>obtain⟨A,c,e,hr⟩:=h;exact⟨A,c,e,hr.later hx⟩
 | _+9=>trivial
theorem zpx{w:World}{base g N C off n:Nat}{L:List Int}(hown:OwnN .i64 3 w base (.slice (some ⟨g,0,none⟩) N C) L)(hfit:off+n<=N):
  RdN .i64 w w.heap.size (some ⟨g,off,none⟩) n ((L.drop off).take n):=by
 have hl:=hown.len_eq;refine⟨by simp;omega,fun _=>⟨g,off,rfl,hown.base_le.2,fun j hj=>?_⟩⟩;rw[hown.celln hl (off+j) (by omega)];simp[List.getD,hj]
theorem zfm(g off n cap k base N C:Nat)(L:List Int)(w:World)(hown:OwnN .i64 3 w base (.slice (some ⟨g,0,none⟩) N C) L)(hfit:off+n<=N)(h0:0<n)(hn:n<=1000)(hk:k<=n)(hcap:n<=cap):
  Calls Tryz.prog 160 #[.slice (some ⟨g,off,none⟩) n cap,.int .i64 k] w fun e w'=>(∃v,e=.returned v)/\OwnN .i64 3 w' base (.slice (some ⟨g,0,none⟩) N C) (L.take off++(rotL ((L.drop off).take n) k++L.drop (off+n)))/\w.grownBy w' (some g):=by
 have hr:=zpx hown hfit;obtain⟨xs,hxs⟩:∃xs,(L.drop off).take n=xs:=⟨_,rfl⟩;rw[hxs] at hr ⊢;have hxl:=hr.len;have hfl:([xs.drop k,xs.take k]:List (List Int)).flatten=rotL xs k:=by simp[rotL]
 have hrl:(rotL xs k).length=n:=by rw[zki _ _ (by omega)];exact hxl
 go_enter Tryz.func160,Tryz.ntmps160;go_wp2_with fail
 refine ziq 9 _ mixed rfl (by kernel_rfl) (by kernel_rfl) rfl rfl (tlV g off n cap k xs) (zoS _ _ _ _ _ _) (zab ⟨?_,?_,?_,?_,?_,?_,?_,?_,?_,fun h=>absurd rfl h,trivial⟩) ?_
 ·intro _ a w hk;have s0:a.tmps.getD 0 undef=.slice (some ⟨g,off,none⟩) n cap:=hk.was 0;exact zau rfl rfl s0 rfl
 ·intro _ a w hk;have s0:a.tmps.getD 0 undef=.slice (some ⟨g,off,none⟩) n cap:=hk.was 0;exact zau rfl rfl s0 rfl
 ·intro _ a w hk;have s1:=hk.was 1 (by kernel_rfl) (v:=.int .i64 k) rfl;exact zau rfl rfl s1 rfl
 ·intro _ a w hkn;have s5:a.eval (.tmp 5)=.slice (some ⟨g,off,none⟩) n cap:=hkn.slot 1 5 (by kernel_rfl);have s6:a.eval (.tmp 6)=.int .i64 k:=hkn.slot 2 6 (by kernel_rfl);have hr2:=hr.later hkn.ext;have e:(Instr.sliceAt 38 (.slice (some ⟨g,off,none⟩) n cap) (some (.int .i64 (k:Int))) none none).run Tryz.prog w=.ok (sliced (some ⟨g,off,none⟩) k n cap 1) w:=by rw[run_sliceAt_slice w 38 _ _ _ _ zkx,run_slice_l w 38 _ n cap zkx .i64 k (by omega) (by omega),zqs];simp[Result.andThen]
  exact zai (v:=sliced (some ⟨g,off,none⟩) k n cap 1) (w':=w) rfl (by simp[execOp,s5,s6,e,Result.andThen]) (Ext.refl w) ⟨_,_,rfl,hr2.cutlo hk hcap⟩
 ·intro _ a w hk;have s0:a.tmps.getD 0 undef=.slice (some ⟨g,off,none⟩) n cap:=hk.was 0;exact zau rfl rfl s0 rfl
 ·intro _ a w hk;have s1:=hk.was 1 (by kernel_rfl) (v:=.int .i64 k) rfl;exact zau rfl rfl s1 rfl
 ·intro _ a w hkn;have s8:a.eval (.tmp 8)=.slice (some ⟨g,off,none⟩) n cap:=hkn.slot 4 8 (by kernel_rfl);have s9:a.eval (.tmp 9)=.int .i64 k:=hkn.slot 5 9 (by kernel_rfl);have hr2:=hr.later hkn.ext;have hc0:=hr2.cutlo (l:=0) (Nat.zero_le _) hcap;have e:(Instr.sliceAt 38 (.slice (some ⟨g,off,none⟩) n cap) none (some (.int .i64 (k:Int))) none).run Tryz.prog w=.ok (sliced (some ⟨g,off,none⟩) 0 k cap 1) w:=by rw[run_sliceAt_slice w 38 _ _ _ _ zkx,run_slice_h w 38 _ n cap zkx .i64 k (by omega) (by omega),zqs];simp[Result.andThen]
  exact zai (v:=sliced (some ⟨g,off,none⟩) 0 k cap 1) (w':=w) rfl (by simp[execOp,s8,s9,e,Result.andThen]) (Ext.refl w) ⟨_,_,rfl,by simpa using hc0.cuthi k (by omega)⟩
 ·intro _ a w hkn;obtain⟨A7,c7,s7,r7⟩:=hkn.slot 3 7 (by kernel_rfl);obtain⟨A10,c10,s10,r10⟩:=hkn.slot 6 10 (by kernel_rfl);have hrow:=RowsN.two w A7 A10 (n-k) k c7 c10 38 _ _ r7 r10;exact zai (v:=.slice (some ⟨w.heap.size,0,none⟩) 2 2) (w':=w.alloc (.cells #[.slice A7 (n-k) c7,.slice A10 k c10] 38)) rfl (by simp only[execOp,Act.eval,List.map_toArray,List.map_cons,List.map_nil,s7,s10];go_simp) (Ext.alloc _ _) ⟨_,rfl,hrow⟩
 ·intro _ a w hkn;obtain⟨b,s11,hrow⟩:=hkn.slot 7 11 (by kernel_rfl);refine za0 rfl rfl (by simp only[List.map_toArray,List.map_cons,List.map_nil,Act.eval,s11]<;>rfl) cf47 (zgj b 0 2 2 _ w rfl hrow (by rw[hfl,hrl];exact h0) (by rw[hfl,hrl];exact hn) (by omega)) ?_;rw[hfl];rintro e w' ⟨v,rfl,ho,hb⟩;obtain⟨A,c,rfl,hr2,_⟩:=ho.rdn hrl;exact⟨_,rfl,hb,A,c,rfl,hr2⟩
 ·intro a w1 hkn;have s4:=hkn.slot 0 4 (by kernel_rfl);obtain⟨A,c,s12,r12⟩:=hkn.slot 8 12 (by kernel_rfl);refine ziT (.tmp 4) (.tmp 12) rfl g off n cap c base N C w1.heap.size A L (rotL xs k) s4 s12 (hown.kept hkn.ext) hfit h0 r12 ?_;intro w' ho hg;exact bodyPost_end (results_none rfl _ _ _) ((ze9 _ _ _).trans hkn.defers) ⟨⟨_,rfl⟩,ho,zn8 hkn.ext hg⟩
theorem zji(L:List Int)(k:Nat)(h:L.length=56)(hk:k<=28):
  (L.take 0++(rotL ((L.drop 0).take 28) k++L.drop (0+28))).take 28++(rotL (((L.take 0++(rotL ((L.drop 0).take 28) k++L.drop (0+28))).drop 28).take 28) k++(L.take 0++(rotL ((L.drop 0).take 28) k++L.drop (0+28))).drop (28+28))=rotB L k:=by
 have h1:(rotL (L.take 28) k).length=28:=by rw[zki _ _ (by simp;omega)];simp;omega
 have e0:L.take 0++(rotL ((L.drop 0).take 28) k++L.drop (0+28))=rotL (L.take 28) k++L.drop 28:=by simp
 rw[e0];have e1:(rotL (L.take 28) k++L.drop 28).take 28=rotL (L.take 28) k:=List.take_left' h1;have e2:(rotL (L.take 28) k++L.drop 28).drop 28=L.drop 28:=List.drop_left' h1;have e3:(rotL (L.take 28) k++L.drop 28).drop (28+28) = []:=List.drop_eq_nil_of_le (by simp[h1];omega);rw[e1,e2,e3,List.append_nil,List.take_of_length_le (show(L.drop 28).length<=28 by simp;omega)];rfl
theorem zgM(g k base C:Nat)(L:List Int)(w:World)(hown:OwnN .i64 3 w base (.slice (some ⟨g,0,none⟩) 56 C) L)(hk:k<=28)(hc:56<=C):
  Calls Tryz.prog 121 #[.slice (some ⟨g,0,none⟩) 56 C,.int .i64 k] w fun e w'=>(∃v,e=.returned v)/\OwnN .i64 3 w' base (.slice (some ⟨g,0,none⟩) 56 C) (rotB L k)/\w.grownBy w' (some g):=by
 have hl:=hown.len_eq;have hrot:=hid (zji L k hl hk);have hc28:¬C=28:=by omega
 go_enter Tryz.func121,Tryz.ntmps121;go_wp2_with fail
 refine(zfm g 0 28 C k base 56 C L w hown (by omega) (by omega) (by omega) hk (by omega)).mono ?_;rintro e w1 ⟨⟨v,rfl⟩,ho1,hg1⟩;have HG:=hid hg1;clear hown hg1;go_wp2_with fail
 refine(zfm g 28 28 (C-28) k base 56 C _ w1 ho1 (by omega) (by omega) (by omega) hk (by omega)).mono ?_;rintro e w2 ⟨⟨v,rfl⟩,ho2,hg2⟩;rw[hrot.out] at ho2;have HG2:=hid (zbM HG.out hg2);have HO:=hid ho2;clear hg2 ho1 ho2;go_wp2_with fail
 go_end0
 exact⟨⟨_,rfl⟩,HO.out,HG2.out⟩
theorem zc4(i:Nat)(w:World)(hi:i<=1000):Calls Tryz.prog 122 #[.int .i64 i] w fun e w'=>e=.returned (.int .i64 (byOf i:Nat))/\w=w':=by
 by_cases h0:i=0
 ·subst h0;go_enter Tryz.func122,Tryz.ntmps122;go_wp2;go_ret;exact⟨rfl,rfl⟩
 ·by_cases h1:i=1
  ·subst h1;go_enter Tryz.func122,Tryz.ntmps122;go_wp2;go_ret;exact⟨rfl,rfl⟩
  ·by_cases h2:i=8
   ·subst h2;go_enter Tryz.func122,Tryz.ntmps122;go_wp2;go_ret;exact⟨rfl,rfl⟩
   ·by_cases h3:i=15
    ·subst h3;go_enter Tryz.func122,Tryz.ntmps122;go_wp2;go_ret;exact⟨rfl,rfl⟩
    ·have hb:byOf i=2:=by unfold byOf;rw[if_neg (by omega)]
     rw[hb];have g0:((i:Int)==0)=false:=by simp;omega
     have g1:((i:Int)==1)=false:=by simp;omega
     have g2:((i:Int)==8)=false:=by simp;omega
     have g3:((i:Int)==15)=false:=by simp;omega
     go_enter Tryz.func122,Tryz.ntmps122;go_wp2;go_ret;exact⟨rfl,rfl⟩
theorem _root_.Go.Proofs.YtokbbmngfogbbaaGreatDoor.Own.grown{w w':World}{base g:Nat}{v:Value}{bs:List UInt8}(h:Own w base v bs)(hg:w.grownBy w' (some g))(hl:g<base):Own w' base v bs:=by
 refine⟨h.1,?_⟩;rcases h.2 with hn|⟨b,cap,cur,rfl,hbg,hh,r⟩
 ·exact .inl hn
 ·exact .inr ⟨b,cap,cur,rfl,hbg,by rw[hg.block b (Array.getElem?_eq_some_iff.1 hh).1 (fun e=>by cases e;omega)];exact hh,r⟩
def OwnV(e:TypeId)(w:World)(base:Nat)(v:Value)(vs:List Value):Prop:=w.ownsRow base e 1 v vs.length vs
theorem Tryz.info22:(Tryz.prog.info? 22).map (fun i=>(i.zero,i.size,i.bytes))=some (some (.slice none 0 0),1,24):=by kernel_rfl
theorem OwnV.grown{e:TypeId}{w w':World}{base g K n c:Nat}{vs:List Value}(h:OwnV e w base (.slice (some ⟨K,0,none⟩) n c) vs)(hg:w.grownBy w' (some g))(hne:K≠g):OwnV e w' base (.slice (some ⟨K,0,none⟩) n c) vs:=by
 have hlt:=World.ownsRow.lt h K rfl;refine⟨h.1,?_⟩;rcases h.2 with⟨h1,_⟩|⟨g',cap,cur,e1,hbg,hh,r⟩
 ·cases h1
 ·simp only[Value.slice.injEq,Option.some.injEq,Addr.mk.injEq,and_true] at e1;obtain⟨rfl,e2,e3⟩:=e1;exact .inr ⟨K,cap,cur,by rw[e2,e3],hbg,by rw[hg.block K hlt.2 (fun e=>by cases e;exact hne rfl)];exact hh,r⟩
theorem OwnV.kept{e:TypeId}{w w':World}{base:Nat}{v:Value}{vs:List Value}(h:OwnV e w base v vs)(hb:Ext w w'):OwnV e w' base v vs:=by
 refine⟨h.1,?_⟩;rcases h.2 with hn|⟨g,cap,cur,rfl,hbg,hh,r⟩
 ·exact .inl hn
 ·exact .inr ⟨g,cap,cur,rfl,hbg,by rw[Below.block hb g (Array.getElem?_eq_some_iff.1 hh).1];exact hh,r⟩
theorem OwnV.setn{e:TypeId}{w:World}{base g n c:Nat}{vs:List Value}(h:OwnV e w base (.slice (some ⟨g,0,none⟩) n c) vs)(hn:vs.length=n)(j:Nat)(x:Value):
  OwnV e (w.setCell ⟨g,j,none⟩ x) base (.slice (some ⟨g,0,none⟩) n c) (vs.set j x):=by
 subst hn;have:=(World.ownsRow.stored h j x).1;unfold OwnV;simpa using this
theorem OwnV.celln{e:TypeId}{w:World}{base g n c:Nat}{vs:List Value}(h:OwnV e w base (.slice (some ⟨g,0,none⟩) n c) vs)(hn:vs.length=n)(j:Nat)(hj:j<n):w.cell? ⟨g,j,none⟩=vs[j]?:=by
 subst hn;exact World.ownsRow.cellAt h j (by omega)
theorem OwnV.free{e:TypeId}{w:World}{base g n c:Nat}{vs:List Value}(h:OwnV e w base (.slice (some ⟨g,0,none⟩) n c) vs)(hn:vs.length=n)(j:Nat):w.frozen? ⟨g,j,none⟩=false:=by
 subst hn;exact World.ownsRow.frozenAt h j
def KR(w:World)(b o:Nat)(kf:Nat->List UInt8):Prop:=b<w.heap.size/\∀i,i<16->∃A c,w.cell? ⟨b,o+i,none⟩=some (.slice A 6 c)/\Rd w w.heap.size A 6 (kf i)
theorem KR.later{w w':World}{b o:Nat}{kf:Nat->List UInt8}(h:KR w b o kf)(hx:Ext w w'):KR w' b o kf :=
 ⟨Nat.lt_of_lt_of_le h.1 (Below.size hx),fun i hi=>by obtain⟨A,c,h1,h2⟩:=h.2 i hi;exact⟨A,c,(Below.cell hx (p:=⟨b,o+i,none⟩) h.1).trans h1,h2.later hx⟩⟩
def KO(w:World)(b:Nat)(kf:Nat->List UInt8):Prop :=
 ∃c vs,vs.length=16/\OwnV 22 w 0 (.slice (some ⟨b,0,none⟩) 16 c) vs/\∀i,i<16->(kf i).length=6/\∃v,vs[i]? = some v/\Own w 0 v (kf i)
theorem KO.later{w w':World}{b:Nat}{kf:Nat->List UInt8}(h:KO w b kf)(hx:Ext w w'):KO w' b kf:=by
 obtain⟨c,vs,h1,h2,h3⟩:=h;exact⟨c,vs,h1,h2.kept hx,fun i hi=>by obtain⟨h4,v,h5,h6⟩:=h3 i hi;exact⟨h4,v,h5,h6.kept hx⟩⟩
theorem KO.kr{w:World}{b:Nat}{kf:Nat->List UInt8}(h:KO w b kf):KR w b 0 kf:=by
 obtain⟨c,vs,h1,h2,h3⟩:=h;refine⟨(World.ownsRow.lt h2 b rfl).2,fun i hi=>?_⟩;obtain⟨h4,v,h5,h6⟩:=h3 i hi;obtain⟨A,c2,rfl,h7,_⟩:=h6.rdn h4;exact⟨A,c2,by rw[Nat.zero_add,h2.celln h1 i hi];exact h5,h7⟩
theorem OwnV.base_mono{e:TypeId}{w:World}{base base':Nat}{v:Value}{vs:List Value}(h:OwnV e w base v vs)(hb:base'<=base):OwnV e w base' v vs:=by
 refine⟨h.1,?_⟩;rcases h.2 with hn|⟨g,cap,cur,e,hbg,r⟩
 ·exact .inl hn
 ·exact .inr ⟨g,cap,cur,e,by omega,r⟩
theorem zo5(A A':Option Addr)(n m c c':Nat)(bs:List UInt8)(ts:List Int)(w:World)(h:Rd w w.heap.size A n bs)(ht:Tab w A' m c' ts)(hok:okT n ts=true):
  Calls Tryz.prog 123 #[.slice A n c,.slice A' m c'] w (fun e w'=>∃v,e=.returned (.tuple #[v,.bool true])/\Own w' w.heap.size v (za3 bs ts)/\Ext w w'):=by
 refine(zlf A A' n m c c' bs ts w h ht.1 (by have:=ht.2.2.1;omega) ht.2.1 ht.2.2.2).mono ?_;unfold zgh;rw[h.len,hok];rintro e w' ⟨v,rfl,ho,hb⟩;exact⟨v,rfl,ho,hb⟩
theorem zrY{w:World}{base g n c:Nat}{xs:List Int}(h:OwnN .i64 3 w base (.slice (some ⟨g,0,none⟩) n c) xs)(hc:n<=c)(hn:n<=1000)(hb:∀t ∈ xs,1<=t/\t<=1000):Tab w (some ⟨g,0,none⟩) n c xs:=by
 have hl:=h.len_eq;obtain⟨A,c2,e,hr,_⟩:=h.rdn hl;cases e
 refine⟨hr,hc,hn,fun j hj=>?_⟩;have:=ze hb (j:=j) (by omega);exact zsM (by omega) (by omega)
def zkn(w:World)(key:List UInt8)(e:Ending)(w':World):Prop :=
 ∃b c,e=.returned (.tuple #[.slice (some ⟨b,0,none⟩) 16 c,.int .i64 0])/\16<=c/\KO w' b (keyF key)/\Ext w w'
theorem zcv(A:Option Addr)(c:Nat)(key:List UInt8)(w:World)(h:Rd w w.heap.size A 8 key):
  Calls Tryz.prog 85 #[.slice A 8 c] w (zkn w key):=by
 obtain⟨i0,hi0,hz0,hz1,hz2⟩:=info_parts Tryz.info22;go_enter Tryz.func85,Tryz.ntmps85;go_wp2_with (at_make;refine wpList_make_full _ rfl (.const (.int .i64 16)) (.const (.int .i64 16)) 109 rfl w.heap.size 22 i0 (.slice none 0 0) 1 Tryz.underlying109 hi0 hz0 hz1 .i64 .i64 16 16 16 rfl rfl rfl rfl (by rw[hz2];omega) (by unfold maxLen;omega) (Nat.le_refl _) ?_;intro w1 hown1 hg1)
 have hb1:Ext w w1:=(Below.refl _ _).grown hg1 (Nat.le_refl _) (by simp);have hv1:OwnV 22 w1 w.heap.size (.slice (some ⟨w.heap.size,0,none⟩) 16 16) (List.replicate 16 (.slice none 0 0)):=by have e1:(madeCells #[Value.slice none 0 0] 16).toList=List.replicate 16 (.slice none 0 0):=toList_madeCells_one _ _;have hown2:w1.ownsRow w.heap.size 22 1 (.slice (some ⟨w.heap.size,0,none⟩) 16 16) 16 (madeCells #[Value.slice none 0 0] 16).toList:=hown1;rw[e1] at hown2;exact hown2
 have hK1:w.heap.size<w1.heap.size:=(World.ownsRow.lt hv1 w.heap.size rfl).2;obtain⟨K,hK⟩:∃K,w.heap.size=K:=⟨_,rfl⟩;have HKW:=hid hK;rw[hK] at hv1 hK1 ⊢;have HV1:=hid hv1;have HB1:=hid hb1;clear hown1 hg1 hv1 hb1 hi0 hz0 hz1 hz2 hK;go_wp2_with fail
 refine(zlP _).mono ?_;rintro e w2 ⟨v2,rfl,ho2,hb2⟩;obtain⟨G,C,rfl,hC,hG1,hG2⟩:=ho2.head zh (by omega);have HV2:=hid (HV1.out.kept hb2);have HB2:=hid (HB1.out.trans hb2);have HO2:=hid (OwnN.base_mono ho2 (Nat.le_of_lt hK1));have hKG:K<G:=by omega
 clear ho2 hb2 HV1 HB1 hG1 hK1;go_wp2_with fail
 go_loopw [16] (fun i wr=>∃(k:Nat) (vs:List Value),k<=16/\i=.int .i64 k/\vs.length=16/\OwnV 22 wr K (.slice (some ⟨K,0,none⟩) 16 16) vs/\OwnN .i64 3 wr K (.slice (some ⟨G,0,none⟩) 56 C) (tabP k)/\Below w.heap.size w wr /\
   (∀j,j<k->∃v,vs[j]? = some v/\Own wr (G+1) v (keyF key j))) (fun i _=>16-(intOf i).toNat)
 case atStart=>exact⟨0,_,by omega,rfl,by simp,HV2.out,HO2.out,HB2.out,fun j hj=>absurd hj (by omega)⟩
 case round =>
  clear HV2 HO2 HB2 hG2;obtain⟨k,vs,hk,rfl,hvl,hov,hot,hb,hrows⟩:=hrel;by_cases hlt:k<16
  ·have hbl:=zhy k;have HOV:=hid hov;have HOT:=hid hot;have HB:=hid hb;have HR:=hid hrows;clear hov hot hb hrows;go_wp2_with fail
   refine(zc4 k _ (by omega)).mono ?_;rintro e w3 ⟨rfl,rfl⟩;go_wp2_with fail
   refine(zgM G (byOf k) K C (tabP k) _ HOT.out (by omega) hC).mono ?_;rintro e w4 ⟨⟨v4,rfl⟩,ho4,hg4⟩;have hsz0:=HB.out.size;have hG0:=HOT.out.base_le.2;have HOV4:=hid (HOV.out.grown hg4 (by omega));have HB4:=hid (HB.out.grown hg4 hsz0 (fun q hq=>by cases hq;have:=HKW.out;omega));have HR4:=hid (show ∀j,j<k->∃v,vs[j]? = some v/\Own w4 (G+1) v (keyF key j) from fun j hj=>by obtain⟨v,h1,h2⟩:=HR.out j hj;exact⟨v,h1,h2.grown hg4 (by omega)⟩);have HO4:=hid (show OwnN .i64 3 w4 K (.slice (some ⟨G,0,none⟩) 56 C) (tabP (k+1)) from ho4);have HT4:=hid (zrY HO4.out hC (by omega) (fun t ht=>by have:=zl7 t (zfA _ t ht);omega));have HD4:=hid ((h.below HB4.out (Nat.le_refl _)).more HB4.out.size);have hGz:G<w4.heap.size:=HO4.out.base_le.2;clear ho4 hg4 HOV HOT HB HR hG0 hsz0;go_wp2_with fail
   refine(zjM _ _ 8 56 _ _ _ _ 7 _ HD4.out HT4.out (zn1 (k+1)) (by omega)).mono ?_;rintro e w5 ⟨A5,c5,rfl,hc5,hr5,hx5⟩;have HX5:=hid hx5;have HR5:=hid hr5;clear hx5 hr5;go_wp2_with fail
   refine(zlo _).mono ?_;rintro e w6 ⟨A6,c6,rfl,ht6,hx6⟩;have HX6:=hid (Ext.trans HX5.out hx6);have HR6:=hid (HR5.out.later hx6);have HT6:=hid ht6;clear hx6 ht6 HR5 HX5;go_wp2_with fail
   refine(zo5 _ _ 7 48 _ _ _ _ _ HR6.out HT6.out zsY).mono ?_;rintro e w7 ⟨v7,rfl,ho7,hx7⟩;have HX7:=hid (Ext.trans HX6.out hx7);have hsz6:=Below.size HX6.out;have hkl:=zfy key k;obtain⟨A7,cc7,rfl,_,ho7⟩:=ho7.rdn hkl;have hov7:=HOV4.out.kept HX7.out;have hset:=hov7.setn hvl k (.slice A7 6 cc7);have hcell:=hov7.celln hvl k hlt;rw[List.getElem?_eq_getElem (by omega)] at hcell;have hfree:=hov7.free hvl k;obtain⟨old,hold⟩:∃old,vs[k]'(by omega)=old:=⟨_,rfl⟩;rw[hold] at hcell;have HS:=hid hset;have HO7:=hid (HO4.out.kept HX7.out);have HB7:=hid (HB4.out.trans (Below.mono HX7.out HB4.out.size));have HR7:=hid (show ∀j,j<k->∃v,vs[j]? = some v/\Own w7 (G+1) v (keyF key j) from fun j hj=>by obtain⟨v,h1,h2⟩:=HR4.out j hj;exact⟨v,h1,h2.kept HX7.out⟩);have HC7:=hid (ho7.base_mono (show G+1<=w6.heap.size by omega));clear hset hov7 hold ho7 hx7 HX6 HX7 HR4 HO4 HB4 HOV4;go_wp2_with fail
   go_roundw
   case rel =>
    refine⟨k+1,vs.set k (.slice A7 6 cc7),by omega,by go_num,by simp[hvl],HS.out,?_,HB7.out.setCell (by simp;have:=HKW.out;omega) _,?_⟩
    ·have hot:=HO7.out;refine⟨hot.1,?_⟩;rcases hot.2 with hn|⟨g,cap,cur,e,hbg,hh,r⟩
     ·exact .inl hn
     ·refine .inr ⟨g,cap,cur,e,hbg,?_,r⟩;rw[heap_setCell_other _ ⟨K,k,none⟩ g _ (by simp at e;simp;omega)];exact hh
    ·intro j hj;by_cases hjk:j=k
     ·subst hjk;exact⟨_,by simp[hvl,hlt],HC7.out.grown (zaz _ _ _ _) (by omega)⟩
     ·obtain⟨v,h1,h2⟩:=HR7.out j (by omega);exact⟨v,by rw[List.getElem?_set_ne (by omega)];exact h1,h2.grown (zaz _ _ _ _) (by omega)⟩
   case measure=>simp[intOf];omega
  ·obtain rfl:k=16:=by omega
   have hkr:KO wr K (keyF key):=⟨16,vs,hvl,hov.base_mono (Nat.zero_le _),fun i hi=>by obtain⟨v,h1,h2⟩:=hrows i hi;exact⟨zfy _ _,v,h1,h2.base_mono (Nat.zero_le _)⟩⟩;have HH:=hid (And.intro hkr hb);clear hkr hov hot hb hrows;go_wp2_with fail
   go_ret2;exact⟨K,16,rfl,Nat.le_refl _,HH.out.1,HH.out.2⟩
theorem zgT(first rise:Int)(k:Nat):zcl first rise (k+1)=zcl first rise k++[fall first rise k]:=by simp[zcl,List.range_succ]
theorem zlS(w:World):Calls Tryz.prog 98 #[] w (zg7 w 56 c1L):=by
 go_enter Tryz.func98,Tryz.ntmps98;go_wp2_with fail
 go_loopw [1,2] (fun v i wr=>∃k:Nat,k<=28/\i=.int .i64 (fall 57 57 k)/\OwnN .i64 3 wr w.heap.size v (zcl 57 57 k)/\Below w.heap.size w wr) (fun v _ _=>28-zdw v)
 case atStart=>exact⟨0,Nat.zero_le _,rfl,World.ownsRow_nil _ _ _ _,Below.refl _ _⟩
 case round =>
  obtain⟨k,hk,rfl,hown,hb⟩:=hrel;obtain⟨A,c,rfl,_,hown⟩:=hown.rdn (zb2 57 57 k);by_cases hlt:k<28
  ·have hf:=zhF 57 57 (by omega) (by omega) (by omega) (by omega) k;have hst:fall 57 57 (k+1)=if 8<fall 57 57 k then fall 57 57 k-8 else fall 57 57 k+57:=rfl
   have hs:=zgT 57 57 k;obtain⟨X,hX⟩:∃X,fall 57 57 k=X:=⟨_,rfl⟩;rw[hX] at hf hst hs ⊢;have hown2:=OwnN.kept hown (Ext.alloc1 wr X);have hone:=zd4 wr X;have hz:=hb.size;have hl:=zb2 57 57 k;have HB:=hid (hb.trans (Below.mono (Ext.alloc1 wr X) hz));have HS:=hid hs;clear hb hown hX hs;by_cases h8:8<X
   ·rw[if_pos h8] at hst;have HST:=hid hst;clear hst;go_wp2_with (at_builtin;refine zaw _ rfl (.tmp 6) (.tmp 8) 38 rfl Tryz.underlying38 8 Tryz.info3 w.heap.size _ (zcl 57 57 k) rfl hown2 _ _ 1 1 [X] rfl hone (by omega) (by unfold maxLen;omega) (by simp;omega) ?_;intro v2 w2 hown3 hb2)
    rw[<-HS.out] at hown3;have HB2:=hid (HB.out.trans hb2);obtain⟨A2,c2,rfl,_,hown3⟩:=hown3.rdn (zb2 57 57 (k+1));have HO2:=hid hown3;clear hb2 hown3;go_roundw
    case rel=>exact⟨k+1,by omega,by rw[HST.out],HO2.out,HB2.out⟩
    case measure=>simp[zdw];omega
   ·rw[if_neg h8] at hst;have HST:=hid (show fall 57 57 (k+1)=X-8+65 by rw[hst];omega);clear hst;go_wp2_with (at_builtin;refine zaw _ rfl (.tmp 6) (.tmp 8) 38 rfl Tryz.underlying38 8 Tryz.info3 w.heap.size _ (zcl 57 57 k) rfl hown2 _ _ 1 1 [X] rfl hone (by omega) (by unfold maxLen;omega) (by simp;omega) ?_;intro v2 w2 hown3 hb2)
    rw[<-HS.out] at hown3;have HB2:=hid (HB.out.trans hb2);obtain⟨A2,c2,rfl,_,hown3⟩:=hown3.rdn (zb2 57 57 (k+1));have HO2:=hid hown3;clear hb2 hown3;go_roundw
    case rel=>exact⟨k+1,by omega,by rw[HST.out],HO2.out,HB2.out⟩
    case measure=>simp[zdw];omega
  ·obtain rfl:k=28:=by omega
   have HO:=hid hown;have HB:=hid hb;clear hown hb;go_wp2_with fail
   go_loopw [1,2] (fun v i wr=>∃k:Nat,k<=24/\i=.int .i64 (fall 63 55 k)/\OwnN .i64 3 wr w.heap.size v (zcl 57 57 28++zcl 63 55 k)/\Below w.heap.size w wr) (fun v _ _=>52-zdw v)
   case atStart=>exact⟨0,Nat.zero_le _,rfl,by simpa [zcl] using HO.out,HB.out⟩
   case round =>
    clear HO HB;obtain⟨k,hk,rfl,hown,hb⟩:=hrel;have hl:(zcl 57 57 28++zcl 63 55 k).length=28+k:=by simp[zb2]
    obtain⟨A,c,rfl,_,hown⟩:=hown.rdn hl;by_cases hlt:k<24
    ·have hf:=zhF 63 55 (by omega) (by omega) (by omega) (by omega) k;have hst:fall 63 55 (k+1)=if 8<fall 63 55 k then fall 63 55 k-8 else fall 63 55 k+55:=rfl
     have hs:=zgT 63 55 k;obtain⟨X,hX⟩:∃X,fall 63 55 k=X:=⟨_,rfl⟩;rw[hX] at hf hst hs ⊢;have hown2:=OwnN.kept hown (Ext.alloc1 wr X);have hone:=zd4 wr X;have hz:=hb.size;have HB:=hid (hb.trans (Below.mono (Ext.alloc1 wr X) hz));have HS:=hid hs;clear hb hown hX hs;by_cases h8:8<X
     ·rw[if_pos h8] at hst;have HST:=hid hst;clear hst;go_wp2_with (at_builtin;refine zaw _ rfl (.tmp 19) (.tmp 21) 38 rfl Tryz.underlying38 8 Tryz.info3 w.heap.size _ (zcl 57 57 28++zcl 63 55 k) rfl hown2 _ _ 1 1 [X] rfl hone (by omega) (by unfold maxLen;omega) (by simp;omega) ?_;intro v2 w2 hown3 hb2)
      rw[List.append_assoc,<-HS.out] at hown3;have HB2:=hid (HB.out.trans hb2);obtain⟨A2,c2,rfl,_,hown3⟩:=hown3.rdn (n:=28+(k+1)) (by simp[zb2]);have HO2:=hid hown3;clear hb2 hown3;go_roundw
      case rel=>exact⟨k+1,by omega,by rw[HST.out],HO2.out,HB2.out⟩
      case measure=>simp[zdw];omega
     ·rw[if_neg h8] at hst;have HST:=hid (show fall 63 55 (k+1)=X-8+63 by rw[hst];omega);clear hst;go_wp2_with (at_builtin;refine zaw _ rfl (.tmp 19) (.tmp 21) 38 rfl Tryz.underlying38 8 Tryz.info3 w.heap.size _ (zcl 57 57 28++zcl 63 55 k) rfl hown2 _ _ 1 1 [X] rfl hone (by omega) (by unfold maxLen;omega) (by simp;omega) ?_;intro v2 w2 hown3 hb2)
      rw[List.append_assoc,<-HS.out] at hown3;have HB2:=hid (HB.out.trans hb2);obtain⟨A2,c2,rfl,_,hown3⟩:=hown3.rdn (n:=28+(k+1)) (by simp[zb2]);have HO2:=hid hown3;clear hb2 hown3;go_roundw
      case rel=>exact⟨k+1,by omega,by rw[HST.out],HO2.out,HB2.out⟩
      case measure=>simp[zdw];omega
    ·obtain rfl:k=24:=by omega
     have hl3:=(OwnN.lit (e:=3) wr [28,20,12,4] #[.int .i64 28,.int .i64 20,.int .i64 12,.int .i64 4] 4 wr.heap.size rfl rfl (by unfold maxLen;omega) (Nat.le_refl _)).rdn (n:=4) rfl;obtain⟨A3,c3,e3,hr3,_⟩:=hl3;cases e3
     have hx3:Ext wr (wr.alloc (.cells #[.int .i64 28,.int .i64 20,.int .i64 12,.int .i64 4] 3)):=Ext.alloc _ _;have hown2:=OwnN.kept hown hx3;have hz:=hb.size;have HB:=hid (hb.trans (Below.mono hx3 hz));clear hb hown hx3;go_wp2_with (at_builtin;refine zaw _ rfl (.tmp 29) (.tmp 30) 38 rfl Tryz.underlying38 8 Tryz.info3 w.heap.size _ (zcl 57 57 28++zcl 63 55 24) rfl hown2 _ _ 4 4 [28,20,12,4] rfl hr3 (by omega) (by unfold maxLen;omega) (by simp;omega) ?_;intro v2 w2 hown3 hb2)
     have HH:=hid (zgy (n:=56) (xs:=c1L) hown3 (HB.out.trans hb2) zh (by omega) (fun t ht=>by have:=zl7 t ht;omega));clear hown3 hb2;go_wp2_with fail
     go_ret;exact HH.out
theorem zbn{P:Program}(w:World){ops:Array Oper}{rest:List Oper}{o:Oper}{a:Act}{Q:Exit->Act->World->Prop}(hgd:o.guard=none)(s x:Operand)(t e:TypeId)
  (ho:o.op=.call { callee:=.builtin .append,args:=#[s,x],argTypes:=#[t,t] }) (hu:P.underlying t=some (.slice e))
  (hin:(P.info? e).map (fun i=>(i.zero,i.size,i.bytes))=some (some (.slice none 0 0),1,24))
  (base:Nat) (v:Value) (xs:List Value) (hs:a.eval s=v) (hown:OwnV e w base v xs)
  (g c:Nat) (u:Value) (hx:a.eval x=.slice (some ⟨g,0,none⟩) 1 c) (hc:w.cell? ⟨g,0,none⟩=some u) (h1:u.oneCell'=true) (hlen:xs.length<=1000) (hbase:base<=w.heap.size)
  (h:∀v' w',OwnV e w' base v' (xs++[u])->w.grownBy w' v.ownBlock->wpList P ops Q rest (a.put o.dst v') w'):wpList P ops Q (o::rest) a w:=by
 obtain⟨i0,hi0,hz0,hz1,hz2⟩:=info_parts hin;refine wpList_append_own w hgd s x t ho base e i0 (.slice none 0 0) 1 24 hu hi0 hz0 hz1 hz2 rfl (by omega) v xs.length xs hs hown ⟨g,0,none⟩ 1 c [u] hx rfl ?_ (by intro y hy;simp at hy;subst hy;exact h1) (by unfold maxLen;omega) (by omega) hbase ?_
 ·intro j y hy
  match j with
  | 0=>simp at hy;subst hy;rw[zd2];exact hc
  | j+1=>simp at hy
 ·intro v' w' h2 h3 _;exact h v' w' (by simpa [OwnV] using h2) h3
theorem OwnV.block_ne{e:TypeId}{w:World}{base:Nat}{v:Value}{vs:List Value}(h:OwnV e w base v vs){b:Nat}{cur:Array Value}{e2:TypeId}{f:Nat×Nat}(hb:w.heap[b]? = some (.cells cur e2 f))(hne:e2≠e):some b≠v.ownBlock:=by
 rcases h.2 with⟨rfl,_⟩|⟨g,cap,cur2,rfl,_,hh,_⟩
 ·simp[Value.ownBlock]
 ·simp only[Value.ownBlock,ne_eq,Option.some.injEq];rintro rfl;rw[hh] at hb;cases hb
  exact hne rfl
theorem _root_.Go.Proofs.YtokbbmngfogbbaaGreatDoor.Own.typed{e:TypeId}{w w':World}{base base2:Nat}{v r:Value}{vs:List Value}{bs:List UInt8}(h:Own w base r bs)(hv:OwnV e w base2 v vs)(hne:5≠e)(hg:w.grownBy w' v.ownBlock):Own w' base r bs:=by
 refine⟨h.1,?_⟩;rcases h.2 with hn|⟨b,cap,cur,rfl,hbg,hh,rr⟩
 ·exact .inl hn
 ·exact .inr ⟨b,cap,cur,rfl,hbg,by rw[hg.block b (Array.getElem?_eq_some_iff.1 hh).1 (hv.block_ne hh hne)];exact hh,rr⟩
theorem OwnV.typed{e e2:TypeId}{w w':World}{base base2:Nat}{v r:Value}{vs rs:List Value}(h:OwnV e2 w base r rs)(hv:OwnV e w base2 v vs)(hne:e2≠e)(hg:w.grownBy w' v.ownBlock):OwnV e2 w' base r rs:=by
 refine⟨h.1,?_⟩;rcases h.2 with hn|⟨b,cap,cur,rfl,hbg,hh,rr⟩
 ·exact .inl hn
 ·exact .inr ⟨b,cap,cur,rfl,hbg,by rw[hg.block b (Array.getElem?_eq_some_iff.1 hh).1 (hv.block_ne hh hne)];exact hh,rr⟩
theorem KO.typed{e:TypeId}{w w':World}{base b:Nat}{kf:Nat->List UInt8}{v:Value}{vs:List Value}(h:KO w b kf)(hv:OwnV e w base v vs)(h5:5≠e)(h22:22≠e)(hg:w.grownBy w' v.ownBlock):KO w' b kf:=by
 obtain⟨c,rs,h1,h2,h3⟩:=h;exact⟨c,rs,h1,h2.typed hv h22 hg,fun i hi=>by obtain⟨h4,y,h6,h7⟩:=h3 i hi;exact⟨h4,y,h6,h7.typed hv h5 hg⟩⟩
theorem OwnV.below{e:TypeId}{w w':World}{base:Nat}{v:Value}{vs:List Value}(hv:OwnV e w base v vs)(hbase:base<=w.heap.size)(hg:w.grownBy w' v.ownBlock):Below base w w' :=
 (Below.refl _ _).grown hg hbase fun k hk=>(World.ownsRow.lt hv k hk).1
def byC:Nat->Nat
 | 0=>0
 | k+1=>byC k+byOf k
theorem zqo:∀k,byC k<=2*k
 | 0=>Nat.le_refl _
 | k+1=>by have:=zqo k;have:=zhy k;rw[byC];omega
def turF(m j:Nat):Int:=c1L.getD (28*(j/28)+(j-28*(j/28)+byC m)%28) 0
def turL(m j:Nat):List Int:=(List.range j).map (turF m)
theorem zmR(m j:Nat):turL m (j+1)=turL m j++[turF m j]:=by simp[turL,List.range_succ]
theorem zoX(m j:Nat):(turL m j).length=j:=by simp[turL]
theorem zoK:∀k,k<16->turL (k+1) 56=tabP (k+1):=by decide +kernel
theorem zsn(m j:Nat)(hj:j<56):1<=turF m j/\turF m j<=63:=by
 have:=ze zl7 (j:=28*(j/28)+(j-28*(j/28)+byC m)%28) (by rw[zh];omega);exact⟨this.1,this.2.1⟩
theorem ztG(A A':Option Addr)(n m c c':Nat)(bs:List UInt8)(ts:List Int)(w:World)(h:Rd w w.heap.size A n bs)(hn:n<=1000000)(ht:Tab w A' m c' ts)(hok:okT n ts=true):
  Calls Tryz.prog 99 #[.slice A n c,.slice A' m c'] w (RetB w (za3 bs ts)):=by
 have hl:=h.len;go_enter Tryz.func99,Tryz.ntmps99;go_wp2_with fail
 refine(ziY A A' n m c c' bs ts w h ht.1 (by omega) (by have:=ht.2.2.1;omega) ht.2.2.2).mono ?_;unfold zgh;rw[hl,hok];rintro e w' ⟨v,rfl,ho,hb⟩;have H:=hid (And.intro ho hb);clear ho hb ht h;go_wp2_with fail
 go_ret;exact⟨_,rfl,H.out.1,H.out.2⟩
theorem zbZ(A:Option Addr)(c:Nat)(key:List UInt8)(w:World)(h:Rd w w.heap.size A 8 key):
  Calls Tryz.prog 61 #[.slice A 8 c] w (zkn w key):=by
 go_enter Tryz.func61,Tryz.ntmps61;go_wp2_with fail
 refine(zlS _).mono ?_;rintro e w3 ⟨A4,c4,rfl,ht4,hx4⟩;have HX4:=hid hx4;have HT4:=hid ht4;have HK4:=hid (h.later hx4);clear ht4 hx4 h;go_wp2_with fail
 go_loopw [5,6,7] (fun by_ v i wr=>∃(k:Nat) (vs:List Value),k<=16/\i=.int .i64 ((k:Int)+1)/\by_=.int .i64 (byC k:Nat)/\vs.length=k/\OwnV 22 wr w3.heap.size v vs/\Below w3.heap.size w3 wr /\
   (∀j,j<k->∃v,vs[j]? = some v/\Own wr w3.heap.size v (keyF key j))) (fun _ _ i _=>17-(intOf i).toNat)
 case atStart=>exact⟨0,[],by omega,rfl,rfl,rfl,World.ownsRow_nil _ _ _ _,Below.refl _ _,fun j hj=>absurd hj (by omega)⟩
 case round =>
  obtain⟨k,vs,hk,rfl,rfl,hvl,hov,hb,hrows⟩:=hrel;by_cases hlt:k<16
  ·have hbl:=zhy k;have hbc:=zqo k;have hnext:byC (k+1)=byC k+byOf k:=rfl;have HOV:=hid hov;have HB:=hid hb;have HR:=hid hrows;have HT:=hid (HT4.out.later hb);have HK:=hid (HK4.out.later hb);obtain⟨m,hm⟩:∃m,byC k=m:=⟨_,rfl⟩;obtain⟨m2,hm2⟩:∃m2,byC (k+1)=m2:=⟨_,rfl⟩;rw[hm,hm2] at hnext;rw[hm] at hbc ⊢;have HM2:=hid hm2;clear hov hb hrows hm hm2;have hcase:(((k:Int)+1==1)=true/\byOf k=1)\/(((k:Int)+1==1)=false/\((k:Int)+1==2)=true/\byOf k=1)\/(((k:Int)+1==1)=false/\((k:Int)+1==2)=false/\((k:Int)+1==9)=true/\byOf k=1) \/
     (((k:Int)+1==1)=false/\((k:Int)+1==2)=false/\((k:Int)+1==9)=false/\((k:Int)+1==16)=true/\byOf k=1)\/(((k:Int)+1==1)=false/\((k:Int)+1==2)=false/\((k:Int)+1==9)=false/\((k:Int)+1==16)=false/\byOf k=2):=by
    unfold byOf;by_cases h0:k=0
    ·refine .inl ⟨by simp;omega,if_pos (.inl h0)⟩
    ·by_cases h1:k=1
     ·refine .inr (.inl ⟨by simp;omega,by simp;omega,if_pos (.inr (.inl h1))⟩)
     ·by_cases h2:k=8
      ·refine .inr (.inr (.inl ⟨by simp;omega,by simp;omega,by simp;omega,if_pos (.inr (.inr (.inl h2)))⟩))
      ·by_cases h3:k=15
       ·refine .inr (.inr (.inr (.inl ⟨by simp;omega,by simp;omega,by simp;omega,by simp;omega,if_pos (.inr (.inr (.inr h3)))⟩)))
       ·refine .inr (.inr (.inr (.inr ⟨by simp;omega,by simp;omega,by simp;omega,by simp;omega,if_neg (by omega)⟩)))
   have HN:=hid hnext;have hm60:m2<=60:=by omega
   clear hnext hbl;have hz:=HB.out.size;obtain⟨W,rfl⟩:∃W,W=wr:=⟨_,rfl⟩;rcases hcase with⟨g1,hby⟩|⟨g1,g2,hby⟩|⟨g1,g2,g3,hby⟩|⟨g1,g2,g3,g4,hby⟩|⟨g1,g2,g3,g4,hby⟩
   all_goals
    have hm2:=HN.out;rw[hby] at hm2;clear hby;go_wp2_with fail
    first
     | rw[show(m:Int)+2-1=m2 by omega]
     | rw[show(m:Int)+2=m2 by omega]
    clear hm2
    try rw[show decide ((k:Int)+1<=16)=true by simp;omega]
    go_loopw [8,9] (fun v i wi=>∃j:Nat,j<=56/\i=.int .i64 j/\OwnN .i64 3 wi W.heap.size v (turL (k+1) j)/\Below W.heap.size W wi) (fun _ i _=>56-(intOf i).toNat)
    case atStart=>exact⟨0,by omega,rfl,World.ownsRow_nil _ _ _ _,Below.refl _ _⟩
    case round =>
     obtain⟨j,hj,rfl,hown,hbi⟩:=hrel;by_cases hjt:j<56
     ·have ht:=HT.out.later hbi;have hTF:turF (k+1) j=c1L.getD (28*(j/28)+(j-28*(j/28)+m2)%28) 0:=by unfold turF;rw[HM2.out]
      have hs:=zmR (k+1) j;have hl:=zoX (k+1) j;obtain⟨b4,o4,rfl,hb4,hc4⟩:=ht.1.at_ (by omega);have hcell:=hc4 (28*(j/28)+(j-28*(j/28)+m2)%28) (by omega);have hC4:=ht.2.1;rw[<-hTF] at hcell;have hTb:=zsn (k+1) j hjt;obtain⟨X,hX⟩:∃X,turF (k+1) j=X:=⟨_,rfl⟩;rw[hX] at hcell hs hTb;have hown2:=OwnN.kept hown (Ext.alloc1 wr X);have hone:=zd4 wr X;have hzi:=hbi.size;have HBI:=hid (hbi.trans (Below.mono (Ext.alloc1 wr X) hzi));have HS:=hid hs;by_cases h28:j<28
      ·have q0:(j:Int)/28=0:=by omega
       have q1:28*(j/28)+(j-28*(j/28)+m2)%28=(j+m2)%28:=by omega
       rw[q1] at hcell;obtain⟨q,hq⟩:∃q,(j+m2)%28=q:=⟨_,rfl⟩;have q2:((j:Int)+m2)%28=q:=by omega
       rw[hq] at hcell;have q3:q<56:=by omega
       clear hs hTF q1 hq ht hc4 hown hbi hX;go_wp2_with (at_builtin;refine zaw _ rfl (.tmp 44) (.tmp 56) 38 rfl Tryz.underlying38 8 Tryz.info3 W.heap.size _ (turL (k+1) j) rfl hown2 _ _ 1 1 [X] rfl hone (by omega) (by unfold maxLen;omega) (by simp;omega) ?_;intro v2 w2 hown3 hb2)
       rw[<-HS.out] at hown3;have HB2:=hid (HBI.out.trans hb2);clear hb2;go_roundw
       case rel=>exact⟨j+1,by omega,by go_num,hown3,HB2.out⟩
       case measure=>simp[intOf];omega
      ·have q0:(j:Int)/28=1:=by omega
       have q1:28*(j/28)+(j-28*(j/28)+m2)%28=28+(j-28+m2)%28:=by omega
       rw[q1] at hcell;obtain⟨r,hq⟩:∃r,28+(j-28+m2)%28=r:=⟨_,rfl⟩;have q2:((j:Int)-28+m2)%28=(r:Int)-28:=by omega
       have q5:(28:Int)+((r:Int)-28)=r:=by omega
       rw[hq] at hcell;have q3:r<56:=by omega
       have q6:28<=r:=by omega
       clear hs hTF q1 hq ht hc4 hown hbi hX;go_wp2_with (at_builtin;refine zaw _ rfl (.tmp 44) (.tmp 56) 38 rfl Tryz.underlying38 8 Tryz.info3 W.heap.size _ (turL (k+1) j) rfl hown2 _ _ 1 1 [X] rfl hone (by omega) (by unfold maxLen;omega) (by simp;omega) ?_;intro v2 w2 hown3 hb2)
       rw[<-HS.out] at hown3;have HB2:=hid (HBI.out.trans hb2);clear hb2;go_roundw
       case rel=>exact⟨j+1,by omega,by go_num,hown3,HB2.out⟩
       case measure=>simp[intOf];omega
     ·obtain rfl:j=56:=by omega
      have hrows:=zoK k hlt;rw[hrows] at hown;obtain⟨A8,c8,rfl,ht8⟩:=znS hown (zlk _) (by omega) (fun t ht=>by have:=zl7 t (zfA _ t ht);omega);have HT8:=hid ht8;have HXi:=hid (show Ext W wr from hbi);have HKi:=hid (HK.out.later hbi);clear hown hbi ht8;go_wp2_with fail
      refine(zva _ _ 8 56 _ _ _ _ 7 _ HKi.out (by omega) HT8.out (zn1 (k+1)) (by omega)).mono ?_;rintro e w5 ⟨A5,c5,rfl,hc5,hr5,hx5⟩;have HX5:=hid (Ext.trans HXi.out hx5);have HR5:=hid hr5;clear hx5 hr5 HXi;go_wp2_with fail
      refine(zp5 _).mono ?_;rintro e w6 ⟨A6,c6,rfl,ht6,hx6⟩;have HX6:=hid (Ext.trans HX5.out hx6);have HR6:=hid (HR5.out.later hx6);have HT6:=hid ht6;clear hx6 ht6 HR5 HX5;go_wp2_with fail
      refine(ztG _ _ 7 48 _ _ _ _ _ HR6.out (by omega) HT6.out zsY).mono ?_;rintro e w7 ⟨v7,rfl,ho7,hx7⟩;have HX7:=hid (Ext.trans HX6.out hx7);obtain⟨A7,c7,rfl,_,ho7⟩:=ho7.rdn (zfy key k);have hz6:=Below.size HX6.out;have hz7:=Below.size hx7;have hx8:Ext w7 (w7.alloc (.cells #[.slice A7 6 c7] 22)):=Ext.alloc _ _;have hX8:=Ext.trans HX7.out hx8;have hov8:=HOV.out.kept hX8;have hcell8:=zbC w7 [.slice A7 6 c7] 22 0 (.slice A7 6 c7) rfl;rw[Nat.zero_add] at hcell8;have hb8:w3.heap.size<=(w7.alloc (.cells #[.slice A7 6 c7] 22)).heap.size:=by simp;omega
      have HO8:=hid ((ho7.base_mono (show w3.heap.size<=w6.heap.size by omega)).kept hx8);have HB8:=hid (HB.out.trans (Below.mono hX8 hz));have HR8:=hid (show ∀j,j<k->∃v,vs[j]? = some v/\Own (w7.alloc (.cells #[.slice A7 6 c7] 22)) w3.heap.size v (keyF key j) from fun j hj=>by obtain⟨v,h1,h2⟩:=HR.out j hj;exact⟨v,h1,h2.kept hX8⟩);clear hx8 hX8 HX7 hx7 HX6 ho7 HR HB HOV;go_wp2_with (at_builtin;refine zbn _ rfl (.tmp 58) (.tmp 64) 109 22 rfl Tryz.underlying109 Tryz.info22 w3.heap.size _ vs rfl hov8 _ 1 (.slice A7 6 c7) rfl hcell8 rfl (by omega) hb8 ?_;intro v9 w9 hown9 hg9)
      have HH:=hid (And.intro hown9 (And.intro (HB8.out.trans (hov8.below hb8 hg9)) (show ∀j,j<k+1->∃v,(vs++[Value.slice A7 6 c7])[j]? = some v/\Own w9 w3.heap.size v (keyF key j) from fun j hj=>by
       by_cases hjk:j=k
       ·subst hjk;exact⟨_,by simp[hvl],HO8.out.typed hov8 (by decide) hg9⟩
       ·obtain⟨v,h1,h2⟩:=HR8.out j (by omega);exact⟨v,by rw[List.getElem?_append_left (by omega)];exact h1,h2.typed hov8 (by decide) hg9⟩)))
      clear hown9 hg9 hov8 hcell8;go_roundw
      case rel=>exact⟨k+1,_,by omega,by go_num,by rw[HM2.out],by simp[hvl],HH.out.1,HH.out.2.1,HH.out.2.2⟩
      case measure=>simp[intOf];omega
  ·obtain rfl:k=16:=by omega
   obtain⟨b9,c9,rfl,hc9⟩:∃b c,u6=.slice (some ⟨b,0,none⟩) 16 c/\16<=c:=by
    rcases hov.2 with⟨_,hn⟩|⟨g,cap,cur,rfl,_,_,hnc,_⟩
    ·omega
    ·exact⟨g,cap,by rw[hvl],by omega⟩
   have hko:KO wr b9 (keyF key):=⟨c9,vs,hvl,hov.base_mono (Nat.zero_le _),fun i hi=>by obtain⟨v,h1,h2⟩:=hrows i hi;exact⟨zfy _ _,v,h1,h2.base_mono (Nat.zero_le _)⟩⟩;have HH:=hid (And.intro hko (Ext.trans HX4.out hb));clear hko hov hb hrows;go_wp2_with fail
   go_ret2;exact⟨b9,c9,rfl,hc9,HH.out.1,HH.out.2⟩
def Boxes[Inhabited BT](w:World):Prop:=∀i,i<8->∀r,r<4->w.cell? ⟨11,i*4+r,none⟩=some (.int .u64 (boxW i r:Nat))
theorem Boxes.later[Inhabited BT]{w w':World}(h:Boxes w)(hx:Ext w w'):Boxes w':=fun i hi r hr =>
 (Below.cell hx (p:=⟨11,i*4+r,none⟩) (World.block_lt_of_cell? w _ (h i hi r hr))).trans (h i hi r hr)
theorem zrm[Inhabited BT]:∀i,i<8->∀r,r<4->boxW i r<18446744073709551616:=fun i _ r _=>(default:BT).lt i r
theorem zpB[Inhabited BT](i s:Nat)(w:World)(hi:i<8)(hs:s<64)(hB:Boxes w):
  Calls Tryz.prog 220 #[.int .i64 i,.int .u32 s] w fun e w'=>e=.returned (.int .u32 (sN i s:Nat))/\w=w':=by
 have hr:2*(s/32)+s%2<4:=by omega
 have hcell:=hB i hi _ hr;have hw:=zrm i hi _ hr;have b1:bits .and .u32 (s:Int) 1=((s%2:Nat):Int):=by rw[show(1:Int)=((1:Nat):Int) from rfl,u32_and_nat _ _ (by omega) (by omega),nat_mask1]
 have b2:bits .or .u32 ((s:Int)/32*2) ((s%2:Nat):Int)=((2*(s/32)+s%2:Nat):Int):=by rw[show(s:Int)/32*2=((2*(s/32):Nat):Int) by omega,u32_or_nat _ _ (by omega) (by omega),or_bit _ _ (by omega)]
 have b3:bits .and .u32 ((s:Int)/2) 15=((s/2%16:Nat):Int):=by rw[show(15:Int)=((15:Nat):Int) from rfl,show(s:Int)/2=((s/2:Nat):Int) by omega,u32_and_nat _ _ (by omega) (by omega),nat_mask4]
 have hS:sN i s=boxW i (2*(s/32)+s%2)/2^(60-4*(s/2%16))%16:=rfl;obtain⟨R,hR⟩:∃R,2*(s/32)+s%2=R:=⟨_,rfl⟩;obtain⟨a,ha⟩:∃a,s%2=a:=⟨_,rfl⟩;obtain⟨B,hBB⟩:∃B,s/2%16=B:=⟨_,rfl⟩;rw[hR] at hr hcell hw b2 hS;rw[ha] at b1 b2;rw[hBB] at b3 hS;obtain⟨X,hX⟩:∃X,boxW i R=X:=⟨_,rfl⟩;rw[hX] at hcell hw hS;have hB16:B<=15:=by omega
 have hX2:(X:Int)<18446744073709551616:=by omega
 have HS:=hid hS;clear hB hR ha hBB hX hS;go_enter Tryz.func220,Tryz.ntmps220;go_wp2_with fail
 go_ret;refine⟨zak ?_,rfl⟩;rw[HS.out];have hq:(X:Int)/2^(60-4*B)%4294967296=((X/2^(60-4*B)%4294967296:Nat):Int):=by rw[zdg];omega
 rw[hq,show(15:Int)=((15:Nat):Int) from rfl,u32_and_nat _ _ (by omega) (by omega),nat_mask4];omega
def beN(bs:List UInt8):Nat->Nat
 | 0=>0
 | k+1=>beN bs k*256+(bs.getD k 0).toNat
theorem zq3(bs:List UInt8):be bs 8=(beN bs 8:Nat):=by
 rw[be8];simp only[beN,zah];omega
theorem zsp(bs:List UInt8):be bs 4=(beN bs 4:Nat):=by
 rw[be4];simp only[beN,zah];omega
theorem zlu(A:Option Addr)(c:Nat)(k:List UInt8)(w:World)(h:Rd w w.heap.size A 6 k):
  Calls Tryz.prog 219 #[.slice A 6 c] w fun e w'=>e=.returned (.int .u64 (beN (0::0::k) 8:Nat))/\Ext w w':=by
 have hl:=h.len;have hx1:Ext w (w.alloc (.cells #[.int .u8 0,.int .u8 0,.int .u8 0,.int .u8 0,.int .u8 0,.int .u8 0,.int .u8 0,.int .u8 0] 184)):=Ext.alloc _ _;have hr1:=h.later hx1;have hz1:(w.alloc (.cells #[.int .u8 0,.int .u8 0,.int .u8 0,.int .u8 0,.int .u8 0,.int .u8 0,.int .u8 0,.int .u8 0] 184)).heap[w.heap.size]? = some (.cells (List.replicate 8 (Value.int .u8 0)).toArray 184 (0,0)):=heap_alloc_new w _;have hcl:(cellsOf k).length=6:=by rw[zaa];exact hl
 have hpos:0<(cellsOf k).length->∃ad,A=some ad/\∀j v,(cellsOf k)[j]? = some v->(w.alloc (.cells #[.int .u8 0,.int .u8 0,.int .u8 0,.int .u8 0,.int .u8 0,.int .u8 0,.int .u8 0,.int .u8 0] 184)).cell? (ad.add j)=some v:=by
  intro _;obtain⟨b,off,rfl,_,hc⟩:=hr1.at_ (by omega);refine⟨_,rfl,fun j v hv=>?_⟩;have hj:j<6:=by
   rcases Nat.lt_or_ge j 6 with hj|hj
   ·exact hj
   ·rw[List.getElem?_eq_none (by omega)] at hv;cases hv
  rw[zam k j (by omega)] at hv;cases hv
  rw[za2];exact hc j hj
 have hsp:splice (List.replicate 8 (Value.int .u8 0)) 2 (cellsOf k)=cellsOf (0::0::k):=by unfold splice;rw[hcl];simp[cellsOf]
 have HP:=hid hpos;have HSP:=hid hsp;have HX1:=hid (show Below w.heap.size w (w.alloc (.cells #[.int .u8 0,.int .u8 0,.int .u8 0,.int .u8 0,.int .u8 0,.int .u8 0,.int .u8 0,.int .u8 0] 184)) from hx1);have HZ1:=hid hz1;have HCL:=hid (show(cellsOf k).length=Nat.min 6 6 by rw[hcl];rfl);have HFT:=hid (show 2+(cellsOf k).length<=(List.replicate 8 (Value.int .u8 0)).length by rw[hcl];simp);clear hpos hsp hx1 hz1 hcl hr1;go_enter Tryz.func219,Tryz.ntmps219;go_wp2_with (with_reducible refine wpList_copy_splice rfl (.tmp 6) (.tmp 7) 22 22 rfl 5 Tryz.underlying22 (by kernel_rfl) (some ⟨w.heap.size,2,none⟩) A 6 6 6 c rfl rfl w.heap.size 2 (List.replicate 8 (.int .u8 0)) 184 HZ1.out (cellsOf k) HCL.out (fun h0=>⟨rfl,HP.out h0⟩) HFT.out (zby k) w.heap.size w HX1.out (Nat.le_refl _) ?_;intro w2 hz2 hb2)
 rw[HSP.out] at hz2;have hr2:Rd w2 w2.heap.size (some ⟨w.heap.size,0,none⟩) 8 (0::0::k):=by refine⟨by simp[hl],fun _=>⟨w.heap.size,0,rfl,(Array.getElem?_eq_some_iff.1 hz2.out).1,fun j hj=>?_⟩⟩;rw[Nat.zero_add,cell_of_heap hz2.out];simpa using zam (0::0::k) j (by simp[hl];omega)
 have HR2:=hid hr2;have HB2:=hid (show Ext w w2 from hb2);clear hz2 hr2 hb2 HP HSP HX1 HZ1 HCL HFT h;go_wp2_with fail
 refine(zpy _ 8 _ _ _ _ HR2.out (by omega)).mono ?_;rintro e w3 ⟨rfl,rfl⟩;have he:zmM (0::0::k) 8=(beN (0::0::k) 8:Nat):=by unfold zmM;rw[if_pos rfl];exact zq3 _
 rw[he];clear he;go_wp2_with fail
 go_ret;exact⟨rfl,HB2.out⟩
theorem zj8(bs:List UInt8):∀n,n<=bs.length->∀q,q<8*n->beN bs n/2^(8*n-1-q)%2=bitN bs ((q:Int)+1)
 | 0,_,q,hq=>absurd hq (by omega)
 | n+1,hn,q,hq=>by
   have hb:=(bs.getD n 0).toNat_lt;rw[beN];by_cases h:q<8*n
   ·rw[<-zj8 bs n (by omega) q h,show 8*(n+1)-1-q=8+(8*n-1-q) by omega,Nat.pow_add,<-Nat.div_div_eq_div_mul];congr 2;omega
   ·rw[zdC (by omega),show q/8=n by omega,show 8*(n+1)-1-q=7-q%8 by omega];obtain⟨j,hj⟩:∃j,q%8=j:=⟨_,rfl⟩;have hj8:j<8:=by omega
    rw[hj];generalize (bs.getD n 0).toNat=b at *;generalize beN bs n=a
    match j,hj8 with
    | 0,_=>simp only[Nat.reduceSub,Nat.reducePow];omega
    | 1,_=>simp only[Nat.reduceSub,Nat.reducePow];omega
    | 2,_=>simp only[Nat.reduceSub,Nat.reducePow];omega
    | 3,_=>simp only[Nat.reduceSub,Nat.reducePow];omega
    | 4,_=>simp only[Nat.reduceSub,Nat.reducePow];omega
    | 5,_=>simp only[Nat.reduceSub,Nat.reducePow];omega
    | 6,_=>simp only[Nat.reduceSub,Nat.reducePow];omega
    | 7,_=>simp only[Nat.reduceSub,Nat.reducePow];omega
theorem zkF(bs:List UInt8):∀n,beN bs n<256^n
 | 0=>by simp[beN]
 | n+1=>by have h:=zkF bs n;have hb:=(bs.getD n 0).toNat_lt;rw[beN,Nat.pow_succ];omega
theorem zpi{xs bs ss:List UInt8}{n:Nat}(ha:xs.length=n)(hb:bs.length=n)(hs:ss.length=n)(h:∀i,i<n->ss.getD i 0=xs.getD i 0^^^bs.getD i 0)(i:Int):
  bitN ss i=(bitN xs i+bitN bs i)%2:=by
 unfold bitN;rw[ha,hb,hs];by_cases hh:hasN n i=true
 ·rw[if_pos hh,if_pos hh,if_pos hh];have hi:((i-1)/8).toNat<n:=by have:=hh;unfold hasN at this;simp only[decide_eq_true_eq] at this;omega
  rw[h _ hi,zue]
 ·rw[if_neg hh,if_neg hh,if_neg hh]
theorem zcV(xs ys:List UInt8)(n i:Nat)(hi:i<n):(xorL xs ys n).getD i 0=xs.getD i 0^^^ys.getD i 0:=by
 simp[xorL,xorF,List.getD,hi]
theorem zpw{xs ys:List UInt8}{n:Nat}(hx:xs.length=n)(hy:ys.length=n)(i:Int):bitN (xorL xs ys n) i=(bitN xs i+bitN ys i)%2 :=
 zpi hx hy (zar _ _ _) (fun i hi=>zcV xs ys n i hi) i
theorem zo2(r:List UInt8)(q:Nat)(hq:q<48):bitN (za3 r eL) ((q:Int)+1)=bitN r (eF q):=by
 rw[zfI _ _ _ (by rw[show eL.length=48 from zkY 48];omega),zre (by rw[show eL.length=48 from zkY 48];exact hq)];congr 1;rw[za1 _ _ _ (by rw[show eL.length=48 from zkY 48];exact hq)];simp[eL,eN]
theorem zt7(r k:List UInt8)(hk:k.length=6)(q:Nat)(hq:q<48):bitN (fx r k) ((q:Int)+1)=(bitN r (eF q)+bitN k ((q:Int)+1))%2:=by
 unfold fx;rw[zpw (show(za3 r eL).length=6 from zhz _ _ 48 (zkY 48)) hk,zo2 r q hq]
theorem zeR(x i:Nat):x.testBit i=decide (x/2^i%2=1):=Nat.testBit_eq_decide_div_mod_eq
theorem zr0(x:List UInt8)(i k:Nat)(hk:k<6):six x i/2^k%2=bitN x ((6*i+(5-k):Nat)+1):=by
 have h0:=zcC x ((6*i+0:Nat)+1);have h1:=zcC x ((6*i+1:Nat)+1);have h2:=zcC x ((6*i+2:Nat)+1);have h3:=zcC x ((6*i+3:Nat)+1);have h4:=zcC x ((6*i+4:Nat)+1);have h5:=zcC x ((6*i+5:Nat)+1);have e:six x i=32*bitN x ((6*i+0:Nat)+1)+16*bitN x ((6*i+1:Nat)+1)+8*bitN x ((6*i+2:Nat)+1)+4*bitN x ((6*i+3:Nat)+1)+2*bitN x ((6*i+4:Nat)+1)+bitN x ((6*i+5:Nat)+1):=by simp only[six,sixG];omega
 rw[e]
 match k,hk with
 | 0,_=>simp only[Nat.reduceSub,Nat.reducePow];omega
 | 1,_=>simp only[Nat.reduceSub,Nat.reducePow];omega
 | 2,_=>simp only[Nat.reduceSub,Nat.reducePow];omega
 | 3,_=>simp only[Nat.reduceSub,Nat.reducePow];omega
 | 4,_=>simp only[Nat.reduceSub,Nat.reducePow];omega
 | 5,_=>simp only[Nat.reduceSub,Nat.reducePow];omega
theorem zgI(k:List UInt8)(q:Nat)(hq:q<8*k.length):bitN (0::0::k) (((16+q:Nat):Int)+1)=bitN k ((q:Int)+1):=by
 rw[zdC (by simp;omega),zdC (by omega),show(16+q)/8=q/8+1+1 by omega,show(16+q)%8=q%8 by omega];simp[List.getD]
theorem window(r k:List UInt8)(i:Nat)(hr:r.length=4)(hk:k.length=6)(hi:i<8):
  rolN 32 (beN r 4) ((4*i+31)%32)/2^26^^^(beN (0::0::k) 8/2^(42-6*i)%64)=six (fx r k) i:=by
 have hR:beN r 4<2^32:=zkF r 4;have hA:rolN 32 (beN r 4) ((4*i+31)%32)/2^26<2^6:=by have:=zcD 32 (beN r 4) ((4*i+31)%32) hR;omega
 have hB:beN (0::0::k) 8/2^(42-6*i)%64<2^6:=Nat.mod_lt _ (by omega);refine ze0 6 _ _ (Nat.xor_lt_two_pow hA hB) (zqj _ _) fun t ht=>?_
 have hs:=zr0 (fx r k) i t ht;rw[zt7 r k hk (6*i+(5-t)) (by omega)] at hs;rw[zeR (six _ _),hs,Nat.testBit_xor,Nat.testBit_div_two_pow,zdk 32 _ _ _ hR (by omega) (by omega),show(64:Nat)=2^6 from rfl,Nat.testBit_mod_two_pow,Nat.testBit_div_two_pow];rw[zeR,zeR];have e1:=zj8 r 4 (by omega) ((4*((6*i+(5-t))/6)+(6*i+(5-t))%6+31)%32) (by omega);have e2:=zj8 (0::0::k) 8 (by simp[hk]) (16+(6*i+(5-t))) (by omega);rw[zgI k _ (by omega)] at e2;have a1:(t+26+32-(4*i+31)%32)%32=8*4-1-(4*((6*i+(5-t))/6)+(6*i+(5-t))%6+31)%32:=by omega
 have a2:t+(42-6*i)=8*8-1-(16+(6*i+(5-t))):=by omega
 rw[a1,a2,e1,e2,decide_eq_true ht,Bool.true_and];have e3:eF (6*i+(5-t))=(((4*((6*i+(5-t))/6)+(6*i+(5-t))%6+31)%32:Nat):Int)+1:=by unfold eF;omega
 rw[<-e3];have h1:=zcC r (eF (6*i+(5-t)));have h2:=zcC k (((6*i+(5-t):Nat):Int)+1);generalize bitN r (eF (6*i+(5-t)))=a at *;generalize bitN k (((6*i+(5-t):Nat):Int)+1)=b at *
 match a,b,h1,h2 with
 | 0,0,_,_=>rfl
 | 0,1,_,_=>rfl
 | 1,0,_,_=>rfl
 | 1,1,_,_=>rfl
theorem zsq(R k:Nat)(w:World)(hR:R<4294967296)(_hk:k<8):
  Calls Tryz.prog 141 #[.int .u32 R,.int .i64 (4*(k:Int)-1)] w fun e w'=>e=.returned (.int .u32 (rolN 32 R ((4*k+31)%32):Nat))/\w=w':=by
 refine(zfR _ _ _).mono ?_;rintro e w' ⟨rfl,rfl⟩;refine⟨zak ?_,rfl⟩;rw[show((4*(k:Int)-1)%32).toNat=(4*k+31)%32 by omega];exact ziz R _ hR (by omega)
def fN[Inhabited BT](x:List UInt8):Nat->Nat
 | 0=>0
 | k+1=>fN x k*16+sN k (six x k)
theorem zrC[Inhabited BT](x:List UInt8):∀k,fN x k<16^k
 | 0=>by simp[fN]
 | k+1=>by have h:=zrC x k;have:=zgK k (six x k);rw[fN,Nat.pow_succ];omega
theorem zsv(L K S j:Nat)(hL:L<4294967296)(h:L/2^26^^^(K/2^(42-6*j)%64)=S):
  bits .xor .u32 ((L:Int)/67108864) (bits .and .u32 ((K:Int)/2^(42-6*j)%4294967296) 63)=(S:Int):=by
 have hq:(K:Int)/2^(42-6*j)%4294967296=((K/2^(42-6*j)%4294967296:Nat):Int):=by rw[zdg];omega
 rw[hq,show(63:Int)=((63:Nat):Int) from rfl,u32_and_nat _ _ (by omega) (by omega),nat_mask6,show(L:Int)/67108864=((L/2^26:Nat):Int) by omega,
  u32_xor_nat _ _ (by omega) (by omega),<-h]
 congr 2;omega
theorem zqS(F s:Nat)(hF:F<268435456)(hs:s<16):bits .or .u32 ((F:Int)*16) (s:Int)=((F*16+s:Nat):Int):=by
 rw[show(F:Int)*16=((F*16:Nat):Int) by omega,u32_or_nat _ _ (by omega) (by omega)];have:=Nat.two_pow_add_eq_or_of_lt (i:=4) (b:=s) (by omega) F;rw[show F*16=2^4*F by omega,<-this]
theorem zpj[Inhabited BT](x:List UInt8):zct (fN x 8:Nat)=zl3 x:=by
 have h0:=zgK 0 (six x 0);have h1:=zgK 1 (six x 1);have h2:=zgK 2 (six x 2);have h3:=zgK 3 (six x 3);have h4:=zgK 4 (six x 4);have h5:=zgK 5 (six x 5);have h6:=zgK 6 (six x 6);have h7:=zgK 7 (six x 7);have key:∀p a b:Nat,∀v:Int,a<16->b<16->v%256=((16*a+b:Nat):Int)->zj2 x p=UInt8.ofNat (16*a+b)->u8 v=zj2 x p:=by intro p a b v ha hb hv hf;rw[hf];unfold u8;rw[hv];rfl
 have e:zl3 x = [zj2 x 0,zj2 x 1,zj2 x 2,zj2 x 3]:=rfl;rw[e];unfold zct;simp only[fN];congr 1
 ·exact key 0 (sN 0 (six x 0)) (sN 1 (six x 1)) _ h0 h1 (by omega) rfl
 congr 1
 ·exact key 1 (sN 2 (six x 2)) (sN 3 (six x 3)) _ h2 h3 (by omega) rfl
 congr 1
 ·exact key 2 (sN 4 (six x 4)) (sN 5 (six x 5)) _ h4 h5 (by omega) rfl
 congr 1;exact key 3 (sN 6 (six x 6)) (sN 7 (six x 7)) _ h6 h7 (by omega) rfl
def FRet[Inhabited BT](w:World)(r k:List UInt8)(e:Ending)(w':World):Prop :=
 ∃A c,e=.returned (.tuple #[.slice A 4 c,.bool true])/\4<=c/\Rd w' w'.heap.size A 4 (fL r k)/\Ext w w'
theorem zvx[Inhabited BT](A A':Option Addr)(c c':Nat)(r k:List UInt8)(w:World)(hr:Rd w w.heap.size A 4 r)(hk:Rd w w.heap.size A' 6 k)(hB:Boxes w):
  Calls Tryz.prog 217 #[.slice A 4 c,.slice A' 6 c'] w (FRet w r k):=by
 have hrl:=hid hr.len;have hkl:=hid hk.len;have HR:=hid hr;have HK:=hid hk;have HB:=hid hB;clear hr hk hB;go_enter Tryz.func217,Tryz.ntmps217;go_wp2_with fail
 refine(zdW _ 4 _ _ _ _ HR.out (by omega)).mono ?_;rintro e w1 ⟨rfl,rfl⟩;have he:zeo r 4=(beN r 4:Nat):=by unfold zeo;rw[if_pos rfl];exact zsp _
 rw[he];have hR:beN r 4<4294967296:=zkF r 4;obtain⟨R,hRe⟩:∃R,beN r 4=R:=⟨_,rfl⟩;rw[hRe] at hR ⊢;have HRe:=hid hRe;clear he hRe;go_wp2_with fail
 refine(zlu _ _ _ _ HK.out).mono ?_;rintro e w2 ⟨rfl,hx2⟩;have hK:beN (0::0::k) 8<18446744073709551616:=zkF (0::0::k) 8;obtain⟨K,hKe⟩:∃K,beN (0::0::k) 8=K:=⟨_,rfl⟩;rw[hKe] at hK ⊢;have HKe:=hid hKe;have HX2:=hid hx2;clear hKe hx2;go_wp2_with fail
 go_loopw [9,27] (fun v i wr=>∃j:Nat,j<=8/\i=.int .i64 j/\v=.int .u32 (fN (fx r k) j:Nat)/\Ext w wr) (fun _ i _=>8-(intOf i).toNat)
 case atStart=>exact⟨0,by omega,rfl,rfl,HX2.out⟩
 case round =>
  clear HX2;obtain⟨j,hj,rfl,rfl,hx⟩:=hrel;by_cases hlt:j<8
  ·have HX:=hid hx;have HBj:=hid (HB.out.later hx);have hwin:=window r k j hrl.out hkl.out hlt;rw[HRe.out,HKe.out] at hwin;have h6:=zqj (fx r k) j;have hs:=zgK j (six (fx r k) j);have hf:=zrC (fx r k) j;have hf7:16^j<=16^7:=Nat.pow_le_pow_right (by omega) (by omega);have hst:fN (fx r k) (j+1)=fN (fx r k) j*16+sN j (six (fx r k) j):=rfl;obtain⟨S,hS⟩:∃S,six (fx r k) j=S:=⟨_,rfl⟩;obtain⟨F,hF⟩:∃F,fN (fx r k) j=F:=⟨_,rfl⟩;obtain⟨L,hL⟩:∃L,rolN 32 R ((4*j+31)%32)=L:=⟨_,rfl⟩;have hrol:=fun w=>zsq R j w hR hlt
   have hLl:L<4294967296:=by rw[<-hL];exact zcD 32 R _ hR
   rw[hL] at hwin hrol;rw[hS] at hwin hs hst h6;rw[hF] at hf hst ⊢;have HW:=hid hwin;have HST:=hid hst;have HRO:=hid hrol;have hF16:F<268435456:=by omega
   clear hx hS hF hL hwin hst hrol hf hf7;go_wp2_with fail
   go_quiet ((go_at_call 141;exact zaZ (HRO.out _)))
   rw[zsv L K S j hLl HW.out];have hor:=zqS F (sN j S) hF16 hs;rw[<-HST.out] at hor;have hsl:(sN j S:Int)<4294967296:=by omega
   go_wp2_with (go_at_call 220;refine(zpB j S _ hlt h6 (HBj.out.later ?_)).mono ?_;exact below_drewN' (Ext.refl _) _;rintro e w' ⟨rfl,rfl⟩)
   go_roundw
   case rel=>exact⟨j+1,by omega,by go_num,rfl,below_drewN' HX.out nq⟩
   case measure=>simp[intOf];omega
  ·obtain rfl:j=8:=by omega
   have hf:=zrC (fx r k) 8;have e4:=zpj (fx r k);obtain⟨F,hF⟩:∃F,fN (fx r k) 8=F:=⟨_,rfl⟩;rw[hF] at hf e4 ⊢;have HX:=hid hx;have HE4:=hid e4;clear hx hF e4;go_wp2_with fail
   refine(zcg _ _ (by omega) (by omega)).mono ?_;rw[HE4.out];rintro e w3 ⟨v3,rfl,ho3,hb3⟩;obtain⟨A3,c3,rfl,hr3,_⟩:=ho3.rdn (zmX (fx r k));have HX3:=hid (Ext.trans HX.out hb3);have HR3:=hid hr3;clear hr3 hb3 ho3;go_wp2_with fail
   refine(zdG _).mono ?_;rintro e w4 ⟨A4,c4,rfl,ht4,hx4⟩;have HX4:=hid (Ext.trans HX3.out hx4);have HR4:=hid (HR3.out.later hx4);have HT4:=hid ht4;clear hx4 ht4 HR3 HX3;go_wp2_with fail
   refine(zjM _ _ 4 32 _ _ _ _ 4 _ HR4.out HT4.out zuZ (by omega)).mono ?_;rintro e w5 ⟨A5,c5,rfl,hc5,hr5,hx5⟩;have HH:=hid (And.intro hr5 (Ext.trans HX4.out hx5));clear hr5 hx5;go_wp2_with fail
   go_ret2;exact⟨A5,c5,rfl,hc5.1,HH.out.1,HH.out.2⟩
theorem zij(i n:Nat)(back:Bool)(w:World)(hi:i<n)(hn:n<=1000):
  Calls Tryz.prog 214 #[.int .i64 i,.int .i64 n,.bool back] w fun e w'=>e=.returned (.int .i64 (place i n back:Nat))/\w=w':=by
 cases back with
 | true =>have hp:place i n true=n-1-i:=rfl;rw[hp];go_enter Tryz.func214,Tryz.ntmps214;go_wp2;go_ret;exact⟨zak (by omega),rfl⟩
 | false =>have hp:place i n false=i:=rfl;rw[hp];go_enter Tryz.func214,Tryz.ntmps214;go_wp2;go_ret;exact⟨rfl,rfl⟩
theorem zmo(A:Option Addr)(n c:Nat)(bs:List UInt8)(w:World)(h:Rd w w.heap.size A n bs)(h0:0<n)(hn:n<=1000000):
  Calls Tryz.prog 213 #[.slice A n c] w (RetB w bs):=by
 obtain⟨b,o,rfl,hb,hc⟩:=h.at_ h0;have hx:=Ext.alloc w (.cells #[] 5);have hr:=h.later hx;have hown:=Own.lit w [] #[] 0 w.heap.size rfl rfl (by unfold maxLen;omega) (Nat.le_refl _);have HX:=hid hx;have hop:∀w,(binOp .eql 22 (.slice (some ⟨b,o,none⟩) n c) (.slice none 0 0)).run Tryz.prog w=.ok (.bool false) w:=fun w=>by simp[binOp,run_equal_slice_nil w 22 5 (some ⟨b,o,none⟩) n c Tryz.underlying22]
 clear h hc hx;go_enter Tryz.func213,Tryz.ntmps213;go_wp2_with (at_builtin;refine za9 _ rfl (.tmp 5) (.tmp 6) 22 rfl Tryz.underlying22 Tryz.info5 w.heap.size _ [] rfl hown _ (some ⟨b,o,none⟩) n c bs rfl hr (by simp;omega) (by simp) ?_;intro v2 w2 hown2 hb2)
 go_ret;exact⟨_,rfl,by simpa using hown2,(show Below w.heap.size w _ from HX.out).trans hb2⟩
theorem _root_.Go.Proofs.YtokbbmngfogbbaaGreatDoor.Rd.part{w:World}{B b o n:Nat}{bs:List UInt8}(h:Rd w B (some ⟨b,o,none⟩) n bs)(l m:Nat)(hl:l+m<=n):Rd w B (some ⟨b,o+l,none⟩) m ((bs.drop l).take m):=by
 have hlen:=h.len;refine⟨by simp;omega,fun hm=>?_⟩;obtain⟨b',o',e,hb,hc⟩:=h.at_ (by omega);simp only[Option.some.injEq,Addr.mk.injEq,and_true] at e;obtain⟨rfl,rfl⟩:=e;refine⟨b,o+l,rfl,hb,fun k hk=>?_⟩;have:=hc (l+k) (by omega);rw[<-Nat.add_assoc] at this;rw[this];simp[zah,List.getD,hk]
theorem zua(A A':Option Addr)(n c c':Nat)(xs ys:List UInt8)(w:World)(h:Rd w w.heap.size A n xs)(h':Rd w w.heap.size A' n ys)(hn:n<=140737488355328):
  Calls Tryz.prog 44 #[.slice A n c,.slice A' n c'] w fun e w'=>∃A c,e=.returned (.tuple #[.slice A n c,.bool true])/\n<=c/\Rd w' w'.heap.size A n (xorL xs ys n)/\Ext w w':=by
 refine(zoi A A' n c c' xs ys w h h' hn).mono ?_;rintro e w' ⟨v,rfl,ho,hb⟩;obtain⟨A2,c2,rfl,hc,hr,_⟩:=ho.rdc (zar xs ys n);exact⟨A2,c2,rfl,hc,hr,hb⟩
theorem zkj(i n:Nat)(back:Bool)(h:i<n):place i n back<n:=by cases back<;>simp[place]<;>omega
def zmV[Inhabited BT](A1:Option Addr)(c1 b2 o2 c2 bk ok ck:Nat)(back:Bool)(kf:Nat->List UInt8)(x:List UInt8)(w:World)(a:Act)(w1:World):Prop :=
 ∃(i:Nat) (Al Ar:Option Addr) (cl cr:Nat) (u3 u4 u5 u11 u12 u13 u14 u15 u16 u17 u18 u19 u20 u21 u22 u23 u24 u25 u26 u27 u28 u29 u30 u31 u32 u33 u34 u35 u36 u37 u38 u39 u40 u41 u42 u43 u44 u45 u46 u47 u48 u49 u50 u51 u52 u53 u54 u55 u56 u57 u58 u59 u60 u61 u62 u63 u64 u65 u66 u67 u68 u69:Value),
  a = { tmps:=#[.slice (some ⟨b2,o2,none⟩) 8 c2,.slice (some ⟨bk,ok,none⟩) 16 ck,.bool back,u3,u4,u5,.slice none 0 0,.slice A1 64 c1,.slice Al 4 cl,.slice Ar 4 cr,.int .i64 i,u11,u12,u13,u14,u15,u16,u17,u18,u19,u20,u21,u22,u23,u24,u25,u26,u27,u28,u29,u30,u31,u32,u33,u34,u35,u36,u37,u38,u39,u40,u41,u42,u43,u44,u45,u46,u47,u48,u49,u50,u51,u52,u53,u54,u55,u56,u57,u58,u59,u60,u61,u62,u63,u64,u65,u66,u67,u68,u69],defers:=[] }/\i<=16/\Ext w w1 /\
  Rd w1 w1.heap.size Al 4 (feL (dirF kf back) (x.take 4) (x.drop 4) i).1/\Rd w1 w1.heap.size Ar 4 (feL (dirF kf back) (x.take 4) (x.drop 4) i).2/\Tab w1 A1 64 c1 ipL/\KR w1 bk ok kf/\Boxes w1
def zs4(w:World)(n:Nat)(bs:List UInt8)(e:Ending)(w':World):Prop:=∃A c,e=.returned (.slice A n c)/\(n<=c/\c<=9223372036854775807)/\Rd w' w'.heap.size A n bs/\Ext w w'/\Fr w.heap.size A
theorem zcw[Inhabited BT](A:Option Addr)(c bk ok ck:Nat)(b:List UInt8)(kf:Nat->List UInt8)(back:Bool)(w:World)(h:Rd w w.heap.size A 8 b)(hk:KR w bk ok kf)(_hck:16<=ck)(hB:Boxes w):
  Calls Tryz.prog 215 #[.slice A 8 c,.slice (some ⟨bk,ok,none⟩) 16 ck,.bool back] w (zs4 w 8 (zbe (dirF kf back) b)):=by
 have HR:=hid h;have HK:=hid hk;have HB:=hid hB;clear h hk hB;obtain⟨x,hx⟩:∃x,za3 b ipL=x:=⟨_,rfl⟩;have hxl:x.length=8:=by rw[<-hx];exact zhz b ipL 64 (zh9 64)
 have HXX:=hid hx;have HXL:=hid hxl;clear hx hxl;go_enter Tryz.func215,Tryz.ntmps215;go_wp2_with fail
 refine zat 0 (fun a w1=>∃(A1:Option Addr) (c1 b2 o2 c2:Nat),zmV A1 c1 b2 o2 c2 bk ok ck back kf x w a w1) (fun a _=>16-iAt 10 a) rfl ?_ ?_
 ·rintro a w1 ⟨A1,c1,b2,o2,c2,i,Al,Ar,cl,cr,u3,u4,u5,u11,u12,u13,u14,u15,u16,u17,u18,u19,u20,u21,u22,u23,u24,u25,u26,u27,u28,u29,u30,u31,u32,u33,u34,u35,u36,u37,u38,u39,u40,u41,u42,u43,u44,u45,u46,u47,u48,u49,u50,u51,u52,u53,u54,u55,u56,u57,u58,u59,u60,u61,u62,u63,u64,u65,u66,u67,u68,u69,rfl,hi,hx,hl,hr,ht,hk,hB⟩;by_cases hlt:i<16
  ·obtain⟨L,R,hfe⟩:∃L R,feL (dirF kf back) (x.take 4) (x.drop 4) i=(L,R):=⟨_,_,rfl⟩;have hnext:feL (dirF kf back) (x.take 4) (x.drop 4) (i+1)=(R,xorL L (fL R (kf (place i 16 back))) 4):=by rw[feL,hfe];rfl
   rw[hfe] at hl hr;have hP:=zkj i 16 back hlt;have hpl:=fun w=>zij i 16 back w hlt (by omega)
   obtain⟨P,hPe⟩:∃P,place i 16 back=P:=⟨_,rfl⟩;rw[hPe] at hP hnext hpl;obtain⟨Ak,ck2,hcell,hrk⟩:=hk.2 P hP;have HPL:=hid hpl;have HN:=hid hnext;have HX:=hid hx;have HL:=hid hl;have HRR:=hid hr;have HT:=hid ht;have HKR:=hid hk;have HBX:=hid hB;have HRK:=hid hrk;clear hpl hnext hfe hx hl hr ht hk hB hrk hPe;go_wp2_with (go_at_call 214;refine(HPL.out _).mono ?_;rintro e w' ⟨rfl,rfl⟩)
   refine(zvx _ _ _ _ _ _ _ HRR.out HRK.out HBX.out).mono ?_;rintro e w2 ⟨A5,c5,rfl,hc5,hr5,hx5⟩;have HX5:=hid (Ext.trans HX.out hx5);have HL5:=hid (HL.out.later hx5);have HR5:=hid (HRR.out.later hx5);have HT5:=hid (HT.out.later hx5);have HK5:=hid (HKR.out.later hx5);have HB5:=hid (HBX.out.later hx5);have HF5:=hid hr5;clear hr5 hx5 HX HL HRR HT HKR HBX HRK HPL;go_wp2_with fail
   refine(zua _ _ 4 _ _ _ _ _ HL5.out HF5.out (by omega)).mono ?_;rintro e w3 ⟨A6,c6,rfl,hc6,hr6,hx6⟩;have HX6:=hid (Ext.trans HX5.out hx6);have HR6:=hid (HR5.out.later hx6);have HT6:=hid (HT5.out.later hx6);have HK6:=hid (HK5.out.later hx6);have HB6:=hid (HB5.out.later hx6);have HM6:=hid hr6;clear hr6 hx6 HX5 HL5 HR5 HT5 HK5 HB5 HF5;go_wp2_with fail
   go_step3
   (try simp only[Exit.jump])
   refine⟨rfl,⟨A1,c1,b2,o2,c2,i+1,Ar,A6,cr,c6,ex8 (ex8 (ex8 (ex8 (ex8 (ex8 (ex8 ⟨_,_,_,_,_,_,rfl,by omega,HX6.out,?_,?_,HT6.out,HK6.out,HB6.out⟩))))))⟩,?_⟩
   ·rw[HN.out];exact HR6.out
   ·rw[HN.out];exact HM6.out
   ·simp[iAt];omega
  ·obtain rfl:i=16:=by omega
   have HX:=hid hx;have HL:=hid hl;have HRR:=hid hr;have HT:=hid ht;clear hx hl hr ht hk hB;go_wp2_with fail
   refine(zsV _ _ _ HT.out).mono ?_;rintro e w2 ⟨A3,c3,rfl,ht3,hx3⟩;have HX3:=hid (Ext.trans HX.out hx3);have HT3:=hid ht3;have hl3:=HL.out.later hx3;have hr3:=HRR.out.later hx3;have hrow:=RowsB.two w2 Ar Al 4 4 cr cl 22 _ _ hr3 hl3;have hal:Ext w2 (w2.alloc (.cells #[.slice Ar 4 cr,.slice Al 4 cl] 22)):=Ext.alloc _ _;have HROW:=hid hrow;have HAL:=hid (Ext.trans HX3.out hal);have HT4:=hid (HT3.out.later hal);have hlen:=zh0 (dirF kf back) (l:=x.take 4) (r:=x.drop 4) (by have:=HXL.out;simp;omega) (by have:=HXL.out;simp;omega) 16;have hfl:([(feL (dirF kf back) (x.take 4) (x.drop 4) 16).2,(feL (dirF kf back) (x.take 4) (x.drop 4) 16).1]:List (List UInt8)).flatten=(feL (dirF kf back) (x.take 4) (x.drop 4) 16).2++(feL (dirF kf back) (x.take 4) (x.drop 4) 16).1:=by simp
   have hfll:((feL (dirF kf back) (x.take 4) (x.drop 4) 16).2++(feL (dirF kf back) (x.take 4) (x.drop 4) 16).1).length=8:=by rw[List.length_append,hlen.1,hlen.2]
   have HFL:=hid hfl;have HFLL:=hid hfll;clear hrow hal hl3 hr3 hx3 ht3 HX HL HRR HT HX3 HT3 hlen hfl hfll;go_wp2_with fail
   refine(zcc _ 0 2 2 _ _ rfl HROW.out (by rw[HFL.out,HFLL.out];omega) (by rw[HFL.out,HFLL.out];omega) (by omega)).mono ?_;rw[HFL.out];rintro e w5 ⟨v5,rfl,ho5,hx5⟩;obtain⟨A5,c5,rfl,_,hr5,_⟩:=ho5.rdc HFLL.out;have HX5:=hid (Ext.trans HAL.out hx5);have HT5:=hid (HT4.out.later hx5);have HR5:=hid hr5;clear ho5 hr5 hx5 HAL HT4 HROW HFL HFLL;go_wp2_with fail
   refine(zmH _ _ 8 64 _ _ _ _ 8 _ HR5.out HT5.out zsO (by omega)).mono ?_;rintro e w6 ⟨A6,c6,rfl,hc6,hr6,hx6,hf6⟩;have HH:=hid (And.intro hr6 (And.intro (Ext.trans HX5.out hx6) (hf6.mono (Below.size HX5.out))));clear hr6 hx6 hf6;go_wp2_with fail
   (try simp only[Exit.jump])
   go_ret;refine⟨A6,c6,rfl,hc6,?_,HH.out.2⟩;unfold zbe;rw[HXX.out];exact HH.out.1
 ·intro hfirst;go_wp2_with fail
  refine(zmq _).mono ?_;rintro e w1 ⟨A1,c1,rfl,ht1,hx1⟩;have HX1:=hid hx1;have HT1:=hid ht1;have HR1:=hid (HR.out.later hx1);clear hx1 ht1;go_wp2_with fail
  refine(zjM _ _ 8 64 _ _ _ _ 8 _ HR1.out HT1.out zu4 (by omega)).mono ?_;rintro e w2 ⟨A2,c2,rfl,hc2,hr2,hx2⟩;rw[HXX.out] at hr2;have HX2:=hid (Ext.trans HX1.out hx2);have HT2:=hid (HT1.out.later hx2);obtain⟨b2,o2,rfl,hb2,_⟩:=hr2.at_ (by omega);have HL2:=hid (hr2.part 0 4 (by omega));have HR2:=hid (hr2.part 4 4 (by omega));clear hx2 hr2 HR1 HT1 HX1;go_wp2_with fail
  go_quiet (fail)
  go_wp2_with fail
  go_step3;simp only[Exit.then];rename_i hK;refine hK _ _ ?_;refine hfirst.out _ _ ⟨A1,c1,b2,o2,c2,0,some ⟨b2,o2,none⟩,some ⟨b2,o2+4,none⟩,c2,c2-4,ex8 (ex8 (ex8 (ex8 (ex8 (ex8 (ex8 ⟨_,_,_,_,_,_,rfl,by omega,below_drewN' HX2.out nq,?_,?_,?_,(HK.out.later HX2.out).later (below_drewN' (Ext.refl _) nq),(HB.out.later HX2.out).later (below_drewN' (Ext.refl _) nq)⟩))))))⟩
  ·have h1:=(HL2.out.later (below_drewN' (Ext.refl _) nq));simp only[feL];simpa using h1
  ·have h1:=(HR2.out.later (below_drewN' (Ext.refl _) nq));simp only[feL];rw[List.take_of_length_le (by have:=HXL.out;simp;omega)] at h1;exact h1
  ·exact HT2.out.later (below_drewN' (Ext.refl _) nq)
theorem Tryz.info24:(Tryz.prog.info? 109).map (fun i=>(i.zero,i.size,i.bytes))=some (some (.slice none 0 0),1,24):=by kernel_rfl
theorem _root_.Go.Proofs.YtokbbmngfogbbaaGreatDoor.Own.typedG{e:TypeId}{w w':World}{base g:Nat}{r:Value}{bs:List UInt8}{cur:Array Value}{f:Nat×Nat}(h:Own w base r bs)(hg:w.grownBy w' (some g))(hh:w.heap[g]? = some (.cells cur e f))(hne:5≠e):Own w' base r bs:=by
 refine⟨h.1,?_⟩;rcases h.2 with hn|⟨b,cap,cur2,rfl,hbg,h2,rr⟩
 ·exact .inl hn
 ·refine .inr ⟨b,cap,cur2,rfl,hbg,?_,rr⟩;rw[hg.block b (Array.getElem?_eq_some_iff.1 h2).1 (fun e1=>by cases e1;rw[h2] at hh;cases hh;exact hne rfl)];exact h2
theorem OwnV.typedG{e e2:TypeId}{w w':World}{base g:Nat}{r:Value}{rs:List Value}{cur:Array Value}{f:Nat×Nat}(h:OwnV e2 w base r rs)(hg:w.grownBy w' (some g))(hh:w.heap[g]? = some (.cells cur e f))(hne:e2≠e):OwnV e2 w' base r rs:=by
 refine⟨h.1,?_⟩;rcases h.2 with hn|⟨b,cap,cur2,rfl,hbg,h2,rr⟩
 ·exact .inl hn
 ·refine .inr ⟨b,cap,cur2,rfl,hbg,?_,rr⟩;rw[hg.block b (Array.getElem?_eq_some_iff.1 h2).1 (fun e1=>by cases e1;rw[h2] at hh;cases hh;exact hne rfl)];exact h2
theorem KO.typedG{e:TypeId}{w w':World}{b g:Nat}{kf:Nat->List UInt8}{cur:Array Value}{f:Nat×Nat}(h:KO w b kf)(hg:w.grownBy w' (some g))(hh:w.heap[g]? = some (.cells cur e f))(h5:5≠e)(h22:22≠e):KO w' b kf:=by
 obtain⟨c,rs,h1,h2,h3⟩:=h;exact⟨c,rs,h1,h2.typedG hg hh h22,fun i hi=>by obtain⟨h4,y,h6,h7⟩:=h3 i hi;exact⟨h4,y,h6,h7.typedG hg hh h5⟩⟩
theorem OwnV.headn{e:TypeId}{w:World}{base n:Nat}{v:Value}{vs:List Value}(h:OwnV e w base v vs)(hn:vs.length=n+1):∃g c,v=.slice (some ⟨g,0,none⟩) (n+1) c/\n+1<=c:=by
 rcases h.2 with⟨_,h0⟩|⟨g,cap,cur,e1,_,_,hnc,_⟩
 ·omega
 ·exact⟨g,cap,by rw[e1,hn],by omega⟩
theorem OwnV.head{e:TypeId}{w:World}{base:Nat}{v:Value}{vs:List Value}(h:OwnV e w base v vs)(h0:0<vs.length):∃g c,v=.slice (some ⟨g,0,none⟩) vs.length c/\vs.length<=c:=by
 rcases h.2 with⟨_,hn⟩|⟨g,cap,cur,e1,_,_,hnc,_⟩
 ·omega
 ·exact⟨g,cap,e1,hnc⟩
theorem zbu{w:World}{p:Nat}{v x:Value}{e:TypeId}(h:w.heap[p]? = some (.cells #[v] e (0,0))):(w.setCell ⟨p,0,none⟩ x).heap[p]? = some (.cells #[x] e (0,0)):=by
 have hlt:p<w.heap.size:=(Array.getElem?_eq_some_iff.1 h).1;have hv:w.heap[p] = .cells #[v] e (0,0):=(Array.getElem?_eq_some_iff.1 h).2;have hlt2:p<(w.setCell ⟨p,0,none⟩ x).heap.size:=by simpa using hlt
 rw[Array.getElem?_eq_getElem hlt2];simp[World.setCell,Array.getElem_modify,hv]
theorem zcf{w:World}{p:Nat}{v:Value}{e:TypeId}(h:w.heap[p]? = some (.cells #[v] e (0,0))):w.frozen? ⟨p,0,none⟩=false:=by
 simp[World.frozen?,h]
def IsDes(w:World)(p m:Nat)(kf:Nat->Nat->List UInt8):Prop :=
 ∃b c,w.cell? ⟨p,0,none⟩=some (.slice (some ⟨b,0,none⟩) m c)/\m<=c/\∀j,j<m->∃bk ck,w.cell? ⟨b,j,none⟩=some (.slice (some ⟨bk,0,none⟩) 16 ck)/\16<=ck/\KR w bk 0 (kf j)
theorem IsDes.later{w w':World}{p m:Nat}{kf:Nat->Nat->List UInt8}(h:IsDes w p m kf)(hx:Ext w w'):IsDes w' p m kf:=by
 obtain⟨b,c,h1,hc,h2⟩:=h;refine⟨b,c,(Below.cell hx (p:=⟨p,0,none⟩) (World.block_lt_of_cell? w _ h1)).trans h1,hc,fun j hj=>?_⟩;obtain⟨bk,ck,h3,h4,h5⟩:=h2 j hj;exact⟨bk,ck,(Below.cell hx (p:=⟨b,j,none⟩) (World.block_lt_of_cell? w _ h3)).trans h3,h4,h5.later hx⟩
def key3(key:List UInt8):List UInt8:=if key.length=16 then key++key.take 8 else key
def kfOf(key:List UInt8)(j:Nat):Nat->List UInt8:=keyF (((key3 key).drop (8*j)).take 8)
def zbg(n:Nat):Nat:=if n=8 then 1 else 3
def zb0(w:World)(key:List UInt8)(e:Ending)(w':World):Prop :=
 ∃p,e=.returned (.tuple #[.pointer (some ⟨p,0,none⟩),.int .i64 0])/\IsDes w' p (zbg key.length) (kfOf key)/\Ext w w'
theorem zo6(A:Option Addr)(c:Nat)(key:List UInt8)(w:World)(h:Rd w w.heap.size A 8 key)(hc:8<=c):
  Calls Tryz.prog 56 #[.slice A 8 c] w (zb0 w key):=by
 have hl:=h.len;obtain⟨b0,o0,rfl,_,_⟩:=h.at_ (by omega);have hx0:=Ext.alloc w (.cells #[Value.slice none 0 0] 145);have HX0:=hid hx0;have HRW:=hid h;have HR0:=hid (h.later hx0);have hp0:=heap_alloc_new w (.cells #[Value.slice none 0 0] 145);go_enter Tryz.func56,Tryz.ntmps56;go_wp2_with fail
 obtain⟨W0,hW0⟩:∃W0,w.alloc (.cells #[Value.slice none 0 0] 145)=W0:=⟨_,rfl⟩;obtain⟨p,hp⟩:∃p,w.heap.size=p:=⟨_,rfl⟩;have hpw:=hid (show w.heap.size<=p by omega);rw[hW0] at HX0 HR0 hp0 ⊢;rw[hp] at hp0 ⊢;have HP0:=hid hp0;have hkey3:key3 key=key:=by unfold key3;rw[if_neg (by omega)]
 have hm:zbg key.length=1:=by unfold zbg;rw[if_pos hl]
 have hres:∀q w',IsDes w' q 1 (fun j=>keyF ((key.drop (8*j)).take 8))->IsDes w' q (zbg key.length) (kfOf key):=fun q w' h=>by rw[hm];unfold kfOf;rw[hkey3];exact h
 have HRES:=hid hres;clear hx0 hp0 h hW0 hkey3 hm hres hl hp;go_loopw [5] (fun i wr=>∃(k:Nat) (v:Value) (vs:List Value),k<=1/\i=.int .i64 ((8*k:Nat):Int)/\wr.heap[p]? = some (.cells #[v] 145 (0,0))/\OwnV 109 wr (p+1) v vs/\vs.length=k /\
   (∀j,j<k->∃bk ck,vs[j]? = some (.slice (some ⟨bk,0,none⟩) 16 ck)/\16<=ck/\KO wr bk (keyF ((key.drop (8*j)).take 8)))/\Below w.heap.size w wr/\Rd wr wr.heap.size (some ⟨b0,o0,none⟩) 8 key) (fun i _=>8-(intOf i).toNat)
 case atStart=>exact⟨0,_,[],by omega,rfl,HP0.out,World.ownsRow_nil _ _ _ _,rfl,fun j hj=>absurd hj (by omega),HX0.out,HR0.out⟩
 case round =>
  clear HP0 HX0 HR0;obtain⟨k,v,vs,hk,rfl,hpc,hov,hvl,hrows,hb,hrd⟩:=hrel;by_cases hlt:k<1
  ·have HPC:=hid hpc;have HOV:=hid hov;have HROWS:=hid hrows;have HB:=hid hb;have HRD:=hid hrd;have HK:=hid (hrd.part (8*k) 8 (by omega));have hq1:((8*k:Nat):Int)<8:=by omega
   clear hpc hov hrows hb hrd;go_wp2_with fail
   refine(zcv _ _ _ _ HK.out).mono ?_;rintro e w2 ⟨bk,ck,rfl,hck,hko,hx2⟩;have HX2:=hid hx2;have HKO:=hid hko;have hpl:=(Array.getElem?_eq_some_iff.1 HPC.out).1;have hpc2:w2.heap[p]? = some (.cells #[v] 145 (0,0)):=(Below.block hx2 p hpl).trans HPC.out;have hcp2:w2.cell? ⟨p,0,none⟩=some v:=by rw[cell_of_heap hpc2];rfl
   have hx3:Ext w2 (w2.alloc (.cells #[.slice (some ⟨bk,0,none⟩) 16 ck] 109)):=Ext.alloc _ _;have hov3:=(HOV.out.kept hx2).kept hx3;have hcell3:=zbC w2 [.slice (some ⟨bk,0,none⟩) 16 ck] 109 0 (.slice (some ⟨bk,0,none⟩) 16 ck) rfl;rw[Nat.zero_add] at hcell3;have hz2:=Below.size hx2;have hpl2:p+1<=(w2.alloc (.cells #[.slice (some ⟨bk,0,none⟩) 16 ck] 109)).heap.size:=by simp;omega
   have hpc3:(w2.alloc (.cells #[.slice (some ⟨bk,0,none⟩) 16 ck] 109)).heap[p]? = some (.cells #[v] 145 (0,0)):=(Below.block hx3 p (by omega)).trans hpc2;have HX3:=hid (Ext.trans hx2 hx3);have hl9:(vs++[Value.slice (some ⟨bk,0,none⟩) 16 ck]).length=k+1:=by simp[hvl]
   have HKO3:=hid (hko.later hx3);have HPC3:=hid hpc3;clear hx2 hko hx3 hpc2 hpc3;go_wp2_with (at_builtin;refine zbn _ rfl (.tmp 41) (.tmp 43) 106 109 rfl Tryz.underlying106 Tryz.info24 (p+1) _ vs rfl hov3 _ 1 (.slice (some ⟨bk,0,none⟩) 16 ck) rfl hcell3 rfl (by omega) hpl2 ?_;intro v9 w9 hown9 hg9;obtain⟨b9,c9,rfl,hc9⟩:=hown9.headn hl9;have hpc9:=(hg9.block p (by omega) (hov3.block_ne HPC3.out (by decide))).trans HPC3.out;have hcp9:w9.cell? ⟨p,0,none⟩=some v:=(by rw[cell_of_heap hpc9];rfl);have hfr9:=zcf hpc9)
   have HH:=hid (show(w9.setCell ⟨p,0,none⟩ (.slice (some ⟨b9,0,none⟩) (k+1) c9)).heap[p]? = some (.cells #[.slice (some ⟨b9,0,none⟩) (k+1) c9] 145 (0,0)) /\
     OwnV 109 (w9.setCell ⟨p,0,none⟩ (.slice (some ⟨b9,0,none⟩) (k+1) c9)) (p+1) (.slice (some ⟨b9,0,none⟩) (k+1) c9) (vs++[Value.slice (some ⟨bk,0,none⟩) 16 ck]) /\
     (∀j,j<k+1->∃bk2 ck2,(vs++[Value.slice (some ⟨bk,0,none⟩) 16 ck])[j]? = some (.slice (some ⟨bk2,0,none⟩) 16 ck2)/\16<=ck2/\KO (w9.setCell ⟨p,0,none⟩ (.slice (some ⟨b9,0,none⟩) (k+1) c9)) bk2 (keyF ((key.drop (8*j)).take 8))) /\
     Below w.heap.size w (w9.setCell ⟨p,0,none⟩ (.slice (some ⟨b9,0,none⟩) (k+1) c9)) from by
    refine⟨zbu hpc9,hown9.typedG (zaz _ _ _ _) hpc9 (by decide),fun j hj=>?_,?_⟩
    ·by_cases hjk:j=k
     ·subst hjk;exact⟨bk,ck,by simp[hvl],hck,(HKO3.out.typed hov3 (by decide) (by decide) hg9).typedG (zaz _ _ _ _) hpc9 (by decide) (by decide)⟩
     ·obtain⟨bk2,ck2,h1,h2,h3⟩:=HROWS.out j (by omega);exact⟨bk2,ck2,by rw[List.getElem?_append_left (by omega)];exact h1,h2,((h3.later HX3.out).typed hov3 (by decide) (by decide) hg9).typedG (zaz _ _ _ _) hpc9 (by decide) (by decide)⟩
    ·have hp1:=hpw.out;have hb3:=(HB.out.trans (Below.mono HX3.out HB.out.size));have hz3:=hb3.size;exact(hb3.grown hg9 hz3 (fun q hq=>by have:=(World.ownsRow.lt hov3 q hq).1;omega)).setCell (by simp;omega) _)
   have HRD9:=hid (show Rd (w9.setCell ⟨p,0,none⟩ (.slice (some ⟨b9,0,none⟩) (k+1) c9)) (w9.setCell ⟨p,0,none⟩ (.slice (some ⟨b9,0,none⟩) (k+1) c9)).heap.size (some ⟨b0,o0,none⟩) 8 key from(HRW.out.below HH.out.2.2.2 (Nat.le_refl _)).more (Below.size HH.out.2.2.2));clear hown9 hg9 hov3 hcell3 hpc9 hcp9 hfr9;go_wp2_with fail
   go_roundw
   case rel=>exact⟨k+1,_,_,by omega,by rw[show((8*(k+1):Nat):Int)=8*(k:Int)+8 by omega],HH.out.1,HH.out.2.1,hl9,HH.out.2.2.1,HH.out.2.2.2,HRD9.out⟩
   case measure=>simp[intOf];omega
  ·obtain rfl:k=1:=by omega
   rw[show((8*1:Nat):Int)=8 from rfl];have hdes:IsDes wr p 1 (fun j=>keyF ((key.drop (8*j)).take 8)):=by
    rcases hov.2 with⟨_,hn⟩|⟨g,cap,cur,rfl,hbg,hh,hnc,r⟩
    ·omega
    ·refine⟨g,cap,by rw[cell_of_heap hpc,hvl];rfl,by omega,fun j hj=>?_⟩;obtain⟨bk,ck,h1,h2,h3⟩:=hrows j hj;refine⟨bk,ck,?_,h2,h3.kr⟩;rw[OwnV.celln (c:=cap) (n:=vs.length) ⟨hov.1,.inr ⟨g,cap,cur,rfl,hbg,hh,hnc,r⟩⟩ rfl j (by omega)];exact h1
   have HH:=hid (And.intro (HRES.out p wr hdes) (show Ext w wr from hb));clear hdes hb hrd hrows hov hpc;go_wp2_with fail
   go_ret2;exact⟨p,rfl,HH.out.1,HH.out.2⟩
theorem znC(A:Option Addr)(c:Nat)(key:List UInt8)(w:World)(h:Rd w w.heap.size A 24 key)(hc:24<=c):
  Calls Tryz.prog 56 #[.slice A 24 c] w (zb0 w key):=by
 have hl:=h.len;obtain⟨b0,o0,rfl,_,_⟩:=h.at_ (by omega);have hx0:=Ext.alloc w (.cells #[Value.slice none 0 0] 145);have HX0:=hid hx0;have HRW:=hid h;have HR0:=hid (h.later hx0);have hp0:=heap_alloc_new w (.cells #[Value.slice none 0 0] 145);go_enter Tryz.func56,Tryz.ntmps56;go_wp2_with fail
 obtain⟨W0,hW0⟩:∃W0,w.alloc (.cells #[Value.slice none 0 0] 145)=W0:=⟨_,rfl⟩;obtain⟨p,hp⟩:∃p,w.heap.size=p:=⟨_,rfl⟩;have hpw:=hid (show w.heap.size<=p by omega);rw[hW0] at HX0 HR0 hp0 ⊢;rw[hp] at hp0 ⊢;have HP0:=hid hp0;have hkey3:key3 key=key:=by unfold key3;rw[if_neg (by omega)]
 have hm:zbg key.length=3:=by unfold zbg;rw[if_neg (by omega)]
 have hres:∀q w',IsDes w' q 3 (fun j=>keyF ((key.drop (8*j)).take 8))->IsDes w' q (zbg key.length) (kfOf key):=fun q w' h=>by rw[hm];unfold kfOf;rw[hkey3];exact h
 have HRES:=hid hres;clear hx0 hp0 h hW0 hkey3 hm hres hl hp;go_loopw [5] (fun i wr=>∃(k:Nat) (v:Value) (vs:List Value),k<=3/\i=.int .i64 ((8*k:Nat):Int)/\wr.heap[p]? = some (.cells #[v] 145 (0,0))/\OwnV 109 wr (p+1) v vs/\vs.length=k /\
   (∀j,j<k->∃bk ck,vs[j]? = some (.slice (some ⟨bk,0,none⟩) 16 ck)/\16<=ck/\KO wr bk (keyF ((key.drop (8*j)).take 8)))/\Below w.heap.size w wr/\Rd wr wr.heap.size (some ⟨b0,o0,none⟩) 24 key) (fun i _=>24-(intOf i).toNat)
 case atStart=>exact⟨0,_,[],by omega,rfl,HP0.out,World.ownsRow_nil _ _ _ _,rfl,fun j hj=>absurd hj (by omega),HX0.out,HR0.out⟩
 case round =>
  clear HP0 HX0 HR0;obtain⟨k,v,vs,hk,rfl,hpc,hov,hvl,hrows,hb,hrd⟩:=hrel;by_cases hlt:k<3
  ·have HPC:=hid hpc;have HOV:=hid hov;have HROWS:=hid hrows;have HB:=hid hb;have HRD:=hid hrd;have HK:=hid (hrd.part (8*k) 8 (by omega));have hq1:((8*k:Nat):Int)<24:=by omega
   clear hpc hov hrows hb hrd;go_wp2_with fail
   refine(zcv _ _ _ _ HK.out).mono ?_;rintro e w2 ⟨bk,ck,rfl,hck,hko,hx2⟩;have HX2:=hid hx2;have HKO:=hid hko;have hpl:=(Array.getElem?_eq_some_iff.1 HPC.out).1;have hpc2:w2.heap[p]? = some (.cells #[v] 145 (0,0)):=(Below.block hx2 p hpl).trans HPC.out;have hcp2:w2.cell? ⟨p,0,none⟩=some v:=by rw[cell_of_heap hpc2];rfl
   have hx3:Ext w2 (w2.alloc (.cells #[.slice (some ⟨bk,0,none⟩) 16 ck] 109)):=Ext.alloc _ _;have hov3:=(HOV.out.kept hx2).kept hx3;have hcell3:=zbC w2 [.slice (some ⟨bk,0,none⟩) 16 ck] 109 0 (.slice (some ⟨bk,0,none⟩) 16 ck) rfl;rw[Nat.zero_add] at hcell3;have hz2:=Below.size hx2;have hpl2:p+1<=(w2.alloc (.cells #[.slice (some ⟨bk,0,none⟩) 16 ck] 109)).heap.size:=by simp;omega
   have hpc3:(w2.alloc (.cells #[.slice (some ⟨bk,0,none⟩) 16 ck] 109)).heap[p]? = some (.cells #[v] 145 (0,0)):=(Below.block hx3 p (by omega)).trans hpc2;have HX3:=hid (Ext.trans hx2 hx3);have hl9:(vs++[Value.slice (some ⟨bk,0,none⟩) 16 ck]).length=k+1:=by simp[hvl]
   have HKO3:=hid (hko.later hx3);have HPC3:=hid hpc3;clear hx2 hko hx3 hpc2 hpc3;go_wp2_with (at_builtin;refine zbn _ rfl (.tmp 41) (.tmp 43) 106 109 rfl Tryz.underlying106 Tryz.info24 (p+1) _ vs rfl hov3 _ 1 (.slice (some ⟨bk,0,none⟩) 16 ck) rfl hcell3 rfl (by omega) hpl2 ?_;intro v9 w9 hown9 hg9;obtain⟨b9,c9,rfl,hc9⟩:=hown9.headn hl9;have hpc9:=(hg9.block p (by omega) (hov3.block_ne HPC3.out (by decide))).trans HPC3.out;have hcp9:w9.cell? ⟨p,0,none⟩=some v:=(by rw[cell_of_heap hpc9];rfl);have hfr9:=zcf hpc9)
   have HH:=hid (show(w9.setCell ⟨p,0,none⟩ (.slice (some ⟨b9,0,none⟩) (k+1) c9)).heap[p]? = some (.cells #[.slice (some ⟨b9,0,none⟩) (k+1) c9] 145 (0,0)) /\
     OwnV 109 (w9.setCell ⟨p,0,none⟩ (.slice (some ⟨b9,0,none⟩) (k+1) c9)) (p+1) (.slice (some ⟨b9,0,none⟩) (k+1) c9) (vs++[Value.slice (some ⟨bk,0,none⟩) 16 ck]) /\
     (∀j,j<k+1->∃bk2 ck2,(vs++[Value.slice (some ⟨bk,0,none⟩) 16 ck])[j]? = some (.slice (some ⟨bk2,0,none⟩) 16 ck2)/\16<=ck2/\KO (w9.setCell ⟨p,0,none⟩ (.slice (some ⟨b9,0,none⟩) (k+1) c9)) bk2 (keyF ((key.drop (8*j)).take 8))) /\
     Below w.heap.size w (w9.setCell ⟨p,0,none⟩ (.slice (some ⟨b9,0,none⟩) (k+1) c9)) from by
    refine⟨zbu hpc9,hown9.typedG (zaz _ _ _ _) hpc9 (by decide),fun j hj=>?_,?_⟩
    ·by_cases hjk:j=k
     ·subst hjk;exact⟨bk,ck,by simp[hvl],hck,(HKO3.out.typed hov3 (by decide) (by decide) hg9).typedG (zaz _ _ _ _) hpc9 (by decide) (by decide)⟩
     ·obtain⟨bk2,ck2,h1,h2,h3⟩:=HROWS.out j (by omega);exact⟨bk2,ck2,by rw[List.getElem?_append_left (by omega)];exact h1,h2,((h3.later HX3.out).typed hov3 (by decide) (by decide) hg9).typedG (zaz _ _ _ _) hpc9 (by decide) (by decide)⟩
    ·have hp1:=hpw.out;have hb3:=(HB.out.trans (Below.mono HX3.out HB.out.size));have hz3:=hb3.size;exact(hb3.grown hg9 hz3 (fun q hq=>by have:=(World.ownsRow.lt hov3 q hq).1;omega)).setCell (by simp;omega) _)
   have HRD9:=hid (show Rd (w9.setCell ⟨p,0,none⟩ (.slice (some ⟨b9,0,none⟩) (k+1) c9)) (w9.setCell ⟨p,0,none⟩ (.slice (some ⟨b9,0,none⟩) (k+1) c9)).heap.size (some ⟨b0,o0,none⟩) 24 key from(HRW.out.below HH.out.2.2.2 (Nat.le_refl _)).more (Below.size HH.out.2.2.2));clear hown9 hg9 hov3 hcell3 hpc9 hcp9 hfr9;go_wp2_with fail
   go_roundw
   case rel=>exact⟨k+1,_,_,by omega,by rw[show((8*(k+1):Nat):Int)=8*(k:Int)+8 by omega],HH.out.1,HH.out.2.1,hl9,HH.out.2.2.1,HH.out.2.2.2,HRD9.out⟩
   case measure=>simp[intOf];omega
  ·obtain rfl:k=3:=by omega
   rw[show((8*3:Nat):Int)=24 from rfl];have hdes:IsDes wr p 3 (fun j=>keyF ((key.drop (8*j)).take 8)):=by
    rcases hov.2 with⟨_,hn⟩|⟨g,cap,cur,rfl,hbg,hh,hnc,r⟩
    ·omega
    ·refine⟨g,cap,by rw[cell_of_heap hpc,hvl];rfl,by omega,fun j hj=>?_⟩;obtain⟨bk,ck,h1,h2,h3⟩:=hrows j hj;refine⟨bk,ck,?_,h2,h3.kr⟩;rw[OwnV.celln (c:=cap) (n:=vs.length) ⟨hov.1,.inr ⟨g,cap,cur,rfl,hbg,hh,hnc,r⟩⟩ rfl j (by omega)];exact h1
   have HH:=hid (And.intro (HRES.out p wr hdes) (show Ext w wr from hb));clear hdes hb hrd hrows hov hpc;go_wp2_with fail
   go_ret2;exact⟨p,rfl,HH.out.1,HH.out.2⟩
theorem zoj(A:Option Addr)(c:Nat)(key:List UInt8)(w:World)(h:Rd w w.heap.size A 16 key)(hc:16<=c):
  Calls Tryz.prog 56 #[.slice A 16 c] w (zb0 w key):=by
 have hl:=h.len;obtain⟨b0,o0,rfl,_,_⟩:=h.at_ (by omega);have hrow:=RowsB.two w (some ⟨b0,o0,none⟩) (some ⟨b0,o0,none⟩) 16 8 c c 22 _ _ h (h.cuthi 8 (by omega));have hal:Ext w (w.alloc (.cells #[.slice (some ⟨b0,o0,none⟩) 16 c,.slice (some ⟨b0,o0,none⟩) 8 c] 22)):=Ext.alloc _ _;have hfl:([key,key.take 8]:List (List UInt8)).flatten=key++key.take 8:=by simp
 have hfll:(key++key.take 8).length=24:=by simp;omega
 have hkey3:key3 key=key++key.take 8:=by unfold key3;rw[if_pos hl]
 have hm:zbg key.length=3:=by unfold zbg;rw[if_neg (by omega)]
 obtain⟨K3,hK3⟩:∃K3,key++key.take 8=K3:=⟨_,rfl⟩;rw[hK3] at hfl hfll hkey3;have hres:∀q w',IsDes w' q 3 (fun j=>keyF ((K3.drop (8*j)).take 8))->IsDes w' q (zbg key.length) (kfOf key):=fun q w' h=>by rw[hm];unfold kfOf;rw[hkey3];exact h
 have HRES:=hid hres;have HROW:=hid hrow;have HAL:=hid hal;have HFL:=hid hfl;have HFLL:=hid hfll;clear hrow hal hfl hfll hkey3 hm hres hl h hK3;go_enter Tryz.func56,Tryz.ntmps56;go_wp2_with fail
 refine(zcc _ 0 2 2 _ _ rfl HROW.out (by rw[HFL.out,HFLL.out];omega) (by rw[HFL.out,HFLL.out];omega) (by omega)).mono ?_;rw[HFL.out];rintro e w1 ⟨v1,rfl,ho1,hx1⟩;obtain⟨A1,c1,rfl,hc1,hr1,_⟩:=ho1.rdc HFLL.out;obtain⟨b1,o1,rfl,_,_⟩:=hr1.at_ (by omega);have HX1:=hid (Ext.trans HAL.out hx1);have HRW:=hid hr1;have hx0:=Ext.alloc w1 (.cells #[Value.slice none 0 0] 145);have HX0:=hid hx0;have HR0:=hid (hr1.later hx0);have hp0:=heap_alloc_new w1 (.cells #[Value.slice none 0 0] 145);clear ho1 hr1 hx1 HROW HAL HFL HFLL hx0;go_wp2_with fail
 obtain⟨W0,hW0⟩:∃W0,w1.alloc (.cells #[Value.slice none 0 0] 145)=W0:=⟨_,rfl⟩;obtain⟨p,hp⟩:∃p,w1.heap.size=p:=⟨_,rfl⟩;have hpw:=hid (show w1.heap.size<=p by omega);rw[hW0] at HX0 HR0 hp0 ⊢;rw[hp] at hp0 ⊢;have HP0:=hid hp0;clear hp0 hW0 hp;go_loopw [5] (fun i wr=>∃(k:Nat) (v:Value) (vs:List Value),k<=3/\i=.int .i64 ((8*k:Nat):Int)/\wr.heap[p]? = some (.cells #[v] 145 (0,0))/\OwnV 109 wr (p+1) v vs/\vs.length=k /\
   (∀j,j<k->∃bk ck,vs[j]? = some (.slice (some ⟨bk,0,none⟩) 16 ck)/\16<=ck/\KO wr bk (keyF ((K3.drop (8*j)).take 8)))/\Below w1.heap.size w1 wr/\Rd wr wr.heap.size (some ⟨b1,o1,none⟩) 24 K3) (fun i _=>24-(intOf i).toNat)
 case atStart=>exact⟨0,_,[],by omega,rfl,HP0.out,World.ownsRow_nil _ _ _ _,rfl,fun j hj=>absurd hj (by omega),HX0.out,HR0.out⟩
 case round =>
  clear HP0 HX0 HR0;obtain⟨k,v,vs,hk,rfl,hpc,hov,hvl,hrows,hb,hrd⟩:=hrel;by_cases hlt:k<3
  ·have HPC:=hid hpc;have HOV:=hid hov;have HROWS:=hid hrows;have HB:=hid hb;have HRD:=hid hrd;have HK:=hid (hrd.part (8*k) 8 (by omega));have hq1:((8*k:Nat):Int)<24:=by omega
   clear hpc hov hrows hb hrd;go_wp2_with fail
   refine(zcv _ _ _ _ HK.out).mono ?_;rintro e w2 ⟨bk,ck,rfl,hck,hko,hx2⟩;have HX2:=hid hx2;have HKO:=hid hko;have hpl:=(Array.getElem?_eq_some_iff.1 HPC.out).1;have hpc2:w2.heap[p]? = some (.cells #[v] 145 (0,0)):=(Below.block hx2 p hpl).trans HPC.out;have hcp2:w2.cell? ⟨p,0,none⟩=some v:=by rw[cell_of_heap hpc2];rfl
   have hx3:Ext w2 (w2.alloc (.cells #[.slice (some ⟨bk,0,none⟩) 16 ck] 109)):=Ext.alloc _ _;have hov3:=(HOV.out.kept hx2).kept hx3;have hcell3:=zbC w2 [.slice (some ⟨bk,0,none⟩) 16 ck] 109 0 (.slice (some ⟨bk,0,none⟩) 16 ck) rfl;rw[Nat.zero_add] at hcell3;have hz2:=Below.size hx2;have hpl2:p+1<=(w2.alloc (.cells #[.slice (some ⟨bk,0,none⟩) 16 ck] 109)).heap.size:=by simp;omega
   have hpc3:(w2.alloc (.cells #[.slice (some ⟨bk,0,none⟩) 16 ck] 109)).heap[p]? = some (.cells #[v] 145 (0,0)):=(Below.block hx3 p (by omega)).trans hpc2;have HX3:=hid (Ext.trans hx2 hx3);have hl9:(vs++[Value.slice (some ⟨bk,0,none⟩) 16 ck]).length=k+1:=by simp[hvl]
   have HKO3:=hid (hko.later hx3);have HPC3:=hid hpc3;clear hx2 hko hx3 hpc2 hpc3;go_wp2_with (at_builtin;refine zbn _ rfl (.tmp 41) (.tmp 43) 106 109 rfl Tryz.underlying106 Tryz.info24 (p+1) _ vs rfl hov3 _ 1 (.slice (some ⟨bk,0,none⟩) 16 ck) rfl hcell3 rfl (by omega) hpl2 ?_;intro v9 w9 hown9 hg9;obtain⟨b9,c9,rfl,hc9⟩:=hown9.headn hl9;have hpc9:=(hg9.block p (by omega) (hov3.block_ne HPC3.out (by decide))).trans HPC3.out;have hcp9:w9.cell? ⟨p,0,none⟩=some v:=(by rw[cell_of_heap hpc9];rfl);have hfr9:=zcf hpc9)
   have HH:=hid (show(w9.setCell ⟨p,0,none⟩ (.slice (some ⟨b9,0,none⟩) (k+1) c9)).heap[p]? = some (.cells #[.slice (some ⟨b9,0,none⟩) (k+1) c9] 145 (0,0)) /\
     OwnV 109 (w9.setCell ⟨p,0,none⟩ (.slice (some ⟨b9,0,none⟩) (k+1) c9)) (p+1) (.slice (some ⟨b9,0,none⟩) (k+1) c9) (vs++[Value.slice (some ⟨bk,0,none⟩) 16 ck]) /\
     (∀j,j<k+1->∃bk2 ck2,(vs++[Value.slice (some ⟨bk,0,none⟩) 16 ck])[j]? = some (.slice (some ⟨bk2,0,none⟩) 16 ck2)/\16<=ck2/\KO (w9.setCell ⟨p,0,none⟩ (.slice (some ⟨b9,0,none⟩) (k+1) c9)) bk2 (keyF ((K3.drop (8*j)).take 8))) /\
     Below w1.heap.size w1 (w9.setCell ⟨p,0,none⟩ (.slice (some ⟨b9,0,none⟩) (k+1) c9)) from by
    refine⟨zbu hpc9,hown9.typedG (zaz _ _ _ _) hpc9 (by decide),fun j hj=>?_,?_⟩
    ·by_cases hjk:j=k
     ·subst hjk;exact⟨bk,ck,by simp[hvl],hck,(HKO3.out.typed hov3 (by decide) (by decide) hg9).typedG (zaz _ _ _ _) hpc9 (by decide) (by decide)⟩
     ·obtain⟨bk2,ck2,h1,h2,h3⟩:=HROWS.out j (by omega);exact⟨bk2,ck2,by rw[List.getElem?_append_left (by omega)];exact h1,h2,((h3.later HX3.out).typed hov3 (by decide) (by decide) hg9).typedG (zaz _ _ _ _) hpc9 (by decide) (by decide)⟩
    ·have hp1:=hpw.out;have hb3:=(HB.out.trans (Below.mono HX3.out HB.out.size));have hz3:=hb3.size;exact(hb3.grown hg9 hz3 (fun q hq=>by have:=(World.ownsRow.lt hov3 q hq).1;omega)).setCell (by simp;omega) _)
   have HRD9:=hid (show Rd (w9.setCell ⟨p,0,none⟩ (.slice (some ⟨b9,0,none⟩) (k+1) c9)) (w9.setCell ⟨p,0,none⟩ (.slice (some ⟨b9,0,none⟩) (k+1) c9)).heap.size (some ⟨b1,o1,none⟩) 24 K3 from(HRW.out.below HH.out.2.2.2 (Nat.le_refl _)).more (Below.size HH.out.2.2.2));clear hown9 hg9 hov3 hcell3 hpc9 hcp9 hfr9;go_wp2_with fail
   go_roundw
   case rel=>exact⟨k+1,_,_,by omega,by rw[show((8*(k+1):Nat):Int)=8*(k:Int)+8 by omega],HH.out.1,HH.out.2.1,hl9,HH.out.2.2.1,HH.out.2.2.2,HRD9.out⟩
   case measure=>simp[intOf];omega
  ·obtain rfl:k=3:=by omega
   rw[show((8*3:Nat):Int)=24 from rfl];have hdes:IsDes wr p 3 (fun j=>keyF ((K3.drop (8*j)).take 8)):=by
    rcases hov.2 with⟨_,hn⟩|⟨g,cap,cur,rfl,hbg,hh,hnc,r⟩
    ·omega
    ·refine⟨g,cap,by rw[cell_of_heap hpc,hvl];rfl,by omega,fun j hj=>?_⟩;obtain⟨bk,ck,h1,h2,h3⟩:=hrows j hj;refine⟨bk,ck,?_,h2,h3.kr⟩;rw[OwnV.celln (c:=cap) (n:=vs.length) ⟨hov.1,.inr ⟨g,cap,cur,rfl,hbg,hh,hnc,r⟩⟩ rfl j (by omega)];exact h1
   have HH:=hid (And.intro (HRES.out p wr hdes) (Ext.trans HX1.out (show Ext w1 wr from hb)));clear hdes hb hrd hrows hov hpc;go_wp2_with fail
   go_ret2;exact⟨p,rfl,HH.out.1,HH.out.2⟩
theorem znX{xs ys:List UInt8}{n:Nat}(hx:xs.length=n)(hy:ys.length=n)(h:∀i,i<n->xs.getD i 0=ys.getD i 0):xs=ys:=by
 apply List.ext_getElem (by omega);intro i h1 h2;have:=h i (by omega);rwa[za1 _ _ _ h1,za1 _ _ _ h2] at this
theorem zoA(xs ys:List UInt8)(n:Nat)(hx:xs.length=n):xorL (xorL xs ys n) ys n=xs:=by
 refine znX (zar _ _ _) hx fun i hi=>?_
 rw[zcV _ _ _ _ hi,zcV _ _ _ _ hi,UInt8.xor_assoc,UInt8.xor_self,UInt8.xor_zero]
theorem znY[Inhabited BT](kf:Nat->List UInt8)(b:List UInt8):zbe kf b=za3 ((feL kf ((za3 b ipL).take 4) ((za3 b ipL).drop 4) 16).2++(feL kf ((za3 b ipL).take 4) ((za3 b ipL).drop 4) 16).1) ipU:=rfl
theorem zkK[Inhabited BT]{kf kg:Nat->List UInt8}{l r:List UInt8}(hl:l.length=4)(hr:r.length=4)(h:∀i,i<16->kg i=kf (15-i)):
  ∀i,i<=16->feL kg (feL kf l r 16).2 (feL kf l r 16).1 i=((feL kf l r (16-i)).2,(feL kf l r (16-i)).1)
 | 0,_=>rfl
 | i+1,hi=>by rw[feL,zkK hl hr h i (by omega),h i (by omega)];obtain⟨j,hj⟩:∃j,16-i=j+1:=⟨15-i,by omega⟩;rw[hj,show 16-(i+1)=j by omega,show 15-i=j by omega];have e:feL kf l r (j+1)=((feL kf l r j).2,xorL (feL kf l r j).1 (fL (feL kf l r j).2 (kf j)) 4):=rfl;rw[e];simp only;rw[zoA _ _ 4 (zh0 kf hl hr j).1]
theorem zr2(y:List UInt8)(hy:y.length=8):za3 (za3 y ipU) ipL=y:=by
 have hun:Undo 64 ipU ipL:=fun i j hi hj=>(zcR.2 j i hj hi).symm
 exact zhc (n:=8) hy zcR.1 zh6 hun
theorem zpS(y:List UInt8)(hy:y.length=8):za3 (za3 y ipL) ipU=y:=zhc (n:=8) hy zh6 zcR.1 zcR.2
theorem zlV[Inhabited BT]{kf kg:Nat->List UInt8}(b:List UInt8)(hb:b.length=8)(h:∀i,i<16->kg i=kf (15-i)):zbe kg (zbe kf b)=b:=by
 have hx:(za3 b ipL).length=8:=zhz b ipL 64 (zh9 64);have hl:((za3 b ipL).take 4).length=4:=by simp;omega
 have hr:((za3 b ipL).drop 4).length=4:=by simp;omega
 obtain⟨l,hle⟩:∃l,(za3 b ipL).take 4=l:=⟨_,rfl⟩;obtain⟨r,hre⟩:∃r,(za3 b ipL).drop 4=r:=⟨_,rfl⟩;have hlen:=zh0 kf (l:=l) (r:=r) (by rw[<-hle];exact hl) (by rw[<-hre];exact hr) 16;have e1:zbe kf b=za3 ((feL kf l r 16).2++(feL kf l r 16).1) ipU:=by unfold zbe;rw[hle,hre]
 have e2:za3 (zbe kf b) ipL=(feL kf l r 16).2++(feL kf l r 16).1:=by rw[e1,zr2 _ (by rw[List.length_append,hlen.1,hlen.2])]
 have e3:=znY kg (zbe kf b);rw[e3,e2,List.take_left' hlen.2,List.drop_left' hlen.2,zkK (by rw[<-hle];exact hl) (by rw[<-hre];exact hr) h 16 (Nat.le_refl _)];simp only[Nat.sub_self,feL];rw[<-hle,<-hre,List.take_append_drop];exact zpS b hb
theorem zok[Inhabited BT](kf:Nat->List UInt8)(bk:Bool)(b:List UInt8)(hb:b.length=8):zbe (dirF kf (!bk)) (zbe (dirF kf bk) b)=b:=by
 refine zlV b hb fun i hi=>?_
 cases bk
 ·show kf (16-1-i)=kf (15-i);rfl
 ·show kf i=kf (16-1-(15-i));rw[show 16-1-(15-i)=i by omega]
theorem zdM[Inhabited BT](m:Nat)(kf:Nat->Nat->List UInt8)(back:Bool)(b:List UInt8)(hb:b.length=8):(zaF m kf back b).length=8:=zpn m kf back b hb m
theorem zck[Inhabited BT](m:Nat)(hm:m=1\/m=3)(kf:Nat->Nat->List UInt8)(b:List UInt8)(hb:b.length=8):zaF m kf true (zaF m kf false b)=b/\zaF m kf false (zaF m kf true b)=b:=by
 have T:∀(k:Nat->List UInt8) (y:List UInt8),y.length=8->zbe (dirF k true) (zbe (dirF k false) y)=y:=fun k y hy=>zok k false y hy
 have F:∀(k:Nat->List UInt8) (y:List UInt8),y.length=8->zbe (dirF k false) (zbe (dirF k true) y)=y:=fun k y hy=>zok k true y hy
 rcases hm with rfl|rfl
 ·exact⟨T (kf 0) b hb,F (kf 0) b hb⟩
 ·constructor
  ·show zbe (dirF (kf 0) true) (zbe (dirF (kf 1) false) (zbe (dirF (kf 2) true) (zbe (dirF (kf 2) false) (zbe (dirF (kf 1) true) (zbe (dirF (kf 0) false) b)))))=b;rw[T (kf 2) _ (zdE _ _),F (kf 1) _ (zdE _ _),T (kf 0) b hb]
  ·show zbe (dirF (kf 2) false) (zbe (dirF (kf 1) true) (zbe (dirF (kf 0) false) (zbe (dirF (kf 0) true) (zbe (dirF (kf 1) false) (zbe (dirF (kf 2) true) b)))))=b;rw[F (kf 0) _ (zdE _ _),T (kf 1) _ (zdE _ _),F (kf 2) b hb]
theorem zb8(A:Option Addr)(n c:Nat)(key:List UInt8)(w:World)(hn:n=8\/n=16\/n=24)(h:Rd w w.heap.size A n key)(hc:n<=c):
  Calls Tryz.prog 56 #[.slice A n c] w (zb0 w key):=by
 rcases hn with rfl|rfl|rfl
 ·exact zo6 A c key w h hc
 ·exact zoj A c key w h hc
 ·exact znC A c key w h hc
theorem zb6(p:Nat)(A:Option Addr)(n cc:Nat)(back:Bool)(w:World)(h:n≠8):
  Calls Tryz.prog 212 #[.pointer (some ⟨p,0,none⟩),.slice A n cc,.bool back] w fun e w'=>e=.returned (.tuple #[.slice none 0 0,.int .i64 1])/\Ext w w':=by
 have g:((n:Int) != 8)=true:=by simp;omega
 go_enter Tryz.func212,Tryz.ntmps212;go_wp2_with fail
 refine zat 0 (fun _ _=>False) (fun _ _=>0) rfl (fun _ _ h=>h.elim) ?_;intro _;go_wp2_with fail
 (try simp only[Exit.jump])
 go_ret2;exact⟨rfl,Ext.refl _⟩
def zc1(w:World)(bs:List UInt8)(e:Ending)(w':World):Prop :=
 ∃A c,e=.returned (.tuple #[.slice A 8 c,.int .i64 0])/\(8<=c/\c<=9223372036854775807)/\Rd w' w'.heap.size A 8 bs/\Ext w w'/\Fr w.heap.size A
def BlkJ[Inhabited BT](A:Option Addr)(p m c:Nat)(back:Bool)(kf:Nat->Nat->List UInt8)(b:List UInt8)(w:World)(a:Act)(w1:World):Prop :=
 ∃(i:Nat) (Ao:Option Addr) (co:Nat) (u3 u4 u5 u10 u11 u12 u13 u14 u15 u16 u17 u18 u19 u20 u21 u22 u23 u24 u25 u26 u27 u28 u29 u30 u31 u32 u33 u34 u35 u36 u37 u38 u39 u40 u41 u42 u43 u44 u45 u46:Value),
  a = { tmps:=#[.pointer (some ⟨p,0,none⟩),.slice A 8 c,.bool back,u3,u4,u5,.slice none 0 0,.int .i64 0,.slice Ao 8 co,.int .i64 i,u10,u11,u12,u13,u14,u15,u16,u17,u18,u19,u20,u21,u22,u23,u24,u25,u26,u27,u28,u29,u30,u31,u32,u33,u34,u35,u36,u37,u38,u39,u40,u41,u42,u43,u44,u45,u46],defers:=[] }/\i<=m/\(8<=co/\co<=9223372036854775807)/\Ext w w1/\Rd w1 w1.heap.size Ao 8 (blkG m kf back b i)/\IsDes w1 p m kf/\Boxes w1/\Fr w.heap.size Ao
theorem zcK[Inhabited BT](A:Option Addr)(p m c:Nat)(b:List UInt8)(kf:Nat->Nat->List UInt8)(back:Bool)(w:World)(hd:IsDes w p m kf)(hm:m<=1000)(h:Rd w w.heap.size A 8 b)(hB:Boxes w):
  Calls Tryz.prog 212 #[.pointer (some ⟨p,0,none⟩),.slice A 8 c,.bool back] w (zc1 w (zaF m kf back b)):=by
 have HD:=hid hd;have HR:=hid h;have HB:=hid hB;clear hd h hB;go_enter Tryz.func212,Tryz.ntmps212;go_wp2_with fail
 refine zat 0 (BlkJ A p m c back kf b w) (fun a _=>m-iAt 9 a) rfl ?_ ?_
 ·rintro a w1 ⟨i,Ao,co,u3,u4,u5,u10,u11,u12,u13,u14,u15,u16,u17,u18,u19,u20,u21,u22,u23,u24,u25,u26,u27,u28,u29,u30,u31,u32,u33,u34,u35,u36,u37,u38,u39,u40,u41,u42,u43,u44,u45,u46,rfl,hi,hco,hx,hr,hd,hB,hfr⟩;obtain⟨bs,cs,hcell,hcs,hsch⟩:=hd;have HD1:=hid (show IsDes w1 p m kf from⟨bs,cs,hcell,hcs,hsch⟩);by_cases hlt:i<m
  ·have hne:((i:Int)==(m:Int))=false:=by simp;omega
   have hP:=zkj i m back hlt;have hpl:=fun w=>zij i m back w hlt hm
   have hnext:blkG m kf back b (i+1)=zbe (dirF (kf (place i m back)) (back != decide (place i m back=1))) (blkG m kf back b i):=rfl;obtain⟨P,hPe⟩:∃P,place i m back=P:=⟨_,rfl⟩;rw[hPe] at hP hpl hnext;obtain⟨bk,ck,hck,hck16,hkr⟩:=hsch P hP;have HPL:=hid hpl;have HN:=hid hnext;have HX:=hid hx;have HRR:=hid hr;have HBX:=hid hB;have HKR:=hid hkr;clear hpl hnext hx hr hB hkr hsch hPe;go_wp2_with (go_at_call 214;refine(HPL.out _).mono ?_;rintro e w' ⟨rfl,rfl⟩)
   have hbb:(!(back==((P:Int)==1)))=(back != decide (P=1)):=by
    have:((P:Int)==1)=decide (P=1):=by by_cases h1:P=1<;>simp[h1]<;>omega
    rw[this];rfl
   rw[hbb];refine(zcw _ _ _ _ _ _ _ _ _ HRR.out HKR.out hck16 HBX.out).mono ?_;rintro e w2 ⟨A5,c5,rfl,hc5,hr5,hx5,hf5⟩;have HF5:=hid (hf5.mono (Below.size HX.out));have HX5:=hid (Ext.trans HX.out hx5);have HR5:=hid hr5;have HD5:=hid (HD1.out.later hx5);have HB5:=hid (HBX.out.later hx5);clear hr5 hx5 hf5 HX HRR HD1 HBX HKR HPL hbb;go_wp2_with fail
   go_step3
   (try simp only[Exit.jump])
   refine⟨rfl,⟨i+1,A5,c5,ex8 (ex8 (ex8 (ex8 (ex8 ⟨rfl,by omega,hc5,HX5.out,?_,HD5.out,HB5.out,HF5.out⟩))))⟩,?_⟩
   ·rw[HN.out];exact HR5.out
   ·simp[iAt];omega
  ·obtain rfl:i=m:=by omega
   have hne:((i:Int)==(i:Int))=true:=by simp
   have HH:=hid (And.intro hr hx);clear hx hr hB hsch;go_wp2_with fail
   (try simp only[Exit.jump])
   go_ret2;exact⟨Ao,co,rfl,hco,HH.out.1,HH.out.2,hfr⟩
 ·intro hfirst;go_wp2_with (go_at_call 213;refine(zmo _ 8 _ _ _ HR.out (by omega) (by omega)).mono ?_;rintro e w2 ⟨v2,rfl,ho2,hb2⟩;obtain⟨A2,c2,rfl,hc2,hr2,hf2⟩:=ho2.rdf HR.out.len;have HF2:=hid hf2;have HX2:=hid (show Ext w w2 from hb2);have HR2:=hid hr2;clear ho2 hb2 hr2 hf2)
  go_step3;simp only[Exit.then];rename_i hK;refine hK _ _ ?_;exact hfirst.out _ _ ⟨0,A2,c2,ex8 (ex8 (ex8 (ex8 (ex8 ⟨rfl,by omega,hc2,HX2.out,HR2.out,HD.out.later HX2.out,HB.out.later HX2.out,HF2.out⟩))))⟩
theorem znE(A:Option Addr)(c:Nat)(key:List UInt8)(w:World)(h:Rd w w.heap.size A 8 key)(hc:8<=c):
  Calls Tryz.prog 38 #[.slice A 8 c] w (zb0 w key):=by
 have hl:=h.len;obtain⟨b0,o0,rfl,_,_⟩:=h.at_ (by omega);have hx0:=Ext.alloc w (.cells #[Value.slice none 0 0] 108);have HX0:=hid hx0;have HRW:=hid h;have HR0:=hid (h.later hx0);have hp0:=heap_alloc_new w (.cells #[Value.slice none 0 0] 108);go_enter Tryz.func38,Tryz.ntmps38;go_wp2_with fail
 obtain⟨W0,hW0⟩:∃W0,w.alloc (.cells #[Value.slice none 0 0] 108)=W0:=⟨_,rfl⟩;obtain⟨p,hp⟩:∃p,w.heap.size=p:=⟨_,rfl⟩;have hpw:=hid (show w.heap.size<=p by omega);rw[hW0] at HX0 HR0 hp0 ⊢;rw[hp] at hp0 ⊢;have HP0:=hid hp0;have hkey3:key3 key=key:=by unfold key3;rw[if_neg (by omega)]
 have hm:zbg key.length=1:=by unfold zbg;rw[if_pos hl]
 have hres:∀q w',IsDes w' q 1 (fun j=>keyF ((key.drop (8*j)).take 8))->IsDes w' q (zbg key.length) (kfOf key):=fun q w' h=>by rw[hm];unfold kfOf;rw[hkey3];exact h
 have HRES:=hid hres;clear hx0 hp0 h hW0 hkey3 hm hres hl hp;go_loopw [5] (fun i wr=>∃(k:Nat) (v:Value) (vs:List Value),k<=1/\i=.int .i64 ((8*k:Nat):Int)/\wr.heap[p]? = some (.cells #[v] 108 (0,0))/\OwnV 109 wr (p+1) v vs/\vs.length=k /\
   (∀j,j<k->∃bk ck,vs[j]? = some (.slice (some ⟨bk,0,none⟩) 16 ck)/\16<=ck/\KO wr bk (keyF ((key.drop (8*j)).take 8)))/\Below w.heap.size w wr/\Rd wr wr.heap.size (some ⟨b0,o0,none⟩) 8 key) (fun i _=>8-(intOf i).toNat)
 case atStart=>exact⟨0,_,[],by omega,rfl,HP0.out,World.ownsRow_nil _ _ _ _,rfl,fun j hj=>absurd hj (by omega),HX0.out,HR0.out⟩
 case round =>
  clear HP0 HX0 HR0;obtain⟨k,v,vs,hk,rfl,hpc,hov,hvl,hrows,hb,hrd⟩:=hrel;by_cases hlt:k<1
  ·have HPC:=hid hpc;have HOV:=hid hov;have HROWS:=hid hrows;have HB:=hid hb;have HRD:=hid hrd;have HK:=hid (hrd.part (8*k) 8 (by omega));have hq1:((8*k:Nat):Int)<8:=by omega
   clear hpc hov hrows hb hrd;go_wp2_with fail
   refine(zbZ _ _ _ _ HK.out).mono ?_;rintro e w2 ⟨bk,ck,rfl,hck,hko,hx2⟩;have HX2:=hid hx2;have HKO:=hid hko;have hpl:=(Array.getElem?_eq_some_iff.1 HPC.out).1;have hpc2:w2.heap[p]? = some (.cells #[v] 108 (0,0)):=(Below.block hx2 p hpl).trans HPC.out;have hcp2:w2.cell? ⟨p,0,none⟩=some v:=by rw[cell_of_heap hpc2];rfl
   have hx3:Ext w2 (w2.alloc (.cells #[.slice (some ⟨bk,0,none⟩) 16 ck] 109)):=Ext.alloc _ _;have hov3:=(HOV.out.kept hx2).kept hx3;have hcell3:=zbC w2 [.slice (some ⟨bk,0,none⟩) 16 ck] 109 0 (.slice (some ⟨bk,0,none⟩) 16 ck) rfl;rw[Nat.zero_add] at hcell3;have hz2:=Below.size hx2;have hpl2:p+1<=(w2.alloc (.cells #[.slice (some ⟨bk,0,none⟩) 16 ck] 109)).heap.size:=by simp;omega
   have hpc3:(w2.alloc (.cells #[.slice (some ⟨bk,0,none⟩) 16 ck] 109)).heap[p]? = some (.cells #[v] 108 (0,0)):=(Below.block hx3 p (by omega)).trans hpc2;have HX3:=hid (Ext.trans hx2 hx3);have hl9:(vs++[Value.slice (some ⟨bk,0,none⟩) 16 ck]).length=k+1:=by simp[hvl]
   have HKO3:=hid (hko.later hx3);have HPC3:=hid hpc3;clear hx2 hko hx3 hpc2 hpc3;go_wp2_with (at_builtin;refine zbn _ rfl (.tmp 42) (.tmp 44) 106 109 rfl Tryz.underlying106 Tryz.info24 (p+1) _ vs rfl hov3 _ 1 (.slice (some ⟨bk,0,none⟩) 16 ck) rfl hcell3 rfl (by omega) hpl2 ?_;intro v9 w9 hown9 hg9;obtain⟨b9,c9,rfl,hc9⟩:=hown9.headn hl9;have hpc9:=(hg9.block p (by omega) (hov3.block_ne HPC3.out (by decide))).trans HPC3.out;have hcp9:w9.cell? ⟨p,0,none⟩=some v:=(by rw[cell_of_heap hpc9];rfl);have hfr9:=zcf hpc9)
   have HH:=hid (show(w9.setCell ⟨p,0,none⟩ (.slice (some ⟨b9,0,none⟩) (k+1) c9)).heap[p]? = some (.cells #[.slice (some ⟨b9,0,none⟩) (k+1) c9] 108 (0,0)) /\
     OwnV 109 (w9.setCell ⟨p,0,none⟩ (.slice (some ⟨b9,0,none⟩) (k+1) c9)) (p+1) (.slice (some ⟨b9,0,none⟩) (k+1) c9) (vs++[Value.slice (some ⟨bk,0,none⟩) 16 ck]) /\
     (∀j,j<k+1->∃bk2 ck2,(vs++[Value.slice (some ⟨bk,0,none⟩) 16 ck])[j]? = some (.slice (some ⟨bk2,0,none⟩) 16 ck2)/\16<=ck2/\KO (w9.setCell ⟨p,0,none⟩ (.slice (some ⟨b9,0,none⟩) (k+1) c9)) bk2 (keyF ((key.drop (8*j)).take 8))) /\
     Below w.heap.size w (w9.setCell ⟨p,0,none⟩ (.slice (some ⟨b9,0,none⟩) (k+1) c9)) from by
    refine⟨zbu hpc9,hown9.typedG (zaz _ _ _ _) hpc9 (by decide),fun j hj=>?_,?_⟩
    ·by_cases hjk:j=k
     ·subst hjk;exact⟨bk,ck,by simp[hvl],hck,(HKO3.out.typed hov3 (by decide) (by decide) hg9).typedG (zaz _ _ _ _) hpc9 (by decide) (by decide)⟩
     ·obtain⟨bk2,ck2,h1,h2,h3⟩:=HROWS.out j (by omega);exact⟨bk2,ck2,by rw[List.getElem?_append_left (by omega)];exact h1,h2,((h3.later HX3.out).typed hov3 (by decide) (by decide) hg9).typedG (zaz _ _ _ _) hpc9 (by decide) (by decide)⟩
    ·have hp1:=hpw.out;have hb3:=(HB.out.trans (Below.mono HX3.out HB.out.size));have hz3:=hb3.size;exact(hb3.grown hg9 hz3 (fun q hq=>by have:=(World.ownsRow.lt hov3 q hq).1;omega)).setCell (by simp;omega) _)
   have HRD9:=hid (show Rd (w9.setCell ⟨p,0,none⟩ (.slice (some ⟨b9,0,none⟩) (k+1) c9)) (w9.setCell ⟨p,0,none⟩ (.slice (some ⟨b9,0,none⟩) (k+1) c9)).heap.size (some ⟨b0,o0,none⟩) 8 key from(HRW.out.below HH.out.2.2.2 (Nat.le_refl _)).more (Below.size HH.out.2.2.2));clear hown9 hg9 hov3 hcell3 hpc9 hcp9 hfr9;go_wp2_with fail
   go_roundw
   case rel=>exact⟨k+1,_,_,by omega,by rw[show((8*(k+1):Nat):Int)=8*(k:Int)+8 by omega],HH.out.1,HH.out.2.1,hl9,HH.out.2.2.1,HH.out.2.2.2,HRD9.out⟩
   case measure=>simp[intOf];omega
  ·obtain rfl:k=1:=by omega
   rw[show((8*1:Nat):Int)=8 from rfl];have hdes:IsDes wr p 1 (fun j=>keyF ((key.drop (8*j)).take 8)):=by
    rcases hov.2 with⟨_,hn⟩|⟨g,cap,cur,rfl,hbg,hh,hnc,r⟩
    ·omega
    ·refine⟨g,cap,by rw[cell_of_heap hpc,hvl];rfl,by omega,fun j hj=>?_⟩;obtain⟨bk,ck,h1,h2,h3⟩:=hrows j hj;refine⟨bk,ck,?_,h2,h3.kr⟩;rw[OwnV.celln (c:=cap) (n:=vs.length) ⟨hov.1,.inr ⟨g,cap,cur,rfl,hbg,hh,hnc,r⟩⟩ rfl j (by omega)];exact h1
   have HH:=hid (And.intro (HRES.out p wr hdes) (show Ext w wr from hb));clear hdes hb hrd hrows hov hpc;go_wp2_with fail
   go_ret2;exact⟨p,rfl,HH.out.1,HH.out.2⟩
theorem zlm(A:Option Addr)(c:Nat)(key:List UInt8)(w:World)(h:Rd w w.heap.size A 24 key)(hc:24<=c):
  Calls Tryz.prog 38 #[.slice A 24 c] w (zb0 w key):=by
 have hl:=h.len;obtain⟨b0,o0,rfl,_,_⟩:=h.at_ (by omega);have hx0:=Ext.alloc w (.cells #[Value.slice none 0 0] 108);have HX0:=hid hx0;have HRW:=hid h;have HR0:=hid (h.later hx0);have hp0:=heap_alloc_new w (.cells #[Value.slice none 0 0] 108);go_enter Tryz.func38,Tryz.ntmps38;go_wp2_with fail
 obtain⟨W0,hW0⟩:∃W0,w.alloc (.cells #[Value.slice none 0 0] 108)=W0:=⟨_,rfl⟩;obtain⟨p,hp⟩:∃p,w.heap.size=p:=⟨_,rfl⟩;have hpw:=hid (show w.heap.size<=p by omega);rw[hW0] at HX0 HR0 hp0 ⊢;rw[hp] at hp0 ⊢;have HP0:=hid hp0;have hkey3:key3 key=key:=by unfold key3;rw[if_neg (by omega)]
 have hm:zbg key.length=3:=by unfold zbg;rw[if_neg (by omega)]
 have hres:∀q w',IsDes w' q 3 (fun j=>keyF ((key.drop (8*j)).take 8))->IsDes w' q (zbg key.length) (kfOf key):=fun q w' h=>by rw[hm];unfold kfOf;rw[hkey3];exact h
 have HRES:=hid hres;clear hx0 hp0 h hW0 hkey3 hm hres hl hp;go_loopw [5] (fun i wr=>∃(k:Nat) (v:Value) (vs:List Value),k<=3/\i=.int .i64 ((8*k:Nat):Int)/\wr.heap[p]? = some (.cells #[v] 108 (0,0))/\OwnV 109 wr (p+1) v vs/\vs.length=k /\
   (∀j,j<k->∃bk ck,vs[j]? = some (.slice (some ⟨bk,0,none⟩) 16 ck)/\16<=ck/\KO wr bk (keyF ((key.drop (8*j)).take 8)))/\Below w.heap.size w wr/\Rd wr wr.heap.size (some ⟨b0,o0,none⟩) 24 key) (fun i _=>24-(intOf i).toNat)
 case atStart=>exact⟨0,_,[],by omega,rfl,HP0.out,World.ownsRow_nil _ _ _ _,rfl,fun j hj=>absurd hj (by omega),HX0.out,HR0.out⟩
 case round =>
  clear HP0 HX0 HR0;obtain⟨k,v,vs,hk,rfl,hpc,hov,hvl,hrows,hb,hrd⟩:=hrel;by_cases hlt:k<3
  ·have HPC:=hid hpc;have HOV:=hid hov;have HROWS:=hid hrows;have HB:=hid hb;have HRD:=hid hrd;have HK:=hid (hrd.part (8*k) 8 (by omega));have hq1:((8*k:Nat):Int)<24:=by omega
   clear hpc hov hrows hb hrd;go_wp2_with fail
   refine(zbZ _ _ _ _ HK.out).mono ?_;rintro e w2 ⟨bk,ck,rfl,hck,hko,hx2⟩;have HX2:=hid hx2;have HKO:=hid hko;have hpl:=(Array.getElem?_eq_some_iff.1 HPC.out).1;have hpc2:w2.heap[p]? = some (.cells #[v] 108 (0,0)):=(Below.block hx2 p hpl).trans HPC.out;have hcp2:w2.cell? ⟨p,0,none⟩=some v:=by rw[cell_of_heap hpc2];rfl
   have hx3:Ext w2 (w2.alloc (.cells #[.slice (some ⟨bk,0,none⟩) 16 ck] 109)):=Ext.alloc _ _;have hov3:=(HOV.out.kept hx2).kept hx3;have hcell3:=zbC w2 [.slice (some ⟨bk,0,none⟩) 16 ck] 109 0 (.slice (some ⟨bk,0,none⟩) 16 ck) rfl;rw[Nat.zero_add] at hcell3;have hz2:=Below.size hx2;have hpl2:p+1<=(w2.alloc (.cells #[.slice (some ⟨bk,0,none⟩) 16 ck] 109)).heap.size:=by simp;omega
   have hpc3:(w2.alloc (.cells #[.slice (some ⟨bk,0,none⟩) 16 ck] 109)).heap[p]? = some (.cells #[v] 108 (0,0)):=(Below.block hx3 p (by omega)).trans hpc2;have HX3:=hid (Ext.trans hx2 hx3);have hl9:(vs++[Value.slice (some ⟨bk,0,none⟩) 16 ck]).length=k+1:=by simp[hvl]
   have HKO3:=hid (hko.later hx3);have HPC3:=hid hpc3;clear hx2 hko hx3 hpc2 hpc3;go_wp2_with (at_builtin;refine zbn _ rfl (.tmp 42) (.tmp 44) 106 109 rfl Tryz.underlying106 Tryz.info24 (p+1) _ vs rfl hov3 _ 1 (.slice (some ⟨bk,0,none⟩) 16 ck) rfl hcell3 rfl (by omega) hpl2 ?_;intro v9 w9 hown9 hg9;obtain⟨b9,c9,rfl,hc9⟩:=hown9.headn hl9;have hpc9:=(hg9.block p (by omega) (hov3.block_ne HPC3.out (by decide))).trans HPC3.out;have hcp9:w9.cell? ⟨p,0,none⟩=some v:=(by rw[cell_of_heap hpc9];rfl);have hfr9:=zcf hpc9)
   have HH:=hid (show(w9.setCell ⟨p,0,none⟩ (.slice (some ⟨b9,0,none⟩) (k+1) c9)).heap[p]? = some (.cells #[.slice (some ⟨b9,0,none⟩) (k+1) c9] 108 (0,0)) /\
     OwnV 109 (w9.setCell ⟨p,0,none⟩ (.slice (some ⟨b9,0,none⟩) (k+1) c9)) (p+1) (.slice (some ⟨b9,0,none⟩) (k+1) c9) (vs++[Value.slice (some ⟨bk,0,none⟩) 16 ck]) /\
     (∀j,j<k+1->∃bk2 ck2,(vs++[Value.slice (some ⟨bk,0,none⟩) 16 ck])[j]? = some (.slice (some ⟨bk2,0,none⟩) 16 ck2)/\16<=ck2/\KO (w9.setCell ⟨p,0,none⟩ (.slice (some ⟨b9,0,none⟩) (k+1) c9)) bk2 (keyF ((key.drop (8*j)).take 8))) /\
     Below w.heap.size w (w9.setCell ⟨p,0,none⟩ (.slice (some ⟨b9,0,none⟩) (k+1) c9)) from by
    refine⟨zbu hpc9,hown9.typedG (zaz _ _ _ _) hpc9 (by decide),fun j hj=>?_,?_⟩
    ·by_cases hjk:j=k
     ·subst hjk;exact⟨bk,ck,by simp[hvl],hck,(HKO3.out.typed hov3 (by decide) (by decide) hg9).typedG (zaz _ _ _ _) hpc9 (by decide) (by decide)⟩
     ·obtain⟨bk2,ck2,h1,h2,h3⟩:=HROWS.out j (by omega);exact⟨bk2,ck2,by rw[List.getElem?_append_left (by omega)];exact h1,h2,((h3.later HX3.out).typed hov3 (by decide) (by decide) hg9).typedG (zaz _ _ _ _) hpc9 (by decide) (by decide)⟩
    ·have hp1:=hpw.out;have hb3:=(HB.out.trans (Below.mono HX3.out HB.out.size));have hz3:=hb3.size;exact(hb3.grown hg9 hz3 (fun q hq=>by have:=(World.ownsRow.lt hov3 q hq).1;omega)).setCell (by simp;omega) _)
   have HRD9:=hid (show Rd (w9.setCell ⟨p,0,none⟩ (.slice (some ⟨b9,0,none⟩) (k+1) c9)) (w9.setCell ⟨p,0,none⟩ (.slice (some ⟨b9,0,none⟩) (k+1) c9)).heap.size (some ⟨b0,o0,none⟩) 24 key from(HRW.out.below HH.out.2.2.2 (Nat.le_refl _)).more (Below.size HH.out.2.2.2));clear hown9 hg9 hov3 hcell3 hpc9 hcp9 hfr9;go_wp2_with fail
   go_roundw
   case rel=>exact⟨k+1,_,_,by omega,by rw[show((8*(k+1):Nat):Int)=8*(k:Int)+8 by omega],HH.out.1,HH.out.2.1,hl9,HH.out.2.2.1,HH.out.2.2.2,HRD9.out⟩
   case measure=>simp[intOf];omega
  ·obtain rfl:k=3:=by omega
   rw[show((8*3:Nat):Int)=24 from rfl];have hdes:IsDes wr p 3 (fun j=>keyF ((key.drop (8*j)).take 8)):=by
    rcases hov.2 with⟨_,hn⟩|⟨g,cap,cur,rfl,hbg,hh,hnc,r⟩
    ·omega
    ·refine⟨g,cap,by rw[cell_of_heap hpc,hvl];rfl,by omega,fun j hj=>?_⟩;obtain⟨bk,ck,h1,h2,h3⟩:=hrows j hj;refine⟨bk,ck,?_,h2,h3.kr⟩;rw[OwnV.celln (c:=cap) (n:=vs.length) ⟨hov.1,.inr ⟨g,cap,cur,rfl,hbg,hh,hnc,r⟩⟩ rfl j (by omega)];exact h1
   have HH:=hid (And.intro (HRES.out p wr hdes) (show Ext w wr from hb));clear hdes hb hrd hrows hov hpc;go_wp2_with fail
   go_ret2;exact⟨p,rfl,HH.out.1,HH.out.2⟩
section
variable {P:Program} {ops:Array Oper} {Q:Exit->Act->World->Prop} {r n:Nat}
variable {P:Program} {l:List Oper} {V:Nat->World->Value->Prop} {a0:Act} {w0:World}
theorem zlM:Inv l.toArray V a0 w0 (Array.replicate l.toArray.size false) a0 { w0 with drawn:=w0.drawn+1 }:=by
 refine⟨by simp,Ext.drew w0,rfl,rfl,?_,fun _ _=>rfl,?_⟩
 ·intro j x _ hl;rw[getD_replicate_false] at hl;cases hl
 ·intro j x t _ hl;rw[getD_replicate_false] at hl;cases hl
theorem zg9{s1:Nat}{os:Oper}{pre:Nat->Bool}{listed:Array Bool}{a:Act}{w w1:World}(h:Inv l.toArray V a0 w1 listed a w)(hos:l[s1]? = some os)(hl:listed.getD s1 false=true)
  (hpre:∀i,pre i=true->waits os i=true\/∃j x,l[j]? = some x/\i<j/\pre j=true/\waits x i=true):∀(k i:Nat),l.length-i<=k->pre i=true->listed.getD i false=true
 | k,i,hk,hp=>by
   rcases hpre i hp with hw|⟨j,x,hx,hij,hpj,hw⟩
   ·obtain⟨e,he,hb,rfl⟩:=zbD hw;exact h.closed s1 os (by simpa using hos) hl e he hb
   ·have hjl:j<l.length:=(List.getElem?_eq_some_iff.1 hx).1
    match k with
    | 0=>omega
    | k+1 =>have hj:=zg9 h hos hl hpre k j (by omega) hpj;obtain⟨e,he,hb,rfl⟩:=zbD hw;exact h.closed j x (by simpa using hx) hj e he hb
structure InvP (l:List Oper) (V:Nat->World->Value->Prop) (a0:Act) (s1:Nat) (I1 I2:World->Prop) (listed:Array Bool) (a:Act) (w:World):Prop where
 inv:Inv l.toArray V a0 w listed a w
 pre:listed.getD s1 false=false->I1 w
 post:listed.getD s1 false=true->I2 w
theorem InvP.any{s1:Nat}{I1 I2:World->Prop}{listed:Array Bool}{a:Act}{w:World}(h:InvP l V a0 s1 I1 I2 listed a w):I1 w\/I2 w:=by
 cases hl:listed.getD s1 false with
 | false=>exact .inl (h.pre hl)
 | true=>exact .inr (h.post hl)
theorem zpr{Q:Exit->Act->World->Prop}{n s s1:Nat}{I1 I2:World->Prop}(hok:zb1 l.toArray n=true)(hn:a0.tmps.size=n)(hs:zcs l.toArray s=true)(hseq:Region.seqB .any l.toArray (l.length-s) s (za7 l.length s)=true)
  (hs1:s1<s) {os:Oper} (hos:l[s1]? = some os) (hg:os.guard=none) (pre:Nat->Bool) (hpre:∀i,pre i=true->waits os i=true\/∃j x,l[j]? = some x/\i<j/\pre j=true/\waits x i=true)
  (hV:∀i w w' v,Ext w w'->V i w v->V i w' v) (h1:∀w w',Ext w w'->I1 w->I1 w') (h2:∀w w',Ext w w'->I2 w->I2 w')
  (step:∀i o,(l.take s).toArray[i]? = some o->i≠s1->∀a w,Kn l.toArray V a0 w i a w->(I1 w\/I2 w)->(pre i=true->I1 w)->Step P l.toArray V Q i o a w)
  (wr:∀a w,Kn l.toArray V a0 w s1 a w->I1 w->os.wp P a w (fun a' w'=>∃v,a'=a.put os.dst v/\I2 w'/\V s1 w' v/\∀i v,i≠s1->V i w v->V i w' v) Q)
  (last:∀a w,Fin_ (l.take s).toArray V a0 w a w->I2 w->wpList P l.toArray Q (l.drop s) a w):
  ∀(fuel:Nat) (listed:Array Bool) (a:Act) (w:World),listed.toList.count false=fuel->(∀j,listed.getD j false=true->j<s)->InvP l V a0 s1 I1 I2 listed a w->wpAny P .any l.toArray Q fuel listed a w:=by
 have hsn:s<l.length:=by unfold zcs at hs;simp only[Bool.and_eq_true,decide_eq_true_eq,List.size_toArray] at hs;exact hs.1.1
 have hlast:∀(listed:Array Bool) (a:Act) (w:World),(∀j,listed.getD j false=true->j<s)->InvP l V a0 s1 I1 I2 listed a w->(∀j,j<s->listed.getD j false=true)->wpAny P .any l.toArray Q (listed.toList.count false) listed a w:=by
  intro listed a w hlo h hall;have hsz:listed.size=l.length:=by rw[h.inv.lsize,List.size_toArray]
  have e:=zew hsz (by omega) hall hlo;have hc:listed.toList.count false=(l.drop s).length:=by rw[e];simp[za7,List.count_append,List.count_replicate]
  rw[hc];refine wpAny_of_seq (l.drop s) s listed a w (fun j=>by simp) (by rw[List.length_drop,e];exact hseq) (last a w ⟨Ext.refl _,h.inv.defers,h.inv.size,fun t ht=>h.inv.old t fun j x hx hd=>?_,fun j x t hx hd=>?_⟩ (h.post (hall s1 hs1)))
  ·cases hl:listed.getD j false with
   | false=>rfl
   | true =>
     have hj:=hlo j hl;exact absurd hd (ht j x (by
      have:l[j]? = some x:=by simpa using hx
      simp[hj,this]))
  ·have hx2:(l.take s)[j]? = some x:=by simpa using hx
   have hj:j<s:=by
    rcases Nat.lt_or_ge j s with h1|h1
    ·exact h1
    ·rw[List.getElem?_eq_none (by simp;omega)] at hx2;cases hx2
   rw[List.getElem?_take,if_pos hj] at hx2;exact h.inv.new j x t (by simpa using hx2) (hall j hj) hd
 intro fuel;induction fuel with
 | zero =>
   intro listed a w hc hlo h;by_cases hall:∀j,j<s->listed.getD j false=true
   ·rw[<-hc];exact hlast listed a w hlo h hall
   ·exfalso;refine hall fun j hj=>?_
    have hjs:j<listed.size:=by rw[h.inv.lsize,List.size_toArray];omega
    cases hl:listed.getD j false with
    | true=>rfl
    | false =>
      have hm:false ∈ listed.toList:=by
       have:listed[j]=false:=by simpa [hjs] using hl
       rw[<-this];simp
      have:=List.count_pos_iff.2 hm;omega
 | succ fuel ih =>
   intro listed a w hc hlo h;by_cases hall:∀j,j<s->listed.getD j false=true
   ·rw[<-hc];exact hlast listed a w hlo h hall
   ·refine⟨fun hr=>absurd (fun j hj=>zbS hok h.inv.lsize hr j (by rw[List.size_toArray];omega)) hall,fun i hi=>?_⟩;have his:i<s:=(zdQ hs h.inv hlo hi).resolve_right hall;obtain⟨hun,o,ho,_⟩:=mem_ready.1 hi;have hcs:=count_set listed i hun;have ho2:(l.take s).toArray[i]? = some o:=by
     have:l[i]? = some o:=by simpa using ho
     simp[his,this]
    have hlo2:∀j,(listed.setIfInBounds i true).getD j false=true->j<s:=fun j hl=>by
     by_cases hj:j=i
     ·omega
     ·rw[getD_set_ne false (Ne.symm hj)] at hl;exact hlo j hl
    have hli:i<listed.size:=by rw[h.inv.lsize];exact(Array.getElem?_eq_some_iff.1 ho).1
    have hun':listed.getD i false=false:=by simpa [hli] using hun
    have hat:∀ {w1:World},Inv l.toArray V a0 w listed a w1->Inv l.toArray V a0 w1 listed a w1:=fun h=>⟨h.lsize,Ext.refl _,h.defers,h.size,h.closed,h.old,h.new⟩
    by_cases hi1:i=s1
    ·subst hi1;have hoe:o=os:=by
      have:l[i]? = some o:=by simpa using ho
      rw[hos] at this;exact(Option.some.inj this).symm
     subst hoe;have hwr:=wr a w (h.inv.kn hok hn hi) (h.pre hun');have hwant:Region.wanted o (yielded l.toArray a.tmps)=true:=by simp[Region.wanted,hg]
     unfold wpOp;simp only[ho];rw[if_pos hwant];refine .inl (Oper.wp_mono (fun a' w' hh=>?_) hwr);obtain⟨v,rfl,hi2,hv,hkeep⟩:=hh;have hI:Inv l.toArray V a0 w' listed a w':=⟨h.inv.lsize,Ext.refl _,h.inv.defers,h.inv.size,h.inv.closed,h.inv.old,fun j x t hx hl hd=>hkeep _ _ (fun e=>by subst e;rw[hun'] at hl;cases hl) (h.inv.new j x t hx hl hd)⟩;refine ih _ _ _ (by omega) hlo2 ⟨hI.put hok hn hV hi ho (Ext.refl _) hv,fun hl=>?_,fun _=>hi2⟩;simp[hli] at hl
    ·have hset:(listed.setIfInBounds i true).getD s1 false=listed.getD s1 false:=getD_set_ne false hi1;have hst:=step i o ho2 hi1 a w (h.inv.kn hok hn hi) h.any (fun hwt=>by
      refine h.pre ?_;cases hl:listed.getD s1 false with
      | false=>rfl
      | true =>
        have:=zg9 h.inv hos hl hpre l.length i (by omega) hwt;rw[hun'] at this;cases this)
     unfold wpOp;simp only[ho];unfold Step at hst;split
     ·rename_i hw;rw[if_pos hw] at hst;refine .inl (Oper.wp_mono (fun a' w' hh=>?_) hst);obtain⟨v,rfl,he,hv⟩:=hh;have hp:=h.inv.put hok hn hV hi ho he hv;exact ih _ _ _ (by omega) hlo2 ⟨⟨hp.lsize,Ext.refl _,hp.defers,hp.size,hp.closed,hp.old,hp.new⟩,fun hl=>h1 _ _ he (h.pre (by rw[<-hset];exact hl)),fun hl=>h2 _ _ he (h.post (by rw[<-hset];exact hl))⟩
     ·rename_i hw;rw[if_neg hw] at hst;have hp:=h.inv.put hok hn hV hi ho (Ext.refl _) hst;exact ih _ _ _ (by omega) hlo2 ⟨⟨hp.lsize,Ext.refl _,hp.defers,hp.size,hp.closed,hp.old,hp.new⟩,fun hl=>h.pre (by rw[<-hset];exact hl),fun hl=>h.post (by rw[<-hset];exact hl)⟩
theorem zoC{Q:Exit->Act->World->Prop}{id n:Nat}(s s1:Nat)(os:Oper)(I1 I2:World->Prop)(hm:P.follows .mixedOrders=true)(hn:a0.tmps.size=n)(hok:zb1 l.toArray n=true)
  (hs:zcs l.toArray s=true) (hseq:Region.seqB .any l.toArray (l.length-s) s (za7 l.length s)=true)
  (hs1:s1<s) (hos:l[s1]? = some os) (hg:os.guard=none) (pre:Nat->Bool) (hpre:∀i,pre i=true->waits os i=true\/∃j x,l[j]? = some x/\i<j/\pre j=true/\waits x i=true)
  (V:Nat->World->Value->Prop) (hV:∀i w w' v,Ext w w'->V i w v->V i w' v) (h1:∀w w',Ext w w'->I1 w->I1 w') (h2:∀w w',Ext w w'->I2 w->I2 w') (h0:I1 w0)
  (step:∀i o,(l.take s).toArray[i]? = some o->i≠s1->∀a w,Kn l.toArray V a0 w i a w->(I1 w\/I2 w)->(pre i=true->I1 w)->Step P l.toArray V Q i o a w)
  (wr:∀a w,Kn l.toArray V a0 w s1 a w->I1 w->os.wp P a w (fun a' w'=>∃v,a'=a.put os.dst v/\I2 w'/\V s1 w' v/\∀i v,i≠s1->V i w v->V i w' v) Q)
  (last:∀a w,Fin_ (l.take s).toArray V a0 w a w->I2 w->wpList P l.toArray Q (l.drop s) a w):(Code.region id l.toArray true).wp P Q a0 w0:=by
 have hi:Inv l.toArray V a0 w0 (Array.replicate l.toArray.size false) a0 { w0 with drawn:=w0.drawn+1 }:=zlM;refine wp_region_any hm (zpr (V:=V) hok hn hs hseq hs1 hos hg pre hpre hV h1 h2 step wr last l.toArray.size _ _ _ ?_ ?_ ⟨⟨hi.lsize,Ext.refl _,hi.defers,hi.size,hi.closed,hi.old,hi.new⟩,fun _=>h1 _ _ (Ext.drew w0) h0,fun hl=>?_⟩)
 ·simp
 ·intro j hl;rw[getD_replicate_false] at hl;cases hl
 ·rw[getD_replicate_false] at hl;cases hl
end
theorem zlE(w:World)(b n c:Nat):(Instr.buildSlice 106 1 #[(0,.slice (some ⟨b,0,none⟩) n c)]).run Tryz.prog w=.ok (.slice (some ⟨w.heap.size,0,none⟩) 1 1) (w.alloc (.cells #[.slice (some ⟨b,0,none⟩) n c] 109)):=by go_simp
def NewRow(H:Nat)(x:Value)(w:World)(v:Value):Prop:=∃b,v=.slice (some ⟨b,0,none⟩) 1 1/\H<=b/\w.heap[b]? = some (.cells #[x] 109 (0,0))
theorem NewRow.keep(H:Nat)(x:Value):∀w w' v,Ext w w'->NewRow H x w v->NewRow H x w' v:=fun _ _ _ hx ⟨b,h1,h2,h3⟩=>⟨b,h1,h2,(Below.block hx b (Array.getElem?_eq_some_iff.1 h3).1).trans h3⟩
def App3(B:Nat)(xs:List Value)(w:World)(v:Value):Prop:=∃b c,v=.slice (some ⟨b,0,none⟩) 3 c/\3<=c/\OwnV 109 w B v xs
theorem App3.keep(B:Nat)(xs:List Value):∀w w' v,Ext w w'->App3 B xs w v->App3 B xs w' v:=fun _ _ _ hx ⟨b,c,h1,h2,h3⟩=>⟨b,c,h1,h2,h3.kept hx⟩
def rn10(p g cap bk0 ck0 H B:Nat)(xs:List Value):List Go.Proofs.YtokbbmngfogbbaaGreatDoor.K:=[.eq (.pointer (some ⟨p,0,none⟩)),.eq (.pointer (some ⟨p,0,none⟩)),.eq (.pointer (some ⟨p,0,none⟩)),.eq (.pointer (some ⟨p,0,none⟩)),.eq (.slice (some ⟨g,0,none⟩) 2 cap),.eq (.pointer (some ⟨p,0,none⟩)),.eq (.pointer (some ⟨p,0,none⟩)),.eq (.pointer (some ⟨p,0,none⟩)),.eq (.slice (some ⟨g,0,none⟩) 2 cap),.eq (.pointer (some ⟨g,0,none⟩)),.eq (.slice (some ⟨bk0,0,none⟩) 16 ck0),.gen (NewRow H (.slice (some ⟨bk0,0,none⟩) 16 ck0)) (NewRow.keep _ _),.gen (App3 B xs) (App3.keep _ _),.any,.any,.any]
theorem zmO{w w':World}{p g cap bk0 ck0 H B:Nat}{xs:List Value}(hg:w.grownBy w' (some g))(hgH:g<H)(i:Nat)(v:Value)(hi:i≠12)(hv:kV (rn10 p g cap bk0 ck0 H B xs) i w v):kV (rn10 p g cap bk0 ck0 H B xs) i w' v:=by
 match i,hi,hv with
 | 0,_,hv=>exact hv
 | 1,_,hv=>exact hv
 | 2,_,hv=>exact hv
 | 3,_,hv=>exact hv
 | 4,_,hv=>exact hv
 | 5,_,hv=>exact hv
 | 6,_,hv=>exact hv
 | 7,_,hv=>exact hv
 | 8,_,hv=>exact hv
 | 9,_,hv=>exact hv
 | 10,_,hv=>exact hv
 | 11,_,hv =>obtain⟨b,h1,h2,h3⟩:=hv;exact⟨b,h1,h2,(hg.block b (Array.getElem?_eq_some_iff.1 h3).1 (by simp;omega)).trans h3⟩
 | 12,h,_=>exact absurd rfl h
 | 13,_,_=>trivial
 | 14,_,_=>trivial
 | 15,_,_=>trivial
 | _+16,_,_=>trivial
structure NI2 (w0:World) (p:Nat) (v2:Value) (key:List UInt8) (xs:List Value) (w:World):Prop where
 pc:w.heap[p]? = some (.cells #[v2] 108 (0,0))
 rows:∀j,j<3->∃bk2 ck2,xs[j]? = some (.slice (some ⟨bk2,0,none⟩) 16 ck2)/\16<=ck2/\KO w bk2 (kfOf key j)
 b:Below w0.heap.size w0 w
theorem NI2.ext{w0 w w':World}{p:Nat}{v2:Value}{key:List UInt8}{xs:List Value}(h:NI2 w0 p v2 key xs w)(hx:Ext w w'):NI2 w0 p v2 key xs w' :=
 ⟨(Below.block hx p (Array.getElem?_eq_some_iff.1 h.pc).1).trans h.pc,fun j hj=>by obtain⟨bk,ck,h1,h2,h3⟩:=h.rows j hj;exact⟨bk,ck,h1,h2,h3.later hx⟩,h.b.trans (Below.mono hx h.b.size)⟩
theorem zlK(A:Option Addr)(c:Nat)(key:List UInt8)(w:World)(h:Rd w w.heap.size A 16 key)(hc:16<=c):
  Calls Tryz.prog 38 #[.slice A 16 c] w (zb0 w key):=by
 have hl:=h.len;obtain⟨b0,o0,rfl,_,_⟩:=h.at_ (by omega);have hx0:=Ext.alloc w (.cells #[Value.slice none 0 0] 108);have HX0:=hid hx0;have HRW:=hid h;have HR0:=hid (h.later hx0);have hp0:=heap_alloc_new w (.cells #[Value.slice none 0 0] 108);go_enter Tryz.func38,Tryz.ntmps38;go_wp2_with fail
 obtain⟨W0,hW0⟩:∃W0,w.alloc (.cells #[Value.slice none 0 0] 108)=W0:=⟨_,rfl⟩;obtain⟨p,hp⟩:∃p,w.heap.size=p:=⟨_,rfl⟩;have hpw:=hid (show w.heap.size<=p by omega);rw[hW0] at HX0 HR0 hp0 ⊢;rw[hp] at hp0 ⊢;have HP0:=hid hp0;have hkl:=hl;have hkey3:key3 key=key++key.take 8:=by unfold key3;rw[if_pos hl]
 have hm:zbg key.length=3:=by unfold zbg;rw[if_neg (by omega)]
 have hrow:∀j,j<3->kfOf key j=keyF ((key.drop (8*(if j<2 then j else 0))).take 8):=fun j hj=>by
  unfold kfOf;rw[hkey3]
  match j,hj with
  | 0,_=>rw[List.drop_append_of_le_length (by omega),List.take_append_of_le_length (by rw[List.length_drop];omega)];rfl
  | 1,_=>rw[List.drop_append_of_le_length (by omega),List.take_append_of_le_length (by rw[List.length_drop];omega)];rfl
  | 2,_=>rw[List.drop_append,List.drop_eq_nil_of_le (by omega),List.nil_append,show 8*2-key.length=0 by omega,List.drop_zero,List.take_take];rfl
 have HRES:=hid (And.intro hm hrow);clear hx0 hp0 h hW0 hkey3 hm hrow hl hkl hp;go_loopw [5] (fun i wr=>∃(k:Nat) (v:Value) (vs:List Value),k<=2/\i=.int .i64 ((8*k:Nat):Int)/\wr.heap[p]? = some (.cells #[v] 108 (0,0))/\OwnV 109 wr (p+1) v vs/\vs.length=k /\
   (∀j,j<k->∃bk ck,vs[j]? = some (.slice (some ⟨bk,0,none⟩) 16 ck)/\16<=ck/\KO wr bk (keyF ((key.drop (8*j)).take 8)))/\Below w.heap.size w wr/\Rd wr wr.heap.size (some ⟨b0,o0,none⟩) 16 key) (fun i _=>16-(intOf i).toNat)
 case atStart=>exact⟨0,_,[],by omega,rfl,HP0.out,World.ownsRow_nil _ _ _ _,rfl,fun j hj=>absurd hj (by omega),HX0.out,HR0.out⟩
 case round =>
  clear HP0 HX0 HR0;obtain⟨k,v,vs,hk,rfl,hpc,hov,hvl,hrows,hb,hrd⟩:=hrel;by_cases hlt:k<2
  ·have HPC:=hid hpc;have HOV:=hid hov;have HROWS:=hid hrows;have HB:=hid hb;have HRD:=hid hrd;have HK:=hid (hrd.part (8*k) 8 (by omega));have hq1:((8*k:Nat):Int)<16:=by omega
   clear hpc hov hrows hb hrd;go_wp2_with fail
   refine(zbZ _ _ _ _ HK.out).mono ?_;rintro e w2 ⟨bk,ck,rfl,hck,hko,hx2⟩;have HX2:=hid hx2;have HKO:=hid hko;have hpl:=(Array.getElem?_eq_some_iff.1 HPC.out).1;have hpc2:w2.heap[p]? = some (.cells #[v] 108 (0,0)):=(Below.block hx2 p hpl).trans HPC.out;have hcp2:w2.cell? ⟨p,0,none⟩=some v:=by rw[cell_of_heap hpc2];rfl
   have hx3:Ext w2 (w2.alloc (.cells #[.slice (some ⟨bk,0,none⟩) 16 ck] 109)):=Ext.alloc _ _;have hov3:=(HOV.out.kept hx2).kept hx3;have hcell3:=zbC w2 [.slice (some ⟨bk,0,none⟩) 16 ck] 109 0 (.slice (some ⟨bk,0,none⟩) 16 ck) rfl;rw[Nat.zero_add] at hcell3;have hz2:=Below.size hx2;have hpl2:p+1<=(w2.alloc (.cells #[.slice (some ⟨bk,0,none⟩) 16 ck] 109)).heap.size:=by simp;omega
   have hpc3:(w2.alloc (.cells #[.slice (some ⟨bk,0,none⟩) 16 ck] 109)).heap[p]? = some (.cells #[v] 108 (0,0)):=(Below.block hx3 p (by omega)).trans hpc2;have HX3:=hid (Ext.trans hx2 hx3);have hl9:(vs++[Value.slice (some ⟨bk,0,none⟩) 16 ck]).length=k+1:=by simp[hvl]
   have HKO3:=hid (hko.later hx3);have HPC3:=hid hpc3;clear hx2 hko hx3 hpc2 hpc3;go_wp2_with (at_builtin;refine zbn _ rfl (.tmp 42) (.tmp 44) 106 109 rfl Tryz.underlying106 Tryz.info24 (p+1) _ vs rfl hov3 _ 1 (.slice (some ⟨bk,0,none⟩) 16 ck) rfl hcell3 rfl (by omega) hpl2 ?_;intro v9 w9 hown9 hg9;obtain⟨b9,c9,rfl,hc9⟩:=hown9.headn hl9;have hpc9:=(hg9.block p (by omega) (hov3.block_ne HPC3.out (by decide))).trans HPC3.out;have hcp9:w9.cell? ⟨p,0,none⟩=some v:=(by rw[cell_of_heap hpc9];rfl);have hfr9:=zcf hpc9)
   have HH:=hid (show(w9.setCell ⟨p,0,none⟩ (.slice (some ⟨b9,0,none⟩) (k+1) c9)).heap[p]? = some (.cells #[.slice (some ⟨b9,0,none⟩) (k+1) c9] 108 (0,0)) /\
     OwnV 109 (w9.setCell ⟨p,0,none⟩ (.slice (some ⟨b9,0,none⟩) (k+1) c9)) (p+1) (.slice (some ⟨b9,0,none⟩) (k+1) c9) (vs++[Value.slice (some ⟨bk,0,none⟩) 16 ck]) /\
     (∀j,j<k+1->∃bk2 ck2,(vs++[Value.slice (some ⟨bk,0,none⟩) 16 ck])[j]? = some (.slice (some ⟨bk2,0,none⟩) 16 ck2)/\16<=ck2/\KO (w9.setCell ⟨p,0,none⟩ (.slice (some ⟨b9,0,none⟩) (k+1) c9)) bk2 (keyF ((key.drop (8*j)).take 8))) /\
     Below w.heap.size w (w9.setCell ⟨p,0,none⟩ (.slice (some ⟨b9,0,none⟩) (k+1) c9)) from by
    refine⟨zbu hpc9,hown9.typedG (zaz _ _ _ _) hpc9 (by decide),fun j hj=>?_,?_⟩
    ·by_cases hjk:j=k
     ·subst hjk;exact⟨bk,ck,by simp[hvl],hck,(HKO3.out.typed hov3 (by decide) (by decide) hg9).typedG (zaz _ _ _ _) hpc9 (by decide) (by decide)⟩
     ·obtain⟨bk2,ck2,h1,h2,h3⟩:=HROWS.out j (by omega);exact⟨bk2,ck2,by rw[List.getElem?_append_left (by omega)];exact h1,h2,((h3.later HX3.out).typed hov3 (by decide) (by decide) hg9).typedG (zaz _ _ _ _) hpc9 (by decide) (by decide)⟩
    ·have hp1:=hpw.out;have hb3:=(HB.out.trans (Below.mono HX3.out HB.out.size));have hz3:=hb3.size;exact(hb3.grown hg9 hz3 (fun q hq=>by have:=(World.ownsRow.lt hov3 q hq).1;omega)).setCell (by simp;omega) _)
   have HRD9:=hid (show Rd (w9.setCell ⟨p,0,none⟩ (.slice (some ⟨b9,0,none⟩) (k+1) c9)) (w9.setCell ⟨p,0,none⟩ (.slice (some ⟨b9,0,none⟩) (k+1) c9)).heap.size (some ⟨b0,o0,none⟩) 16 key from(HRW.out.below HH.out.2.2.2 (Nat.le_refl _)).more (Below.size HH.out.2.2.2));clear hown9 hg9 hov3 hcell3 hpc9 hcp9 hfr9;go_wp2_with fail
   go_roundw
   case rel=>exact⟨k+1,_,_,by omega,by rw[show((8*(k+1):Nat):Int)=8*(k:Int)+8 by omega],HH.out.1,HH.out.2.1,hl9,HH.out.2.2.1,HH.out.2.2.2,HRD9.out⟩
   case measure=>simp[intOf];omega
  ·obtain rfl:k=2:=by omega
   rw[show((8*2:Nat):Int)=16 from rfl];obtain⟨g,cap,rfl,hcap⟩:=hov.headn (n:=1) hvl;obtain⟨bk0,ck0,hv0,hck0,hko0⟩:=hrows 0 (by omega);have hrc0:wr.cell? ⟨g,0,none⟩=some (.slice (some ⟨bk0,0,none⟩) 16 ck0):=by rw[OwnV.celln hov hvl 0 (by omega)];exact hv0
   have hvc0:wr.cell? ⟨p,0,none⟩=some (.slice (some ⟨g,0,none⟩) 2 cap):=by rw[cell_of_heap hpc];rfl
   have HVC:=hid (fun w' (hx:Ext wr w')=>show w'.cell? ⟨p,0,none⟩=some (.slice (some ⟨g,0,none⟩) 2 cap) from(Below.cell hx (p:=⟨p,0,none⟩) (World.block_lt_of_cell? _ _ hvc0)).trans hvc0);have HRC:=hid (fun w' (hx:Ext wr w')=>show w'.cell? ⟨g,0,none⟩=some (.slice (some ⟨bk0,0,none⟩) 16 ck0) from(Below.cell hx (p:=⟨g,0,none⟩) (World.block_lt_of_cell? _ _ hrc0)).trans hrc0);obtain⟨H,hH⟩:∃H,wr.heap.size=H:=⟨_,rfl⟩;obtain⟨B,hB⟩:∃B,p+1=B:=⟨_,rfl⟩;obtain⟨xs,hxs⟩:∃xs,vs++[Value.slice (some ⟨bk0,0,none⟩) 16 ck0]=xs:=⟨_,rfl⟩;have hgl:=(World.ownsRow.lt hov g rfl);have hpl:=(Array.getElem?_eq_some_iff.1 hpc).1;have HGL:=hid (show B<=g/\g<H/\p<H by rw[<-hH,<-hB];exact⟨hgl.1,hgl.2,hpl⟩);have HXS:=hid (And.intro hxs (And.intro hvl (And.intro hH hB)));have HPC:=hid hpc;have HOV:=hid (show OwnV 109 wr B (.slice (some ⟨g,0,none⟩) 2 cap) vs by rw[<-hB];exact hov);have HROWS:=hid hrows
   have HB:=hid hb;have HKO0:=hid (And.intro hck0 hko0);clear hpc hov hrows hb hrd hvl hv0 hck0 hko0 hrc0 hvc0 hcap hH hB hxs hgl hpl;go_wp2_with fail
   refine zoC 13 12 _ (fun w'=>Ext wr w') (NI2 w p (.slice (some ⟨g,0,none⟩) 2 cap) key xs) mixed rfl (by kernel_rfl) (by kernel_rfl) (by kernel_rfl) (by omega) rfl rfl (fun i=>decide (1<=i)&&decide (i<=11)) (fun i hi=>by
    have h:1<=i/\i<=11:=by simpa using hi
    have h2:i=1\/i=2\/i=3\/i=4\/i=5\/i=6\/i=7\/i=8\/i=9\/i=10\/i=11:=by omega
    rcases h2 with rfl|rfl|rfl|rfl|rfl|rfl|rfl|rfl|rfl|rfl|rfl
    ·exact .inr ⟨2,_,rfl,by omega,rfl,by kernel_rfl⟩
    ·exact .inr ⟨3,_,rfl,by omega,rfl,by kernel_rfl⟩
    ·exact .inr ⟨4,_,rfl,by omega,rfl,by kernel_rfl⟩
    ·exact .inl (by kernel_rfl)
    ·exact .inr ⟨6,_,rfl,by omega,rfl,by kernel_rfl⟩
    ·exact .inr ⟨7,_,rfl,by omega,rfl,by kernel_rfl⟩
    ·exact .inr ⟨8,_,rfl,by omega,rfl,by kernel_rfl⟩
    ·exact .inr ⟨9,_,rfl,by omega,rfl,by kernel_rfl⟩
    ·exact .inr ⟨10,_,rfl,by omega,rfl,by kernel_rfl⟩
    ·exact .inr ⟨11,_,rfl,by omega,rfl,by kernel_rfl⟩
    ·exact .inl (by kernel_rfl)) (kV (rn10 p g cap bk0 ck0 H B xs)) (zdA _) (fun _ _ hx h=>Ext.trans h hx) (fun _ _ hx h=>h.ext hx) (Ext.refl _) (zab ⟨?_,?_,?_,?_,?_,?_,?_,?_,?_,?_,?_,?_,?_,trivial⟩) ?_ ?_
   ·intro _ a w hk hI hq;have s4:a.tmps.getD 4 undef=.pointer (some ⟨p,0,none⟩):=hk.was 4;exact zau rfl rfl s4 rfl
   ·intro _ a w hk hI hq;have s4:a.tmps.getD 4 undef=.pointer (some ⟨p,0,none⟩):=hk.was 4;exact zau rfl rfl s4 rfl
   ·intro _ a w hk hI hq;have s52:=hk.eq_ 1 52;refine za ?_;go_simp
   ·intro _ a w hk hI hq;have s53:=hk.eq_ 2 53;refine za ?_;go_simp
   ·intro _ a w hk hI hq;have s54:=hk.eq_ 3 54;refine za ?_;have hc:=HVC.out w (hq rfl);go_simp
   ·intro _ a w hk hI hq;have s4:a.tmps.getD 4 undef=.pointer (some ⟨p,0,none⟩):=hk.was 4;exact zau rfl rfl s4 rfl
   ·intro _ a w hk hI hq;have s56:=hk.eq_ 5 56;refine za ?_;go_simp
   ·intro _ a w hk hI hq;have s57:=hk.eq_ 6 57;refine za ?_;go_simp
   ·intro _ a w hk hI hq;have s58:=hk.eq_ 7 58;refine za ?_;have hc:=HVC.out w (hq rfl);go_simp
   ·intro _ a w hk hI hq;have s59:=hk.eq_ 8 59;refine za ?_;go_simp
   ·intro _ a w hk hI hq;have s60:=hk.eq_ 9 60;refine za ?_;have hc:=HRC.out w (hq rfl);go_simp
   ·intro _ a w hk hI hq;have s61:=hk.eq_ 10 61;refine zai (v:=.slice (some ⟨w.heap.size,0,none⟩) 1 1) (w':=w.alloc (.cells #[.slice (some ⟨bk0,0,none⟩) 16 ck0] 109)) rfl ?_ (Ext.alloc _ _) ⟨w.heap.size,rfl,(by have h1:=Below.size (hq rfl);have h2:=HXS.out.2.2.1;omega),heap_alloc_new w _⟩;have e:=zlE w bk0 16 ck0;simp only[execOp,Act.eval,List.map_toArray,List.map_cons,List.map_nil,s61,Sem.run_bind,e,Sem.run_pure,Result.andThen]
   ·intro h;exact absurd rfl h
   ·intro a w1 hk hI;have s55:=hk.eq_ 4 55;obtain⟨b62,s62,h62,g62⟩:=hk.val 11 62;obtain⟨i0,hi0,hz0,hz1,hz2⟩:=info_parts Tryz.info24;have hov1:=HOV.out.kept hI;have hvl:=HXS.out.2.1;have hov2:w1.ownsRow B 109 1 (.slice (some ⟨g,0,none⟩) 2 cap) 2 vs:=by have:=hov1;unfold OwnV at this;rw[hvl] at this;exact this
    have hbs:B<=w1.heap.size:=by have h1:=HGL.out;have h2:=Below.size hI;rw[HXS.out.2.2.1] at h2;omega
    obtain⟨v9,w9,hrun,hown9,hg9,hnil,_⟩:=run_append_own_at (P:=Tryz.prog) w1 B 106 106 109 i0 (.slice none 0 0) 1 24 Tryz.underlying106 hi0 hz0 hz1 hz2 rfl (by omega) (.slice (some ⟨g,0,none⟩) 2 cap) 2 vs hov2 ⟨b62,0,none⟩ 1 1 [.slice (some ⟨bk0,0,none⟩) 16 ck0] rfl (fun j u hj=>by
     match j,hj with
     | 0,hj=>simp at hj;subst hj;rw[zd2,cell_of_row _ _ _ _ _ _ g62];rfl
     | j+1,hj=>simp at hj) (by intro y hy;simp at hy;subst hy;rfl) (by unfold maxLen;omega) (by omega) hbs
    unfold Oper.wp execOp;simp only[resolve,invoke,builtin,Sem.run_bind,Sem.run_pure,Result.andThen_ok,List.map_toArray,List.map_cons,List.map_nil,Act.eval,s55,s62,hrun];have hov9:OwnV 109 w9 B v9 xs:=by unfold OwnV;rw[<-HXS.out.1,List.length_append,hvl];exact hown9
    have hpc1:w1.heap[p]? = _:=(Below.block hI p (by rw[HXS.out.2.2.1];exact HGL.out.2.2)).trans HPC.out;have hpc9:=(hg9.block p (by have:=Below.size hI;have:=HGL.out;rw[HXS.out.2.2.1] at *;omega) (hov1.block_ne hpc1 (by decide))).trans hpc1;refine⟨v9,rfl,⟨hpc9,fun j hj=>?_,?_⟩,?_,fun i v hi hv=>zmO hg9 HGL.out.2.1 i v hi hv⟩
    ·rw[HRES.out.2 j hj,<-HXS.out.1];by_cases hjk:j<2
     ·rw[if_pos hjk];obtain⟨bk2,ck2,h1,h2,h3⟩:=HROWS.out j (by omega);exact⟨bk2,ck2,by rw[List.getElem?_append_left (by omega)];exact h1,h2,(h3.later hI).typed hov1 (by decide) (by decide) hg9⟩
     ·rw[if_neg hjk];obtain rfl:j=2:=by omega
      exact⟨bk0,ck0,by rw[List.getElem?_append_right (by omega),hvl];rfl,HKO0.out.1,(HKO0.out.2.later hI).typed hov1 (by decide) (by decide) hg9⟩
    ·have hb3:=HB.out.trans (Below.mono hI HB.out.size);have hpw1:=hpw.out;exact hb3.grown hg9 hb3.size (fun q hq=>by have:=(World.ownsRow.lt hov2 q hq).1;have:=HXS.out.2.2.2;omega)
    ·have hl3:xs.length=2+1:=by rw[<-HXS.out.1];simp[hvl]
     obtain⟨b9,c9,rfl,hc9⟩:=hov9.headn hl3;exact⟨b9,c9,rfl,hc9,hov9⟩
   ·intro a w1 hf hI2;have s51:=hf.eq_ 0 51;have s52:=hf.eq_ 1 52;have s53:=hf.eq_ 2 53;have s54:=hf.eq_ 3 54;have s55:=hf.eq_ 4 55;have s56:=hf.eq_ 5 56;have s57:=hf.eq_ 6 57;have s58:=hf.eq_ 7 58;have s59:=hf.eq_ 8 59;have s60:=hf.eq_ 9 60;have s61:=hf.eq_ 10 61;obtain⟨b62,s62,h62,g62⟩:=hf.val 11 62;obtain⟨b63,c63,s63,h63,g63⟩:=hf.val 12 63;have hx:=hf.ext;have e:=hf.frame;clear hf;simp only[List.take_succ_cons,List.take_zero,zaT,Act.put,List.setIfInBounds_toArray,List.set_cons_zero,List.set_cons_succ,s51,s52,s53,s54,s55,s56,s57,s58,s59,s60,s61,s62,s63] at e;clear s51 s52 s53 s54 s55 s56 s57 s58 s59 s60 s61 s62 s63;subst e;simp only[List.drop_succ_cons,List.drop_zero];have hpc9:=hI2.pc;have hcp9:w1.cell? ⟨p,0,none⟩=some (.slice (some ⟨g,0,none⟩) 2 cap):=(by rw[cell_of_heap hpc9];rfl);have hfr9:=zcf hpc9;have hl3:xs.length=3:=by rw[<-HXS.out.1];simp[HXS.out.2.1]
    have hdes:IsDes (w1.setCell ⟨p,0,none⟩ (.slice (some ⟨b63,0,none⟩) 3 c63)) p (zbg key.length) (kfOf key)/\Ext w (w1.setCell ⟨p,0,none⟩ (.slice (some ⟨b63,0,none⟩) 3 c63)):=by have h1:=zbu (x:=.slice (some ⟨b63,0,none⟩) 3 c63) hpc9;have h2:=g63.typedG (zaz w1 p 0 (.slice (some ⟨b63,0,none⟩) 3 c63)) hpc9 (by decide);refine⟨?_,hI2.b.setCell (by have:=hpw.out;simp;omega) _⟩;rw[HRES.out.1];refine⟨b63,c63,by rw[cell_of_heap h1];rfl,h63,fun j hj=>?_⟩;obtain⟨bk,ck,h3,h4,h5⟩:=hI2.rows j hj;refine⟨bk,ck,?_,h4,(h5.typedG (zaz _ _ _ _) hpc9 (by decide) (by decide)).kr⟩;rw[OwnV.celln h2 hl3 j (by omega)];exact h3
    have HD:=hid hdes;clear hx hI2 hdes hpc9 hl3 g63 h63 g62 h62;go_wp2_with fail
    go_ret2;exact⟨p,rfl,HD.out.1,HD.out.2⟩
theorem zbt(A:Option Addr)(n c:Nat)(key:List UInt8)(w:World)(hn:n=8\/n=16\/n=24)(h:Rd w w.heap.size A n key)(hc:n<=c):
  Calls Tryz.prog 38 #[.slice A n c] w (zb0 w key):=by
 rcases hn with rfl|rfl|rfl
 ·exact znE A c key w h hc
 ·exact zlK A c key w h hc
 ·exact zlm A c key w h hc
end Go.Proofs.YtokbbmngfogbbaaGreatDoor.D
